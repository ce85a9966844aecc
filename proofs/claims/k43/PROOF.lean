import PyProof.Rows.All
import Wide.All
import OpenK.AllK
import Wide.FinOn
import Lean
import PyProof.EqAt
import PyProof.EqKinds
import PyProof.TupleCall
import KE.KEqDict
import PyProof.ZipIter
import PyProof.ListMulAny
import KE.KTryMore
import PyProof.NsDelKeeps
import KE.KUnpack
import KE.KRevIter
import PyProof.DictUpdate
import PyProof.ListRange
import PyProof.Rows.CallKwBuiltin
import PyProof.WalkInts
import PySem.Challenge.RW_nestturn_k43_rounds_looked_at
def ZA:=@PySem.wpAny_bind
def ZB:=@PySem.wpAny_pure
def ZC:=@PySem.Heap.get?_push_of_some
def ZD:=@PySem.Heap.get?_push_size
def ZE:=@PySem.Heap.lt_size
def ZF:=@of_decide_eq_true
def ZG:=@decide_eq_true
def ZH:=@decide_eq_false
def ZI:=@eq_of_beq
def ZJ:=@List.mem_cons
def ZK:=@List.mem_append
def ZL:=@List.mem_singleton
def ZM:=@Nat.lt_of_lt_of_le
def ZN:=@Nat.ne_of_lt
def ZO:=@List.mem_map
def ZP:=@PySem.wpAny_call_entry
def ZQ:=@PySem.wpAny_holding
def ZR:=@List.getElem?_of_mem
theorem fE{α:Prop}(h:false=true):α:=(Bool.false_ne_true h).elim
noncomputable section
set_option Elab.async false
set_option linter.all false
def y3:=@List.getElem?_eq_some_iff
def y4:=@List.getElem?_eq_getElem
def y6:=@List.mem_of_getElem?
def y7:=@Bool.false_ne_true
def y8:=@List.length_map
def y9:=@List.getElem?_map
def x4:=@Nat.le_refl
def x5:=@List.mem_cons_of_mem
def x6:=@List.size_toArray
def x8:=@List.mem_cons_self
def x9:=@List.length_append
def w9:=@List.getElem?_append_left
set_option bootstrap.genMatcherCode false
set_option maxRecDepth 100000
local macro_rules | `(tactic| omega) => `(tactic| first | with_reducible assumption | with_reducible exact Int.natCast_nonneg _ | with_reducible exact Nat.le_trans (by assumption) (by decide) | with_reducible exact Int.le_trans (by decide) (Int.natCast_nonneg _) | with_reducible exact Int.lt_of_le_of_lt (Int.ofNat_le.mpr (by assumption)) (by decide) | lia)
namespace L2
open PySem PySem.Spec PyProof.Rows
noncomputable abbrev Key:=Sum Int Str
noncomputable def Nz:Key->Value->Bool
 | .inl k,v=>Value.isInt k v
 | .inr x,v=>Value.isStrOf x v
noncomputable def Vv(w:World):Key->Int
 | .inl k=>hashInt k
 | .inr x=>hashStr w x
theorem bD:∀{k:Key}{v:Value},Nz k v=true->(∃i t,k=Sum.inl i/\v=Value.int i t)∨(∃x t,k=Sum.inr x/\v=Value.str x t)
 | .inl i,v,h=>by
   obtain⟨t,e⟩:=Value.isInt_shape (k:=i) (v:=v) h
   exact .inl ⟨i,t,rfl,e⟩
 | .inr x,v,h=>by
   obtain⟨t,e⟩:=Value.isStrOf_shape (x:=x) (v:=v) h
   exact .inr ⟨x,t,rfl,e⟩
theorem RG(a b:Int):decide ((Sum.inl a:Key)=Sum.inl b)=(a==b):=by
 by_cases e:a=b
 . subst e;simp
 . have h:¬(Sum.inl a:Key)=Sum.inl b:=λ q=>e (Sum.inl.inj q)
   rw[ZH h]
   exact(beq_eq_false_iff_ne.mpr e).symm
theorem Q7(a b:Str):decide ((Sum.inr a:Key)=Sum.inr b)=decide (a=b):=by
 by_cases e:a=b
 . subst e;simp
 . have h:¬(Sum.inr a:Key)=Sum.inr b:=λ q=>e (Sum.inr.inj q)
   rw[ZH h,ZH e]
theorem RL(a:Int)(b:Str):decide ((Sum.inl a:Key)=Sum.inr b)=false:=ZH (λ q=>nomatch q)
theorem RK(a:Str)(b:Int):decide ((Sum.inr a:Key)=Sum.inl b)=false:=ZH (λ q=>nomatch q)
noncomputable def dZ(prog:Program)(w:World):PySem.KeyKind prog w Key where
 is:=Nz
 hash:=Vv w
 inj:=λ v a b ha hb=>by
  rcases bD ha with⟨i,t,rfl,rfl⟩ | ⟨x,t,rfl,rfl⟩
  . rcases bD hb with⟨j,u,rfl,e⟩ | ⟨y,u,rfl,e⟩
    . injection e with e1 _;rw[e1]
    . exact nomatch e
  . rcases bD hb with⟨j,u,rfl,e⟩ | ⟨y,u,rfl,e⟩
    . exact nomatch e
    . injection e with e1 _;rw[e1]
 byValue:=λ k v h=>by
  rcases bD h with⟨i,t,rfl,rfl⟩ | ⟨x,t,rfl,rfl⟩<;>rfl
 pyHash:=λ hv h=>by
  rcases bD hv with⟨i,t,rfl,rfl⟩ | ⟨x,t,rfl,rfl⟩
  . exact wpAny_pyHash_int h
  . exact wpAny_pyHash_str h
 eqBool:=λ hu hv h=>by
  rcases bD hu with⟨i,t,rfl,rfl⟩ | ⟨x,t,rfl,rfl⟩
  . rcases bD hv with⟨j,u,rfl,rfl⟩ | ⟨y,u,rfl,rfl⟩
    . rw[RG]at h;exact wpAny_eqBool_int h
    . rw[RL]at h;exact SeqAt.EqAt.int_str i t y u _ _ _ _ h
  . rcases bD hv with⟨j,u,rfl,rfl⟩ | ⟨y,u,rfl,rfl⟩
    . rw[RK]at h;exact SeqAt.EqAt.str_int x t j u _ _ _ _ h
    . rw[Q7]at h;exact wpAny_eqBool_str h
 «strs»:=λ k x t v h=>by
  rcases bD h with⟨i,u,rfl,e⟩ | ⟨y,u,rfl,e⟩
  . exact nomatch e
  . injection e with e1 _
    subst e1
    cases v<;>rfl
end L2
namespace L2
open PySem PySem.Spec PyProof.Rows
variable {b : Addr}
inductive V where
 | non | bl(b:Bool) | int(i:Int) | str(x:Str) | byt(b:Array UInt8) | flt(b:UInt64) | ref(a:Addr) | ty(n:String)
 deriving DecidableEq
noncomputable def RelV:V->Value->Prop
 | .non,u=>u=Value.none
 | .bl b,u=>u=Value.bool b
 | .int i,u=>∃t,u=Value.int i t
 | .str x,u=>∃t,u=Value.str x t
 | .byt b,u=>∃t,u=Value.bytes b t
 | .flt b,u=>∃t,u=Value.float b t
 | .ref a,u=>u=Value.ref a
 | .ty n,u=>u=Value.type n
noncomputable abbrev Vals:List V->List Value->Prop:=Paired RelV
theorem Vals.length{xs:List V}{us:List Value}(r:Vals xs us):xs.length=us.length:=Paired.length r
theorem Vals.get:∀{xs:List V}{us:List Value}{i:Nat}{x:V},Vals xs us->xs[i]? =some x->∃u,us[i]? =some u/\RelV x u
 | _,_,_,_,.nil,e=>by simp at e
 | _,_,0,_,.cons r _,e=>by simp at e;subst e;exact⟨_,rfl,r⟩
 | _,_,i+1,x,.cons _ t,e=>by
   obtain⟨u,h1,h2⟩:=Vals.get (i:=i) (x:=x) t (by simpa using e)
   exact⟨u,by simpa using h1,h2⟩
theorem Vals.set{x:V}{u:Value}(r:RelV x u):∀{xs:List V}{us:List Value}(i:Nat),Vals xs us->Vals (xs.set i x) (us.set i u)
 | _,_,_,.nil=>.nil
 | _,_,0,.cons _ t=>.cons r t
 | _,_,i+1,.cons q t=>.cons q (Vals.set r i t)
theorem Vals.append:∀{xs ys:List V}{us ws:List Value},Vals xs us->Vals ys ws->Vals (xs++ys) (us++ws)
 | _,_,_,_,.nil,s=>s
 | _,_,_,_,.cons r t,s=>.cons r (Vals.append t s)
theorem Vals.take:∀{xs:List V}{us:List Value}(n:Nat),Vals xs us->Vals (xs.take n) (us.take n)
 | _,_,0,_=>.nil
 | _,_,_+1,.nil=>.nil
 | _,_,n+1,.cons r t=>.cons r (Vals.take n t)
theorem Vals.drop:∀{xs:List V}{us:List Value}(n:Nat),Vals xs us->Vals (xs.drop n) (us.drop n)
 | _,_,0,r=>r
 | _,_,_+1,.nil=>.nil
 | _,_,n+1,.cons _ t=>Vals.drop n t
noncomputable def RP:Option V->Option Value->Prop
 | some v,some u=>RelV v u
 | none,none=>True
 | _,_=>False
noncomputable def KV{κ:Type}:List (κ×V)->List (κ×Value)->Prop:=Paired λ(p:κ×V) (q:κ×Value)=>p.1=q.1/\RelV p.2 q.2
noncomputable def kV:Key->V
 | .inl i=>.int i
 | .inr x=>.str x
inductive HO where
 /-- a list -/
 | lst(xs:List V)
 /-- a tuple (never changes) -/
 | tup(xs:List V)
 /-- a dict whose keys are ints and texts; one whose keys are tuples of ints and texts (the empty one is both) -/
 | dK(kvs:List (Key×V)) | dT(kvs:List (List Key×V))
 /-- a set of ints: its members, its size -/
 | set(S:Int->Bool)(n:Nat)
 /-- an instance of the class at C, its dict at dx, its attributes -/
 | ins(C dx:Addr)(fs:List (Str×V))
 /-- the dict of the instance at x -/
 | own(x:Addr)
 /-- the dict of an exception -/
 | xd(fs:List (Str×V))
 /-- a bound method, f of x -/
 | met(f x:Addr)
 /-- a range object lo, lo + 1, .. below hi -/
 | rng(lo hi:Int)
 /-- a thing that is known to the object (the script; a dict while a loop walks it): read, never written while it is so -/
 | frz(o:Obj)(u:HO)
 /-- a code object's table -/
 | tbl(ps:Array Value)
 /-- any other thing, by what is true of its one object (a def of one's own: SetO a S n := HO.ext λ h => ..) -/
 | ext(φ:Heap->Prop)
noncomputable abbrev Hp:=Addr->Option HO
noncomputable def upd(H:Hp)(a:Addr)(o:HO):Hp:=λ b=>if b=a then some o else H b
theorem aU{H:Hp}{a:Addr}{o:HO}:upd H a o a=some o:=by unfold upd;rw[if_pos rfl]
theorem au{H:Hp}{a:Addr}{o:HO}(h:b≠a):upd H a o b=H b:=by unfold upd;rw[if_neg h]
theorem aC{H:Hp}{a:Addr}{o:HO}(h:H a=some o)(h':H b=none):a≠b:=by
 intro e;subst e;rw[h]at h';cases h'
section
variable (P : Program) (w : World)
noncomputable def bh(H:Hp)(h:Heap)(a:Addr):HO->Prop
 | .lst xs=>xs.length≤sizeLine/\∃(its:List Value) (n:Nat),Vals xs its/\h.get? a=some {cls:=.type "list",data:=.seq its.toArray n}
 | .tup xs=>xs.length≤sizeLine/\∃its:List Value,Vals xs its/\IsTup h a its.toArray
 | .dK kvs=>kvs.length≤sizeLine/\(a==sysModules)=false/\∃vs,KV kvs vs/\h.DictOf (dZ P w) a vs
 | .dT kvs=>kvs.length≤sizeLine/\(a==sysModules)=false/\∃xs:List (List Key×Addr×Value),
  Paired (λ(p:List Key×V) (q:List Key×Addr×Value)=>p.1=q.1/\H q.2.1=some (.tup (p.1.map kV))/\RelV p.2 q.2.2) kvs xs/\
  ∃o es ep,h.get? a=some o/\o.ExactDict/\o.data=.dict es ep/\es.toList=xs.map (entryOfKey (tupleKind (dZ P w)))/\(xs.map (·.1)).Nodup
 | .set S n=>h.SetOf (intKind P w) a S n
 | .ins C dx fs=>H dx=some (.own a)/\fs.length≤1000/\dx≠a/\h.get? a=some (PySem.W.instObj C dx)/\
  ∃mA,h.Ns1 dx mA/\(∀f,RP (fs.lookup f) (mA f))/\PySem.Within mA (fs.map (·.1))
 | .own _=>∃o,h.get? a=some o
 | .xd fs=>∃mA,h.Ns1 a mA/\∀f,RP (fs.lookup f) (mA f)
 | .rng lo hi=>∃t u v,h.get? a=some {cls:=.type "range",data:=.fields #[.int lo t,.int hi u,.int 1 v]}
 | .frz o u=>h.get? a=some o/\bh H h a u
 | .tbl ps=>h.get? a=some {cls:=.none,data:=.fields ps}
 | .met f x=>h.get? a=some (PySem.W.methodObj (.ref f) (.ref x))
 | .ext φ=>φ h/\(∃o,h.get? a=some o)/\∀h1 h2:Heap,φ h1->(∀o,h1.get? a=some o->h2.get? a=some o)->φ h2
noncomputable def HOk(H:Hp)(h:Heap):Prop:=∀a o,H a=some o->bh P w H h a o
end
section
variable {P : Program} {w : World} {H H' : Hp} {h h' : Heap} {a : Addr} {o : HO}
theorem bh.lt(x:bh P w H h a o):a<h.objs.size:=by
 cases o with
 | lst xs=>obtain⟨_,_,_,_,e⟩:=x;exact ZE e
 | tup xs=>obtain⟨_,_,_,p⟩:=x;exact p.lt
 | dK kvs=>obtain⟨_,_,_,_,o,_,_,e,_⟩:=x;exact ZE e
 | dT kvs=>obtain⟨_,_,_,_,o,_,_,e,_⟩:=x;exact ZE e
 | set S n=>obtain⟨o,_,_,_,e,_⟩:=x;exact ZE e
 | ins C dx fs=>obtain⟨_,_,_,e,_⟩:=x;exact ZE e
 | own y=>obtain⟨_,e⟩:=x;exact ZE e
 | xd fs=>obtain⟨_,⟨_,_,_,e,_⟩,_⟩:=x;exact ZE e
 | rng lo hi=>obtain⟨_,_,_,e⟩:=x;exact ZE e
 | frz ob u=>obtain⟨e,_⟩:=x;exact ZE e
 | tbl ps=>exact ZE (show h.get? a=some _ from x)
 | met f y=>exact ZE (show h.get? a=some _ from x)
 | ext φ=>obtain⟨_,⟨_,e⟩,_⟩:=x;exact ZE e
theorem Paired.mapP{α β:Type}{F G:α->β->Prop}:∀{l₁:List α}{l₂:List β},Paired F l₁ l₂->(∀a b,F a b->G a b)->Paired G l₁ l₂
 | _,_,.nil,_=>.nil
 | _,_,.cons r t,f=>.cons (f _ _ r) (Paired.mapP t f)
theorem bh.stay(x:bh P w H h a o)(k:∀b u,(b=a∨H b=some (.own a))->h.get? b=some u->h'.get? b=some u)
 (ho:∀b,H b=some (.own a)->H' b=some (.own a))(ht:∀b xs,H b=some (.tup xs)->H' b=some (.tup xs)):bh P w H' h' a o:=by
 induction o with
 | lst xs=>obtain⟨z,its,n,r,e⟩:=x;exact⟨z,its,n,r,k _ _ (.inl rfl) e⟩
 | tup xs=>obtain⟨z,its,r,ob,e,c⟩:=x;exact⟨z,its,r,ob,k _ _ (.inl rfl) e,c⟩
 | dK kvs=>obtain⟨z,y,vs,r,ob,es,ep,e,c⟩:=x;exact⟨z,y,vs,r,ob,es,ep,k _ _ (.inl rfl) e,c⟩
 | dT kvs=>
   obtain⟨z,y,xs,r,ob,es,ep,e,c⟩:=x
   exact⟨z,y,xs,Paired.mapP r λ p q z=>⟨z.1,ht _ _ z.2.1,z.2.2⟩,ob,es,ep,k _ _ (.inl rfl) e,c⟩
 | set S n=>obtain⟨ob,es,ep,t,e,c⟩:=x;exact⟨ob,es,ep,t,k _ _ (.inl rfl) e,c⟩
 | ins C dx fs=>
   obtain⟨d,z,ne,e,mA,⟨od,es,ep,e2,c⟩,r⟩:=x
   exact⟨ho _ d,z,ne,k _ _ (.inl rfl) e,mA,⟨od,es,ep,k _ _ (.inr d) e2,c⟩,r⟩
 | own y=>obtain⟨ob,e⟩:=x;exact⟨ob,k _ _ (.inl rfl) e⟩
 | xd fs=>obtain⟨mA,⟨od,es,ep,e,c⟩,r⟩:=x;exact⟨mA,⟨od,es,ep,k _ _ (.inl rfl) e,c⟩,r⟩
 | rng lo hi=>obtain⟨t,u,v,e⟩:=x;exact⟨t,u,v,k _ _ (.inl rfl) e⟩
 | frz ob u ih=>obtain⟨e,q⟩:=x;exact⟨k _ _ (.inl rfl) e,ih q⟩
 | tbl ps=>
   have e:h.get? a=some {cls:=.none,data:=.fields ps}:=x
   show h'.get? a=some {cls:=.none,data:=.fields ps}
   exact k a _ (.inl rfl) e
 | met f y=>
   have e:h.get? a=some (PySem.W.methodObj (.ref f) (.ref y)):=x
   show h'.get? a=some (PySem.W.methodObj (.ref f) (.ref y))
   exact k a _ (.inl rfl) e
 | ext φ=>obtain⟨p,⟨o,e⟩,st⟩:=x;exact⟨st _ _ p λ o q=>k _ _ (.inl rfl) q,⟨o,k _ _ (.inl rfl) e⟩,st⟩
theorem HOk.lt(x:HOk P w H h)(e:H a=some o):a<h.objs.size:=(x a o e).lt
theorem HOk.fresh(x:HOk P w H h)(e:h.objs.size≤a):H a=none:=by
 cases q:H a with
 | none=>rfl
 | some u=>exact absurd (ZM (x.lt q) e) (Nat.lt_irrefl _)
theorem HOk.kept(x:HOk P w H h)(k:∀b u,h.get? b=some u->h'.get? b=some u):HOk P w H h':=λ a o e=>
 (x a o e).stay (λ b u _ q=>k b u q) (λ _ q=>q) λ _ _ q=>q
theorem HOk.laid(x:HOk P w H h)(k:∀b u,h.get? b=some u->h'.get? b=some u)(hp:h.objs.size≤a)(new:bh P w (upd H a o) h' a o):HOk P w (upd H a o) h':=λ b u e=>by
 have hn:=x.fresh hp
 by_cases hb:b=a
 . subst hb;rw[aU]at e;cases e;exact new
 . rw[au hb]at e
   exact(x b u e).stay (λ c v _ q=>k c v q) (λ c q=>by rw[au (aC q hn)];exact q) λ c xs q=>by rw[au (aC q hn)];exact q
end
noncomputable def Rd(H:Hp)(a:Addr)(u:HO):Prop:=H a=some u∨∃o,H a=some (.frz o u)
theorem Rd.ok{P:Program}{w:World}{H:Hp}{h:Heap}{a:Addr}{u:HO}(r:Rd H a u)(x:HOk P w H h):bh P w H h a u:=by
 rcases r with r | ⟨o,r⟩
 . exact x a u r
 . obtain⟨_,q⟩:=x a _ r
   exact q
noncomputable def Mut:Option HO->Prop
 | some (.lst _)=>True
 | some (.dK _)=>True
 | some (.dT _)=>True
 | some (.set _ _)=>True
 | some (.ins _ _ _)=>True
 | some (.ext _)=>True
 | _=>False
section
variable {P : Program} {w : World} {H : Hp} {h h' : Heap} {x e : Addr} {o' : HO}
theorem HOk.write(ok:HOk P w H h)(mu:Mut (H x))(he:e=x∨H e=some (.own x))(k:∀b u,b≠e->h.get? b=some u->h'.get? b=some u)(heo:∃u,h'.get? e=some u)
 (new:bh P w (upd H x o') h' x o'):HOk P w (upd H x o') h':=λ b u q=>by
 have nown:∀c y,H c=some (.own y)->c≠x:=λ c y r z=>by subst z;rw[r]at mu;exact mu
 have ntup:∀c xs,H c=some (.tup xs)->c≠x:=λ c xs r z=>by subst z;rw[r]at mu;exact mu
 by_cases hb:b=x
 . subst hb;rw[aU]at q;cases q;exact new
 . rw [au hb]at q
   by_cases hbe:b=e
   . have q':H b=some (.own x):=by
      rcases he with z | z
      . exact absurd (hbe.trans z) hb
      . rw[hbe];exact z
     rw[q]at q';cases q'
     obtain⟨v,hv⟩:=heo
     exact⟨v,by rw[hbe];exact hv⟩
   . refine(ok b u q).stay (λ c v hc r=>k c v ?_ r) (λ c r=>by rw[au (nown c b r)];exact r) λ c xs r=>by rw[au (ntup c xs r)];exact r
     rcases hc with rfl | hc
     . exact hbe
     . rintro rfl
       rcases he with z | z
       . exact nown c b hc z
       . rw[hc]at z;cases z;exact hb rfl
end
structure Un(fs ex:List Addr)(H H':Hp)(h h':Heap):Prop where
 keep:∀b o,h.get? b=some o->H b=none->b∉fs->b∉ex->h'.get? b=some o
 slot:∀b o,h.get? b=some o->H b=none->b∈fs->b∉ex->∃sl,h'.get? b=some {o with slots:=sl}
 free:∀b o,h.get? b=some o->H b=none->b∉ex->H' b=none
 there:∀b o,h.get? b=some o->b∉ex->∃o',h'.get? b=some o'
 tups:∀b xs,H b=some (.tup xs)->H' b=some (.tup xs)
 frzs:∀b o u,H b=some (.frz o u)->H' b=some (.frz o u)
 tbls:∀b ps,H b=some (.tbl ps)->∃more,H' b=some (.tbl (ps++more))
section
variable {fs fs' ex ex' : List Addr} {H H1 H2 : Hp} {h h1 h2 h' : Heap} {a x e : Addr} {o : HO}
theorem Un.any(u:Un fs ex H H1 h h1){b:Addr}{ob:Obj}(q:h.get? b=some ob)(n:H b=none)(hx:b∉ex):∃sl,h1.get? b=some {ob with slots:=sl}:=by
 by_cases hb:b∈fs
 . exact u.slot b ob q n hb hx
 . exact⟨ob.slots,u.keep b ob q n hb hx⟩
theorem Un.kept(k:∀b u,h.get? b=some u->h'.get? b=some u):Un fs ex H H h h':=
 ⟨λ b ob q _ _ _=>k b ob q,λ b ob q _ _ _=>⟨ob.slots,k b ob q⟩,λ _ _ _ n _=>n,λ b ob q _=>⟨ob,k b ob q⟩,λ _ _ q=>q,λ _ _ _ q=>q,λ _ ps q=>⟨#[],by rw[q];simp⟩⟩
theorem Un.refl:Un fs ex H H h h:=Un.kept λ _ _ q=>q
theorem Un.laid(k:∀b u,h.get? b=some u->h'.get? b=some u)(hp:h.objs.size≤a)(hn:H a=none):Un fs ex H (upd H a o) h h' where
 keep:=λ b u q _ _ _=>k b u q
 slot:=λ b u q _ _ _=>⟨u.slots,k b u q⟩
 free:=λ b u q n _=>by rw[au (ZN (ZM (ZE q) hp))];exact n
 there:=λ b u q _=>⟨u,k b u q⟩
 tups:=λ b xs q=>by rw[au (aC q hn)];exact q
 frzs:=λ b u xs q=>by rw[au (aC q hn)];exact q
 tbls:=λ b ps q=>⟨#[],by rw[au (aC q hn),q];simp⟩
theorem Un.write(mu:Mut (H x))(he:e=x∨H e=some (.own x))(k:∀b u,b≠e->h.get? b=some u->h'.get? b=some u)(heo:∃u,h'.get? e=some u):Un fs ex H (upd H x o) h h':=by
 have hx:∀b,H b=none->b≠x:=λ b n z=>by subst z;rw[n]at mu;exact mu
 have hb:∀b,H b=none->b≠e:=λ b n z=>by
  subst z
  rcases he with r | r
  . exact hx b n r
  . rw[n]at r;cases r
 have hm:∀b u,H b=some u->¬Mut (some u)->b≠x:=λ b u q nm z=>by subst z;rw[q]at mu;exact nm mu
 refine⟨λ b u q n _ _=>k b u (hb b n) q,λ b u q n _ _=>⟨u.slots,k b u (hb b n) q⟩,λ b u q n _=>by rw[au (hx b n)];exact n,λ b u q _=>?_,
  λ b xs q=>by rw[au (hm b _ q λ z=>z)];exact q,λ b u xs q=>by rw[au (hm b _ q λ z=>z)];exact q,λ b ps q=>⟨#[],by rw[au (hm b _ q λ z=>z),q];simp⟩⟩
 by_cases hbe:b=e
 . subst hbe;exact heo
 . exact⟨u,k b u hbe q⟩
end
noncomputable def trk(h:Heap)(H:Hp):List Addr:=(List.range h.objs.size).filter λ a=>(H a).isSome
noncomputable def j5(h:Heap)(H:Hp):Heap:=PySem.W.hideAll h (trk h H)
theorem Jh(h:Heap)(H:Hp):(j5 h H).objs.size=h.objs.size:=PySem.W.hideAll_size _ _
theorem Lq{h:Heap}{H:Hp}{o:Obj}(e:h.get? b=some o)(n:H b=none):(j5 h H).get? b=some o:=
 PySem.W.hideAll_get _ e λ hm=>by
  have q:(H b).isSome=true:=(List.mem_filter.mp hm).2
  rw[n]at q;simp at q
theorem Pz{h:Heap}{H:Hp}{o:Obj}(e:(j5 h H).get? b=some o):h.get? b=some o/\H b=none:=by
 have e':h.get? b=some o:=PySem.W.of_hideAll (trk h H) e
 refine⟨e',?_⟩
 cases q:H b with
 | none=>rfl
 | some x=>
   have hm:b∈trk h H:=List.mem_filter.mpr ⟨List.mem_range.mpr (ZE e'),by simp[q]⟩
   have z:(j5 h H).get? b=none:=PySem.W.hideAll_none (trk h H) hm
   rw[z]at e;cases e
end L2
namespace L2
open PySem PySem.Spec PyProof.Rows
variable {t' : Nat}
structure Mod(K:PySem.W.Frag)(mg:Str->Option Value)(base:Heap):Prop where
 kin:K.In base
 glob:base.Ns mainGlobals mg
 blt:∃mb,base.Ns builtinsNs mb/\∀x:Str,x≠"__name__"->mb x=bootBuiltins x
 nolimit:base.NoLimit
set_option genInjectivity false in
structure Cx where
 prog:Program
 w:World
 K:PySem.W.Frag
 mg:Str->Option Value
 base:Heap
 A:Around
 N:List Str
 s₀:Shared
 H₀:Hp
 env:Env
 outer:List Env
 stack:List Env
 ex:List Addr
 fn:Str->Bool
 calm:Bool
 pn:List (Addr×Obj)
 xe:Value->Shared->Prop
noncomputable def frs(l:List Env):List Addr:=l.filterMap (·.frame)
noncomputable abbrev Cx.fs(X:Cx):List Addr:=frs X.outer
noncomputable def Vis(sc:Scope)(x:Str):Prop:=sc.names.lookup x=some .local∨sc.names.lookup x=some .cell∨sc.names.lookup x=some .free
noncomputable def Loc(sc:Scope)(x:Str):Prop:=sc.names.lookup x=some .local∨sc.names.lookup x=some .cell
noncomputable def Look(env:Env)(h:Heap)(m:Str->Option Value)(x:Str)(u:Value):Prop:=
 (env.kindOf x=some .local/\m x=some u)∨((env.kindOf x=some .cell∨env.kindOf x=some .free)/\∃c,env.cells.lookup x=some c/\h.IsCell c (some u))
structure Cx.Ok(X:Cx):Prop where
 mod:Mod X.K X.mg X.base
 kind:X.env.scope.kind=.function
 glob:X.env.globals=mainGlobals
 blt:X.env.builtins=builtinsNs
 above:X.s₀.heap.objs.size≤X.env.locals
 inj:∀x y c,X.env.cells.lookup x=some c->X.env.cells.lookup y=some c->x=y
 has:∀x,(X.env.kindOf x=some .cell∨X.env.kindOf x=some .free)->∃c,X.env.cells.lookup x=some c
 cab:∀x c,X.fn x=true->X.env.cells.lookup x=some c->X.s₀.heap.objs.size≤c
 hd:X.calm=true->X.A.handled=none
 frames:X.A.frames=some X.stack
 stk:X.stack=X.outer∨(X.stack=X.env::X.outer/\X.env.frame=some X.env.locals)
 exf:∀b∈X.ex,b≠X.env.locals/\∀x c,X.env.cells.lookup x=some c->c≠b
 bs:∀b o,X.base.get? b=some o->X.s₀.heap.get? b=some o/\X.H₀ b=none
 bsz:X.base.objs.size≤X.s₀.heap.objs.size
 noex:∀b o,X.base.get? b=some o->b∉X.ex
 exfs:∀b∈X.ex,b∉X.fs
 funs:X.s₀.heap.FunFrames X.base X.outer
 frf:∀b∈X.fs,X.H₀ b=none
structure Inv(X:Cx)(pins:List (Addr×Obj))(σ:List (Option V))(H:Hp)(s:Shared):Prop where
 ok:X.Ok
 os:s.os=X.s₀.os
 bare:AllBare s.gens
 base:Un X.fs X.ex X.H₀ H X.s₀.heap s.heap
 loc:∃m,s.heap.Ns X.env.locals m/\∀(i:Nat)(x:Str)(v:V),X.N[i]? =some x->σ[i]? =some (some v)->Vis X.env.scope x->∃u,RelV v u/\Look X.env s.heap m x u
 cell:∀x c,X.env.cells.lookup x=some c->∃v,s.heap.IsCell c v
 free:H X.env.locals=none
 freeC:∀x c,X.env.cells.lookup x=some c->H c=none
 pin:∀p∈X.pn++pins,s.heap.get? p.1=some p.2/\H p.1=none/\p.1≠X.env.locals/\p.1∉X.fs/\∀v,p.2.data≠.cell v
 hok:HOk X.prog X.w H s.heap
 len:σ.length=X.N.length
section
variable {X : Cx} {pins : List (Addr × Obj)} {σ : List (Option V)} {H H' : Hp} {s : Shared} {h' : Heap}
theorem Cx.Ok.nofr(ok:X.Ok){b:Addr}{o:Obj}(e:X.base.get? b=some o):b∉X.fs:=λ hb=>by
 have:=(ok.funs.mem hb).1
 rw[e]at this;cases this
theorem Inv.bs(I:Inv X pins σ H s):∀b o,X.base.get? b=some o->s.heap.get? b=some o/\H b=none:=λ b o e=>
 ⟨I.base.keep b o (I.ok.bs b o e).1 (I.ok.bs b o e).2 (I.ok.nofr e) (I.ok.noex b o e),I.base.free b o (I.ok.bs b o e).1 (I.ok.bs b o e).2 (I.ok.noex b o e)⟩
theorem Inv.bk(I:Inv X pins σ H s):∀b o,X.base.get? b=some o->s.heap.get? b=some o:=λ b o e=>(I.bs b o e).1
theorem Inv.mod(I:Inv X pins σ H s):Mod X.K X.mg X.base:=I.ok.mod
theorem Inv.kIn(I:Inv X pins σ H s):X.K.In s.heap:=I.ok.mod.kin.keeps I.bk
theorem Inv.lt(I:Inv X pins σ H s):X.env.locals<s.heap.objs.size:=let ⟨_,hn,_⟩:=I.loc;hn.lt
theorem Inv.sz(I:Inv X pins σ H s):X.s₀.heap.objs.size≤s.heap.objs.size:=Nat.le_trans I.ok.above (Nat.le_of_lt I.lt)
theorem Inv.nofs(I:Inv X pins σ H s){a:Addr}(h:s.heap.objs.size≤a):a∉X.fs:=λ hb=>by
 obtain⟨_,o,ho,_⟩:=I.ok.funs.mem hb
 exact absurd (ZM (ZE ho) (Nat.le_trans I.sz h)) (Nat.lt_irrefl _)
theorem Inv.cne(I:Inv X pins σ H s):∀x c,X.env.cells.lookup x=some c->c≠X.env.locals:=λ x c e z=>by
 obtain⟨v,o,ho,hd⟩:=I.cell x c e
 obtain⟨m,⟨o',es,ep,ho',hd',_⟩,_⟩:=I.loc
 rw[z,ho']at ho;cases ho;rw[hd']at hd;cases hd
theorem Inv.funs(I:Inv X pins σ H s):s.heap.FunFrames X.base X.outer:=by
 have all:∀(l:List Env),(∀b∈frs l,b∈X.fs)->X.s₀.heap.FunFrames X.base l->s.heap.FunFrames X.base l:=by
  intro l
  induction l with
  | nil=>intro _ _;trivial
  | cons env r ih=>
    intro hs hl
    obtain⟨hk,⟨L,o,hf,hn,ho,hd⟩,hr⟩:=hl
    have hL:L∈X.fs:=hs L (by unfold frs;rw[List.filterMap_cons,hf];exact x8)
    obtain⟨sl,e⟩:=I.base.slot L o ho (I.ok.frf L hL) hL λ z=>I.ok.exfs L z hL
    exact⟨hk,⟨L,_,hf,hn,e,hd⟩,ih (λ b hb=>hs b (by unfold frs;rw[List.filterMap_cons,hf];exact x5 _ hb)) hr⟩
 exact all X.outer (λ _ hb=>hb) I.ok.funs
theorem Inv.stack(I:Inv X pins σ H s):s.heap.FunFrames X.base X.stack:=by
 rcases I.ok.stk with e | ⟨e,hf⟩
 . rw[e];exact I.funs
 . rw[e]
   obtain⟨m,hn,_⟩:=I.loc
   refine .cons (by rw[I.ok.kind];decide) hf hn ?_ I.funs
   exact Heap.get?_none_of_le (Nat.le_trans I.ok.bsz I.ok.above)
theorem Inv.stkSub(I:Inv X pins σ H s):∀b∈frs X.stack,b∈X.env.locals::X.fs:=λ b hb=>by
 rcases I.ok.stk with e | ⟨e,hf⟩
 . rw[e]at hb;exact x5 _ hb
 . rw[e]at hb
   unfold frs at hb
   rw[List.filterMap_cons,hf]at hb
   exact hb
theorem Inv.stkFree(I:Inv X pins σ H s):∀b∈frs X.stack,H b=none:=λ b hb=>by
 rcases ZJ.mp (I.stkSub b hb)with e | hb
 . rw[e];exact I.free
 . obtain⟨_,o,ho,_⟩:=I.ok.funs.mem hb
   exact I.base.free b o ho (I.ok.frf b hb) λ z=>I.ok.exfs b z hb
theorem Inv.step{g':Array GenState}{d':Drawn}{ch:List Addr}(I:Inv X pins σ H s)
 (hch:∀b∈ch,(b∈X.ex∨X.s₀.heap.objs.size≤b)/\b≠X.env.locals/\(∀x c,X.env.cells.lookup x=some c->c≠b)/\∀p∈X.pn++pins,p.1≠b)
 (keep:∀b o,b≠X.env.locals->b∉X.fs->b∉ch->s.heap.get? b=some o->H b=none->h'.get? b=some o)
 (slot:∀b o,b≠X.env.locals->b∈X.fs->b∉ch->s.heap.get? b=some o->H b=none->∃sl,h'.get? b=some {o with slots:=sl})(free:∀b o,b∉ch->s.heap.get? b=some o->H b=none->H' b=none)
 (there:∀b o,b∉ch->s.heap.get? b=some o->∃o',h'.get? b=some o')
 (tups:∀b xs,H b=some (.tup xs)->H' b=some (.tup xs))(frzs:∀b o u,H b=some (.frz o u)->H' b=some (.frz o u))(tbls:∀b ps,H b=some (.tbl ps)->∃more,H' b=some (.tbl (ps++more)))
 (ns:∀m,s.heap.Ns X.env.locals m->h'.Ns X.env.locals m)(hok:HOk X.prog X.w H' h')(hg:AllBare g'):
 Inv X pins σ H' {s with heap:=h',gens:=g',drawn:=d',toks:=t'}:=by
 have neL:∀b o,X.s₀.heap.get? b=some o->b≠X.env.locals:=λ b o e=>ZN (ZM (ZE e) I.ok.above)
 have neC:∀b o,X.s₀.heap.get? b=some o->b∉X.ex->b∉ch:=λ b o e hx hb=>by
  rcases(hch b hb).1 with z | z
  . exact hx z
  . exact absurd (ZM (ZE e) z) (Nat.lt_irrefl _)
 have cellK:∀x c,X.env.cells.lookup x=some c->∀v,s.heap.IsCell c v->h'.IsCell c v:=λ x c e v ⟨o,ho,hd⟩=>by
  have nch:c∉ch:=λ z=>(hch c z).2.2.1 x c e rfl
  by_cases hc:c∈X.fs
  . obtain⟨sl,q⟩:=slot c o (I.cne x c e) hc nch ho (I.freeC x c e)
    exact⟨_,q,hd⟩
  . exact⟨o,keep c o (I.cne x c e) hc nch ho (I.freeC x c e),hd⟩
 refine⟨I.ok,I.os,hg,⟨λ b o e n hb hx=>?_,λ b o e n hb hx=>?_,λ b o e n hx=>?_,λ b o e hx=>?_,λ b xs e=>tups b xs (I.base.tups b xs e),λ b o xs e=>frzs b o xs (I.base.frzs b o xs e),λ b ps e=>?_⟩,?_,λ x c e=>?_,?_,λ x c e=>?_,λ p hp=>?_,hok,I.len⟩
 . exact keep b o (neL b o e) hb (neC b o e hx) (I.base.keep b o e n hb hx) (I.base.free b o e n hx)
 . obtain⟨sl,e1⟩:=I.base.slot b o e n hb hx
   obtain⟨sl',e2⟩:=slot b _ (neL b o e) hb (neC b o e hx) e1 (I.base.free b o e n hx)
   exact⟨sl',e2⟩
 . obtain⟨o',e1⟩:=I.base.there b o e hx
   exact free b o' (neC b o e hx) e1 (I.base.free b o e n hx)
 . obtain⟨o',e1⟩:=I.base.there b o e hx
   exact there b o' (neC b o e hx) e1
 . obtain⟨m1,e1⟩:=I.base.tbls b ps e
   obtain⟨m2,e2⟩:=tbls b _ e1
   exact⟨m1++m2,by rw[e2,Array.append_assoc]⟩
 . obtain⟨m,hn,hl⟩:=I.loc
   refine⟨m,ns m hn,λ i x v e1 e2 e3=>?_⟩
   obtain⟨u,r,l⟩:=hl i x v e1 e2 e3
   refine⟨u,r,?_⟩
   rcases l with l | ⟨k,c,e,z⟩
   . exact .inl l
   . exact .inr ⟨k,c,e,cellK x c e _ z⟩
 . obtain⟨v,z⟩:=I.cell x c e
   exact⟨v,cellK x c e v z⟩
 . obtain⟨m,⟨o,_,_,ho,_⟩,_⟩:=I.loc
   exact free _ o (λ z=>(hch _ z).2.1 rfl) ho I.free
 . obtain⟨v,o,ho,hd⟩:=I.cell x c e
   exact free c o (λ z=>(hch c z).2.2.1 x c e rfl) ho (I.freeC x c e)
 . obtain⟨e,n,ne,nf,d⟩:=I.pin p hp
   have nch:p.1∉ch:=λ z=>(hch p.1 z).2.2.2 p hp rfl
   exact⟨keep p.1 p.2 ne nf nch e n,free p.1 p.2 nch e n,ne,nf,d⟩
theorem Inv.un(I:Inv X pins σ H s)(u:Un X.fs [] H H' s.heap h')(hok:HOk X.prog X.w H' h'):Inv X pins σ H' {s with heap:=h',toks:=t'}:=by
 obtain⟨m,⟨o,es,ep,ho,r⟩,_⟩:=id I.loc
 obtain⟨sl,hL⟩:=u.any ho I.free (by simp)
 exact I.step (g':=s.gens) (d':=s.drawn) (ch:=[]) (λ _ z=>nomatch z) (λ b o _ hb _ e n=>u.keep b o e n hb (by simp)) (λ b o _ hb _ e n=>u.slot b o e n hb (by simp)) (λ b o _ e n=>u.free b o e n (by simp)) (λ b o _ e=>u.there b o e (by simp)) u.tups u.frzs u.tbls (λ m' hm=>by
  obtain⟨o',es',ep',ho',r'⟩:=hm
  rw[ho]at ho';cases ho'
  exact⟨_,es',ep',hL,r'⟩) hok I.bare
theorem Inv.call{g':Array GenState}{d':Drawn}{ch:List Addr}(I:Inv X pins σ H s)(u:Un (frs X.stack) ch H H' s.heap h')(hok:HOk X.prog X.w H' h')(hg:AllBare g')
 (hch:∀b∈ch,(b∈X.ex∨X.s₀.heap.objs.size≤b)/\b≠X.env.locals/\(∀x c,X.env.cells.lookup x=some c->c≠b)/\∀p∈X.pn++pins,p.1≠b):
 Inv X pins σ H' {s with heap:=h',gens:=g',drawn:=d',toks:=t'}:=by
 obtain⟨m,⟨o,es,ep,ho,r⟩,_⟩:=id I.loc
 obtain⟨sl,hL⟩:=u.any ho I.free λ z=>(hch _ z).2.1 rfl
 exact I.step (ch:=ch) hch (λ b o hL hb hc e n=>u.keep b o e n (λ z=>(ZJ.mp (I.stkSub b z)).elim hL hb) hc) (λ b o _ _ hc e n=>u.any e n hc) (λ b o hc e n=>u.free b o e n hc) (λ b o hc e=>u.there b o e hc) u.tups u.frzs u.tbls (λ m' hm=>by
  obtain⟨o',es',ep',ho',r'⟩:=hm
  rw[ho]at ho';cases ho'
  exact⟨_,es',ep',hL,r'⟩) hok hg
theorem Inv.turned{it:Addr}(I:Inv X pins σ H s)(k:∀b o,b≠it->s.heap.get? b=some o->h'.get? b=some o)(hn:H it=none)(hL:it≠X.env.locals)
 (h1:it∈X.ex∨X.s₀.heap.objs.size≤it)(h2:∀x c,X.env.cells.lookup x=some c->c≠it)(h3:∀p∈X.pn++pins,p.1≠it):Inv X pins σ H {s with heap:=h',toks:=t'}:=by
 have nit:∀b u,H b=some u->b≠it:=λ b u e z=>by rw[z,hn]at e;cases e
 refine I.step (g':=s.gens) (d':=s.drawn) (ch:=[it]) (λ b hb=>?_) (λ b o _ _ hc e _=>k b o (λ z=>hc (by simp[z])) e) (λ b o _ _ hc e _=>⟨o.slots,k b o (λ z=>hc (by simp[z])) e⟩) (λ _ _ _ _ n=>n)
  (λ b o hc e=>⟨o,k b o (λ z=>hc (by simp[z])) e⟩) (λ _ _ e=>e) (λ _ _ _ e=>e) (λ b ps e=>⟨#[],by rw[e];simp⟩) (λ m hm=>?_) (λ b u e=>?_) I.bare
 . have e:b=it:=by simpa using hb
   subst e
   exact⟨h1,hL,h2,h3⟩
 . obtain⟨o,es,ep,ho,r⟩:=hm
   exact⟨o,es,ep,k _ o (Ne.symm hL) ho,r⟩
 . refine(I.hok b u e).stay (λ c v hc q=>k c v ?_ q) (λ _ q=>q) λ _ _ q=>q
   rcases hc with z | z
   . rw[z];exact nit b u e
   . exact nit c _ z
theorem Inv.tok(I:Inv X pins σ H s)(t:Nat):Inv X pins σ H {s with toks:=t}:=I.un (h':=s.heap) (t':=t) Un.refl I.hok
theorem Inv.kept(I:Inv X pins σ H s)(k:∀b u,s.heap.get? b=some u->h'.get? b=some u):Inv X pins σ H {s with heap:=h',toks:=t'}:=I.un (Un.kept k) (I.hok.kept k)
theorem Inv.laid{a:Addr}{o:HO}(I:Inv X pins σ H s)(k:∀b u,s.heap.get? b=some u->h'.get? b=some u)(hp:s.heap.objs.size≤a)(new:bh X.prog X.w (upd H a o) h' a o):
 Inv X pins σ (upd H a o) {s with heap:=h',toks:=t'}:=I.un (Un.laid k hp (I.hok.fresh hp)) (I.hok.laid k hp new)
theorem Inv.write{x e:Addr}{o:HO}(I:Inv X pins σ H s)(mu:Mut (H x))(he:e=x∨H e=some (.own x))(k:∀b u,b≠e->s.heap.get? b=some u->h'.get? b=some u)(heo:∃u,h'.get? e=some u)
 (new:bh X.prog X.w (upd H x o) h' x o):Inv X pins σ (upd H x o) {s with heap:=h',toks:=t'}:=I.un (Un.write mu he k heo) (I.hok.write mu he k heo new)
theorem Inv.pins_of{pins':List (Addr×Obj)}(I:Inv X pins σ H s)(h:∀p∈pins',s.heap.get? p.1=some p.2/\H p.1=none/\p.1≠X.env.locals/\p.1∉X.fs/\∀v,p.2.data≠.cell v):Inv X pins' σ H s:=
 ⟨I.ok,I.os,I.bare,I.base,I.loc,I.cell,I.free,I.freeC,λ p hp=>(ZK.mp hp).elim (λ z=>I.pin p (List.mem_append_left _ z)) (h p),I.hok,I.len⟩
theorem zy{N:List Str}(hN:N.Nodup){i j:Nat}{x:Str}(a:N[i]? =some x)(b:N[j]? =some x):i=j:=by
 obtain⟨h1,e1⟩:=y3.mp a
 obtain⟨h2,e2⟩:=y3.mp b
 exact(List.getElem_inj hN).mp (e1.trans e2.symm)
theorem vf{M:Model}{A:Around}{E:Value->Shared->Prop}{i:Nat}{x:Str}{v:V}{u:Value}{Q:Unit->Shared->Prop}(I:Inv X pins σ H s)(hN:X.N.Nodup)(hi:X.N[i]? =some x)(hx:Loc X.env.scope x)(r:RelV v u)
 (h:∀s',Inv X pins (σ.set i (some v)) H s'->(∃a,Heap.SameBut a s.heap s'.heap/\(a=X.env.locals∨X.env.cells.lookup x=some a))->Q () s')(hf:X.fn x=true∨X.env.scope.names.lookup x=some .local:=by first | exact .inl rfl | exact .inr rfl | assumption):wpAny M A (storeName X.env x u) Q E s:=by
 obtain⟨m,hn,hl⟩:=id I.loc
 have hcls:(X.env.scope.kind==.class||(X.env.scope.kind==.module&&X.env.locals !=X.env.globals))=false:=by rw[I.ok.kind];rfl
 have hiσ:i<σ.length:=by rw[I.len];exact(y3.mp hi).1
 have cne:=I.cne
 have tracked:∀{a:Addr}{h':Heap},(∃o,s.heap.get? a=some o/\H a=none)->Heap.SameBut a s.heap h'->HOk X.prog X.w H h':=λ{a h'} ha hs b ob e=>by
  obtain⟨_,_,hfree⟩:=ha
  refine(I.hok b ob e).stay (λ c w' hc q=>(hs.2 c ?_).trans q) (λ _ q=>q) λ _ _ q=>q
  rintro rfl
  rcases hc with rfl | hc
  . rw[hfree]at e;cases e
  . rw[hfree]at hc;cases hc
 rcases hx with hk | hk
 . refine wpAny_storeName_local hk hn (λ h' hn' hs=>?_) hcls
   obtain⟨oL,_,_,hoL,_⟩:=id hn
   refine h _ ⟨I.ok,I.os,I.bare,⟨λ b o e n hb hx=>?_,λ b o e n hb hx=>?_,I.base.free,λ b o e hx=>?_,I.base.tups,I.base.frzs,I.base.tbls⟩,⟨_,hn',λ j y v' e1 e2 e3=>?_⟩,λ y c e=>?_,I.free,I.freeC,λ p hp=>?_,tracked ⟨oL,hoL,I.free⟩ hs,by simpa using I.len⟩ ⟨_,hs,.inl rfl⟩
   . exact(hs.2 b (ZN (ZM (ZE e) I.ok.above))).trans (I.base.keep b o e n hb hx)
   . obtain⟨sl,e1⟩:=I.base.slot b o e n hb hx
     exact⟨sl,(hs.2 b (ZN (ZM (ZE e) I.ok.above))).trans e1⟩
   . obtain⟨o',e1⟩:=I.base.there b o e hx
     exact⟨o',(hs.2 b (ZN (ZM (ZE e) I.ok.above))).trans e1⟩
   . by_cases hj:j=i
     . subst hj
       rw[hi]at e1;cases e1
       rw[List.getElem?_set_self hiσ]at e2
       cases e2
       exact⟨u,r,.inl ⟨hk,by simp⟩⟩
     . rw[List.getElem?_set_ne (Ne.symm hj)]at e2
       obtain⟨u',r',q⟩:=hl j y v' e1 e2 e3
       refine⟨u',r',?_⟩
       rcases q with⟨k,e⟩ | ⟨k,c,e,z⟩
       . refine .inl ⟨k,?_⟩
         have:y≠x:=λ e=>hj (zy hN e1 (e▸hi))
         simp[this,e]
       . exact .inr ⟨k,c,e,z.sameBut hs (cne y c e)⟩
   . obtain⟨w',z⟩:=I.cell y c e
     exact⟨w',z.sameBut hs (cne y c e)⟩
   . obtain⟨e,n,ne,nf,d⟩:=I.pin p hp
     exact⟨(hs.2 p.1 ne).trans e,n,ne,nf,d⟩
 . have hfn:X.fn x=true:=by
    rcases hf with z | z
    . exact z
    . rw[z]at hk;cases hk
   obtain⟨c,hc⟩:=I.ok.has x (.inl hk)
   obtain⟨w',z⟩:=I.cell x c hc
   refine wpAny_storeName_cell I.ok.kind hk hc z (λ h' hc' hs=>?_)
   obtain⟨oc,hoc,hocd⟩:=id z
   refine h {s with heap:=h'} ⟨I.ok,I.os,I.bare,⟨λ b o e n hb hx=>?_,λ b o e n hb hx=>?_,I.base.free,λ b o e hx=>?_,I.base.tups,I.base.frzs,I.base.tbls⟩,⟨m,hn.sameBut hs (Ne.symm (cne x c hc)),λ j y v' e1 e2 e3=>?_⟩,λ y c' e=>?_,I.free,I.freeC,λ p hp=>?_,tracked ⟨oc,hoc,I.freeC x c hc⟩ hs,by simpa using I.len⟩ ⟨c,hs,.inr hc⟩
   . exact(hs.2 b (ZN (ZM (ZE e) (I.ok.cab x c hfn hc)))).trans (I.base.keep b o e n hb hx)
   . obtain⟨sl,e1⟩:=I.base.slot b o e n hb hx
     exact⟨sl,(hs.2 b (ZN (ZM (ZE e) (I.ok.cab x c hfn hc)))).trans e1⟩
   . obtain⟨o',e1⟩:=I.base.there b o e hx
     exact⟨o',(hs.2 b (ZN (ZM (ZE e) (I.ok.cab x c hfn hc)))).trans e1⟩
   . by_cases hj:j=i
     . subst hj
       rw[hi]at e1;cases e1
       rw[List.getElem?_set_self hiσ]at e2
       cases e2
       exact⟨u,r,.inr ⟨.inl hk,c,hc,hc'⟩⟩
     . rw[List.getElem?_set_ne (Ne.symm hj)]at e2
       obtain⟨u',r',q⟩:=hl j y v' e1 e2 e3
       refine⟨u',r',?_⟩
       rcases q with q | ⟨k,c',e,z'⟩
       . exact .inl q
       . refine .inr ⟨k,c',e,z'.sameBut hs ?_⟩
         rintro rfl
         exact hj (zy hN e1 (I.ok.inj _ _ _ e hc▸hi))
   . by_cases hcc:c'=c
     . subst hcc;exact⟨_,hc'⟩
     . obtain⟨w2,z2⟩:=I.cell y c' e
       exact⟨w2,z2.sameBut hs hcc⟩
   . obtain⟨e,n,ne,nf,d⟩:=I.pin p hp
     refine⟨(hs.2 p.1 ?_).trans e,n,ne,nf,d⟩
     intro q
     rw[q,hoc]at e
     have q':oc=p.2:=Option.some.inj e
     exact d w' (by rw[←q'];exact hocd)
theorem yP{M:Model}{A:Around}{E:Value->Shared->Prop}{i:Nat}{x:Str}{v:V}{u:Value}{Q:Unit->Shared->Prop}(I:Inv X pins σ H s)(hN:X.N.Nodup)(hi:X.N[i]? =some x)(hx:Loc X.env.scope x)(r:RelV v u)
 (h:∀s',Inv X pins (σ.set i (some v)) H s'->Q () s')(hf:X.fn x=true∨X.env.scope.names.lookup x=some .local:=by first | exact .inl rfl | exact .inr rfl | assumption):wpAny M A (storeName X.env x u) Q E s:=
 vf I hN hi hx r (λ s' I' _=>h s' I') hf
theorem Inv.call'{s':Shared}{ch:List Addr}(I:Inv X pins σ H s)(ho:s'.os=s.os)(u:Un (frs X.stack) ch H H' s.heap s'.heap)(hok:HOk X.prog X.w H' s'.heap)(hg:AllBare s'.gens)
 (hch:∀b∈ch,(b∈X.ex∨X.s₀.heap.objs.size≤b)/\b≠X.env.locals/\(∀x c,X.env.cells.lookup x=some c->c≠b)/\∀p∈X.pn++pins,p.1≠b):Inv X pins σ H' s':=by
 obtain⟨h',g',d',t',o'⟩:=s'
 have e:o'=s.os:=ho
 subst e
 exact I.call (g':=g') (t':=t') (d':=d') u hok hg hch
end
noncomputable abbrev XK:=Value->Option Addr->Hp->Prop
noncomputable abbrev St:=List (Option V)
noncomputable abbrev VK:=V->Hp->Prop
noncomputable abbrev TE:=St->Hp->VK->Prop
noncomputable abbrev TT:=St->Hp->(Bool->Hp->Prop)->Prop
noncomputable abbrev TA:=St->Hp->(List V->Hp->Prop)->Prop
structure Ends where
 nx:St->Hp->Prop
 rt:VK
 bk:St->Hp->Prop:=λ _ _=>False
 ct:St->Hp->Prop:=λ _ _=>False
noncomputable abbrev TS:=Ends->St->Hp->Prop
noncomputable def EP(X:Cx)(pins:List (Addr×Obj))(σ:St)(Q:VK)(u:Value)(s':Shared):Prop:=∃v H',Inv X pins σ H' s'/\RelV v u/\Q v H'
noncomputable def TP(X:Cx)(pins:List (Addr×Obj))(σ:St)(Q:Bool->Hp->Prop)(b:Bool)(s':Shared):Prop:=∃H',Inv X pins σ H' s'/\Q b H'
noncomputable def AP(X:Cx)(pins:List (Addr×Obj))(σ:St)(Q:List V->Hp->Prop)(us:List Value)(s':Shared):Prop:=∃vs H',Inv X pins σ H' s'/\Vals vs us/\Q vs H'
noncomputable def SP(X:Cx)(pins:List (Addr×Obj))(D:Ends)(f:Flow)(s':Shared):Prop:=
 match f with
 | .next=>∃σ' H',Inv X pins σ' H' s'/\D.nx σ' H'
 | .brk=>∃σ' H',Inv X pins σ' H' s'/\D.bk σ' H'
 | .cont=>∃σ' H',Inv X pins σ' H' s'/\D.ct σ' H'
 | .ret u=>∃v σ' H',Inv X pins σ' H' s'/\RelV v u/\D.rt v H'
noncomputable def PE(X:Cx)(e:Expr)(t:TE):Prop:=
 ∀(pins:List (Addr×Obj))(s:Shared)(σ:St)(H:Hp)(Q:VK),Inv X pins σ H s->t σ H Q->wpAny (model X.prog X.w) X.A (eval e X.env) (EP X pins σ Q) X.xe s
noncomputable def PA(X:Cx)(es:List Expr)(t:TA):Prop:=
 ∀(pos:Pos)(pins:List (Addr×Obj))(s:Shared)(σ:St)(H:Hp)(Q:List V->Hp->Prop),Inv X pins σ H s->t σ H Q->wpAny (model X.prog X.w) X.A (spliced (backTo pos (starEach es X.env))) (AP X pins σ Q) X.xe s
noncomputable def PS(X:Cx)(st:Stmt)(t:TS):Prop:=
 ∀(pins:List (Addr×Obj))(s:Shared)(σ:St)(H:Hp)(D:Ends),Inv X pins σ H s->t D σ H->wpAny (model X.prog X.w) X.A (exec st X.env) (SP X pins D) X.xe s
noncomputable def PSs(X:Cx)(st:List Stmt)(t:TS):Prop:=
 ∀(pins:List (Addr×Obj))(s:Shared)(σ:St)(H:Hp)(D:Ends),Inv X pins σ H s->t D σ H->wpAny (model X.prog X.w) X.A (execs st X.env) (SP X pins D) X.xe s
theorem thn{α:Type}{t:Sem α}{Q Q':α->Shared->Prop}{M:Model}{A:Around}{E:Value->Shared->Prop}{s:Shared}(h:wpAny M A t Q E s)(hQ:∀a s,Q a s->Q' a s):wpAny M A t Q' E s:=wpAny_mono h hQ λ _ _ x=>x
end L2
namespace L2
open PySem PySem.Spec PyProof.Rows
variable {x : Str} {u : Value}
section
variable {X : Cx}
noncomputable def VM(i:Nat):TE:=λ σ H Q=>∃v,σ[i]? =some (some v)/\Q v H
noncomputable def tC(v:V):TE:=λ _ H Q=>Q v H
theorem Sd{i:Nat}{pos:Pos}(hN:X.N[i]? =some x)(hv:Vis X.env.scope x)(hd:(x==("__debug__":Str))=false:=by decide)(hcd:(x==("__classdict__":Str))=false:=by decide):PE X (.Name x pos) (VM i):=by
 intro pins s σ H Q I h
 obtain⟨v,e,h⟩:=h
 obtain⟨m,hn,hl⟩:=I.loc
 obtain⟨u,r,l⟩:=hl i x v hN e hv
 have fin:EP X pins σ Q u s:=⟨v,H,I,r,h⟩
 rcases l with⟨hk,hm⟩ | ⟨hk,c,hc,hcell⟩
 . exact wpAny_Name (wpAny_loadName_local I.ok.kind hk hn hm fin) hd
 . rcases hk with hk | hk
   . exact wpAny_Name (wpAny_loadName_cell I.ok.kind hk hc hcell fin) hd
   . exact wpAny_Name (wpAny_loadName_free I.ok.kind hk hc hcell fin hcd) hd
theorem Rr{i j pos}:PE X (.Constant (.int i) j pos) (tC (.int i)):=λ _ _ _ H _ I h=>wpAny_Constant_int ⟨.int i,H,I.tok _,⟨_,rfl⟩,h⟩
theorem U8{b j pos}:PE X (.Constant (.bool b) j pos) (tC (.bl b)):=λ _ _ _ H _ I h=>Constant_bool ⟨.bl b,H,I,rfl,h⟩
noncomputable def Gl(X:Cx)(x:Str):Prop:=X.env.kindOf x=some .globalImplicit
theorem Ef{E:Value->Shared->Prop}{pins:List (Addr×Obj)}{s:Shared}{σ:St}{H:Hp}{pos:Pos}{Q:Value->Shared->Prop}(I:Inv X pins σ H s)(hg:Gl X x)(hm:X.mg x=some u)(h:Q u s)
 (hd:(x==("__debug__":Str))=false:=by decide):wpAny (model X.prog X.w) X.A (eval (.Name x pos) X.env) Q E s:=
 Calls.Name_function_global I.ok.kind hg (Calls.loadGlobal_global (by rw[I.ok.glob];exact I.mod.glob.keeps I.bk) hm h) hd
theorem bJ{E:Value->Shared->Prop}{pins:List (Addr×Obj)}{s:Shared}{σ:St}{H:Hp}{pos:Pos}{Q:Value->Shared->Prop}(I:Inv X pins σ H s)(hg:Gl X x)(hm:X.mg x=none)(hv:bootBuiltins x=some u)(h:Q u s)
 (hn:x≠"__name__":=by decide)(hd:(x==("__debug__":Str))=false:=by decide):wpAny (model X.prog X.w) X.A (eval (.Name x pos) X.env) Q E s:=by
 obtain⟨mb,h1,h2⟩:=I.mod.blt
 exact Calls.Name_function_global I.ok.kind hg (Calls.loadGlobal_builtin (by rw[I.ok.glob];exact I.mod.glob.keeps I.bk) hm (by rw[I.ok.blt];exact h1.keeps I.bk) ((h2 x hn).trans hv) h) hd
theorem Qv{v:V}{pos:Pos}(hg:Gl X x)(hm:X.mg x=some u)(r:RelV v u)(hd:(x==("__debug__":Str))=false:=by decide):PE X (.Name x pos) (tC v):=
 λ _ _ _ H _ I h=>Ef I hg hm ⟨v,H,I,r,h⟩ hd
theorem QL{v:V}{pos:Pos}(hg:Gl X x)(hm:X.mg x=none)(hv:bootBuiltins x=some u)(r:RelV v u)(hn:x≠"__name__":=by decide)(hd:(x==("__debug__":Str))=false:=by decide):PE X (.Name x pos) (tC v):=
 λ _ _ _ H _ I h=>bJ I hg hm hv ⟨v,H,I,r,h⟩ hn hd
variable {a b : Expr} {ta tb : TE} {pos : Pos}
variable {tA tB' : TT} {rest : List Expr}
end
end L2
namespace L2
open PySem PySem.Spec PyProof.Rows
variable {K : PySem.W.Frag} {tg : Expr}
noncomputable def SqL(K:PySem.W.Frag)(H:Hp)(a:Addr)(xs:List V):Prop:=
 Rd H a (.lst xs)∨
  ∃(o:Obj) (its:Array Value) (n:Nat),K.lookup a=some o/\o.cls=.type "list"/\o.dict=none/\o.data=.seq its n/\its.size≤sizeLine/\Vals xs its.toList
noncomputable def SqT(K:PySem.W.Frag)(H:Hp)(a:Addr)(xs:List V):Prop:=
 Rd H a (.tup xs)∨
  ∃(o:Obj) (its:Array Value) (n:Nat),K.lookup a=some o/\o.cls=.type "tuple"/\o.data=.seq its n/\its.size≤sizeLine/\Vals xs its.toList
noncomputable def Vr:Value->Option V
 | .none=>some .non
 | .bool b=>some (.bl b)
 | .int i _=>some (.int i)
 | .str x _=>some (.str x)
 | .bytes b _=>some (.byt b)
 | .float b _=>some (.flt b)
 | .ref a=>some (.ref a)
 | .type n=>some (.ty n)
 | _=>none
theorem RelV.abs{x:V}{u:Value}(r:RelV x u):Vr u=some x:=by
 cases x with
 | non=>cases r;rfl
 | bl _=>cases r;rfl
 | int _=>obtain⟨t,rfl⟩:=r;rfl
 | str _=>obtain⟨t,rfl⟩:=r;rfl
 | byt _=>obtain⟨t,rfl⟩:=r;rfl
 | flt _=>obtain⟨t,rfl⟩:=r;rfl
 | ref _=>cases r;rfl
 | ty _=>cases r;rfl
theorem RelV.inj{x y:V}{u:Value}(r:RelV x u)(q:RelV y u):x=y:=Option.some.inj (r.abs.symm.trans q.abs)
theorem Vals.inj:∀{xs ys:List V}{us:List Value},Vals xs us->Vals ys us->xs=ys
 | _,_,_,.nil,.nil=>rfl
 | _,_,_,.cons r t,.cons r' t'=>by rw[r.inj r',Vals.inj t t']
section
variable {X : Cx} {pins : List (Addr × Obj)} {σ : St} {H : Hp} {s : Shared} {a : Addr} {xs ys : List V}
theorem SqL.of(h:H a=some (.lst xs)):SqL K H a xs:=.inl (.inl h)
theorem Inv.list(I:Inv X pins σ H s)(h:SqL X.K H a xs):∃its:List Value,Vals xs its/\PlainL s.heap a its.toArray/\xs.length≤sizeLine:=by
 rcases h with h | ⟨o,its,n,hk,hc,hd,hs,hz,r⟩
 . obtain⟨z,its,n,r,e⟩:=h.ok I.hok
   exact⟨its,r,⟨_,n,e,rfl,rfl,rfl⟩,z⟩
 . refine⟨its.toList,r,⟨o,n,I.kIn a o hk,hc,hd,by simpa using hs⟩,?_⟩
   have e:=r.length
   simp only[Array.length_toList]at e
   omega
theorem Inv.tuple(I:Inv X pins σ H s)(h:SqT X.K H a xs):∃its:List Value,Vals xs its/\IsTup s.heap a its.toArray/\xs.length≤sizeLine:=by
 rcases h with h | ⟨o,its,n,hk,hc,hs,hz,r⟩
 . obtain⟨z,its,r,p⟩:=h.ok I.hok
   exact⟨its,r,p,z⟩
 . refine⟨its.toList,r,⟨o,I.kIn a o hk,hc,n,by simpa using hs⟩,?_⟩
   have e:=r.length
   simp only[Array.length_toList]at e
   omega
theorem Inv.list_inj(I:Inv X pins σ H s)(h:SqL X.K H a xs)(h':SqL X.K H a ys):xs=ys:=by
 obtain⟨its,r,⟨o,n,e,_,_,d⟩,_⟩:=I.list h
 obtain⟨its',r',⟨o',n',e',_,_,d'⟩,_⟩:=I.list h'
 rw[e]at e';cases e'
 rw[d]at d'
 injection d' with d1 _
 have:its=its':=by simpa using congrArg Array.toList d1
 subst this
 exact r.inj r'
theorem Inv.tuple_inj(I:Inv X pins σ H s)(h:SqT X.K H a xs)(h':SqT X.K H a ys):xs=ys:=by
 obtain⟨its,r,⟨o,e,_,n,d⟩,_⟩:=I.tuple h
 obtain⟨its',r',⟨o',e',_,n',d'⟩,_⟩:=I.tuple h'
 rw[e]at e';cases e'
 rw[d]at d'
 injection d' with d1 _
 have:its=its':=by simpa using congrArg Array.toList d1
 subst this
 exact r.inj r'
end
noncomputable abbrev Cx.wish(X:Cx)(E:Value->Shared->Prop):Cx:={X with xe:=E}
noncomputable abbrev Cx.nox(X:Cx):Cx:=X.wish λ _ _=>False
theorem Cx.Ok.wish{X:Cx}(ok:X.Ok)(E:Value->Shared->Prop):(X.wish E).Ok:=
 ⟨ok.mod,ok.kind,ok.glob,ok.blt,ok.above,ok.inj,ok.has,ok.cab,ok.hd,ok.frames,ok.stk,ok.exf,ok.bs,ok.bsz,ok.noex,ok.exfs,ok.funs,ok.frf⟩
theorem Cx.Ok.unwish{X:Cx}{E:Value->Shared->Prop}(ok:(X.wish E).Ok):X.Ok:=
 ⟨ok.mod,ok.kind,ok.glob,ok.blt,ok.above,ok.inj,ok.has,ok.cab,ok.hd,ok.frames,ok.stk,ok.exf,ok.bs,ok.bsz,ok.noex,ok.exfs,ok.funs,ok.frf⟩
section
variable {X : Cx} {pins : List (Addr × Obj)} {σ : St} {H : Hp} {s : Shared} {E : Value -> Shared -> Prop}
theorem Inv.wish(I:Inv X pins σ H s)(E:Value->Shared->Prop):Inv (X.wish E) pins σ H s:=⟨I.ok.wish E,I.os,I.bare,I.base,I.loc,I.cell,I.free,I.freeC,I.pin,I.hok,I.len⟩
theorem Inv.unwish(I:Inv (X.wish E) pins σ H s):Inv X pins σ H s:=⟨I.ok.unwish,I.os,I.bare,I.base,I.loc,I.cell,I.free,I.freeC,I.pin,I.hok,I.len⟩
theorem SP.unwish{D:Ends}{f:Flow}{s':Shared}(h:SP (X.wish E) pins D f s'):SP X pins D f s':=by
 cases f with
 | next=>obtain⟨σ',H',I,q⟩:=h;exact⟨σ',H',I.unwish,q⟩
 | brk=>obtain⟨σ',H',I,q⟩:=h;exact⟨σ',H',I.unwish,q⟩
 | cont=>obtain⟨σ',H',I,q⟩:=h;exact⟨σ',H',I.unwish,q⟩
 | ret u=>obtain⟨v,σ',H',I,r,q⟩:=h;exact⟨v,σ',H',I.unwish,r,q⟩
theorem PSs.nox{st:List Stmt}{t:TS}(h:PSs X.nox st t):PSs X st t:=λ pins s σ H D I hw=>
 wpAny_mono (h pins s σ H D (I.wish _) hw) (λ _ _ q=>q.unwish) λ _ _ z=>False.elim z
end
section
variable {X : Cx} {st : Stmt} {rest : List Stmt} {t u : TS} {e : Expr} {te : TE} {pos : Pos}
theorem Inv.quiet{pins:List (Addr×Obj)}{σ:St}{H:Hp}{s:Shared}(I:Inv X pins σ H s):interactive X.env=false:=by simp[interactive,I.ok.kind]
end
noncomputable abbrev TG:=V->St->Hp->(St->Hp->Prop)->Prop
noncomputable def PG(X:Cx)(target:Expr)(t:TG):Prop:=
 ∀ (pins:List (Addr×Obj))(s:Shared)(σ:St)(H:Hp)(v:V)(u:Value)(Q:St->Hp->Prop),Inv X pins σ H s->RelV v u->t v σ H Q->
   wpAny (model X.prog X.w) X.A (assign target X.env u) (λ _ s'=>∃σ' H',Inv X pins σ' H' s'/\Q σ' H') X.xe s
noncomputable abbrev Vx:=V->V->V->Hp->(Hp->Prop)->Prop
noncomputable def V2(X:Cx)(t:Vx):Prop:=
 ∀ (pins:List (Addr×Obj))(s:Shared)(σ:St)(H:Hp)(o i v:V)(ov iv u:Value)(Q:Hp->Prop),Inv X pins σ H s->RelV o ov->RelV i iv->RelV v u->t o i v H Q->
   wpAny (model X.prog X.w) X.A (setItem ov iv u) (λ _ s'=>∃H',Inv X pins σ H' s'/\Q H') X.xe s
structure It where
 go:Nat->Hp->Prop
 yld:Nat->Hp->V->Hp->Prop
 stop:Nat->Hp->Prop
noncomputable def fC(X:Cx)(pins:List (Addr×Obj))(H:Hp)(b:Addr):Prop:=
 H b=none/\b≠X.env.locals/\b∉X.fs/\(b∈X.ex∨X.s₀.heap.objs.size≤b)/\(∀x c,X.env.cells.lookup x=some c->c≠b)/\∀p∈X.pn++pins,p.1≠b
theorem Inv.fpOk{X:Cx}{pins:List (Addr×Obj)}{σ:St}{H H':Hp}{s:Shared}{b:Addr}(I:Inv X pins σ H s)(hb:s.heap.objs.size≤b)(hn:H' b=none):fC X pins H' b:=by
 refine⟨hn,Nat.ne_of_gt (ZM I.lt hb),I.nofs hb,.inr (Nat.le_trans I.sz hb),λ x c e z=>?_,λ p hp z=>?_⟩
 . obtain⟨v,q⟩:=I.cell x c e
   exact absurd (ZM q.lt (by rw[z];exact hb)) (Nat.lt_irrefl _)
 . exact absurd (ZM (ZE (I.pin p hp).1) (by rw[z];exact hb)) (Nat.lt_irrefl _)
structure Turn(P:Program)(w:World)(K:PySem.W.Frag)(tg:Expr)(J:It)(fp:List Addr)(it:Addr)(tn:Nat->Heap->Prop):Prop where
 mem:it∈fp
 obj:∀i h,tn i h->∀b∈fp,∃o,h.get? b=some o/\∀v,o.data≠.cell v
 keep:∀i h h',tn i h->(∀b∈fp,∀o,h.get? b=some o->h'.get? b=some o)->tn i h'
 item:∀(X:Cx),X.prog=P->X.w=w->X.K=K->X.calm=true->∀(i:Nat)(pins:List (Addr×Obj))(s:Shared)(σ:St)(H:Hp)(E:Value->Shared->Prop),Inv X pins σ H s->(∀b∈fp,fC X pins H b)->tn i s.heap->J.go i H->
  wpAny (model P w) X.A (pyNext (.ref it)) (λ r s1=>∃u,r=some u/\
   wpAny (model P w) X.A (letOwnedTupleGo tg (.ref it) u) (λ _ s2=>∃x H',Inv X pins σ H' s2/\RelV x u/\J.yld i H x H'/\tn (i+1) s2.heap/\∀b∈fp,H' b=none) E s1) E s
 done:∀(X:Cx),X.prog=P->X.w=w->X.K=K->X.calm=true->∀(i:Nat)(pins:List (Addr×Obj))(s:Shared)(σ:St)(H:Hp)(E:Value->Shared->Prop),Inv X pins σ H s->(∀b∈fp,fC X pins H b)->tn i s.heap->J.stop i H->
  wpAny (model P w) X.A (pyNext (.ref it)) (λ r s1=>r=none/\Inv X pins σ H s1) E s
 self:∀(A:Around)(i:Nat)(s:Shared)(Q:Value->Shared->Prop)(E:Value->Shared->Prop),tn i s.heap->Q (.ref it) s->wpAny (model P w) A (pyIter (.ref it)) Q E s
noncomputable abbrev TI:=St->Hp->(It->Hp->Prop)->Prop
noncomputable def PIE(X:Cx)(pins:List (Addr×Obj))(σ:St)(tg:Expr)(R:It->Hp->Prop)(itv:Value)(s2:Shared):Prop:=
 ∃(it:Addr) (fp:List Addr) (tn:Nat->Heap->Prop) (J:It) (H':Hp),itv=.ref it/\Inv X pins σ H' s2/\Turn X.prog X.w X.K tg J fp it tn/\tn 0 s2.heap/\(∀b∈fp,fC X pins H' b)/\R J H'
noncomputable def PI(X:Cx)(tg iter:Expr)(wi:TI):Prop:=
 ∀ (pins:List (Addr×Obj))(s:Shared)(σ:St)(H:Hp)(R:It->Hp->Prop),Inv X pins σ H s->wi σ H R->
   wpAny (model X.prog X.w) X.A (eval iter X.env) (λ v s1=>wpAny (model X.prog X.w) X.A (pyIter v) (PIE X pins σ tg R) X.xe s1) X.xe s
theorem wX{M:Model}{A:Around}{E:Value->Shared->Prop}{s:Shared}{it:Addr}{u:Value}{o:Obj}{n:String}{vs:Array Value}{Q:Unit->Shared->Prop}(ho:s.heap.get? it=some o)(hc:o.cls=.type n)(hd:o.data=.fields vs)
 (hn:["enumerate","zip","dict_itemiterator","dict_reverseitemiterator","odict_iterator","itertools.zip_longest","itertools.pairwise"].contains n=false)(hQ:Q () s):wpAny M A (letOwnedTupleGo tg (.ref it) u) Q E s:=by
 unfold letOwnedTupleGo
 cases tg<;>first
  | exact ZB hQ
  | (cases u<;>first
   | exact ZB hQ
   | (refine ZA (wpAny_load ho ?_)
      rw[hc,hd]
      show wpAny M A (if(["enumerate","zip","dict_itemiterator","dict_reverseitemiterator","odict_iterator","itertools.zip_longest","itertools.pairwise"].contains n&&vs[0]? ==some (rawInt _))=true then _ else _) Q E s
      rw[if_neg (by intro h;rw[hn,Bool.false_and]at h;cases h)]
      exact ZB hQ))
noncomputable def Itl(K:PySem.W.Frag)(a:Addr):It:=
 ⟨λ i H=>∃xs x,SqL K H a xs/\xs[i]? =some x,λ i H x H'=>H'=H/\∀xs,SqL K H a xs->xs[i]? =some x,λ i H=>∃xs,SqL K H a xs/\xs.length≤i⟩
noncomputable def Itt(K:PySem.W.Frag)(a:Addr):It:=
 ⟨λ i H=>∃xs x,SqT K H a xs/\xs[i]? =some x,λ i H x H'=>H'=H/\∀xs,SqT K H a xs->xs[i]? =some x,λ i H=>∃xs,SqT K H a xs/\xs.length≤i⟩
noncomputable def Itr(lo:Int)(n:Nat):It:=⟨λ i _=>i<n,λ i H x H'=>H'=H/\x=.int (lo+i),λ i _=>n≤i⟩
theorem mL{P:Program}{w:World}(a it:Addr):Turn P w K tg (Itl K a) [it] it (λ i h=>h.IsListIter it a i) where
 mem:=by simp
 obj:=λ i h st b hb=>by
  have e:b=it:=by simpa using hb
  subst e
  obtain⟨o,e,c,d⟩:=st
  exact⟨o,e,λ v z=>by rw[d]at z;cases z⟩
 keep:=λ i h h' st k=>st.at λ o e=>k it (by simp) o e
 item:=by
  intro X hP hw hK hc i pins s σ H E I hf st hg
  subst hP hw hK
  obtain⟨xs,x,hq,hx⟩:=hg
  obtain⟨its,rv,p,hz⟩:=I.list hq
  obtain⟨u,hu,ru⟩:=rv.get hx
  obtain⟨f0,f1,f2,f3,f4,f5⟩:=hf it (by simp)
  refine wpAny_pyNext_list_item st p.isList (x:=u) (by simpa using hu) λ h' st' sb=>?_
  have I1:Inv X pins σ H {s with heap:=h'}:=I.turned (t':=s.toks) (λ b o hb e=>(sb.2 b hb).trans e) f0 f1 f3 f4 f5
  obtain⟨o,e,c,d⟩:=id st'
  exact⟨u,rfl,wX (s:={s with heap:=h'}) e c d (by decide) ⟨x,H,I1,ru,⟨rfl,λ ys hy=>by rw[I.list_inj hy hq];exact hx⟩,st',λ b hb=>(hf b hb).1⟩⟩
 done:=by
  intro X hP hw hK hc i pins s σ H E I hf st hg
  subst hP hw hK
  obtain⟨xs,hq,hx⟩:=hg
  obtain⟨its,rv,p,hz⟩:=I.list hq
  obtain⟨f0,f1,f2,f3,f4,f5⟩:=hf it (by simp)
  have hl:=rv.length
  exact wpAny_pyNext_list_end (I.ok.hd hc) st p.isList (by simp;omega) λ h' eb=>⟨rfl,I.turned (t':=s.toks) (λ b o hb e=>eb b o hb e) f0 f1 f3 f4 f5⟩
 self:=λ _ _ _ _ _ st h=>wpAny_pyIter_listiter st h
theorem sU{P:Program}{w:World}(a it:Addr):Turn P w K tg (Itt K a) [it] it (λ i h=>h.IsTupleIter it a i) where
 mem:=by simp
 obj:=λ i h st b hb=>by
  have e:b=it:=by simpa using hb
  subst e
  obtain⟨o,e,c,d⟩:=st
  exact⟨o,e,λ v z=>by rw[d]at z;cases z⟩
 keep:=λ i h h' st k=>st.at λ o e=>k it (by simp) o e
 item:=by
  intro X hP hw hK hc i pins s σ H E I hf st hg
  subst hP hw hK
  obtain⟨xs,x,hq,hx⟩:=hg
  obtain⟨its,rv,p,hz⟩:=I.tuple hq
  obtain⟨u,hu,ru⟩:=rv.get hx
  obtain⟨f0,f1,f2,f3,f4,f5⟩:=hf it (by simp)
  refine wpAny_pyNext_tuple_item st (show s.heap.IsTuple a its.toArray from p) (x:=u) (by simpa using hu) λ h' st' sb=>?_
  have I1:Inv X pins σ H {s with heap:=h'}:=I.turned (t':=s.toks) (λ b o hb e=>(sb.2 b hb).trans e) f0 f1 f3 f4 f5
  obtain⟨o,e,c,d⟩:=id st'
  exact⟨u,rfl,wX (s:={s with heap:=h'}) e c d (by decide) ⟨x,H,I1,ru,⟨rfl,λ ys hy=>by rw[I.tuple_inj hy hq];exact hx⟩,st',λ b hb=>(hf b hb).1⟩⟩
 done:=by
  intro X hP hw hK hc i pins s σ H E I hf st hg
  subst hP hw hK
  obtain⟨xs,hq,hx⟩:=hg
  obtain⟨its,rv,p,hz⟩:=I.tuple hq
  obtain⟨f0,f1,f2,f3,f4,f5⟩:=hf it (by simp)
  have hl:=rv.length
  exact wpAny_pyNext_tuple_end (I.ok.hd hc) st (show s.heap.IsTuple a its.toArray from p) (by simp;omega) λ h' eb=>⟨rfl,I.turned (t':=s.toks) (λ b o hb e=>eb b o hb e) f0 f1 f3 f4 f5⟩
 self:=λ _ _ _ _ _ st h=>wpAny_pyIter_tupleiter st h
theorem Ga{P:Program}{w:World}(it:Addr)(lo:Int)(n:Nat):Turn P w K tg (Itr lo n) [it] it (λ i h=>IsRangeIter h it (lo+(i:Nat)*1) ((n:Int)-(i:Nat)) 1) where
 mem:=by simp
 obj:=λ i h st b hb=>by
  have e:b=it:=by simpa using hb
  subst e
  exact⟨_,st,λ v z=>by
   have z':Data.fields _=Data.cell v:=z
   cases z'⟩
 keep:=λ i h h' st k=>k it (by simp) _ st
 item:=by
  intro X hP hw hK hc i pins s σ H E I hf st hg
  subst hP hw hK
  obtain⟨f0,f1,f2,f3,f4,f5⟩:=hf it (by simp)
  have W:=Walks.range (prog:=X.prog) (w:=X.w) (I.ok.hd hc) it lo 1 n
  refine W.item i s _ _ hg st λ v h' tk hv st' kk=>?_
  obtain⟨t,rfl⟩:=hv
  have I1:Inv X pins σ H {s with heap:=h',toks:=tk}:=I.turned (λ b o hb e=>kk b o (by simpa using hb) e) f0 f1 f3 f4 f5
  refine⟨_,rfl,wX (s:={s with heap:=h',toks:=tk}) (n:="range_iterator") st' rfl rfl (by decide) ⟨.int (lo+i),H,I1,⟨t,?_⟩,⟨rfl,rfl⟩,st',λ b hb=>(hf b hb).1⟩⟩
  rw[Int.mul_one]
 done:=by
  intro X hP hw hK hc i pins s σ H E I hf st hg
  subst hP hw hK
  obtain⟨f0,f1,f2,f3,f4,f5⟩:=hf it (by simp)
  exact wpAny_pyNext_range_end (I.ok.hd hc) st (by have:n≤i:=hg;omega) λ h' eb=>⟨rfl,I.turned (t':=s.toks) (λ b o hb e=>eb b o hb e) f0 f1 f3 f4 f5⟩
 self:=λ _ _ _ _ _ st h=>wpAny_pyIter_rangeiter st h
end L2
namespace L2
open PySem PySem.Spec PyProof.Rows
section
variable {X : Cx} {tg : Expr}
theorem Ag{pins:List (Addr×Obj)}{σ:St}{H:Hp}{s:Shared}{R:It->Hp->Prop}{E:Value->Shared->Prop}{lo hi:Int}{t u v:Tok}{tk:Nat}(I:Inv X pins σ H s)(h1: -(2 ^ 62)≤lo)(h2:lo<2 ^ 62)(h3: -(2 ^ 62)≤hi)(h4:hi<2 ^ 62)
 (q:R (Itr lo (hi-lo).toNat) H):wpAny (model X.prog X.w) X.A (pyIter (.ref s.heap.objs.size)) (PIE X pins σ tg R) E {s with heap:=s.heap.push {cls:=.type "range",data:=.fields #[.int lo t,.int hi u,.int 1 v]},toks:=tk}:=by
 refine wpAny_pyIter_range (IsRange.new ..) (small_one h1 h2 h3 h4) ?_
 have I1:Inv X pins σ H {s with heap:=s.heap.push {cls:=.type "range",data:=.fields #[.int lo t,.int hi u,.int 1 v]},toks:=tk}:=I.kept λ b o e=>ZC _ e
 refine⟨(s.heap.push {cls:=.type "range",data:=.fields #[.int lo t,.int hi u,.int 1 v]}).objs.size,[(s.heap.push {cls:=.type "range",data:=.fields #[.int lo t,.int hi u,.int 1 v]}).objs.size],_,_,H,rfl,
  I1.kept (t':=tk) λ b o e=>ZC _ e,Ga _ lo (hi-lo).toNat,?_,λ b hb=>?_,q⟩
 . have e1:lo+((0:Nat):Int)*1=lo:=by simp
   have e2:(((hi-lo).toNat:Nat):Int)-((0:Nat):Int)=Builtin.Range.rangeSize lo hi 1:=by rw[rangeSize_one];split<;>omega
   show IsRangeIter _ _ (lo+((0:Nat):Int)*1) ((((hi-lo).toNat:Nat):Int)-((0:Nat):Int)) 1
   rw[e1,e2]
   exact ZD _ rfl
 . have e:b=(s.heap.push {cls:=.type "range",data:=.fields #[.int lo t,.int hi u,.int 1 v]}).objs.size:=by simpa using hb
   subst e
   exact I1.fpOk (x4 _) (I1.hok.fresh (x4 _))
noncomputable def Vh(ta:TA):TI:=λ σ H R=>ta σ H λ vs H1=>∃j:Int,vs=[.int j]/\ -(2 ^ 62)≤j/\j<2 ^ 62/\R (Itr 0 j.toNat) H1
noncomputable def Vb(ta:TA):TI:=λ σ H R=>ta σ H λ vs H1=>∃i j:Int,vs=[.int i,.int j]/\(-(2 ^ 62)≤i/\i<2 ^ 62/\ -(2 ^ 62)≤j/\j<2 ^ 62)/\R (Itr i (j-i).toNat) H1
theorem HS{a:Expr}{ta:TA}{p pos:Pos}(hg:Gl X "range")(hm:X.mg "range"=none)(ha:PA X [a] ta)(hs:starEach [a] X.env=[(false,eval a X.env)]:=by rfl):PI X tg (.Call (.Name "range" p) [a] [] pos) (Vh ta):=by
 intro pins s σ H R I h
 refine Call_ (bJ I hg hm boot_range (PyProof.Rows.callWith_type1 (thn (ha pos pins s σ H _ I h) λ us s1 ⟨vs,H1,I1,r1,q1⟩=>?_) hs rfl))
 obtain⟨j,e,q1,q2,q⟩:=q1
 subst e
 cases r1 with
 | cons r rr=>
   cases rr
   obtain⟨t,rfl⟩:=r
   exact call_range_1 (Ag I1 (by omega) (by omega) q1 q2 (by simpa using q))
theorem Hz{a b:Expr}{ta:TA}{p pos:Pos}(hg:Gl X "range")(hm:X.mg "range"=none)(ha:PA X [a,b] ta)(hs:starEach [a,b] X.env=[(false,eval a X.env),(false,eval b X.env)]:=by rfl)(hs2:starEach [b] X.env=[(false,eval b X.env)]:=by rfl):
 PI X tg (.Call (.Name "range" p) [a,b] [] pos) (Vb ta):=by
 intro pins s σ H R I h
 refine Call_ (bJ I hg hm boot_range (PyProof.Rows.callWith_type1 (thn (ha pos pins s σ H _ I h) λ us s1 ⟨vs,H1,I1,r1,q1⟩=>?_) (by rw[hs,hs2]) (by rw[hs2];rfl)))
 obtain⟨i,j,e,⟨q1,q2,q3,q4⟩,q⟩:=q1
 subst e
 cases r1 with
 | cons r rr=>
   cases rr with
   | cons r' rr=>
     cases rr
     obtain⟨t,rfl⟩:=r
     obtain⟨t',rfl⟩:=r'
     exact call_range_2 (Ag I1 q1 q2 q3 q4 q)
noncomputable def VF(wi:TI)(g:TG)(tb:TS):TS:=λ D σ H=>wi σ H λ J H1=>∃W:Nat->Nat->St->Hp->Prop,(∃m,W 0 m σ H1)/\∀i m σ H,W i m σ H->
 (J.stop i H/\D.nx σ H)∨(J.go i H/\∃N:St->Hp->Prop,(∀σ' H',N σ' H'->∃m',m'<m/\W (i+1) m' σ' H')/\∀x H',J.yld i H x H'->g x σ H' λ σ2 H2=>tb {D with nx:=N,ct:=N,bk:=D.nx} σ2 H2)
noncomputable def mU(fp:List Addr)(h:Heap):List (Addr×Obj):=fp.filterMap λ b=>(h.get? b).map λ o=>(b,o)
theorem gq{fp:List Addr}{h:Heap}{b:Addr}{o:Obj}(hb:b∈fp)(e:h.get? b=some o):(b,o)∈mU fp h:=List.mem_filterMap.mpr ⟨b,hb,by rw[e];rfl⟩
theorem Ja{fp:List Addr}{h:Heap}{p:Addr×Obj}(hp:p∈mU fp h):p.1∈fp/\h.get? p.1=some p.2:=by
 obtain⟨b,hb,e⟩:=List.mem_filterMap.mp hp
 cases q:h.get? b with
 | none=>rw[q]at e;cases e
 | some o=>
   rw[q]at e
   have e':(b,o)=p:=Option.some.inj e
   subst e'
   exact⟨hb,q⟩
theorem Inv.pinned{pins:List (Addr×Obj)}{σ:St}{H:Hp}{s:Shared}{fp:List Addr}(I:Inv X pins σ H s)(hf:∀b∈fp,fC X pins H b)(ho:∀b∈fp,∃o,s.heap.get? b=some o/\∀v,o.data≠.cell v):Inv X (pins++mU fp s.heap) σ H s:=
 I.pins_of λ p hp=>(ZK.mp hp).elim (λ z=>I.pin p (List.mem_append_right _ z)) λ z=>by
  obtain⟨hb,e⟩:=Ja z
  obtain⟨f0,f1,f2,_⟩:=hf p.1 hb
  obtain⟨o,e',d⟩:=ho p.1 hb
  rw[e]at e';cases e'
  exact⟨e,f0,f1,f2,d⟩
theorem Inv.unpinned{pins pl:List (Addr×Obj)}{σ:St}{H:Hp}{s:Shared}(I:Inv X (pins++pl) σ H s):Inv X pins σ H s:=I.pins_of λ p hp=>I.pin p (List.mem_append_right _ (List.mem_append_left _ hp))
theorem JF{iter:Expr}{body:List Stmt}{wi:TI}{g:TG}{tb:TS}{pos:Pos}(hp:PassesOwn (model X.prog X.w) X.A X.env X.xe)(hc:X.calm=true)(hi:PI X tg iter wi)(hg:PG X tg g)(hb:PSs X body tb)
 (hs:∀x,foldedSetIterable iter X.env x=pure x:=by intro _;rfl):PS X (.For tg iter body [] pos) (VF wi g tb):=by
 intro pins s σ H D I h
 refine wpAny_For (thn (hi pins s σ H _ I h) λ v s1 h1=>thn h1 λ itv s2 h2=>?_) hs
 obtain⟨it,fp,tn,J,H2,e,I2,T,st2,f2,W,⟨m0,w0⟩,turn⟩:=h2
 subst e
 have stat:∀{H':Hp},(∀b∈fp,H' b=none)->∀b∈fp,fC X pins H' b:=λ hn b hb=>⟨hn b hb,(f2 b hb).2⟩
 refine codeAny_forLoop_any (λ n s'=>∃i σ' H',Inv X pins σ' H' s'/\tn i s'.heap/\(∀b∈fp,H' b=none)/\W i n σ' H') ?_ m0 ⟨0,σ,H2,I2,st2,λ b hb=>(f2 b hb).1,w0⟩
 rintro n s3 ⟨i,σ3,H3,I3,st3,fr3,w3⟩
 rcases turn i n σ3 H3 w3 with⟨stop,qn⟩ | ⟨go,N,hN,step⟩
 . refine wpAny_passesOwn hp (thn (T.done X rfl rfl rfl hc i pins s3 σ3 H3 X.xe I3 (stat fr3) st3 stop) λ r s4 ⟨hr,I4⟩=>?_)
   subst hr
   exact wpAny_execs_nil ⟨σ3,H3,I4,qn⟩
 . refine wpAny_passesOwn hp (thn (T.item X rfl rfl rfl hc i pins s3 σ3 H3 X.xe I3 (stat fr3) st3 go) λ r s4 ⟨u,hr,h4⟩=>?_)
   subst hr
   refine wpAny_passesOwn hp (thn h4 λ _ s5 ⟨x,H5,I5,r5,y5,st5,fr5⟩=>?_)
   have I5':=I5.pinned (stat fr5) (T.obj _ _ st5)
   refine wpAny_passesOwn hp (thn (hg _ s5 σ3 H5 x u _ I5' r5 (step x H5 y5)) λ _ s6 ⟨σ6,H6,I6,q6⟩=>?_)
   refine wpAny_passesOwn hp (thn (hb _ s6 σ6 H6 _ I6 q6) λ f s7 q7=>?_)
   have again:∀{σ7:St}{H7:Hp},Inv X (pins++mU fp s5.heap) σ7 H7 s7->N σ7 H7->∃m,m<n/\∃i σ' H',Inv X pins σ' H' s7/\tn i s7.heap/\(∀b∈fp,H' b=none)/\W i m σ' H':=λ{σ7 H7} I7 n7=>by
    obtain⟨m',hm,w7⟩:=hN σ7 H7 n7
    refine⟨m',hm,i+1,σ7,H7,I7.unpinned,T.keep _ _ _ st5 λ b hb o e=>(I7.pin (b,o) (List.mem_append_right _ (List.mem_append_right _ (gq hb e)))).1,λ b hb=>?_,w7⟩
    obtain⟨o,e,d⟩:=T.obj _ _ st5 b hb
    exact(I7.pin (b,o) (List.mem_append_right _ (List.mem_append_right _ (gq hb e)))).2.1
   cases f with
   | next=>obtain⟨σ7,H7,I7,n7⟩:=q7;exact again I7 n7
   | cont=>obtain⟨σ7,H7,I7,n7⟩:=q7;exact again I7 n7
   | brk=>obtain⟨σ7,H7,I7,q7⟩:=q7;exact⟨σ7,H7,I7.unpinned,q7⟩
   | ret v=>obtain⟨x7,σ7,H7,I7,r7,q7⟩:=q7;exact⟨x7,σ7,H7,I7.unpinned,r7,q7⟩
end
end L2
namespace L2
open PySem PySem.Spec PyProof.Rows
noncomputable abbrev R2:=V->V->Hp->VK->Prop
noncomputable def OpR(X:Cx)(f:Value->Value->Sem Value)(r:R2):Prop:=
 ∀ (pins:List (Addr×Obj))(s:Shared)(σ:St)(H:Hp)(x y:V)(v u:Value)(Q:VK),Inv X pins σ H s->RelV x v->RelV y u->r x y H Q->
   wpAny (model X.prog X.w) X.A (f v u) (EP X pins σ Q) X.xe s
noncomputable def UnR(X:Cx)(f:Value->Sem Value)(r:V->Hp->VK->Prop):Prop:=
 ∀ (pins:List (Addr×Obj))(s:Shared)(σ:St)(H:Hp)(x:V)(v:Value)(Q:VK),Inv X pins σ H s->RelV x v->r x H Q->
   wpAny (model X.prog X.w) X.A (f v) (EP X pins σ Q) X.xe s
noncomputable def gj(X:Cx)(f:Value)(r:List V->Hp->VK->Prop):Prop:=
 ∀ (pins:List (Addr×Obj))(s:Shared)(σ:St)(H:Hp)(xs:List V)(us:List Value)(Q:VK),Inv X pins σ H s->Vals xs us->r xs H Q->
   wpAny (model X.prog X.w) X.A (call f us) (EP X pins σ Q) X.xe s
noncomputable def rI(C:Int->Int->Prop)(g:Int->Int->V):R2:=λ x y H Q=>∃i j,x=.int i/\y=.int j/\C i j/\Q (g i j) H
noncomputable def rI0(g:Int->Int->V):R2:=λ x y H Q=>∃i j,x=.int i/\y=.int j/\Q (g i j) H
noncomputable def rU(g:Int->V):V->Hp->VK->Prop:=λ x H Q=>∃i,x=.int i/\Q (g i) H
section
variable {X : Cx} {a b c : Expr} {ta tb tc : TE} {pos : Pos}
theorem opI{f:Value->Value->Sem Value}{C:Int->Int->Prop}{g:Int->Int->Int}
 (rule:∀(i j:Int)(t u:Tok)(s:Shared)(Q:Value->Shared->Prop)(E:Value->Shared->Prop),C i j->Q (.int (g i j) s.toks) {s with toks:=s.toks+1}->wpAny (model X.prog X.w) X.A (f (.int i t) (.int j u)) Q E s):
 OpR X f (rI C λ i j=>.int (g i j)):=by
 intro pins s σ H x y v u Q I rx ry h
 obtain⟨i,j,rfl,rfl,hc,q⟩:=h
 obtain⟨t,rfl⟩:=rx
 obtain⟨t',rfl⟩:=ry
 exact rule i j t t' s _ _ hc ⟨.int (g i j),H,I.tok _,⟨_,rfl⟩,q⟩
theorem Rm{f:Value->Value->Sem Value}{g:Int->Int->Int}
 (rule:∀(i j:Int)(t u:Tok)(s:Shared)(Q:Value->Shared->Prop)(E:Value->Shared->Prop),Q (.int (g i j) s.toks) {s with toks:=s.toks+1}->wpAny (model X.prog X.w) X.A (f (.int i t) (.int j u)) Q E s):
 OpR X f (rI0 λ i j=>.int (g i j)):=by
 intro pins s σ H x y v u Q I rx ry h
 obtain⟨i,j,rfl,rfl,q⟩:=h
 obtain⟨t,rfl⟩:=rx
 obtain⟨t',rfl⟩:=ry
 exact rule i j t t' s _ _ ⟨.int (g i j),H,I.tok _,⟨_,rfl⟩,q⟩
theorem GX{f:Value->Value->Sem Value}{g:Int->Int->Bool}
 (rule:∀(i j:Int)(t u:Tok)(s:Shared)(Q:Value->Shared->Prop)(E:Value->Shared->Prop),Q (.bool (g i j)) s->wpAny (model X.prog X.w) X.A (f (.int i t) (.int j u)) Q E s):
 OpR X f (rI0 λ i j=>.bl (g i j)):=by
 intro pins s σ H x y v u Q I rx ry h
 obtain⟨i,j,rfl,rfl,q⟩:=h
 obtain⟨t,rfl⟩:=rx
 obtain⟨t',rfl⟩:=ry
 exact rule i j t t' s _ _ ⟨.bl (g i j),H,I,rfl,q⟩
noncomputable def VD(i j:Int):Prop:=0<j/\j<1073741824
noncomputable def CPow(i j:Int):Prop:=0≤j/\j≤1000000/\i.natAbs<2 ^ 64
noncomputable def CMul(i j:Int):Prop:=(-(2 ^ 64)<i/\i<2 ^ 64)∨(-(2 ^ 64)<j/\j<2 ^ 64)
theorem CMul.ok{i j:Int}(h:CMul i j):IntMulOk i j:=by
 rcases h with⟨h1,h2⟩ | ⟨h1,h2⟩
 . exact .of_left (intBits_le_64 h1 h2)
 . exact .of_right (intBits_le_64 h1 h2)
theorem Rf:OpR X (binaryOp .Add) (rI0 λ i j=>.int (i+j)):=Rm λ _ _ _ _ _ _ _ q=>add_int q
theorem Rt:OpR X (binaryOp .Sub) (rI0 λ i j=>.int (i-j)):=Rm λ _ _ _ _ _ _ _ q=>sub_int q
theorem Rp:OpR X (binaryOp .Mult) (rI CMul λ i j=>.int (i*j)):=opI λ _ _ _ _ _ _ _ hc q=>mul_int q hc.ok
theorem Oj:OpR X (binaryOp .FloorDiv) (rI VD λ i j=>.int (i/j)):=opI λ i j _ _ _ _ _ hc q=>by
 have h1:(0:Int)<j:=hc.1
 have h2:j<1073741824:=hc.2
 exact floordiv_int (by omega) (by rw[Int.fdiv_eq_ediv_of_nonneg i (by omega)];exact q) (.inl (PyProof.noPylong_small (by omega)))
theorem SM:OpR X (binaryOp .Mod) (rI (λ _ j=>0<j) λ i j=>.int (i % j)):=opI λ i j _ _ _ _ _ hc q=>by
 have h1:(0:Int)<j:=hc
 exact mod_int' (by omega) (by rw[Int.fmod_eq_emod_of_nonneg i (by omega)];exact q)
theorem Ri:OpR X (binaryOp .Pow) (rI CPow λ i j=>.int (i ^ j.toNat)):=opI λ _ _ _ _ _ _ _ hc q=>pow_int_small hc.1 hc.2.1 hc.2.2 q
theorem unI{f:Value->Sem Value}{g:Int->Int}
 (rule:∀(i:Int)(t:Tok)(s:Shared)(Q:Value->Shared->Prop)(E:Value->Shared->Prop),Q (.int (g i) s.toks) {s with toks:=s.toks+1}->wpAny (model X.prog X.w) X.A (f (.int i t)) Q E s):
 UnR X f (rU λ i=>.int (g i)):=by
 intro pins s σ H x v Q I rx h
 obtain⟨i,rfl,q⟩:=h
 obtain⟨t,rfl⟩:=rx
 exact rule i t s _ _ ⟨.int (g i),H,I.tok _,⟨_,rfl⟩,q⟩
theorem Q6:UnR X (unaryOp .USub) (rU λ i=>.int (-i)):=unI λ _ _ _ _ _ q=>neg_int q
end
noncomputable def Th:V->V->Bool
 | .non,.non=>true | .non,.int _=>true | .int _,.non=>true | .non,.bl _=>true | .bl _,.non=>true | .non,.str _=>true | .str _,.non=>true
 | .int _,.int _=>true | .bl _,.bl _=>true | .str _,.str _=>true | .byt _,.byt _=>true
 | .int _,.str _=>true | .str _,.int _=>true | .bl _,.str _=>true | .str _,.bl _=>true
 | _,_=>false
noncomputable def rEq:R2:=λ x y H Q=>Th x y=true/\Q (.bl (decide (x=y))) H
noncomputable def rNe:R2:=λ x y H Q=>Th x y=true/\Q (.bl (!decide (x=y))) H
theorem oX{i j:Int}:decide (V.int i=V.int j)=(i==j):=by
 rw[Bool.eq_iff_iff]
 simp
theorem rJ{i j:Bool}:decide (V.bl i=V.bl j)=(i==j):=by
 rw[Bool.eq_iff_iff]
 simp
theorem Dv{i j:Str}:decide (V.str i=V.str j)=(i==j):=by
 rw[Bool.eq_iff_iff]
 simp
theorem Ey{i j:Array UInt8}:decide (V.byt i=V.byt j)=(i.toList==j.toList):=by
 rw[Bool.eq_iff_iff]
 cases i
 cases j
 simp
section
variable {X : Cx} {a b c : Expr} {ta tb tc : TE} {pos : Pos}
theorem aG{pins:List (Addr×Obj)}{σ:St}{H:Hp}{s:Shared}{Q:VK}{k k':Bool}(I:Inv X pins σ H s)(q:Q (.bl k) H)(e:k=k'):EP X pins σ Q (.bool k') s:=by
 subst e
 exact⟨.bl k,H,I,rfl,q⟩
theorem Nx:OpR X (compareOp .Eq) rEq:=by
 intro pins s σ H x y v u Q I rx ry h
 obtain⟨hs,q⟩:=h
 cases x with
 | non=>
   cases rx
   cases y with
   | non=>cases ry;exact PySem.EqNone.eq_none_none (aG I q (by simp))
   | bl j=>cases ry;exact PySem.EqNone.eq_none_bool (aG I q (by simp))
   | int j=>obtain⟨t',rfl⟩:=ry;exact PySem.EqNone.eq_none_int (aG I q (by simp))
   | str j=>obtain⟨t',rfl⟩:=ry;exact PySem.EqNone.eq_none_str (aG I q (by simp))
   | _=>exact absurd (show false=true from hs) y7
 | bl i=>
   cases rx
   cases y with
   | non=>cases ry;exact PySem.EqNone.eq_bool_none (aG I q (by simp))
   | bl j=>cases ry;exact eq_bool (aG I q rJ)
   | str j=>obtain⟨t',rfl⟩:=ry;exact PySem.EqMixed.eq_bool_str (aG I q (by simp))
   | _=>exact absurd (show false=true from hs) y7
 | int i=>
   obtain⟨t,rfl⟩:=rx
   cases y with
   | non=>cases ry;exact PySem.EqNone.eq_int_none (aG I q (by simp))
   | int j=>obtain⟨t',rfl⟩:=ry;exact eq_int (aG I q oX)
   | str j=>obtain⟨t',rfl⟩:=ry;exact PySem.EqMixed.eq_int_str (aG I q (by simp))
   | _=>exact absurd (show false=true from hs) y7
 | str i=>
   obtain⟨t,rfl⟩:=rx
   cases y with
   | non=>cases ry;exact PySem.EqNone.eq_str_none (aG I q (by simp))
   | bl j=>cases ry;exact PySem.EqMixed.eq_str_bool (aG I q (by simp))
   | int j=>obtain⟨t',rfl⟩:=ry;exact PySem.EqMixed.eq_str_int (aG I q (by simp))
   | str j=>obtain⟨t',rfl⟩:=ry;exact eq_str (aG I q Dv)
   | _=>exact absurd (show false=true from hs) y7
 | byt i=>
   obtain⟨t,rfl⟩:=rx
   cases y with
   | byt j=>obtain⟨t',rfl⟩:=ry;exact PySem.W.eq_bytes (aG I q Ey)
   | _=>exact absurd (show false=true from hs) y7
 | _=>cases y<;>exact absurd (show false=true from hs) y7
theorem Od:OpR X (compareOp .NotEq) rNe:=by
 intro pins s σ H x y v u Q I rx ry h
 obtain⟨hs,q⟩:=h
 cases x with
 | non=>
   cases rx
   cases y with
   | non=>cases ry;exact PySem.EqNone.ne_none_none (aG I q (by simp))
   | bl j=>cases ry;exact PySem.EqNone.ne_none_bool (aG I q (by simp))
   | int j=>obtain⟨t',rfl⟩:=ry;exact PySem.EqNone.ne_none_int (aG I q (by simp))
   | str j=>obtain⟨t',rfl⟩:=ry;exact PySem.EqNone.ne_none_str (aG I q (by simp))
   | _=>exact absurd (show false=true from hs) y7
 | bl i=>
   cases rx
   cases y with
   | non=>cases ry;exact PySem.EqNone.ne_bool_none (aG I q (by simp))
   | bl j=>cases ry;exact ne_bool (aG I q (congrArg not rJ))
   | str j=>obtain⟨t',rfl⟩:=ry;exact PySem.EqMixed.ne_bool_str (aG I q (by simp))
   | _=>exact absurd (show false=true from hs) y7
 | int i=>
   obtain⟨t,rfl⟩:=rx
   cases y with
   | non=>cases ry;exact PySem.EqNone.ne_int_none (aG I q (by simp))
   | int j=>obtain⟨t',rfl⟩:=ry;exact ne_int (aG I q (congrArg not oX))
   | str j=>obtain⟨t',rfl⟩:=ry;exact PySem.EqMixed.ne_int_str (aG I q (by simp))
   | _=>exact absurd (show false=true from hs) y7
 | str i=>
   obtain⟨t,rfl⟩:=rx
   cases y with
   | non=>cases ry;exact PySem.EqNone.ne_str_none (aG I q (by simp))
   | bl j=>cases ry;exact PySem.EqMixed.ne_str_bool (aG I q (by simp))
   | int j=>obtain⟨t',rfl⟩:=ry;exact PySem.EqMixed.ne_str_int (aG I q (by simp))
   | str j=>obtain⟨t',rfl⟩:=ry;exact ne_str (aG I q (congrArg not Dv))
   | _=>exact absurd (show false=true from hs) y7
 | byt i=>
   obtain⟨t,rfl⟩:=rx
   cases y with
   | byt j=>obtain⟨t',rfl⟩:=ry;exact PySem.W.ne_bytes (aG I q (congrArg not Ey))
   | _=>exact absurd (show false=true from hs) y7
 | _=>cases y<;>exact absurd (show false=true from hs) y7
theorem Uo:OpR X (compareOp .Lt) (rI0 λ i j=>.bl (decide (i<j))):=GX λ _ _ _ _ _ _ _ q=>lt_int q
theorem U7:OpR X (compareOp .LtE) (rI0 λ i j=>.bl (decide (i≤j))):=GX λ _ _ _ _ _ _ _ q=>le_int q
theorem UV:OpR X (compareOp .Gt) (rI0 λ i j=>.bl (decide (j<i))):=GX λ _ _ _ _ _ _ _ q=>gt_int q
theorem Us:OpR X (compareOp .GtE) (rI0 λ i j=>.bl (decide (j≤i))):=GX λ _ _ _ _ _ _ _ q=>ge_int q
theorem R3:OpR X (compareOp .Is) (λ x y H Q=>y=.non/\Q (.bl (decide (x=.non))) H):=by
 intro pins s σ H x y v u Q I rx ry h
 obtain⟨rfl,q⟩:=h
 cases ry
 refine is_none_gen (aG I q ?_)
 cases x<;>first
  | (cases rx;rfl)
  | (obtain⟨t,rfl⟩:=rx;rfl)
theorem Qo:OpR X (compareOp .IsNot) (λ x y H Q=>y=.non/\Q (.bl (!decide (x=.non))) H):=by
 intro pins s σ H x y v u Q I rx ry h
 obtain⟨rfl,q⟩:=h
 cases ry
 refine isnot_none_gen (aG I q ?_)
 cases x<;>first
  | (cases rx;rfl)
  | (obtain⟨t,rfl⟩:=rx;rfl)
theorem tB:(sizeLine:Nat)<2 ^ 63:=by rw[sizeLine_eq];decide
theorem vals1{x:V}{us:List Value}(r:Vals [x] us):∃u,us=[u]/\RelV x u:=by
 cases r with
 | cons r1 r2=>cases r2;exact⟨_,rfl,r1⟩
theorem vals2{x y:V}{us:List Value}(r:Vals [x,y] us):∃u w',us=[u,w']/\RelV x u/\RelV y w':=by
 cases r with
 | cons r1 r2=>
   cases r2 with
   | cons r3 r4=>cases r4;exact⟨_,_,rfl,r1,r3⟩
theorem Ni:gj X (.builtin "abs") (λ xs H Q=>∃i,xs=[.int i]/\Q (.int (if i<0 then-i else i)) H):=by
 intro pins s σ H xs us Q I r h
 obtain⟨i,rfl,q⟩:=h
 obtain⟨u,rfl,t,rfl⟩:=vals1 r
 exact call_abs_int λ u tk=>⟨.int (if i<0 then-i else i),H,I.tok _,⟨_,rfl⟩,q⟩
theorem JD(hc:X.calm=true):gj X (.builtin "max") (λ xs H Q=>∃i j,xs=[.int i,.int j]/\Q (.int (if j>i then j else i)) H):=by
 intro pins s σ H xs us Q I r h
 obtain⟨i,j,rfl,q⟩:=h
 obtain⟨u,w',rfl,⟨t,rfl⟩,⟨t',rfl⟩⟩:=vals2 r
 refine max_two_ints (I.ok.hd hc) λ h' tk k=>⟨_,H,I.kept k,?_,q⟩
 by_cases hj:j>i
 . rw[if_pos hj,if_pos hj];exact⟨_,rfl⟩
 . rw[if_neg hj,if_neg hj];exact⟨_,rfl⟩
theorem Hy(hc:X.calm=true):gj X (.builtin "min") (λ xs H Q=>∃i j,xs=[.int i,.int j]/\Q (.int (if j<i then j else i)) H):=by
 intro pins s σ H xs us Q I r h
 obtain⟨i,j,rfl,q⟩:=h
 obtain⟨u,w',rfl,⟨t,rfl⟩,⟨t',rfl⟩⟩:=vals2 r
 refine min_two_ints (I.ok.hd hc) λ h' tk k=>⟨_,H,I.kept k,?_,q⟩
 by_cases hj:j<i
 . rw[if_pos hj,if_pos hj];exact⟨_,rfl⟩
 . rw[if_neg hj,if_neg hj];exact⟨_,rfl⟩
end
end L2
namespace L2
open PySem PySem.Spec PyProof.Rows
structure Room(k:Nat)(A:Around):Prop where
 hd:A.handled=none
 dp:A.depth+3*k+5<recursionLimit
 un:A.units+16*k+200<cLine
theorem Room.mono{j k:Nat}{A:Around}(r:Room k A)(h:j≤k):Room j A:=⟨r.hd,by have:=r.dp;omega,by have:=r.un;omega⟩
theorem Room.deeper{k:Nat}{A:Around}(r:Room (k+1) A)(env:Env):Room k (A.deeper env):=
 ⟨r.hd,by have:=r.dp;show A.depth+1+3*k+5<_;omega,by have:=r.un;show A.units+3+16*k+200<_;omega⟩
theorem Room.depth{k:Nat}{A:Around}(r:Room k A):A.depth<recursionLimit:=by have:=r.dp;omega
noncomputable def V1:TA:=λ _ H Q=>Q [] H
noncomputable def Uj(ta:TE)(tr:TA):TA:=λ σ H Q=>ta σ H λ x H1=>tr σ H1 λ xs H2=>Q (x::xs) H2
section
variable {X : Cx} {e : Expr} {es : List Expr} {te : TE} {t : TA} {pos : Pos}
theorem zL:PA X [] V1:=λ _ _ _ _ H Q I h=>Calls.spliced_nil ⟨[],H,I,.nil,h⟩
theorem oY(ha:PE X e te)(hr:PA X es t)(hs:starEach (e::es) X.env=(false,eval e X.env)::starEach es X.env:=by rfl):PA X (e::es) (Uj te t):=by
 intro pos pins s σ H Q I h
 rw[hs]
 show wpAny _ _ (spliced ((false,eval e X.env)::backTo pos (starEach es X.env))) _ _ s
 refine Calls.spliced_cons (thn (ha pins s σ H _ I h) λ u s1 ⟨x,H1,I1,r1,q1⟩=>?_)
 exact thn (hr pos pins s1 σ H1 _ I1 q1) λ us s2 ⟨xs,H2,I2,r2,q2⟩=>⟨x::xs,H2,I2,.cons r1 r2,q2⟩
end
noncomputable abbrev Sp:=List V->Hp->VK->XK->Prop
noncomputable abbrev CXT:=List Env->Hp->Shared->XK->Value->Shared->Prop
structure Env0(P:Program)(w:World)(K:PySem.W.Frag)(mg:Str->Option Value)(base:Heap)(A:Around)(outer:List Env)(s:Shared)(H:Hp):Prop where
 frames:A.frames=some outer
 mod:Mod K mg base
 bs:∀b o,base.get? b=some o->s.heap.get? b=some o/\H b=none
 bsz:base.objs.size≤s.heap.objs.size
 funs:s.heap.FunFrames base outer
 frf:∀b∈frs outer,H b=none
 hok:HOk P w H s.heap
 bare:AllBare s.gens
noncomputable def CE(outer:List Env)(P:Program)(w:World)(H:Hp)(s:Shared)(Q:VK)(u:Value)(s':Shared):Prop:=
 ∃v H',s'.os=s.os/\AllBare s'.gens/\Un (frs outer) [] H H' s.heap s'.heap/\HOk P w H' s'.heap/\RelV v u/\Q v H'
noncomputable def CR(CX:CXT)(outer:List Env)(P:Program)(w:World)(H:Hp)(s:Shared)(Q:VK)(E:XK)(r:Result)(s':Shared):Prop:=
 match r with
 | .ok (.ret u)=>CE outer P w H s Q u s'
 | .ok _=>False
 | .error e=>CX outer H s E e s'
structure FnOk(P:Program)(w:World)(K:PySem.W.Frag)(mg:Str->Option Value)(base:Heap)(CX:CXT)(k:Nat)(f:Addr)(fd:FuncData)(ps:List Str)(sp:Sp):Prop where
 len:∀vs H Q E,sp vs H Q E->vs.length=ps.length
 run:∀(A:Around)(outer:List Env)(s:Shared)(H:Hp)(args:Args)(us:List Value)(vs:List V)(Q:VK)(E:XK),Room k A->Env0 P w K mg base A outer s H->BindsTo s fd args (ps.zip us)->Vals vs us->sp vs H Q E->
  codeAny (model P w) A (.call (.ref f) args) (CR CX outer P w H s Q E) s
section
variable {X : Cx} {pins : List (Addr × Obj)} {σ : St} {H : Hp} {s s' : Shared}
theorem Inv.env0(I:Inv X pins σ H s):Env0 X.prog X.w X.K X.mg X.base X.A X.stack s H:=
 ⟨I.ok.frames,I.ok.mod,I.bs,Nat.le_trans I.ok.bsz I.sz,I.stack,I.stkFree,I.hok,I.bare⟩
theorem Inv.after{Q:VK}{u:Value}(I:Inv X pins σ H s)(h:CE X.stack X.prog X.w H s Q u s'):EP X pins σ Q u s':=by
 obtain⟨v,H',os,bare,un,hok,r,q⟩:=h
 obtain⟨hh,g,d,t,os'⟩:=s'
 obtain rfl:os'=s.os:=os
 exact⟨v,H',I.call (h':=hh) (g':=g) (d':=d) (t':=t) (ch:=[]) un hok bare (λ b z=>absurd z (by simp)),r,q⟩
end
noncomputable def Binds(K:PySem.W.Frag)(fd:FuncData)(ps:List Str)(ds:List Value):Prop:=
 ∀(s:Shared)(us:List Value),K.In s.heap->(us++ds).length=ps.length->BindsTo s fd ⟨us,[]⟩ (ps.zip (us++ds))
theorem Binds.all{K:PySem.W.Frag}{fd:FuncData}{ps:List Str}(h:∀us:List Value,us.length=ps.length->bindArgs fd ⟨us,[]⟩=pure (ps.zip us)):Binds K fd ps []:=λ s us _ hl=>by
 rw[List.append_nil]at hl ⊢
 exact .of_eq (h us hl)
noncomputable def Iv(CX:CXT)(X:Cx)(E:XK):Prop:=∀(pins:List (Addr×Obj))(σ:St)(H:Hp)(s:Shared)(e:Value)(s':Shared),Inv X pins σ H s->CX X.stack H s E e s'->X.xe e s'
section
variable {X : Cx} {CX : CXT} {k : Nat} {f C : Addr} {fd : FuncData} {ps : List Str} {sp : Sp} {dvs : List V} {ds : List Value} {E : XK} {x m : Str} {p pos apos : Pos} {e o : Expr} {es : List Expr} {ta : TE} {t : TA}
theorem Tt{pins:List (Addr×Obj)}{σ:St}{H:Hp}{s:Shared}{Q:VK}{us:List Value}{vs:List V}(F:FnOk X.prog X.w X.K X.mg X.base CX k f fd ps sp)(hr:Room k X.A)(hb:Binds X.K fd ps ds)(hd:Vals dvs ds)(hx:Iv CX X E)
 (I:Inv X pins σ H s)(r:Vals vs us)(h:sp (vs++dvs) H Q E):wpAny (model X.prog X.w) X.A (call (.ref f) us) (EP X pins σ Q) X.xe s:=by
 have r2:Vals (vs++dvs) (us++ds):=r.append hd
 have hl:(us++ds).length=ps.length:=by rw[←r2.length];exact F.len _ _ _ _ h
 refine wpAny_call (codeAny_mono (F.run X.A X.stack s H ⟨us,[]⟩ (us++ds) (vs++dvs) Q E hr I.env0 (hb s us I.kIn hl) r2 h) λ r s' hq=>?_)
 cases r with
 | error e=>exact hx pins σ H s e s' I hq
 | ok fl=>
   cases fl with
   | ret u=>exact I.after hq
   | next=>exact False.elim hq
   | brk=>exact False.elim hq
   | cont=>exact False.elim hq
end
structure FnScope(N P:List Str)(sc:Scope):Prop where
 kind:sc.kind=.function
 co:sc.isCoroutine=false
 gen:sc.isGenerator=false
 nd:N.Nodup
 pre:N.take P.length=P
 par:∀x∈P,sc.names.lookup x=some .local∨sc.names.lookup x=some .cell
 nofree:∀y∈sc.names,y.2≠.free
theorem uY{kindOf:Str->Option NameKind}{x:Str}:∀{binds:List (Str×Value)}{m:Str->Option Value},(∀v,(x,v)∉binds)->bindL kindOf binds m x=m x
 | [],_,_=>rfl
 | (n,v)::r,m,h=>by
   unfold bindL
   rw[uY λ w hw=>h w (x5 _ hw)]
   split
   . have:x≠n:=by rintro rfl;exact h v x8
     simp[this]
   . rfl
theorem vq{kindOf:Str->Option NameKind}{x:Str}:∀{binds:List (Str×Value)}{m:Str->Option Value},(∀v,(x,v)∉binds)->bindC kindOf binds m x=m x
 | [],_,_=>rfl
 | (n,v)::r,m,h=>by
   unfold bindC
   rw[vq λ w hw=>h w (x5 _ hw)]
   split
   . rfl
   . have:x≠n:=by rintro rfl;exact h v x8
     simp[this]
theorem vo{kindOf:Str->Option NameKind}{x:Str}{v:Value}:∀{P:List Str}{vs:List Value}{i:Nat}{m:Str->Option Value},P.Nodup->P[i]? =some x->vs[i]? =some v->kindOf x=some .local->
 bindL kindOf (P.zip vs) m x=some v
 | [],_,_,_,_,h,_,_=>by simp at h
 | _::_,[],_,_,_,_,h,_=>by simp at h
 | p::P,w::vs,0,m,nd,h1,h2,hk=>by
   simp at h1 h2;subst h1;subst h2
   show bindL kindOf ((p,w)::P.zip vs) m p=_
   unfold bindL
   rw[uY λ v hv=>(List.nodup_cons.mp nd).1 (List.of_mem_zip hv).1,if_pos hk]
   simp
 | p::P,w::vs,i+1,m,nd,h1,h2,hk=>by
   show bindL kindOf ((p,w)::P.zip vs) m x=_
   unfold bindL
   exact vo (i:=i) (List.nodup_cons.mp nd).2 (by simpa using h1) (by simpa using h2) hk
theorem vG{kindOf:Str->Option NameKind}{x:Str}{v:Value}:∀{P:List Str}{vs:List Value}{i:Nat}{m:Str->Option Value},P.Nodup->P[i]? =some x->vs[i]? =some v->kindOf x≠some .local->
 bindC kindOf (P.zip vs) m x=some v
 | [],_,_,_,_,h,_,_=>by simp at h
 | _::_,[],_,_,_,_,h,_=>by simp at h
 | p::P,w::vs,0,m,nd,h1,h2,hk=>by
   simp at h1 h2;subst h1;subst h2
   show bindC kindOf ((p,w)::P.zip vs) m p=_
   unfold bindC
   rw[vq λ v hv=>(List.nodup_cons.mp nd).1 (List.of_mem_zip hv).1,if_neg hk]
   simp
 | p::P,w::vs,i+1,m,nd,h1,h2,hk=>by
   show bindC kindOf ((p,w)::P.zip vs) m x=_
   unfold bindC
   exact vG (i:=i) (List.nodup_cons.mp nd).2 (by simpa using h1) (by simpa using h2) hk
noncomputable def start(N:List Str)(vs:List V):St:=vs.map some++List.replicate (N.length-vs.length) none
noncomputable def oA(CX:CXT)(P:Program)(w:World)(K:PySem.W.Frag)(mg:Str->Option Value)(base:Heap)(N:List Str)(qual:Str)(scope:Scope)(f:Addr)(cd:Value)(A:Around)(outer:List Env)(s:Shared)(H:Hp)(E:XK):Cx where
 prog:=P
 w:=w
 K:=K
 mg:=mg
 base:=base
 A:=A.deeper (envOfC qual scope s.heap.objs.size f cd)
 N:=N
 s₀:=s
 H₀:=H
 env:=envOfC qual scope s.heap.objs.size f cd
 outer:=outer
 stack:=envOfC qual scope s.heap.objs.size f cd::outer
 ex:=[]
 calm:=true
 fn:=λ _=>true
 pn:=[]
 xe:=λ e s'=>wpAny (model P w) (A.deeper (envOfC qual scope s.heap.objs.size f cd)) (leaving (envOfC qual scope s.heap.objs.size f cd) e) (λ _ s''=>CX outer H s E e s'') (λ e' s''=>CX outer H s E e' s'') s'
theorem yj{sc:Scope}{n:Nat}{x:Str}(h:sc.names.lookup x=some .cell):∃c,(cellsFrom n sc.names []).lookup x=some c:=by
 have q:=PySem.W.cellsFrom_some sc.names n [] (.inl h)
 exact Option.isSome_iff_exists.mp q
theorem HN{CX:CXT}{P:Program}{w:World}{K:PySem.W.Frag}{mg:Str->Option Value}{base:Heap}{N ps:List Str}{qual:Str}{scope:Scope}{f:Addr}{cd:Value}{A:Around}{outer:List Env}{s s1:Shared}{H:Hp}{E:XK}{us:List Value}{vs:List V}
 (S:FnScope N ps scope)(hd:A.handled=none)(e0:Env0 P w K mg base A outer s H)(hl:vs.length=ps.length)(r:Vals vs us)
 (x:InCallC s s.heap.objs.size (bindL (envOfC qual scope s.heap.objs.size f cd).kindOf (ps.zip us) λ _=>none) (cellsFrom (s.heap.objs.size+1) scope.names []) (bindC (envOfC qual scope s.heap.objs.size f cd).kindOf (ps.zip us) λ _=>none) s1):
 Inv (oA CX P w K mg base N qual scope f cd A outer s H E) [] (start N vs) H s1:=by
 have hpl:ps.length≤N.length:=by have:=congrArg List.length S.pre;rw[List.length_take]at this;omega
 obtain⟨h1,tk,rfl,hk⟩:=x.done
 have noA:∀b:Addr,b∉(oA CX P w K mg base N qual scope f cd A outer s H E).ex:=λ b z=>absurd (show b∈([]:List Addr)from z) (by simp)
 refine⟨⟨e0.mod,S.kind,rfl,rfl,x4 _,λ y z c h1 h2=>?_,λ y hy=>?_,λ y c _ h=>?_,λ _=>hd,Around.frames_deeper e0.frames,.inr ⟨rfl,rfl⟩,λ b z=>absurd z (noA b),e0.bs,e0.bsz,λ b _ _=>noA b,λ b z=>absurd z (noA b),e0.funs,e0.frf⟩,
  rfl,e0.bare,Un.kept hk,⟨_,x.toInCall.ns,λ i y v h1 h2 h3=>?_⟩,λ y c h=>⟨_,x.cell y c h⟩,e0.hok.fresh (x4 _),λ y c h=>?_,λ p hp=>absurd (show p∈([]:List (Addr×Obj))from hp) (by simp),e0.hok.kept hk,?_⟩
 . exact name_of_addr x.apart (PySem.mem_of_lookup h1) (PySem.mem_of_lookup h2)
 . have hy:scope.names.lookup y=some .cell∨scope.names.lookup y=some .free:=hy
   rcases hy with hy | hy
   . exact yj hy
   . exact absurd rfl (S.nofree _ (PySem.mem_of_lookup hy))
 . exact Nat.le_of_lt (x.above y c (PySem.mem_of_lookup h))
 . have hi:i<vs.length:=by
    unfold start at h2
    by_cases hi:i<vs.length
    . exact hi
    . rw[List.getElem?_append_right (by simpa using hi)]at h2
      rw[List.getElem?_replicate]at h2
      split at h2<;>cases h2
   have ha:vs[i]? =some v:=by
    unfold start at h2
    rw[w9 (by simpa using hi),y9]at h2
    cases e:vs[i]? with
    | none=>rw[e]at h2;cases h2
    | some a=>rw[e]at h2;cases h2;rfl
   obtain⟨u,hu,rv⟩:=r.get ha
   have hp:ps[i]? =some y:=by
    rw[←S.pre,List.getElem?_take_of_lt (by omega)];exact h1
   have ndP:ps.Nodup:=by rw[←S.pre];exact S.nd.sublist (List.take_sublist _ _)
   refine⟨u,rv,?_⟩
   rcases S.par y (y6 hp)with k | k
   . exact .inl ⟨k,vo ndP hp hu k⟩
   . obtain⟨c,e⟩:=yj (n:=s.heap.objs.size+1) k
     refine .inr ⟨.inl k,c,e,?_⟩
     have q:=x.cell y c e
     rw[vG ndP hp hu (by show scope.names.lookup y≠_;rw[k];decide)]at q
     exact q
 . exact e0.hok.fresh (Nat.le_of_lt (x.above y c (PySem.mem_of_lookup h)))
 . unfold start
   show _=N.length
   rw[x9,y8,List.length_replicate]
   omega
theorem Vj{CX:CXT}{P:Program}{w:World}{K:PySem.W.Frag}{mg:Str->Option Value}{base:Heap}{k:Nat}{f:Addr}{name qual:Str}{params:Arguments}{body:List Stmt}{scope:Scope}{dV kV doc pm cdv ct oc:Value}{an od:Option Addr}
 {osl:Array (Option Value)}{N ps:List Str}{sp:Sp}(lk:K.lookup f=some ⟨oc,od,.func (PySem.W.fnOf name qual params body scope dV kV doc pm an cdv ct),osl⟩)(hcd:PySem.W.codeIn K cdv qual=true)(S:FnScope N ps scope)
 (len:∀vs H Q E,sp vs H Q E->vs.length=ps.length)
 (hbody:∀(A:Around)(outer:List Env)(s:Shared)(H:Hp)(vs:List V)(Q:VK)(E:XK),Room k (A.deeper (envOfC qual scope s.heap.objs.size f cdv))->sp vs H Q E->
  ∃t,PSs (oA CX P w K mg base N qual scope f cdv A outer s H E) body t/\t {nx:=λ _ H'=>Q .non H',rt:=Q} (start N vs) H):
 FnOk P w K mg base CX (k+1) f (PySem.W.fnOf name qual params body scope dV kV doc pm an cdv ct) ps sp:=by
 refine⟨len,λ A outer s H args us vs Q E hr e0 hb r hsp=>?_⟩
 have hl:=len _ _ _ _ hsp
 have KX:K.In s.heap:=e0.mod.kin.keeps λ b o e=>(e0.bs b o e).1
 have lim:s.heap.NoLimit:=e0.mod.nolimit.keeps λ b o e=>(e0.bs b o e).1
 have hkind:∀y∈ps.zip us,scope.names.lookup y.1=some .local∨(scope.names.lookup y.1=some .cell/\((cellsFrom (s.heap.objs.size+1) scope.names []).lookup y.1).isSome=true):=λ⟨n,v⟩ hy=>by
  rcases S.par n (List.of_mem_zip hy).1 with q | q
  . exact .inl q
  . exact .inr ⟨q,PySem.W.cellsFrom_some _ _ _ (.inl q)⟩
 refine codeAny_call_function hr.depth (KX _ _ lk) rfl S.co S.gen rfl (PySem.W.codeRec_of KX hcd) (hb _ _ _ _ ?_)
 refine wpAny_newFunctionEnv_cells S.kind hkind λ env he s1 x=>?_
 subst he
 refine⟨lim.keeps x.toInCall.keep,codeAny_func ?_⟩
 obtain⟨t,ht,hq⟩:=hbody A outer s H vs Q E (hr.deeper _) hsp
 have I:Inv (oA CX P w K mg base N qual scope f cdv A outer s H E) [] (start N vs) H s1:=HN S hr.hd e0 hl r x
 refine wpAny_mono (ht [] s1 (start N vs) H _ I hq) (λ fl s' hs=>?_) λ e s' hs=>hs
 have fin:∀{σ':St}{H':Hp}{v:V}{u:Value},Inv (oA CX P w K mg base N qual scope f cdv A outer s H E) [] σ' H' s'->RelV v u->Q v H'->CE outer P w H s Q u s':=
  λ{σ' H' v u} J rv q=>⟨v,H',J.os,J.bare,J.base,J.hok,rv,q⟩
 cases fl with
 | ret u=>
   obtain⟨v,σ',H',J,rv,q⟩:=hs
   exact fin J rv q
 | next=>
   obtain⟨σ',H',J,q⟩:=hs
   exact fin (v:=V.non) (u:=Value.none) J rfl q
 | brk=>
   obtain⟨_,_,_,q⟩:=hs
   exact False.elim q
 | cont=>
   obtain⟨_,_,_,q⟩:=hs
   exact False.elim q
end L2
namespace L2
open PySem PySem.Spec PyProof.Rows
section
variable {X : Cx} {x : Str} {p pos : Pos} {e : Expr} {es : List Expr} {t : TA} {id T : String} {r : List V -> Hp -> VK -> Prop}
noncomputable def tCB(r:List V->Hp->VK->Prop)(t:TA):TE:=λ σ H Q=>t σ H λ vs H1=>r vs H1 Q
theorem MP(hc:gj X (.builtin id) r)(hg:Gl X x)(hm:X.mg x=none)(hv:bootBuiltins x=some (.builtin id))(ha:PA X (e::es) t)(hn:x≠"__name__":=by decide)(hdb:(x==("__debug__":Str))=false:=by decide)
 (he:starEach (e::es) X.env=(false,eval e X.env)::starEach es X.env:=by rfl)(hpl:(backTo pos (starEach es X.env)).any (·.1)=false:=by rfl):PE X (.Call (.Name x p) (e::es) [] pos) (tCB r t):=by
 intro pins s σ H Q I h
 refine wpAny_Call_Name_kw (bJ I hg hm hv ?_ hn hdb)
 exact PyProof.Rows.callWith_builtin1 (thn (ha pos pins s σ H _ I h) λ us s1 ⟨vs,H1,I1,r1,q1⟩=>hc pins s1 σ H1 vs us Q I1 r1 q1) he hpl
end
end L2
namespace HT
open PySem PyProof.Rows
section
variable {prog : Program} {w : World} {A : Around} {E : Value -> Shared -> Prop} {s : Shared}
theorem cat_tup{t b:Addr}{vs ws:List Value}{Q:Value->Shared->Prop}(ht:IsTup s.heap t vs.toArray)(hb:IsTup s.heap b ws.toArray)(hv:vs≠[])
 (h1:ws=[]->Q (.ref t) s)(h2:ws≠[]->Q (.ref s.heap.objs.size) {s with heap:=s.heap.push {cls:=.type "tuple",data:=.seq (vs++ws).toArray}})
 (hsz:vs.length+ws.length≤sizeLine):wpAny (model prog w) A (binaryOp .Add (.ref t) (.ref b)) Q E s:=by
 obtain⟨⟨cls,dd,data,sl⟩,ho,hc,n,hd⟩:=id ht
 obtain⟨⟨cls2,dd2,data2,sl2⟩,ho2,hc2,n2,hd2⟩:=id hb
 simp only at hc hd hc2 hd2
 subst hc hd hc2 hd2
 have e:vs.toArray++ws.toArray=(vs++ws).toArray:=by simp
 by_cases hw:ws=[]
 . exact concat_meets ⟨_,ho,rfl⟩ ⟨_,ho2,rfl⟩ noFill_tuple_add seq_tuple_add PySem.F.slot_tuple_add PySem.F.entry_tuple_add (PySem.F.args_tuple_add_2 _ _)
    (tuple_addW1 t b vs.toArray ws.toArray n n2 dd dd2 sl sl2 (by simpa using hv) (by simp[hw])) ⟨ho,ho2,h1 hw⟩
 . refine concat_meets ⟨_,ho,rfl⟩ ⟨_,ho2,rfl⟩ noFill_tuple_add seq_tuple_add PySem.F.slot_tuple_add PySem.F.entry_tuple_add (PySem.F.args_tuple_add_2 _ _)
    (tuple_addW2 t b vs.toArray ws.toArray n n2 dd dd2 sl sl2 (by simpa using hv) (by simpa using hw) (by rw[x6,x6];exact hsz)) ⟨ho,ho2,?_⟩
   rw[e]
   exact h2 hw
noncomputable def sIx(n d:Nat):Option Int->Nat
 | none=>d
 | some v=>if v<0 then(v+(n:Int)).toNat else min v.toNat n
theorem sIx_none(n d:Nat):sIx n d none=d:=rfl
theorem sIx_nat(n d k:Nat):sIx n d (some (k:Int))=min k n:=by
 show(if(k:Int)<0 then((k:Int)+(n:Int)).toNat else min (k:Int).toNat n)=min k n
 rw[if_neg (by omega),Int.toNat_natCast]
theorem T6(n d:Nat)(hd:d≤n)(o:Option Int):sIx n d o≤n:=by
 cases o with
 | none=>exact hd
 | some v=>
   show(if v<0 then(v+(n:Int)).toNat else min v.toNat n)≤n
   by_cases hv:v<0
   . rw[if_pos hv];omega
   . rw[if_neg hv];exact Nat.min_le_right _ _
theorem DP(v:Int)(n d:Nat):(if v<0 then max (v+(n:Int)) 0 else min v (n:Int))=((sIx n d (some v):Nat):Int):=by
 show(if v<0 then max (v+(n:Int)) 0 else min v (n:Int))=(((if v<0 then(v+(n:Int)).toNat else min v.toNat n):Nat):Int)
 by_cases hv:v<0
 . simp only[if_pos hv];omega
 . simp only[if_neg hv];omega
theorem Gb(lo hi:Option Int)(n:Nat):Builtin.Slice.sliceAdjust lo hi 1 (n:Int)=(((sIx n 0 lo:Nat):Int),((sIx n n hi:Nat):Int)):=by
 have h1:¬((1:Int)<0):=by omega
 unfold Builtin.Slice.sliceAdjust
 simp only[h1,if_false]
 refine Prod.ext ?_ ?_
 . cases lo with
   | none=>rfl
   | some v=>exact DP v n 0
 . cases hi with
   | none=>rfl
   | some v=>exact DP v n n
theorem GR(i j:Nat):Builtin.Slice.slicePlaces (i:Int) (j:Int) 1=j-i:=by
 unfold Builtin.Slice.slicePlaces
 have h1:(1:Int)>0:=by omega
 simp only[h1,if_true,Int.ediv_one]
 split<;>omega
theorem rZ{v:Value}{o:Option Int}{Q:Option Int->Shared->Prop}(p:IsPart v o)(h:Q o s):wpAny (model prog w) A (Builtin.Slice.slicePartIndex v) Q E s:=by
 cases p with
 | none=>exact slicePart_none h
 | int i t=>exact slicePart_int h
theorem sliceApplied_gen{sl:Addr}{vl vu:Value}{lo hi:Option Int}{n:Nat}{Q:Int×Int×Nat->Shared->Prop}(hs:s.heap.IsSliceOf sl vl vu .none)(pl:IsPart vl lo)(pu:IsPart vu hi)
 (h:Q (((sIx n 0 lo:Nat):Int),1,sIx n n hi-sIx n 0 lo) s):wpAny (model prog w) A (Builtin.Slice.sliceApplied (.ref sl) (pure (n:Int))) Q E s:=by
 obtain⟨os,hos,hcs,hds⟩:=id hs
 unfold Builtin.Slice.sliceApplied Builtin.Slice.sliceFields
 refine ZA (ZA (wpAny_field hos hds (x:=vl) rfl (ZA (wpAny_field hos hds (x:=vu) rfl (ZA (wpAny_field hos hds (x:=.none) rfl (ZB ?_)))))))
 refine ZA (slicePart_none ?_)
 show wpAny _ _ (if((1:Int)==0)=true then _ else _) _ _ s
 rw[if_neg (by decide)]
 refine ZA (rZ pl (ZA (rZ pu (ZA (ZB ?_)))))
 show wpAny _ _ (match Builtin.Slice.sliceAdjust lo hi 1 (n:Int)with | (lo,hi)=>pure (lo,(1:Int),Builtin.Slice.slicePlaces lo hi 1)) _ _ s
 rw[Gb lo hi n]
 show wpAny _ _ (pure (((sIx n 0 lo:Nat):Int),(1:Int),Builtin.Slice.slicePlaces ((sIx n 0 lo:Nat):Int) ((sIx n n hi:Nat):Int) 1)) _ _ s
 rw[GR]
 exact ZB h
theorem K5(xs:Array Value)(i k:Nat):((List.range k).filterMap λ(m:Nat)=>xs[((i:Int)+(m:Int)*1).toNat]?).toArray=((xs.toList.drop i).take k).toArray:=by
 have e:(λ(m:Nat)=>xs[((i:Int)+(m:Int)*1).toNat]?)=λ m=>xs[i+m]?:=by
  funext m
  have:((i:Int)+(m:Int)*1).toNat=i+m:=by omega
  rw[this]
 rw[e]
 have:=pick_run xs i k
 rw[List.filterMap_map]at this
 have e2:((λ x=>xs[x]?) ∘ λ x=>i+x)=λ m=>xs[i+m]?:=rfl
 rw[e2]at this
 rw[this]
theorem getItem_tuple_cut{t sl:Addr}{items:Array Value}{vl vu:Value}{lo hi:Option Int}{Q:Value->Shared->Prop}(ht:IsTup s.heap t items)(hs:s.heap.IsSliceOf sl vl vu .none)(pl:IsPart vl lo)(pu:IsPart vu hi)
 (hw:¬(sIx items.size 0 lo=0/\sIx items.size items.size hi=items.size))
 (h:Q (.ref s.heap.objs.size) {s with heap:=s.heap.push {cls:=.type "tuple",data:=.seq ((items.toList.drop (sIx items.size 0 lo)).take (sIx items.size items.size hi-sIx items.size 0 lo)).toArray}})
 (hsz:items.size≤sizeLine):wpAny (model prog w) A (getItem (.ref t) (.ref sl)) Q E s:=by
 have htake:sizeOk (.seq ((items.toList.drop (sIx items.size 0 lo)).take (sIx items.size items.size hi-sIx items.size 0 lo)).toArray):=by
  show((items.toList.drop (sIx items.size 0 lo)).take (sIx items.size items.size hi-sIx items.size 0 lo)).toArray.size≤sizeLine
  rw[x6,List.length_take,List.length_drop,Array.length_toList]
  omega
 have hj:sIx items.size items.size hi≤items.size:=T6 _ _ (x4 _) hi
 obtain⟨os,hos,hcs,hds⟩:=id hs
 have hTs:s.TypeIs (.ref sl) "slice":=⟨os,hos,hcs⟩
 unfold getItem
 try with_reducible refine ZQ ?_
 first | refine ZA (ZB ?_) | skip
 refine ZA (wpAny_sequenceKey ht.typeIs (by decide) ?_)
 refine ZA (wpAny_callSpecial?_slot (name:=Str.ofString "__getitem__") ht.typeIs PyProof.Rows.slot_tuple_getitem
  (ZP PyProof.Rows.slot_tuple_getitem ht.typeIs entry_tuple_getitem ?_ (args_tuple_getitem _ _)))
 show wpAny _ _ (Builtin.Tuple.tupleItemsOf (.ref t)>>=_) _ _ s
 refine ZA (tupleItemsOf_ ht ?_)
 refine ZA (wpAny_typeOf hTs ?_)
 rw[if_pos (by decide)]
 refine ZA (sliceApplied_gen hs pl pu ?_)
 have hno:¬((((sIx items.size 0 lo:Nat):Int)==0&&(1:Int)==1&&(sIx items.size items.size hi-sIx items.size 0 lo)==items.size)=true):=by
  intro q
  rw[Bool.and_eq_true,Bool.and_eq_true]at q
  have q1:((sIx items.size 0 lo:Nat):Int)=0:=ZI q.1.1
  have q2:sIx items.size items.size hi-sIx items.size 0 lo=items.size:=ZI q.2
  exact hw ⟨by omega,by omega⟩
 show wpAny _ _ (if(((sIx items.size 0 lo:Nat):Int)==0&&(1:Int)==1&&(sIx items.size items.size hi-sIx items.size 0 lo)==items.size)=true then _ else _) _ _ s
 rw[if_neg hno,K5]
 first
  | exact ZA (m:=Builtin.Tuple.tupleExact _) (wpAny_newObj_type (ZB ⟨_,rfl,ZB h⟩) htake)
  | exact ZA (m:=Builtin.Tuple.tupleExact _) (wpAny_newObj_type (ZA (ZB (ZB ⟨_,rfl,ZB h⟩))) htake)
  | exact ZA (ZA (m:=Builtin.Tuple.tupleExact _) (wpAny_newObj_type (ZB (ZB ⟨_,rfl,ZB h⟩)) htake))
  | exact ZA (ZA (m:=Builtin.Tuple.tupleExact _) (wpAny_newObj_type (ZB ⟨_,rfl,ZB h⟩) htake))
end
end HT
namespace L2
open PySem PySem.Spec PyProof.Rows
noncomputable abbrev TO:=St->Hp->(Option Int->Hp->Prop)->Prop
theorem intsAre_of{ns:List Int}:∀{us:List Value},Vals (ns.map V.int) us->IntsAre us ns:=by
 induction ns with
 | nil=>intro us r;rw[List.map_nil]at r;cases r;exact .nil
 | cons n ns ih=>
   intro us r
   rw[List.map_cons]at r
   cases r with
   | cons r1 r2=>
     obtain⟨t,e⟩:=r1
     subst e
     exact .cons n t (ih r2)
section
variable {X : Cx} {e : Expr} {te : TE} {lo hi : Option Expr} {tl th : TO} {pos p2 : Pos}
noncomputable def SlR(X:Cx)(r:V->Option Int->Option Int->Hp->VK->Prop):Prop:=
 ∀ (pins:List (Addr×Obj))(s:Shared)(σ:St)(H:Hp)(x:V)(v vl vu:Value)(lo hi:Option Int)(sl:Addr)(Q:VK),Inv X pins σ H s->RelV x v->s.heap.IsSliceOf sl vl vu .none->IsPart vl lo->IsPart vu hi->r x lo hi H Q->
   ∃T id,typeLookup (.type T) "__getitem__"=pure (some (.builtin id))/\s.TypeIs v T/\wpAny (model X.prog X.w) X.A (getItem v (.ref sl)) (EP X pins σ Q) X.xe s
noncomputable def oh(xs:List V)(lo hi:Option Int):List V:=(xs.drop (HT.sIx xs.length 0 lo)).take (HT.sIx xs.length xs.length hi-HT.sIx xs.length 0 lo)
theorem pZ(xs:List V)(lo hi:Option Int):(oh xs lo hi).length≤xs.length:=by
 unfold oh
 rw[List.length_take,List.length_drop]
 omega
noncomputable def VB(K:PySem.W.Frag):V->Option Int->Option Int->Hp->VK->Prop:=λ x lo hi H Q=>∃a xs,x=.ref a/\SqT K H a xs/\
 ¬(HT.sIx xs.length 0 lo=0/\HT.sIx xs.length xs.length hi=xs.length)/\∀p,H p=none->Q (.ref p) (upd H p (.tup (oh xs lo hi)))
theorem Rx:SlR X (VB X.K):=by
 intro pins s σ H x v vl vu lo hi sl Q I rx hs pl pu h
 obtain⟨a,xs,rfl,hx,hw,q⟩:=h
 cases rx
 obtain⟨its,r,ht,hz⟩:=I.tuple hx
 have hlen:its.toArray.size=xs.length:=by rw[x6];exact r.length.symm
 refine⟨"tuple",_,PyProof.Rows.slot_tuple_getitem.lookup,ht.typeIs,?_⟩
 refine HT.getItem_tuple_cut ht hs pl pu (by rw[hlen];exact hw) ?_ (by rw[hlen];exact hz)
 rw[hlen]
 refine⟨.ref s.heap.objs.size,_,I.laid (t':=s.toks) (o:=.tup (oh xs lo hi)) (λ b ob q=>ZC _ q) (x4 _) ?_,rfl,q _ (I.hok.fresh (x4 _))⟩
 exact⟨Nat.le_trans (pZ xs lo hi) hz,_,(r.drop (HT.sIx xs.length 0 lo)).take (HT.sIx xs.length xs.length hi-HT.sIx xs.length 0 lo),IsTup.new _ _⟩
noncomputable def Vc(K:PySem.W.Frag):R2:=λ x y H Q=>∃a b xs ys,x=.ref a/\y=.ref b/\SqT K H a xs/\SqT K H b ys/\xs≠[]/\xs.length+ys.length≤sizeLine/\
 (ys=[]->Q (.ref a) H)/\(ys≠[]->∀p,H p=none->Q (.ref p) (upd H p (.tup (xs++ys))))
theorem Vals.nil_iff{xs:List V}{us:List Value}(r:Vals xs us):us=[]↔xs=[]:=by
 cases r with
 | nil=>simp
 | cons _ _=>simp
theorem Pj:OpR X (binaryOp .Add) (Vc X.K):=by
 intro pins s σ H x y v u Q I rx ry h
 obtain⟨a,b,xs,ys,rfl,rfl,ha,hb,hx,hz,q1,q2⟩:=h
 cases rx
 cases ry
 obtain⟨its,r1,p1,_⟩:=I.tuple ha
 obtain⟨its2,r2,p2,_⟩:=I.tuple hb
 refine HT.cat_tup p1 p2 (λ z=>hx (r1.nil_iff.mp z)) (λ z=>⟨.ref a,H,I,rfl,q1 (r2.nil_iff.mp z)⟩) (λ z=>?_) (by rw[←r1.length,←r2.length];exact hz)
 refine⟨.ref s.heap.objs.size,_,I.laid (t':=s.toks) (o:=.tup (xs++ys)) (λ b ob q=>ZC _ q) (x4 _) ?_,rfl,q2 (λ w=>z (r2.nil_iff.mpr w)) _ (I.hok.fresh (x4 _))⟩
 exact⟨by rw[x9];exact hz,_,r1.append r2,IsTup.new _ _⟩
end
end L2
namespace L2
open PySem PySem.Spec PyProof.Rows
noncomputable def ixN(n:Nat)(i:Int):Option Nat:=if 0≤i then(if i<n then some i.toNat else none)else if-(n:Int)≤i then some (i+n).toNat else none
noncomputable def atI{α:Type}(xs:List α)(i:Int):Option α:=(ixN xs.length i).bind λ j=>xs[j]?
theorem DG{n:Nat}{i:Int}{j:Nat}(h:ixN n i=some j):seqIndex? i n=some j/\j<n/\ -(n:Int)≤i/\i<n:=by
 unfold ixN at h
 by_cases h0:0≤i
 . rw[if_pos h0]at h
   by_cases h1:i<n
   . rw[if_pos h1]at h
     have e:i.toNat=j:=Option.some.inj h
     exact⟨by rw[seqIndex_of h0 h1,e],by omega,by omega,h1⟩
   . rw[if_neg h1]at h;cases h
 . rw[if_neg h0]at h
   by_cases h1: -(n:Int)≤i
   . rw[if_pos h1]at h
     have e:(i+n).toNat=j:=Option.some.inj h
     exact⟨by rw[seqIndex_neg (by omega) h1,e],by omega,h1,by omega⟩
   . rw[if_neg h1]at h;cases h
theorem Eb{α:Type}{xs:List α}{i:Int}{v:α}(h:atI xs i=some v):∃j,seqIndex? i xs.length=some j/\xs[j]? =some v/\j<xs.length/\ -(xs.length:Int)≤i/\i<xs.length:=by
 unfold atI at h
 cases e:ixN xs.length i with
 | none=>rw[e]at h;cases h
 | some j=>
   rw[e]at h
   obtain⟨h1,h2,h3,h4⟩:=DG e
   exact⟨j,h1,h,h2,h3,h4⟩
theorem aA{α:Type}{xs:List α}{j:Nat}{v:α}(h:xs[j]? =some v):atI xs (j:Int)=some v:=by
 have hj:j<xs.length:=(y3.mp h).1
 have e:ixN xs.length (j:Int)=some j:=by
  unfold ixN
  rw[if_pos (by omega),if_pos (by omega)];simp
 unfold atI;rw[e];exact h
noncomputable def DY(b:Expr):Prop:=∀o i,subscripted b false o i=operate [o,i] (getItem o i)
noncomputable def IxR(X:Cx)(r:R2):Prop:=
 ∀ (value slice:Expr)(pins:List (Addr×Obj))(s:Shared)(σ:St)(H:Hp)(x y:V)(v u:Value)(Q:VK),Inv X pins σ H s->RelV x v->RelV y u->r x y H Q->
   subscripted slice false v u=operate [v,u] (getItem v u)->wpAny (model X.prog X.w) X.A (subscriptTail value slice v u) (EP X pins σ Q) X.xe s
noncomputable def MtR(X:Cx)(id:String)(r:V->List V->Hp->VK->Prop):Prop:=
 ∀ (pins:List (Addr×Obj))(s:Shared)(σ:St)(H:Hp)(x:V)(xs:List V)(v:Value)(us:List Value)(Q:VK),Inv X pins σ H s->RelV x v->Vals xs us->r x xs H Q->
   wpAny (model X.prog X.w) X.A (call (.builtin id) (v::us)) (EP X pins σ Q) X.xe s
section
variable {X : Cx} {a b : Expr} {ta tb : TE} {pos : Pos}
noncomputable def Vy(K:PySem.W.Frag):R2:=λ x y H Q=>∃p xs i v,x=.ref p/\y=.int i/\SqL K H p xs/\atI xs i=some v/\Q v H
noncomputable def VV(K:PySem.W.Frag):R2:=λ x y H Q=>∃p xs i v,x=.ref p/\y=.int i/\SqT K H p xs/\atI xs i=some v/\Q v H
theorem EY:IxR X (Vy X.K):=by
 intro value slice pins s σ H x y v u Q I rx ry h hs
 obtain⟨p,xs,i,z,rfl,rfl,hq,he,q⟩:=h
 cases rx
 obtain⟨t,rfl⟩:=ry
 obtain⟨its,r,pl,hz⟩:=I.list hq
 obtain⟨j,h1,h2,h3,h4,h5⟩:=Eb he
 obtain⟨w,ew,rw'⟩:=r.get h2
 have hl:=r.length
 have hn:=tB
 have fin:EP X pins σ Q w s:=⟨z,H,I,rw',q⟩
 by_cases h0:0≤i
 . have hj:i.toNat=j:=by
    rw[seqIndex_of h0 h5]at h1
    exact Option.some.inj h1
   exact item_listR pl.isList h0 (by omega) (by rw[hj];simpa using ew) fin hs
 . have hj:(i+(its.toArray.size:Int)).toNat=j:=by
    rw[seqIndex_neg (by omega) h4]at h1
    rw[x6,←hl]
    exact Option.some.inj h1
   exact subscriptTail_builtinR (x:=w) pl.isList.typeIs slot_list_getitem.lookup
    (wpAny_getItem_list_neg (Q:=λ r s'=>r=w/\EP X pins σ Q r s') pl.isList (by omega) (by rw[x6]<;>omega) (by omega) (by rw[hj];simpa using ew) ⟨rfl,fin⟩) hs
theorem Rj:IxR X (VV X.K):=by
 intro value slice pins s σ H x y v u Q I rx ry h hs
 obtain⟨p,xs,i,z,rfl,rfl,hq,he,q⟩:=h
 cases rx
 obtain⟨t,rfl⟩:=ry
 obtain⟨its,r,pl,hz⟩:=I.tuple hq
 obtain⟨j,h1,h2,h3,h4,h5⟩:=Eb he
 obtain⟨w,ew,rw'⟩:=r.get h2
 have hl:=r.length
 have hn:=tB
 have fin:EP X pins σ Q w s:=⟨z,H,I,rw',q⟩
 exact subscriptTail_builtinR (x:=w) pl.typeIs slot_tuple_getitem.lookup
  (getItem_tuple (j:=j) (Q:=λ r s'=>r=w/\EP X pins σ Q r s') pl (by omega) (by omega) (by rw[x6,←hl];exact h1) (by simpa using ew) ⟨rfl,fin⟩) hs
theorem GQ(its:List Value)(n j:Nat)(u:Value):Obj.mapSeq (·.setIfInBounds j u) {cls:=.type "list",data:=.seq its.toArray n}={cls:=.type "list",data:=.seq (its.set j u).toArray n}:=by
 simp[Obj.mapSeq]
theorem Inv.lst{pins:List (Addr×Obj)}{σ:St}{H:Hp}{s:Shared}{p:Addr}{xs:List V}(I:Inv X pins σ H s)(h:H p=some (.lst xs)):
 ∃(its:List Value) (n:Nat),Vals xs its/\s.heap.get? p=some {cls:=.type "list",data:=.seq its.toArray n}/\xs.length≤sizeLine:=by
 obtain⟨z,its,n,r,e⟩:=I.hok p _ h
 exact⟨its,n,r,e,z⟩
theorem Inv.lstUpd{pins:List (Addr×Obj)}{σ:St}{H:Hp}{s:Shared}{p:Addr}{xs ys:List V}{its its':List Value}{n n':Nat}{f:Obj->Obj}(I:Inv X pins σ H s)(h:H p=some (.lst xs))
 (ho:s.heap.get? p=some {cls:=.type "list",data:=.seq its.toArray n})(hf:f {cls:=.type "list",data:=.seq its.toArray n}={cls:=.type "list",data:=.seq its'.toArray n'})(r:Vals ys its')(hz:ys.length≤sizeLine)(t:Nat):
 Inv X pins σ (upd H p (.lst ys)) {s with heap:=s.heap.update p f,toks:=t}:=by
 have e:(s.heap.update p f).get? p=some {cls:=.type "list",data:=.seq its'.toArray n'}:=by
  rw[Heap.get?_update_self f ho (by rw[hf]<;>rfl),hf]
 refine I.write (x:=p) (e:=p) (by rw[h];trivial) (.inl rfl) (λ b u hb q=>(Heap.get?_update_other _ _ (Ne.symm hb)).trans q) ⟨_,e⟩ ?_
 exact⟨hz,its',n',r,e⟩
noncomputable def Uh:V->V->V->Hp->(Hp->Prop)->Prop:=λ o i v H Q=>∃p xs k j,o=.ref p/\i=.int k/\H p=some (.lst xs)/\ixN xs.length k=some j/\Q (upd H p (.lst (xs.set j v)))
theorem set_list:V2 X Uh:=by
 intro pins s σ H o i v ov iv u Q I ro ri rv h
 obtain⟨p,xs,k,j,rfl,rfl,hp,hj,q⟩:=h
 cases ro
 obtain⟨t,rfl⟩:=ri
 obtain⟨its,n,r,ho,hz⟩:=I.lst hp
 obtain⟨h1,h2,h3,h4⟩:=DG hj
 have hl:=r.length
 have hn:=tB
 have I':Inv X pins σ (upd H p (.lst (xs.set j v))) {s with heap:=s.heap.update p (Obj.mapSeq (·.setIfInBounds j u))}:=
  I.lstUpd hp ho (GQ its n j u) (r.set rv j) (by rw[List.length_set];exact hz) s.toks
 by_cases h0:0≤k
 . have hk:k.toNat=j:=by
    rw[seqIndex_of h0 h4]at h1
    exact Option.some.inj h1
   exact PySem.W.ki_setAt ho h0 (by omega) (by rw[x6,←hl];exact h4) (by rw[hk];exact⟨_,I',q⟩)
 . have hk:(k+(its.toArray.size:Int)).toNat=j:=by
    rw[seqIndex_neg (by omega) h3]at h1
    rw[x6,←hl]
    exact Option.some.inj h1
   exact PySem.W.ki_setBack ho (by omega) (by rw[x6,←hl];exact h3) (by omega) (by rw[hk];exact⟨_,I',q⟩)
theorem yu(lo hi:Option Int)(n:Nat):(sliceBounds lo hi none n).1=((HT.sIx n 0 lo:Nat):Int)/\(sliceBounds lo hi none n).2.1=((HT.sIx n n hi:Nat):Int)/\(sliceBounds lo hi none n).2.2=1:=by
 refine⟨?_,?_,rfl⟩
 . cases lo with
   | none=>simp[sliceBounds,HT.sIx]
   | some i=>
     simp only[sliceBounds,HT.sIx,Option.getD_none,show(1:Int)>0 by decide,if_true]
     by_cases h:i<0
     . simp only[h,if_true]<;>omega
     . simp only[h,if_false]<;>omega
 . cases hi with
   | none=>simp[sliceBounds,HT.sIx]
   | some i=>
     simp only[sliceBounds,HT.sIx,Option.getD_none,show(1:Int)>0 by decide,if_true]
     by_cases h:i<0
     . simp only[h,if_true]<;>omega
     . simp only[h,if_false]<;>omega
theorem wB(its:List Value)(lo hi:Option Int):slicePick its.toArray lo hi none=((its.drop (HT.sIx its.length 0 lo)).take (HT.sIx its.length its.length hi-HT.sIx its.length 0 lo)).toArray:=by
 obtain⟨h1,h2,h3⟩:=yu lo hi its.toArray.size
 unfold slicePick
 rw[h1,h2,h3]
 simp only[sliceRange_one,pick_run,x6]<;>rfl
noncomputable def VP(K:PySem.W.Frag):V->Option Int->Option Int->Hp->VK->Prop:=λ x lo hi H Q=>∃a xs,x=.ref a/\SqL K H a xs/\∀p,H p=none->Q (.ref p) (upd H p (.lst (oh xs lo hi)))
theorem Do:SlR X (VP X.K):=by
 intro pins s σ H x v vl vu lo hi sl Q I rx hs pl pu h
 obtain⟨a,xs,rfl,hx,q⟩:=h
 cases rx
 obtain⟨its,r,ht,hz⟩:=I.list hx
 have hlen:=r.length
 refine⟨"list",_,slot_list_getitem.lookup,ht.isList.typeIs,?_⟩
 refine wpAny_getItem_list_slice ht.isList hs pl pu .none (by simp) ?_ (by rw[x6]<;>omega)
 rw[wB,←hlen]
 refine⟨.ref s.heap.objs.size,_,I.laid (t':=s.toks) (o:=.lst (oh xs lo hi)) (λ b ob q=>ZC _ q) (x4 _) ?_,rfl,q _ (I.hok.fresh (x4 _))⟩
 exact⟨Nat.le_trans (pZ xs lo hi) hz,_,0,(r.drop (HT.sIx xs.length 0 lo)).take (HT.sIx xs.length xs.length hi-HT.sIx xs.length 0 lo),ZD _ rfl⟩
theorem iz:gj X (.builtin "len") (λ xs H Q=>∃p ys,xs=[.ref p]/\(SqL X.K H p ys∨SqT X.K H p ys)/\Q (.int ys.length) H):=by
 intro pins s σ H xs us Q I r h
 obtain⟨p,ys,rfl,hq,q⟩:=h
 obtain⟨u,rfl,rx⟩:=vals1 r
 cases rx
 have hn:=tB
 rcases hq with hq | hq
 . obtain⟨its,r',pl,hz⟩:=I.list hq
   have hlen:=r'.length
   exact Calls.call_len_list pl.isList (by simp only[x6]<;>omega) ⟨.int ys.length,H,I.tok _,⟨s.toks+1,by rw[x6,hlen]⟩,q⟩
 . obtain⟨its,r',pl,hz⟩:=I.tuple hq
   have hlen:=r'.length
   exact len_tuple pl (by simp only[x6]<;>omega) ⟨.int ys.length,H,I.tok _,⟨s.toks+1,by rw[x6,hlen]⟩,q⟩
theorem eE:gj X (.type "list") (λ xs H Q=>∃p ys,xs=[.ref p]/\(SqL X.K H p ys∨SqT X.K H p ys)/\∀l,H l=none->Q (.ref l) (upd H l (.lst ys))):=by
 intro pins s σ H xs us Q I r h
 obtain⟨p,ys,rfl,hq,q⟩:=h
 obtain⟨u,rfl,rx⟩:=vals1 r
 cases rx
 have fin:∀(its:List Value),Vals ys its->ys.length≤sizeLine->∀(h':Heap)(c':Nat),(∀b o',s.heap.get? b=some o'->h'.get? b=some o')->
  h'.get? s.heap.objs.size=some {cls:=.type "list",dict:=none,data:=.seq its.toArray c',slots:=#[]}->EP X pins σ Q (.ref s.heap.objs.size) {s with heap:=h'}:=λ its r' hz h' c' kp e=>
  ⟨.ref s.heap.objs.size,_,I.laid (t':=s.toks) kp (x4 _) (show bh X.prog X.w _ h' _ (.lst ys)from⟨hz,its,c',r',e⟩),rfl,q _ (I.hok.fresh (x4 _))⟩
 rcases hq with hq | hq
 . obtain⟨its,r',pl,hz⟩:=I.list hq
   have hlen:=r'.length
   obtain⟨o,ho,hc,n,hd⟩:=pl.isList
   exact call_list_seq p (.inl rfl) ho hc hd (λ h' c' kp e=>fin its r' hz h' c' kp e) (by simp only[x6]<;>omega)
 . obtain⟨its,r',pl,hz⟩:=I.tuple hq
   have hlen:=r'.length
   obtain⟨o,ho,hc,n,hd⟩:=pl
   exact call_list_seq p (.inr rfl) ho hc hd (λ h' c' kp e=>fin its r' hz h' c' kp e) (by simp only[x6]<;>omega)
theorem lM:gj X (.type "tuple") (λ xs H Q=>∃p ys,xs=[.ref p]/\((SqL X.K H p ys/\∀l,H l=none->Q (.ref l) (upd H l (.tup ys)))∨(SqT X.K H p ys/\Q (.ref p) H))):=by
 intro pins s σ H xs us Q I r h
 obtain⟨p,ys,rfl,h⟩:=h
 obtain⟨u,rfl,rx⟩:=vals1 r
 cases rx
 rcases h with⟨hq,q⟩ | ⟨hq,q⟩
 . obtain⟨its,r',pl,hz⟩:=I.list hq
   have hlen:=r'.length
   refine call_tuple_list pl.isList (λ h' kp=>?_) (by simp only[x6]<;>omega)
   have I1:Inv X pins σ H {s with heap:=h'}:=I.kept (t':=s.toks) kp
   have I2:Inv X pins σ (upd H h'.objs.size (.tup ys)) {s with heap:=h'.push {cls:=.type "tuple",data:=.seq its.toArray}}:=
    I1.laid (t':=s.toks) (λ b o e=>ZC _ e) (x4 _) (show bh X.prog X.w _ _ _ (.tup ys)from⟨hz,its,r',IsTup.new _ _⟩)
   exact⟨.ref h'.objs.size,_,I2,rfl,q _ (I1.hok.fresh (x4 _))⟩
 . obtain⟨its,r',pl,hz⟩:=I.tuple hq
   exact call_tuple_same pl ⟨.ref p,H,I,rfl,q⟩
noncomputable def tyV(K:PySem.W.Frag)(T:String)(x:V)(H:Hp):Prop:=match x with
 | .str _=>T="str"
 | .int _=>T="int"
 | .ref p=>(T="list"/\∃xs,SqL K H p xs)∨(T="tuple"/\∃o,K.lookup p=some o/\o.cls=.type "tuple"/\o.dict=none)∨
  (T="dict"/\((∃kvs,H p=some (.dK kvs))∨∃kvs,H p=some (.dT kvs)))∨(T="set"/\∃S n,H p=some (.set S n))
 | _=>False
theorem HQ{pins:List (Addr×Obj)}{σ:St}{H:Hp}{s:Shared}{T:String}{x:V}{v:Value}(I:Inv X pins σ H s)(r:RelV x v)(ty:tyV X.K T x H):
 s.TypeIs v T/\∀a,v=.ref a->∃ob,s.heap.get? a=some ob/\ob.dict=none:=by
 cases x with
 | str z=>
   obtain⟨t,rfl⟩:=r
   cases (show T="str" from ty)
   exact⟨typeIs_str s z t,λ _ e=>nomatch e⟩
 | int i=>
   obtain⟨t,rfl⟩:=r
   cases (show T="int" from ty)
   exact⟨typeIs_int s i t,λ _ e=>nomatch e⟩
 | ref p=>
   cases r
   rcases ty with⟨rfl,xs,hq⟩ | ⟨rfl,o,hk,hc,hd⟩ | ⟨rfl,hk⟩ | ⟨rfl,S,n,hk⟩
   . obtain⟨its,_,pl,_⟩:=I.list hq
     refine⟨pl.isList.typeIs,λ a e=>?_⟩
     cases e
     obtain⟨o,n,e,c,hd,_⟩:=pl
     exact⟨o,e,hd⟩
   . refine⟨⟨o,I.kIn p o hk,hc⟩,λ a e=>?_⟩
     cases e
     exact⟨o,I.kIn _ o hk,hd⟩
   . have z:∃o,s.heap.get? p=some o/\o.ExactDict:=by
      rcases hk with⟨kvs,hk⟩ | ⟨kvs,hk⟩
      . obtain⟨_,_,_,_,o,_,_,e,ex,_⟩:=I.hok p _ hk
        exact⟨o,e,ex⟩
      . obtain⟨_,_,_,_,o,_,_,e,ex,_⟩:=I.hok p _ hk
        exact⟨o,e,ex⟩
     obtain⟨o,e,ex⟩:=z
     refine⟨⟨o,e,ex.1⟩,λ a e2=>?_⟩
     cases e2
     exact⟨o,e,ex.2.1⟩
   . obtain⟨o,_,_,_,e,ex,_⟩:=I.hok p _ hk
     refine⟨⟨o,e,ex.1⟩,λ a e2=>?_⟩
     cases e2
     exact⟨o,e,ex.2.1⟩
 | _=>exact False.elim ty
noncomputable def VH(K:PySem.W.Frag)(T:String)(r:V->List V->Hp->VK->Prop)(to:TE):TE:=λ σ H Q=>to σ H λ x H1=>tyV K T x H1/\r x [] H1 Q
noncomputable def tBM(K:PySem.W.Frag)(T:String)(r:V->List V->Hp->VK->Prop)(to:TE)(t:TA):TE:=λ σ H Q=>to σ H λ x H1=>tyV K T x H1/\t σ H1 λ xs H2=>r x xs H2 Q
variable {o e : Expr} {es : List Expr} {to : TE} {t : TA} {name : Str} {apos cpos : Pos} {T id : String} {r : V -> List V -> Hp -> VK -> Prop}
theorem HJ(pa:PlainAttrs T)(slot:Slot T name id)(hty:typeOf (.builtin id)=pure (.type "method_descriptor"))(hm:MtR X id r)(ho:PE X o to)
 (hbase:attributeBase o name X.env (eval o X.env)=eval o X.env:=by rfl)(hline:(apos.endLine==cpos.line)=true:=by rfl):PE X (.Call (.Attribute o name apos) [] [] cpos) (VH X.K T r to):=by
 intro pins s σ H Q I h
 refine wpAny_Call_method0_late hbase hline (thn (ho pins s σ H _ I h) λ v s1 ⟨x,H1,I1,r1,ty,q1⟩=>?_)
 obtain⟨h1,h2⟩:=HQ I1 r1 ty
 exact⟨T,id,pa,slot,hty,h1,h2,Calls.callWith_builtin rfl (PySem.evalArgs_none (hm pins s1 σ H1 x [] v [] Q I1 r1 .nil q1))⟩
theorem Oa(pa:PlainAttrs T)(slot:Slot T name id)(hty:typeOf (.builtin id)=pure (.type "method_descriptor"))(hm:MtR X id r)(ho:PE X o to)(ha:PA X (e::es) t)
 (hbase:attributeBase o name X.env (eval o X.env)=eval o X.env:=by rfl)
 (hfew:((backTo cpos (starEach (e::es) X.env)).all (λ x=>!x.1)&&(backToKw cpos (keywordEach [] X.env)).all (λ x=>x.1.isSome)
  &&decide ((e::es).length+([]:List Keyword).length+(if([]:List Keyword).isEmpty then 0 else 1)<30))=true:=by rfl)
 (hline:(apos.endLine==cpos.line)=true:=by rfl)(hs:starEach (e::es) X.env=(false,eval e X.env)::starEach es X.env:=by rfl)(hplain:(backTo cpos (starEach es X.env)).any (·.1)=false:=by rfl):
 PE X (.Call (.Attribute o name apos) (e::es) [] cpos) (tBM X.K T r to t):=by
 intro pins s σ H Q I h
 refine wpAny_Call_method_late hbase hfew hline rfl (thn (ho pins s σ H _ I h) λ v s1 ⟨x,H1,I1,r1,ty,q1⟩=>?_)
 obtain⟨h1,h2⟩:=HQ I1 r1 ty
 refine⟨T,id,pa,slot,hty,h1,h2,?_⟩
 have hA:=ha cpos pins s1 σ H1 _ I1 q1
 rw[hs]at hA ⊢
 refine Calls.callWith_builtin (by show(false||(backTo cpos (starEach es X.env)).any (·.1))=false;rw[hplain]<;>rfl) (Calls.evalArgs_plain ?_)
 exact thn hA λ us s2 ⟨vs,H2,I2,r2,q2⟩=>hm pins s2 σ H2 x vs v us Q I2 r1 r2 q2
end
end L2
namespace L2
open PySem PySem.Spec PyProof.Rows
noncomputable def MtM(X:Cx)(id:String)(r:V->List V->Hp->VK->Prop):Prop:=
 ∀ (pins:List (Addr×Obj))(s:Shared)(σ:St)(H:Hp)(x:V)(xs:List V)(v:Value)(us:List Value)(Q:VK),Inv X pins σ H s->RelV x v->Vals xs us->r x xs H Q->
   wpAny (model X.prog X.w) X.A (call (.builtin id) (v::us)) (EP X pins σ Q) X.xe s
theorem Vals.one:∀{x:V}{us:List Value},Vals [x] us->∃u,us=[u]/\RelV x u
 | _,_,.cons r .nil=>⟨_,rfl,r⟩
theorem Vals.zero:∀{us:List Value},Vals [] us->us=[]
 | _,.nil=>rfl
theorem Vals.dropLast{xs:List V}{us:List Value}(h:Vals xs us):Vals xs.dropLast us.dropLast:=by
 induction h with
 | nil=>exact .nil
 | cons r t ih=>
   cases t with
   | nil=>exact .nil
   | cons q t'=>exact .cons r ih
theorem Vals.eraseIdx:∀{xs:List V}{us:List Value}(i:Nat),Vals xs us->Vals (xs.eraseIdx i) (us.eraseIdx i)
 | _,_,_,.nil=>.nil
 | _,_,0,.cons _ t=>t
 | _,_,i+1,.cons r t=>.cons r (Vals.eraseIdx i t)
theorem Vals.reverse{xs:List V}{us:List Value}(h:Vals xs us):Vals xs.reverse us.reverse:=by
 induction h with
 | nil=>exact .nil
 | cons r t ih=>rw[List.reverse_cons,List.reverse_cons];exact Vals.append ih (.cons r .nil)
theorem Vals.rep{xs:List V}{us:List Value}(h:Vals xs us):∀k:Nat,Vals (List.replicate k xs).flatten (List.replicate k us).flatten
 | 0=>.nil
 | k+1=>by
   rw[List.replicate_succ,List.replicate_succ,List.flatten_cons,List.flatten_cons]
   exact Vals.append h (Vals.rep h k)
theorem Fi{α:Type}(l:List α):l.eraseIdx (l.length-1)=l.dropLast:=by
 induction l with
 | nil=>rfl
 | cons a r ih=>
   cases r with
   | nil=>rfl
   | cons b r=>
     have e:(a::b::r).length-1=((b::r).length-1)+1:=by
      have h1:(a::b::r).length=r.length+2:=rfl
      have h2:(b::r).length=r.length+1:=rfl
      omega
     rw[e,List.eraseIdx_cons_succ,ih]
     all_goals rfl
theorem foldl_rep(its:List Value):∀(k:Nat)(acc:List Value),
 List.foldl (λ x1 x2=>x1++x2) acc.toArray (List.replicate k its.toArray)=(acc++(List.replicate k its).flatten).toArray
 | 0,acc=>by simp
 | k+1,acc=>by
   have e:acc.toArray++its.toArray=(acc++its).toArray:=by simp
   have e2:(acc++its)++(List.replicate k its).flatten=acc++(List.replicate (k+1) its).flatten:=by
    rw[List.replicate_succ,List.flatten_cons,List.append_assoc]
   rw[←e2,←foldl_rep its k (acc++its),←e,List.replicate_succ,List.foldl_cons]
section
variable {X : Cx} {pins : List (Addr × Obj)} {σ : St} {H : Hp} {s : Shared} {l b : Addr} {xs ys zs : List V}
theorem Inv.lset{its its':List Value}{n:Nat}{f:Array Value->Array Value}{t':Nat}(I:Inv X pins σ H s)(hH:H l=some (.lst xs))
 (e:s.heap.get? l=some {cls:=.type "list",data:=.seq its.toArray n})(hf:f its.toArray=its'.toArray)(hv:Vals ys its')(hz:ys.length≤sizeLine):
 Inv X pins σ (upd H l (.lst ys)) {s with heap:=s.heap.update l (Obj.mapSeq f),toks:=t'}:=by
 have q:=PySem.IsL.update e f
 rw[hf]at q
 refine I.write (x:=l) (e:=l) (by rw[hH];exact trivial) (.inl rfl) (λ b' u hb hu=>(Heap.get?_update_other s.heap (Obj.mapSeq f) (Ne.symm hb)).trans hu) ⟨_,q⟩ ?_
 exact⟨hz,its',_,hv,q⟩
theorem Inv.lnew{its:List Value}{t':Nat}(I:Inv X pins σ H s)(hv:Vals ys its)(hz:ys.length≤sizeLine):
 Inv X pins σ (upd H s.heap.objs.size (.lst ys)) {s with heap:=s.heap.push {cls:=.type "list",data:=.seq its.toArray},toks:=t'}:=
 I.laid (λ _ _ q=>ZC _ q) (x4 _) ⟨hz,its,0,hv,ZD _ rfl⟩
theorem Inv.fresh(I:Inv X pins σ H s):H s.heap.objs.size=none:=I.hok.fresh (x4 _)
theorem Inv.lstM(I:Inv X pins σ H s)(hH:H l=some (.lst xs)):xs.length≤sizeLine/\∃(its:List Value) (n:Nat),Vals xs its/\xs.length=its.length/\s.heap.get? l=some {cls:=.type "list",data:=.seq its.toArray n}:=by
 obtain⟨z,its,n,r,e⟩:=I.hok l _ hH
 exact⟨z,its,n,r,r.length,e⟩
theorem M9{n:Nat}(h:n≤sizeLine):Builtin.List.listTooLong n=false:=by
 unfold Builtin.List.listTooLong
 exact ZH (by omega)
end
section
variable {X : Cx}
noncomputable def QX:V->List V->Hp->VK->Prop:=λ x vs H Q=>∃l xs y,x=.ref l/\vs=[y]/\H l=some (.lst xs)/\xs.length<sizeLine/\Q .non (upd H l (.lst (xs++[y])))
theorem uZ:MtM X "list.append" QX:=by
 intro pins s σ H x vs v us Q I rx rv h
 obtain⟨l,xs,y,rfl,rfl,hH,hz,q⟩:=h
 cases rx
 obtain⟨u,rfl,ru⟩:=rv.one
 obtain⟨z,its,n,r,hl,e⟩:=I.lstM hH
 refine call_meets F.slot_list_append ⟨_,e,rfl⟩ F.entry_list_append (F.args_list_append_2 _ _) (PySem.list_append l its.toArray n u (by rw[x6];omega)) ⟨e,?_⟩
 refine⟨.non,_,I.lset (its':=its++[u]) hH e (by simp) (r.append (.cons ru .nil)) ?_,rfl,q⟩
 rw[x9,List.length_singleton]
 omega
noncomputable def VG:V->List V->Hp->VK->Prop:=λ x vs H Q=>∃l xs y,x=.ref l/\vs=[]/\H l=some (.lst xs)/\xs[xs.length-1]? =some y/\Q y (upd H l (.lst xs.dropLast))
theorem RT:MtM X "list.pop" VG:=by
 intro pins s σ H x vs v us Q I rx rv h
 obtain⟨l,xs,y,rfl,rfl,hH,hy,q⟩:=h
 cases rx
 have hus:=rv.zero
 subst hus
 obtain⟨z,its,n,r,hl,e⟩:=I.lstM hH
 obtain⟨u,hu,ru⟩:=r.get hy
 have hy':its.toArray[its.toArray.size-1]? =some u:=by
  show its.toArray[its.length-1]? =some u
  rw[←Array.getElem?_toList,←hl]
  exact hu
 refine call_meets F.slot_list_pop ⟨_,e,rfl⟩ F.entry_list_pop (F.args_list_pop_1 _) (MeetsSeq.list_pop_last l its.toArray n u hy' (by rw[x6];omega)) ⟨e,?_⟩
 refine⟨y,_,I.lset (its':=its.dropLast) hH e ?_ r.dropLast ?_,ru,q⟩
 . show its.toArray.eraseIdxIfInBounds (its.toArray.size-1)=its.dropLast.toArray
   rw[x6,List.eraseIdxIfInBounds_toArray,Fi]
 . rw[List.length_dropLast]
   omega
noncomputable def Mt:V->List V->Hp->VK->Prop:=λ x vs H Q=>∃l xs,x=.ref l/\vs=[]/\H l=some (.lst xs)/\Q .non (upd H l (.lst xs.reverse))
theorem Fz:MtM X "list.reverse" Mt:=by
 intro pins s σ H x vs v us Q I rx rv h
 obtain⟨l,xs,rfl,rfl,hH,q⟩:=h
 cases rx
 have hus:=rv.zero
 subst hus
 obtain⟨z,its,n,r,hl,e⟩:=I.lstM hH
 refine call_meets F.slot_list_reverse ⟨_,e,rfl⟩ F.entry_list_reverse (F.args_list_reverse_1 _) (AutoSeq1.list_reverse_list_0 l its.toArray n (by rw[x6];omega)) ⟨e,?_⟩
 refine⟨.non,_,I.lset (its':=its.reverse) hH e (by simp) r.reverse ?_,rfl,q⟩
 rw[List.length_reverse]
 omega
theorem len_rep{α:Type}(xs:List α)(k:Nat):(List.replicate k xs).flatten.length=k*xs.length:=by
 induction k with
 | zero=>simp
 | succ k ih=>rw[List.replicate_succ,List.flatten_cons,x9,ih,Nat.succ_mul,Nat.add_comm]
end
end L2
namespace Att
open PySem PySem.W PySem.Calls PyProof.Rows
theorem rQ{P:Params}{h:Heap}:∀(ns:List Int)(vs:List Value),WellAll P h vs (ns.map WData.int)->IntsAre vs ns:=by
 intro ns
 induction ns with
 | nil=>
   intro vs w
   rw[List.map_nil]at w
   cases w
   exact .nil
 | cons n ns ih=>
   intro vs w
   rw[List.map_cons]at w
   cases w with
   | cons a b=>
     cases a
     exact .cons _ _ (ih _ b)
theorem IV{l:OpenLaw}{n:Nat}(hn:l.most=some n){P:Params}{h:Heap}{args:List WData}{vals:List Value}
 (hpre:l.row.toRowW.claim.pre args=true)(hwl:WellAll P h vals args):
 ∃a vs ns,vals=[Value.ref a]/\args=[WData.list (ns.map WData.int)]/\h.get? a=some {cls:=.type "list",data:=.seq vs.toArray}/\IntsAre vs ns/\ns.length≤n:=by
 have hsh:WShape.hasAll [] args [.list .int]=true:=(pre_splitW hpre).1
 have hc:l.pre.holds [] {args:=args}=true:=(pre_splitW hpre).2
 obtain⟨d,r,rfl,h1,h2⟩:=hasAllW_cons hsh
 obtain rfl:=hasAllW_nil h2
 obtain⟨xs,rfl,h3⟩:=hasW_list h1
 obtain⟨ns,rfl⟩:=items_int h3
 have hlen:ns.length≤n:=by
  unfold OpenLaw.pre at hc
  have h4:(WTm.not (.lt (.lit (.int (n:Int))) (.len (.arg 0)))).holds [] {args:=[.list (ns.map .int)]}=true:=by
   have h4:=(holds_andW hc).1
   rw[hn]at h4
   exact h4
  have h5:=condW_of h4 (w_not (w_lt w_lit (w_len_list (w_arg rfl))))
  rw[y8]at h5
  refine Nat.le_of_not_lt λ q=>?_
  have q':(n:Int)<((ns.length:Nat):Int):=by omega
  first
   | (rw[ZG q']at h5;exact absurd h5 (by decide))
   | (simp at h5;omega)
 cases hwl with
 | cons w1 w2=>
   cases w2
   cases w1 with
   | list ho hall=>exact⟨_,_,ns,rfl,rfl,ho,rQ ns _ hall,hlen⟩
theorem Jr(l:OpenLaw)(args:List WData):l.row.toRowW.claim.post args (.bool true) args=true:=
 postW_of (r:=l.row.toRowW) (X:=(true==true))
  (show WShape.has [] (.bool true) .bool=true by first | rfl | decide | simp[WShape.has,WShape.arms,WShape.armsAll])
  (show(WTm.eq .res (.lit (.bool true))).value [] {args:=args,res:=some (.bool true),after:=args}=some (.bool (true==true))from w_eq_bool (w_res rfl) w_lit) rfl
theorem attach_call{l:OpenLaw}{n:Nat}{q:Program}{loose:List Str}{XP:(Str->Option Value)->Heap->Prop}{YP:World->Heap->Prop}{d:DefRec}
 (hn:l.most=some n)(hdf:d.params.defaults=[])
 (call:∀(w:World)(s₀ s₁:Shared)(mg mb:Str->Option Value)(fa:Addr)(o:Obj)(pm cd doc:Value)(a:Addr)(vs:List Value)(ns:List Int),
  Ground q loose [] XP w s₀ mg mb s₁.heap->YP w s₁.heap->
  s₁.heap.get? fa=some o->o.data=.func (docDef d.name d.params d.body d.scope pm cd doc)->s₁.heap.CodeRec cd d.name->mg d.name=some (.ref fa)->
  s₁.heap.get? a=some {cls:=.type "list",data:=.seq vs.toArray}->IntsAre vs ns->ns.length≤n->s₁.gens=#[]->
  codeAny (model l.prog w) callerA (.call (.ref fa) ⟨[.ref a],[]⟩) (λ r s'=>r=.ok (.ret (.bool true))/\OldK s₁.heap s'.heap/\s'.os=s₁.os/\AllBare s'.gens) s₁):
 WalkO q loose XP YP l.row.toRowW d [] (λ f vs=>PySem.call f vs):=by
 intro w s₀ s₁ mg mb G Y fa o pm cd doc dV kV ho hd hcd hD hmg hg args vals as hpre hlay hrd hwl hlo
 obtain rfl:dV=.none:=Dflts.none hD hdf
 obtain rfl:kV=.none:=Dflts.noKw hD
 obtain⟨a,vs,ns,rfl,rfl,hobj,hints,hlen⟩:=IV hn hpre hwl
 refine enter_call (codeAny_mono (call w s₀ s₁ mg mb fa o pm cd doc a vs ns G Y ho (fd_plain hd) hcd hmg hobj hints hlen hg) λ r s' hq=>?_)
 obtain⟨rfl,h2,h3,h4⟩:=hq
 exact⟨.inl ⟨.bool true,.bool true,[],rfl,λ _=>rfl,.bool true,Jr l _,λ _=>⟨List.Pairwise.nil,λ _ hm=>(nomatch hm)⟩⟩,h2,h3,h4⟩
end Att
namespace L2
open PySem PySem.Spec PyProof.Rows
theorem fW:∀{vs:List Value}{ns:List Int},IntsAre vs ns->Vals (ns.map V.int) vs
 | _,_,.nil=>.nil
 | _,_,.cons n t h=>.cons ⟨t,rfl⟩ (fW h)
noncomputable def Only(H:Hp):Prop:=∀b,H b=none∨∃o xs,H b=some (.frz o (.lst xs))
theorem Mh{P:Program}{w:World}{K:PySem.W.Frag}{mg mb:Str->Option Value}{CX:CXT}{k:Nat}{fa a:Addr}{fd:FuncData}{x:Str}{sp:Sp}{s₁:Shared}{vs:List Value}{ns:List Int}
 (KX:K.In s₁.heap)(hns:s₁.heap.Ns mainGlobals mg)(hb:s₁.heap.Ns builtinsNs mb)(hbb:∀x:Str,x≠"__name__"->mb x=bootBuiltins x)(hlim:s₁.heap.NoLimit)(hg:s₁.gens=#[])
 (ha:s₁.heap.get? a=some {cls:=.type "list",data:=.seq vs.toArray})(hi:IntsAre vs ns)(hl:ns.length≤sizeLine)(hr:Room k callerA)
 (F:∀base:Heap,K.In base->base.Ns mainGlobals mg->FnOk P w K mg base CX k fa fd [x] sp)(hbind:∀(s:Shared)(u:Value),BindsTo s fd ⟨[u],[]⟩ [(x,u)])
 (hsp:∀H:Hp,Only H->SqL K H a (ns.map V.int)->sp [.ref a] H (λ v _=>v=.bl true) λ _ _ _=>False)
 (hCX:∀H e s',CX [] H s₁ (λ _ _ _=>False) e s'->False):
 codeAny (model P w) callerA (.call (.ref fa) ⟨[.ref a],[]⟩) (λ r s'=>r=.ok (.ret (.bool true))/\OldK s₁.heap s'.heap/\s'.os=s₁.os/\AllBare s'.gens) s₁:=by
 have rv:=fW hi
 have lenV:=hi.length
 have core:∀H:Hp,Only H->SqL K H a (ns.map V.int)->HOk P w H s₁.heap->(∀b,H b≠none->b=a)->(H a≠none->K.lookup a=none)->
  codeAny (model P w) callerA (.call (.ref fa) ⟨[.ref a],[]⟩) (λ r s'=>r=.ok (.ret (.bool true))/\OldK s₁.heap s'.heap/\s'.os=s₁.os/\AllBare s'.gens) s₁:=by
  intro H hO hS hok hA hK
  have base_of:∀{b:Addr}{o:Obj},s₁.heap.get? b=some o->H b=none->(j5 s₁.heap H).get? b=some o:=λ e n=>Lq e n
  have noA:∀{b:Addr}{o:Obj}{es:Array DictEntry}{ep:Nat},s₁.heap.get? b=some o->o.data=.dict es ep->H b=none:=λ{b o es ep} e d=>by
   cases q:H b with
   | none=>rfl
   | some u=>
     have e':b=a:=hA b (by rw[q];simp)
     subst e'
     rw[ha]at e;cases e
     have d':Data.seq vs.toArray _=Data.dict es ep:=d
     cases d'
  have nsK:∀{b:Addr}{m:Str->Option Value},s₁.heap.Ns b m->(j5 s₁.heap H).Ns b m:=λ{b m} ⟨o,es,ep,e,d,r⟩=>⟨o,es,ep,base_of e (noA e d),d,r⟩
  have hKb:K.In (j5 s₁.heap H):=λ b o e=>base_of (KX b o e) (by
   cases q:H b with
   | none=>rfl
   | some u=>
     have e':b=a:=hA b (by rw[q];simp)
     subst e'
     rw[hK (by rw[q];simp)]at e;cases e)
  have hM:Mod K mg (j5 s₁.heap H):=⟨hKb,nsK hns,⟨mb,nsK hb,hbb⟩,let ⟨mc,h1,h2⟩:=hlim;⟨mc,nsK h1,h2⟩⟩
  have e0:Env0 P w K mg (j5 s₁.heap H) callerA [] s₁ H:=⟨rfl,hM,λ b o e=>Pz e,Nat.le_of_eq (Jh _ _),trivial,λ b hb=>absurd (show b∈([]:List Addr)from hb) (by simp),hok,.of_eq hg⟩
  refine codeAny_mono ((F _ hKb (nsK hns)).run callerA [] s₁ H ⟨[.ref a],[]⟩ [.ref a] [.ref a] _ _ hr e0 (hbind s₁ (.ref a)) (.cons rfl .nil) (hsp H hO hS)) λ r s' h=>?_
  cases r with
  | error e=>exact(hCX H e s' h).elim
  | ok fl =>
    cases fl with
    | next=>exact False.elim h
    | brk=>exact False.elim h
    | cont=>exact False.elim h
    | ret u=>
      obtain⟨v,H',os,bare,un,hok',r',q⟩:=h
      have q':v=.bl true:=q
      subst q'
      obtain rfl:u=Value.bool true:=r'
      refine⟨rfl,OldK.of_keep λ b o e=>?_,os,bare⟩
      cases q:H b with
      | none=>exact un.keep b o e q (by intro z;exact absurd (show b∈([]:List Addr)from z) (by simp)) (by simp)
      | some u=>
        rcases hO b with z | ⟨ob,xs,z⟩
        . rw[q]at z;cases z
        . have z2:=un.frzs b ob _ z
          obtain⟨e1,_⟩:=hok b _ z
          obtain⟨e2,_⟩:=hok' b _ z2
          rw[e]at e1;cases e1
          exact e2
 cases hk:K.lookup a with
 | some o=>
   have e:=KX a o hk
   rw[ha]at e
   cases e
   refine core (λ _=>none) (λ _=>.inl rfl) (.inr ⟨_,vs.toArray,_,hk,rfl,rfl,rfl,by rw[x6,lenV];exact hl,by simpa using rv⟩) (λ b u z=>by have z':(none:Option HO)=some u:=z;cases z') (λ b z=>absurd rfl z) λ z=>absurd rfl z
 | none=>
   refine core (λ b=>if b=a then some (.frz {cls:=.type "list",data:=.seq vs.toArray} (.lst (ns.map V.int)))else none) (λ b=>?_) (.inl (.inr ⟨{cls:=.type "list",data:=.seq vs.toArray},if_pos rfl⟩)) (λ b u z=>?_) (λ b z=>?_) λ _=>hk
   . by_cases hb:b=a
     . exact .inr ⟨_,_,if_pos hb⟩
     . exact .inl (if_neg hb)
   . by_cases hb:b=a
     . have z':=(if_pos hb).symm.trans z
       cases z'
       subst hb
       exact⟨ha,by rw[y8];exact hl,vs,_,rv,ha⟩
     . have z':=(if_neg hb).symm.trans z
       cases z'
   . by_cases hb:b=a
     . exact hb
     . exact absurd (if_neg hb) z
end L2
namespace L2
open PySem PySem.Spec PyProof.Rows
noncomputable abbrev KOf{K:PySem.W.Frag}{h:Heap}(_:K.In h):PySem.W.Frag:=K
theorem walk_of{l:PySem.W.OpenLaw}{n k:Nat}{q:Program}{loose:List Str}{XP:(Str->Option Value)->Heap->Prop}{YP:World->Heap->Prop}{d:DefRec}{K:Params->PySem.W.Frag}{CX:World->CXT}{sp:World->Sp}{x:Str}
 (hn:l.most=some n)(hn2:n≤sizeLine)(hdf:d.params.defaults=[])(hr:Room k callerA)
 (hY:∀(w:World)(h:Heap),YP w h->(K w.params).In h)
 (F :∀(w:World)(mg:Str->Option Value)(fa:Addr)(h:Heap),(K w.params).In h->h.Ns mainGlobals mg->mg d.name=some (.ref fa)->
  ∃ fd:FuncData,(∀(s:Shared)(u:Value),BindsTo s fd ⟨[u],[]⟩ [(x,u)])/\
    ∀base:Heap,(K w.params).In base->base.Ns mainGlobals mg->FnOk l.prog w (K w.params) mg base (CX w) k fa fd [x] (sp w))
 (hsp:∀(w:World)(H:Hp)(a:Addr)(ns:List Int),ns.length≤n->Only H->SqL (K w.params) H a (ns.map V.int)->sp w [.ref a] H (λ v _=>v=.bl true) λ _ _ _=>False)
 (hCX:∀(w:World)(H:Hp)(s:Shared)(e:Value)(s':Shared),CX w [] H s (λ _ _ _=>False) e s'->False):
 PySem.W.WalkO q loose XP YP l.row.toRowW d [] (λ f vs=>PySem.call f vs):=by
 refine Att.attach_call hn hdf λ w s₀ s₁ mg mb fa o pm cd doc a vs ns G Y ho hd hcd hmg hobj hints hlen hg=>?_
 have KX:=hY w _ Y
 obtain⟨fd,hb,hF⟩:=F w mg fa _ KX G.T.g hmg
 exact Mh KX G.T.g G.T.b G.T.builtins G.T.nolimit hg hobj hints (Nat.le_trans hlen hn2) hr hF hb (λ H hO hS=>hsp w H a ns hlen hO hS) λ H e s'=>hCX w H s₁ e s'
end L2
namespace L2
open PySem PySem.Spec PyProof.Rows
noncomputable def fK(s:Stmt):Arguments:=match s with
 | .FunctionDef _ a _ _ _ _ _ _ _ _=>a
 | _=>{posonlyargs:=[],args:=[],vararg:=none,kwonlyargs:=[],kw_defaults:=[],kwarg:=none,defaults:=[]}
noncomputable def cj(s:Stmt):List Stmt:=match s with
 | .FunctionDef _ _ b _ _ _ _ _ _ _=>b
 | _=>[]
noncomputable def aH(s:Stmt):Scope:=match s with
 | .FunctionDef _ _ _ _ _ _ sc _ _ _=>sc
 | _=>{kind:=.function,names:=[],isGenerator:=false,isCoroutine:=false}
noncomputable abbrev CX0:CXT:=λ _ _ _ _ _ _=>False
noncomputable abbrev E0:XK:=λ _ _ _=>False
theorem U9{X:Cx}:Iv CX0 X E0:=λ _ _ _ _ _ _ _ h=>h.elim
structure Fun(K:PySem.W.Frag)(x qual:Str)(st:Stmt)(f:Addr)(fd:FuncData):Prop where
 ex:∃(oc:Value) (od:Option Addr) (kV doc pm:Value) (an:Option Addr) (cdv ct:Value) (osl:Array (Option Value)),
  fd=PySem.W.fnOf x qual (fK st) (cj st) (aH st) .none kV doc pm an cdv ct/\K.lookup f=some ⟨oc,od,.func fd,osl⟩/\PySem.W.codeIn K cdv qual=true
 kp:PySem.W.keepIn K (.ref f)=true
section
variable {P : Program} {w : World} {K : PySem.W.Frag} {mg : Str -> Option Value} {base : Heap}
theorem Fun.ok{x qual:Str}{st:Stmt}{f:Addr}{fd:FuncData}{N ps:List Str}{k:Nat}{sp:Sp}(F:Fun K x qual st f fd)(S:FnScope N ps (aH st))(len:∀vs H Q E,sp vs H Q E->vs.length=ps.length)
 (hbody:∀(cdv:Value)(A:Around)(outer:List Env)(s:Shared)(H:Hp)(vs:List V)(Q:VK)(E:XK),Room k (A.deeper (envOfC qual (aH st) s.heap.objs.size f cdv))->sp vs H Q E->
  ∃t,PSs (oA CX0 P w K mg base N qual (aH st) f cdv A outer s H E).nox (cj st) t/\t {nx:=λ _ H'=>Q .non H',rt:=Q} (start N vs) H):FnOk P w K mg base CX0 (k+1) f fd ps sp:=by
 obtain⟨oc,od,kV,doc,pm,an,cdv,ct,osl,rfl,lk,hcd⟩:=F.ex
 refine Vj lk hcd S len λ A outer s H vs Q E hr hsp=>?_
 obtain⟨t,h,q⟩:=hbody cdv A outer s H vs Q E hr hsp
 exact⟨t,h.nox,q⟩
theorem Fun.binds{x qual:Str}{st:Stmt}{f:Addr}{fd:FuncData}{ps:List Str}(F:Fun K x qual st f fd)
 (h:∀(kV doc pm:Value)(an:Option Addr)(cdv ct:Value)(us:List Value),us.length=ps.length->bindArgs (PySem.W.fnOf x qual (fK st) (cj st) (aH st) .none kV doc pm an cdv ct) ⟨us,[]⟩=pure (ps.zip us)):Binds K fd ps []:=by
 obtain⟨oc,od,kV,doc,pm,an,cdv,ct,osl,rfl,lk,hcd⟩:=F.ex
 exact .all (h kV doc pm an cdv ct)
theorem J7{x qual:Str}{st:Stmt}{f:Addr}{oc:Value}{od an:Option Addr}{osl:Array (Option Value)}{kV doc pm cdv ct:Value}(l:K.lookup f=some ⟨oc,od,.func (PySem.W.fnOf x qual (fK st) (cj st) (aH st) .none kV doc pm an cdv ct),osl⟩)
 (c:PySem.W.codeIn K cdv qual=true)(k:PySem.W.keepIn K (.ref f)=true):Fun K x qual st f (PySem.W.fnOf x qual (fK st) (cj st) (aH st) .none kV doc pm an cdv ct):=⟨⟨oc,od,kV,doc,pm,an,cdv,ct,osl,rfl,l,c⟩,k⟩
end
noncomputable def dD(H H':Hp):Prop:=∀b o,H b=some o->H' b=some o
theorem dD.refl(H:Hp):dD H H:=λ _ _ h=>h
end L2
namespace L2
open PySem PySem.Spec PyProof.Rows
section
variable {X : Cx} {pins : List (Addr × Obj)} {σ : St} {H : Hp} {s : Shared} {a : Addr} {y v : V} {u r : Value} {o : Option V} {A : Around} {E : Value -> Shared -> Prop}
theorem Inv.big(I:Inv X pins σ H s):sysModules<s.heap.objs.size:=by
 have h:mainGlobals<s.heap.objs.size:=(I.mod.glob.keeps I.bk).lt
 exact Nat.lt_trans (by decide) h
theorem Ow{h':Heap}{t':Nat}{ob:HO}(I:Inv X pins σ H s)(mu:Mut (H a))(hs:Heap.SameBut a s.heap h')(he:∃q,h'.get? a=some q)(new:bh X.prog X.w (upd H a ob) h' a ob):
 Inv X pins σ (upd H a ob) {s with heap:=h',toks:=t'}:=
 I.write (x:=a) (e:=a) mu (.inl rfl) (λ b q hb z=>(hs.2 b hb).trans z) he new
end
noncomputable def Rw(i:Expr):Prop:=∀ov iv,subscripted i false ov iv=operate [ov,iv] (getItem ov iv)
theorem Pk{prog:Program}{w:World}{A:Around}{E:Value->Shared->Prop}{s:Shared}{env:Env}{value slice:Expr}{pos:Pos}{T id:String}{Q:Value->Shared->Prop}
 (hl:typeLookup (.type T) "__getitem__"=pure (some (.builtin id)))(hs:Rw slice)
 (h:wpAny (model prog w) A (eval value env) (λ o s₁=>wpAny (model prog w) A (eval slice env) (λ i s₂=>s₂.TypeIs o T/\wpAny (model prog w) A (getItem o i) Q E s₂) E s₁) E s):
 wpAny (model prog w) A (eval (.Subscript value slice pos) env) Q E s:=by
 refine Subscript_ (wpAny_mono h (λ o s₁ h₁=>wpAny_mono h₁ (λ i s₂ h₂=>?_) λ _ _ x=>x) λ _ _ x=>x)
 obtain⟨hT,h₂⟩:=h₂
 unfold subscriptTail
 refine ZA ?_
 rw[getitemInPython_of_ne hT.not_modules]
 refine ZA (wpAny_specialOf hT hl ?_)
 have fin:wpAny (model prog w) A (subscripted slice false o i) (λ r s₃=>wpAny (model prog w) A (letTemporaryGo value o r>>=λ _=>pure r) Q E s₃) E s₂:=by
  rw[hs o i]
  exact wpAny_operating (wpAny_mono h₂ (λ r s₃ h₃=>ZA (wpAny_letTemporaryGo (ZB h₃))) λ _ _ x=>x)
 first
  | exact ZB (ZA fin)
  | exact ZA (ZB (ZA fin))
  | exact ZA fin
theorem Le{P:Program}{w:World}{H:Hp}(h:Heap)(hb:sysModules<h.objs.size):bh P w H (h.push {cls:=.type "dict",data:=.dict #[]}) h.objs.size (.dT []):=
 ⟨Nat.zero_le _,beq_eq_false_iff_ne.mpr (Ne.symm (ZN hb)),[],.nil,_,#[],0,ZD _ rfl,⟨rfl,rfl,rfl⟩,rfl,rfl,List.nodup_nil⟩
noncomputable def Ry:TE:=λ _ H Q=>∀p,H p=none->Q (.ref p) (upd H p (.dT []))
section
variable {X : Cx} {pos : Pos}
theorem K7:PE X (.Dict [] [] pos) Ry:=λ pins s σ H Q I h=>
 wpAny_Dict_empty ⟨.ref s.heap.objs.size,_,I.laid (a:=s.heap.objs.size) (o:=.dT []) (t':=s.toks) (λ _ _ q=>ZC _ q) (x4 _) (Le s.heap I.big),rfl,h _ (I.hok.fresh (x4 _))⟩
end
end L2
set_option maxHeartbeats 4000000
namespace DL
open PySem PySem.Spec L2
open PyProof.Rows
variable {a p : Addr} {K : PySem.W.Frag} {O O' : Own} {H H' : Hp} {xs : List V} {S : Store}
noncomputable abbrev St:=L2.St
inductive D where
 | non | bl(b:Bool) | int(i:Int) | str(x:Str) | tup(ds:List D) | lst(ds:List D) | loc(k:Nat) | dic | dlo(k:Nat)
noncomputable abbrev Store:=List (List D)
noncomputable abbrev Gam:=List (Option D)
structure Own where
 A:List (Addr×Bool)
 B:List Addr
noncomputable abbrev adr(A:List (Addr×Bool)):List Addr:=A.map Prod.fst
theorem bW{A:List (Addr×Bool)}{k:Nat}{q:Bool}(h:A[k]? =some (a,q)):a∈adr A:=ZO.mpr ⟨_,y6 h,rfl⟩
theorem dw(A N:List (Addr×Bool)):adr (A++N)=adr A++adr N:=List.map_append
noncomputable abbrev Own.has(O:Own)(a:Addr):Prop:=a∈adr O.A∨a∈O.B
noncomputable def Tp(K:PySem.W.Frag)(O:Own)(H:Hp)(a:Addr)(xs:List V):Prop:=¬O.has a/\H a=some (.tup xs)
noncomputable def Ls(K:PySem.W.Frag)(O:Own)(H:Hp)(a:Addr)(xs:List V):Prop:=(¬O.has a/\Rd H a (.lst xs))∨SqL K (λ _=>none) a xs
theorem Tp.sq(h:Tp K O H a xs):SqT K H a xs:=.inl (.inl h.2)
theorem Ls.sq(h:Ls K O H a xs):SqL K H a xs:=by
 rcases h with⟨_,h⟩ | (h | h)
 . exact .inl h
 . rcases h with h | ⟨_,h⟩<;>cases h
 . exact .inr h
mutual
inductive Rep(K:PySem.W.Frag)(O:Own)(H:Hp):V->D->Prop
 | non:Rep K O H .non .non
 | bl(b:Bool):Rep K O H (.bl b) (.bl b)
 | int(i:Int):Rep K O H (.int i) (.int i)
 | str(x:Str):Rep K O H (.str x) (.str x)
 | tup{a:Addr}{xs:List V}{ds:List D}(h:Tp K O H a xs)(r:Reps K O H xs ds):Rep K O H (.ref a) (.tup ds)
 | lst{a:Addr}{xs:List V}{ds:List D}(h:Ls K O H a xs)(r:Reps K O H xs ds):Rep K O H (.ref a) (.lst ds)
 | loc{a:Addr}{k:Nat}(h:O.A[k]? =some (a,false)):Rep K O H (.ref a) (.loc k)
 | dlo{a:Addr}{k:Nat}(h:O.A[k]? =some (a,true)):Rep K O H (.ref a) (.dlo k)
 | dic{a:Addr}(h:¬O.has a)(e:H a=some (.dK [])):Rep K O H (.ref a) .dic
inductive Reps(K:PySem.W.Frag)(O:Own)(H:Hp):List V->List D->Prop
 | nil:Reps K O H [] []
 | cons{v:V}{d:D}{vs:List V}{ds:List D}(r:Rep K O H v d)(t:Reps K O H vs ds):Reps K O H (v::vs) (d::ds)
end
structure Step(O O':Own)(H H':Hp):Prop where
 kept:∀b o,b∉adr O.A->H b=some o->H' b=some o
 dom:∀b,H b≠none->H' b≠none
 ext:∃N,O'.A=O.A++N/\∀b∈adr N,H b=none
 hid:O'.B=O.B
theorem Step.refl(O:Own)(H:Hp):Step O O H H:=⟨λ _ _ _ h=>h,λ _ h=>h,⟨[],by simp,λ _ h=>nomatch h⟩,rfl⟩
theorem Step.trans{O1 O2:Own}{H1 H2:Hp}(a:Step O O1 H H1)(b:Step O1 O2 H1 H2):Step O O2 H H2:=by
 obtain⟨N1,e1,f1⟩:=a.ext
 obtain⟨N2,e2,f2⟩:=b.ext
 refine⟨λ c o hc h=>b.kept c o (λ z=>?_) (a.kept c o hc h),λ c h=>b.dom c (a.dom c h),⟨N1++N2,by rw[e2,e1,List.append_assoc],λ c hc=>?_⟩,b.hid.trans a.hid⟩
 . rw[e1,dw]at z
   rcases ZK.mp z with z | z
   . exact hc z
   . rw[f1 c z]at h;cases h
 . rw[dw]at hc
   rcases ZK.mp hc with z | z
   . exact f1 c z
   . cases q:H c with
     | none=>rfl
     | some o=>exact absurd (f2 c z) (a.dom c (by rw[q];simp))
theorem Step.nothas(s:Step O O' H H'){a:Addr}(h:¬O.has a)(t:H a≠none):¬O'.has a:=by
 obtain⟨N,e,f⟩:=s.ext
 rintro(z | z)
 . rw[e,dw]at z
   rcases ZK.mp z with z | z
   . exact h (.inl z)
   . exact t (f a z)
 . rw[s.hid]at z;exact h (.inr z)
structure Conv(O O':Own)(H H':Hp):Prop where
 tr:∀a u,¬O.has a->H a=some u->¬O'.has a/\H' a=some u
 lc:∀(k:Nat)(a:Addr×Bool),O.A[k]? =some a->O'.A[k]? =some a
theorem Step.conv(s:Step O O' H H'):Conv O O' H H':=
 ⟨λ a u h t=>⟨s.nothas h (by rw[t];simp),s.kept a u (λ z=>h (.inl z)) t⟩,λ k a h=>by
  obtain⟨N,e,_⟩:=s.ext
  rw[e,w9 (y3.mp h).1];exact h⟩
theorem Rd.conv(s:Conv O O' H H'){a:Addr}{u:HO}(h:¬O.has a)(r:Rd H a u):¬O'.has a/\Rd H' a u:=by
 rcases r with r | ⟨o,r⟩
 . obtain⟨x,y⟩:=s.tr a _ h r
   exact⟨x,.inl y⟩
 . obtain⟨x,y⟩:=s.tr a _ h r
   exact⟨x,.inr ⟨o,y⟩⟩
theorem Tp.conv(h:Tp K O H a xs)(s:Conv O O' H H'):Tp K O' H' a xs:=s.tr a _ h.1 h.2
theorem Ls.conv(h:Ls K O H a xs)(s:Conv O O' H H'):Ls K O' H' a xs:=by
 rcases h with⟨n,r⟩ | h
 . exact .inl (Rd.conv s n r)
 . exact .inr h
mutual
theorem Rep.conv{K:PySem.W.Frag}{O O':Own}{H H':Hp}(s:Conv O O' H H'):∀{v:V}{d:D},Rep K O H v d->Rep K O' H' v d
 | _,_,.non=>.non
 | _,_,.bl b=>.bl b
 | _,_,.int i=>.int i
 | _,_,.str x=>.str x
 | _,_,.tup h r=>.tup (h.conv s) (Reps.conv s r)
 | _,_,.lst h r=>.lst (h.conv s) (Reps.conv s r)
 | _,_,.loc h=>.loc (s.lc _ _ h)
 | _,_,.dlo h=>.dlo (s.lc _ _ h)
 | _,_,.dic h e=>.dic (s.tr _ _ h e).1 (s.tr _ _ h e).2
theorem Reps.conv{K:PySem.W.Frag}{O O':Own}{H H':Hp}(s:Conv O O' H H'):∀{vs:List V}{ds:List D},Reps K O H vs ds->Reps K O' H' vs ds
 | _,_,.nil=>.nil
 | _,_,.cons r t=>.cons (Rep.conv s r) (Reps.conv s t)
end
theorem Rep.mono{v:V}{d:D}(h:Rep K O H v d)(s:Step O O' H H'):Rep K O' H' v d:=h.conv s.conv
theorem Reps.mono{v:List V}{d:List D}(h:Reps K O H v d)(s:Step O O' H H'):Reps K O' H' v d:=h.conv s.conv
noncomputable abbrev Own.hide(O:Own)(p:Addr):Own:=⟨O.A,p::O.B⟩
theorem Conv.hide(h:H p=none)(o:HO):Conv O (O.hide p) H (upd H p o):=
 ⟨λ a u n t=>by
  have ne:a≠p:=aC t h
  refine⟨λ z=>?_,by rw[au ne];exact t⟩
  rcases z with z | z
  . exact n (.inl z)
  . rcases ZJ.mp z with z | z
    . exact ne z
    . exact n (.inr z),λ _ _ h=>h⟩
theorem Conv.unhide{A:List (Addr×Bool)}{B:List Addr}:Conv ⟨A,p::B⟩ ⟨A,B⟩ H H:=
 ⟨λ a u n t=>⟨λ z=>n (z.elim .inl λ z=>.inr (x5 _ z)),t⟩,λ _ _ h=>h⟩
theorem Conv.updHid(h:p∈O.B)(o:HO):Conv O O H (upd H p o):=
 ⟨λ a u n t=>⟨n,by rw[au (λ e=>n (.inr (by rw[e];exact h)))];exact t⟩,λ _ _ h=>h⟩
theorem Reps.length{K:PySem.W.Frag}{O:Own}{H:Hp}:∀{vs:List V}{ds:List D},Reps K O H vs ds->vs.length=ds.length
 | _,_,.nil=>rfl
 | _,_,.cons _ t=>by simp[Reps.length t]
theorem Reps.get{K:PySem.W.Frag}{O:Own}{H:Hp}:∀{vs:List V}{ds:List D}{i:Nat}{d:D},Reps K O H vs ds->ds[i]? =some d->∃v,vs[i]? =some v/\Rep K O H v d
 | _,_,_,_,.nil,e=>by simp at e
 | _,_,0,_,.cons r _,e=>by simp at e;subst e;exact⟨_,rfl,r⟩
 | _,_,i+1,d,.cons _ t,e=>by
   obtain⟨v,h1,h2⟩:=Reps.get (i:=i) (d:=d) t (by simpa using e)
   exact⟨v,by simpa using h1,h2⟩
theorem Reps.get'{K:PySem.W.Frag}{O:Own}{H:Hp}:∀{vs:List V}{ds:List D}{i:Nat}{v:V},Reps K O H vs ds->vs[i]? =some v->∃d,ds[i]? =some d/\Rep K O H v d
 | _,_,_,_,.nil,e=>by simp at e
 | _,_,0,_,.cons r _,e=>by simp at e;subst e;exact⟨_,rfl,r⟩
 | _,_,i+1,d,.cons _ t,e=>by
   obtain⟨v,h1,h2⟩:=Reps.get' (i:=i) t (by simpa using e)
   exact⟨v,by simpa using h1,h2⟩
theorem Reps.append{K:PySem.W.Frag}{O:Own}{H:Hp}:∀{vs ws:List V}{ds es:List D},Reps K O H vs ds->Reps K O H ws es->Reps K O H (vs++ws) (ds++es)
 | _,_,_,_,.nil,s=>s
 | _,_,_,_,.cons r t,s=>.cons r (Reps.append t s)
theorem Reps.take{K:PySem.W.Frag}{O:Own}{H:Hp}:∀{vs:List V}{ds:List D}(n:Nat),Reps K O H vs ds->Reps K O H (vs.take n) (ds.take n)
 | _,_,0,_=>.nil
 | _,_,_+1,.nil=>.nil
 | _,_,n+1,.cons r t=>.cons r (Reps.take n t)
theorem Reps.drop{K:PySem.W.Frag}{O:Own}{H:Hp}:∀{vs:List V}{ds:List D}(n:Nat),Reps K O H vs ds->Reps K O H (vs.drop n) (ds.drop n)
 | _,_,0,r=>r
 | _,_,_+1,.nil=>.nil
 | _,_,n+1,.cons _ t=>Reps.drop n t
theorem Reps.set{K:PySem.W.Frag}{O:Own}{H:Hp}{v:V}{d:D}(r:Rep K O H v d):∀{vs:List V}{ds:List D}(i:Nat),Reps K O H vs ds->Reps K O H (vs.set i v) (ds.set i d)
 | _,_,_,.nil=>.nil
 | _,_,0,.cons _ t=>.cons r t
 | _,_,i+1,.cons q t=>.cons q (Reps.set r i t)
theorem Reps.ints{K:PySem.W.Frag}{O:Own}{H:Hp}:∀{vs:List V}{ns:List Int},Reps K O H vs (ns.map D.int)->vs=ns.map V.int
 | _,[],.nil=>rfl
 | _,_::_,.cons r t=>by cases r;simp[Reps.ints t]
theorem Reps.of_ints{K:PySem.W.Frag}{O:Own}{H:Hp}:∀ns:List Int,Reps K O H (ns.map V.int) (ns.map D.int)
 | []=>.nil
 | n::ns=>.cons (.int n) (Reps.of_ints ns)
theorem Reps.bools{K:PySem.W.Frag}{O:Own}{H:Hp}:∀{vs:List V}{ns:List Bool},Reps K O H vs (ns.map D.bl)->vs=ns.map V.bl
 | _,[],.nil=>rfl
 | _,_::_,.cons r t=>by cases r;simp[Reps.bools t]
noncomputable def Vu(ns:List Int):List Key:=ns.map Sum.inl
inductive Kps(K:PySem.W.Frag)(O:Own)(H:Hp):List (List Key×V)->List D->Prop
 | nil:Kps K O H [] []
 | cons{ns:List Int}{v:V}{d:D}{kvs:List (List Key×V)}{ds:List D}(r:Rep K O H v d)(t:Kps K O H kvs ds):Kps K O H ((Vu ns,v)::kvs) (.tup [.tup (ns.map .int),d]::ds)
theorem Kps.conv{K:PySem.W.Frag}{O O':Own}{H H':Hp}(s:Conv O O' H H'):∀{kvs:List (List Key×V)}{ds:List D},Kps K O H kvs ds->Kps K O' H' kvs ds
 | _,_,.nil=>.nil
 | _,_,.cons r t=>.cons (r.conv s) (Kps.conv s t)
noncomputable def hC0(c:Int×List Int):Int:=reduceHash (Builtin.Tuple.tupleHashOf [hashInt c.1,reduceHash (Builtin.Tuple.tupleHashOf (c.2.map hashInt))])
noncomputable abbrev Cy:=List ((Int×List Int)×Addr×Value)
noncomputable def RX(a:Addr)(ys:Cy)(h:Heap):Prop:=ys.length≤sizeLine/\(a==sysModules)=false/\(ys.map (·.1)).Nodup/\
 ∃o es ep,h.get? a=some o/\o.ExactDict/\o.data=.dict es ep/\es.toList=ys.map λ y=>(⟨hC0 y.1,.ref y.2.1,y.2.2⟩:DictEntry)
inductive Kcs(K:PySem.W.Frag)(O:Own)(H:Hp):Cy->List D->Prop
 | nil:Kcs K O H [] []
 | cons{c:Int×List Int}{b:Addr}{u:Value}{v:V}{k d:D}{ys:Cy}{ds:List D}(e:k=.tup [.int c.1,.tup (c.2.map .int)])(rk:Rep K O H (.ref b) k)(rv:RelV v u)(r:Rep K O H v d)(t:Kcs K O H ys ds):Kcs K O H ((c,b,u)::ys) (.tup [k,d]::ds)
theorem Kcs.conv{K:PySem.W.Frag}{O O':Own}{H H':Hp}(s:Conv O O' H H'):∀{ys:Cy}{ds:List D},Kcs K O H ys ds->Kcs K O' H' ys ds
 | _,_,.nil=>.nil
 | _,_,.cons e rk rv r t=>.cons e (rk.conv s) rv (r.conv s) (Kcs.conv s t)
noncomputable def isO:Option Int->Value->Bool
 | some i,.int j _=>decide (i=j)
 | none,.none=>true
 | _,_=>false
noncomputable def hO0:Option Int->Int
 | some i=>hashInt i
 | none=>4238894112
noncomputable abbrev Oy:=List (Option Int×Value)
inductive OEs:List DictEntry->Oy->Prop
 | nil:OEs [] []
 | cons{e:DictEntry}{k:Option Int}{v:Value}{es:List DictEntry}{ys:Oy}(i:isO k e.key=true)(h:e.hash=hO0 k)(q:e.val=v)(t:OEs es ys):OEs (e::es) ((k,v)::ys)
noncomputable def kO(a:Addr)(ys:Oy)(h:Heap):Prop:=ys.length≤sizeLine/\(a==sysModules)=false/\(ys.map (·.1)).Nodup/\
 ∃o es ep,h.get? a=some o/\o.ExactDict/\o.data=.dict es ep/\OEs es.toList ys
noncomputable def oD:Option Int->D
 | some i=>.int i
 | none=>.non
inductive Kos(K:PySem.W.Frag)(O:Own)(H:Hp):Oy->List D->Prop
 | nil:Kos K O H [] []
 | cons{c:Option Int}{u:Value}{v:V}{k d:D}{ys:Oy}{ds:List D}(e:k=oD c)(rv:RelV v u)(r:Rep K O H v d)(t:Kos K O H ys ds):Kos K O H ((c,u)::ys) (.tup [k,d]::ds)
theorem Kos.conv{K:PySem.W.Frag}{O O':Own}{H H':Hp}(s:Conv O O' H H'):∀{ys:Oy}{ds:List D},Kos K O H ys ds->Kos K O' H' ys ds
 | _,_,.nil=>.nil
 | _,_,.cons e rv r t=>.cons e rv (r.conv s) (Kos.conv s t)
inductive DOb(K:PySem.W.Frag)(O:Own)(H:Hp)(a:Addr)(ds:List D):Prop
 | t(kvs:List (List Key×V))(e:H a=some (.dT kvs))(r:Kps K O H kvs ds):DOb K O H a ds
 | c(ys:Cy)(n:ys≠[])(e:H a=some (.ext (RX a ys)))(r:Kcs K O H ys ds):DOb K O H a ds
 | o(ys:Oy)(n:ys≠[])(e:H a=some (.ext (kO a ys)))(r:Kos K O H ys ds):DOb K O H a ds
theorem DOb.move{ds:List D}(s:Conv O O' H H')(b:DOb K O H a ds)(h:∀o,H a=some o->H' a=some o):DOb K O' H' a ds:=by
 cases b with
 | t kvs e r=>exact .t kvs (h _ e) (r.conv s)
 | c ys n e r=>exact .c ys n (h _ e) (r.conv s)
 | o ys n e r=>exact .o ys n (h _ e) (r.conv s)
theorem DOb.there{ds:List D}(b:DOb K O H a ds):H a≠none:=by
 cases b with
 | t kvs e r=>rw[e];simp
 | c ys n e r=>rw[e];simp
 | o ys n e r=>rw[e];simp
structure StOk(K:PySem.W.Frag)(O:Own)(H:Hp)(S:Store):Prop where
 nd:(adr O.A).Nodup
 len:O.A.length=S.length
 obj:∀(k:Nat)(a:Addr)(ds:List D),O.A[k]? =some (a,false)->S[k]? =some ds->∃xs,H a=some (.lst xs)/\Reps K O H xs ds
 dob:∀(k:Nat)(a:Addr)(ds:List D),O.A[k]? =some (a,true)->S[k]? =some ds->DOb K O H a ds
 apart:∀a∈adr O.A,a∉O.B
 hidden:∀b∈O.B,H b≠none
structure EnvOk(K:PySem.W.Frag)(O:Own)(H:Hp)(σ:St)(Γ:Gam):Prop where
 len:σ.length=Γ.length
 at_:∀(i:Nat)(d:D),Γ[i]? =some (some d)->∃v,σ[i]? =some (some v)/\Rep K O H v d
theorem EnvOk.mono{σ:St}{Γ:Gam}(e:EnvOk K O H σ Γ)(s:Step O O' H H'):EnvOk K O' H' σ Γ:=
 ⟨e.len,λ i d h=>let ⟨v,a,b⟩:=e.at_ i d h;⟨v,a,b.mono s⟩⟩
theorem EnvOk.set{σ:St}{Γ:Gam}(e:EnvOk K O H σ Γ){v:V}{d:D}(r:Rep K O H v d)(i:Nat):EnvOk K O H (σ.set i (some v)) (Γ.set i (some d)):=by
 refine⟨by simp[e.len],λ j c h=>?_⟩
 by_cases hj:i=j
 . subst hj
   have hl:i<Γ.length:=by
    have:=(y3.mp h).1
    simpa using this
   rw[List.getElem?_set_self hl]at h
   cases h
   exact⟨v,List.getElem?_set_self (by rw[e.len];exact hl),r⟩
 . rw[List.getElem?_set_ne hj]at h
   rw[List.getElem?_set_ne hj]
   exact e.at_ j c h
theorem StOk.tracked(s:StOk K O H S){a:Addr}(h:O.has a):H a≠none:=by
 rcases h with h | h
 . obtain⟨⟨a',c⟩,hm,rfl⟩:=ZO.mp h
   obtain⟨k,hk⟩:=ZR hm
   have hl:k<S.length:=by rw[←s.len];exact(y3.mp hk).1
   cases c with
   | false=>
     obtain⟨xs,q,_⟩:=s.obj k a' S[k] hk (y4 hl)
     rw[show(a',false).1=a' from rfl,q];simp
   | true=>
     exact(s.dob k a' S[k] hk (y4 hl)).there
 . exact s.hidden a h
theorem Step.fresh(h:H p=none)(o:HO):Step O O H (upd H p o):=
 ⟨λ b u _ q=>by rw[au (aC q h)];exact q,λ b q=>by
  by_cases e:b=p
  . subst e;rw[aU];simp
  . rw[au e];exact q,⟨[],by simp,λ _ z=>nomatch z⟩,rfl⟩
theorem Step.same(h:dD H H'):Step O O H H':=
 ⟨λ b o _ q=>h b o q,λ b q=>by
  cases e:H b with
  | none=>exact absurd e q
  | some o=>rw[h b o e];simp,⟨[],by simp,λ _ z=>nomatch z⟩,rfl⟩
theorem dD.fresh(h:H p=none)(o:HO):dD H (upd H p o):=λ b u q=>by rw[au (aC q h)];exact q
theorem StOk.same(s:StOk K O H S)(h:dD H H'):StOk K O H' S:=
 ⟨s.nd,s.len,λ k a ds e1 e2=>let ⟨xs,q,r⟩:=s.obj k a ds e1 e2;⟨xs,h _ _ q,r.mono (Step.same h)⟩,λ k a ds e1 e2=>(s.dob k a ds e1 e2).move (Step.same h).conv λ o q=>h _ _ q,s.apart,λ b hb=>(Step.same (O:=O) h).dom b (s.hidden b hb)⟩
theorem StOk.fresh_not(s:StOk K O H S){p:Addr}(h:H p=none):¬O.has p:=λ z=>s.tracked z h
theorem StOk.fresh(s:StOk K O H S){p:Addr}(h:H p=none)(o:HO):StOk K O (upd H p o) S:=s.same (dD.fresh h o)
noncomputable abbrev Own.more(O:Own)(p:Addr)(q:Bool:=false):Own:=⟨O.A++[(p,q)],O.B⟩
theorem Step.own(h:H p=none)(o:HO)(q:Bool:=false):Step O (O.more p q) H (upd H p o):=
 ⟨(Step.fresh (O:=O) h o).kept,(Step.fresh (O:=O) h o).dom,⟨[(p,q)],rfl,λ b z=>by rw[ZL.mp z];exact h⟩,rfl⟩
theorem jK{A:List (Addr×Bool)}{p:Addr×Bool}{k:Nat}{x:Addr×Bool}(h:(A++[p])[k]? =some x):A[k]? =some x∨(k=A.length/\x=p):=by
 by_cases hk:k<A.length
 . rw[w9 hk]at h;exact .inl h
 . rw[List.getElem?_append_right (by omega)]at h
   have hk0:k-A.length=0:=by
    have:=(y3.mp h).1
    simp at this;omega
   rw[hk0]at h
   exact .inr ⟨by omega,(Option.some.inj h).symm⟩
theorem zO{A:List (Addr×Bool)}{q:Bool}(h:(adr A).Nodup)(n:p∉adr A):(adr (A++[(p,q)])).Nodup:=by
 rw[dw]
 refine List.nodup_append.mpr ⟨h,by simp,λ a ha b hb e=>?_⟩
 rw[ZL.mp hb]at e;rw[e]at ha;exact n ha
theorem StOk.own(s:StOk K O H S){p:Addr}(h:H p=none){xs:List V}{ds:List D}(r:Reps K O H xs ds):
 StOk K (O.more p) (upd H p (.lst xs)) (S++[ds]):=by
 have st:=Step.own (O:=O) h (.lst xs)
 have np:=s.fresh_not h
 refine⟨zO s.nd λ z=>np (.inl z),by simp[s.len],λ k a es e1 e2=>?_,λ k a es e1 e2=>?_,λ a ha=>?_,λ b hb=>st.dom b (s.hidden b hb)⟩
 . rcases jK e1 with e1 | ⟨rfl,e⟩
   . have hk:=(y3.mp e1).1
     rw[w9 (by rw[←s.len];exact hk)]at e2
     obtain⟨ys,q,r'⟩:=s.obj k a es e1 e2
     exact⟨ys,by rw[au (aC q h)];exact q,r'.mono st⟩
   . cases e
     rw[List.getElem?_append_right (by rw[s.len];exact x4 _),s.len,Nat.sub_self]at e2
     cases e2
     exact⟨xs,aU,r.mono st⟩
 . rcases jK e1 with e1 | ⟨rfl,e⟩
   . have hk:=(y3.mp e1).1
     rw[w9 (by rw[←s.len];exact hk)]at e2
     exact(s.dob k a es e1 e2).move st.conv λ o q=>by rw[au (aC q h)];exact q
   . cases e
 . rw[dw]at ha
   rcases ZK.mp ha with z | z
   . exact s.apart a z
   . rw[ZL.mp z];exact λ q=>np (.inr q)
theorem StOk.ownD(s:StOk K O H S){p:Addr}(h:H p=none){kvs:List (List Key×V)}{ds:List D}(r:Kps K O H kvs ds):
 StOk K (O.more p true) (upd H p (.dT kvs)) (S++[ds]):=by
 have st:=Step.own (O:=O) h (.dT kvs) true
 have np:=s.fresh_not h
 refine⟨zO s.nd λ z=>np (.inl z),by simp[s.len],λ k a es e1 e2=>?_,λ k a es e1 e2=>?_,λ a ha=>?_,λ b hb=>st.dom b (s.hidden b hb)⟩
 . rcases jK e1 with e1 | ⟨rfl,e⟩
   . have hk:=(y3.mp e1).1
     rw[w9 (by rw[←s.len];exact hk)]at e2
     obtain⟨ys,q,r'⟩:=s.obj k a es e1 e2
     exact⟨ys,by rw[au (aC q h)];exact q,r'.mono st⟩
   . cases e
 . rcases jK e1 with e1 | ⟨rfl,e⟩
   . have hk:=(y3.mp e1).1
     rw[w9 (by rw[←s.len];exact hk)]at e2
     exact(s.dob k a es e1 e2).move st.conv λ o q=>by rw[au (aC q h)];exact q
   . cases e
     rw[List.getElem?_append_right (by rw[s.len];exact x4 _),s.len,Nat.sub_self]at e2
     cases e2
     exact .t kvs aU (r.conv st.conv)
 . rw[dw]at ha
   rcases ZK.mp ha with z | z
   . exact s.apart a z
   . rw[ZL.mp z];exact λ q=>np (.inr q)
theorem Step.put(h:a∈adr O.A)(o:HO):Step O O H (upd H a o):=
 ⟨λ b u hb q=>by rw[au (λ e=>hb (by rw[e];exact h))];exact q,λ b q=>by
  by_cases e:b=a
  . subst e;rw[aU];simp
  . rw[au e];exact q,⟨[],by simp,λ _ z=>nomatch z⟩,rfl⟩
theorem sS{A:List (Addr×Bool)}(nd:(adr A).Nodup){k j:Nat}{a b:Addr}{p q:Bool}(h:A[k]? =some (a,p))(h2:A[j]? =some (b,q))(hj:k≠j):b≠a:=λ e=>hj (by
 have g1:(adr A)[k]? =some a:=by rw[y9,h];rfl
 have g2:(adr A)[j]? =some b:=by rw[y9,h2];rfl
 obtain⟨h1,e1'⟩:=y3.mp g1
 obtain⟨h2,e2'⟩:=y3.mp g2
 exact(List.getElem_inj nd).mp (e1'.trans (e.symm.trans e2'.symm)))
theorem StOk.put(s:StOk K O H S){k:Nat}{a:Addr}(h:O.A[k]? =some (a,false)){xs:List V}{ds:List D}(r:Reps K O H xs ds):
 StOk K O (upd H a (.lst xs)) (S.set k ds):=by
 have st:=Step.put (O:=O) (H:=H) (bW h) (.lst xs)
 refine⟨s.nd,by simp[s.len],λ j b es e1 e2=>?_,λ j b es e1 e2=>?_,s.apart,λ b hb=>st.dom b (s.hidden b hb)⟩
 . by_cases hj:k=j
   . subst hj
     rw[h]at e1;cases e1
     have hl:=(y3.mp e2).1
     rw[List.getElem?_set_self (by simpa using hl)]at e2
     cases e2
     exact⟨xs,aU,r.mono st⟩
   . rw[List.getElem?_set_ne hj]at e2
     obtain⟨ys,q,r'⟩:=s.obj j b es e1 e2
     exact⟨ys,by rw[au (sS s.nd h e1 hj)];exact q,r'.mono st⟩
 . have hj:k≠j:=λ e=>by subst e;rw[h]at e1;cases e1
   rw[List.getElem?_set_ne hj]at e2
   exact(s.dob j b es e1 e2).move st.conv λ o q=>by rw[au (sS s.nd h e1 hj)];exact q
theorem StOk.putO(s:StOk K O H S){k:Nat}{a:Addr}(h:O.A[k]? =some (a,true)){o:HO}{ds:List D}(r:DOb K O (upd H a o) a ds):
 StOk K O (upd H a o) (S.set k ds):=by
 have st:=Step.put (O:=O) (H:=H) (bW h) o
 refine⟨s.nd,by simp[s.len],λ j b es e1 e2=>?_,λ j b es e1 e2=>?_,s.apart,λ b hb=>st.dom b (s.hidden b hb)⟩
 . have hj:k≠j:=λ e=>by subst e;rw[h]at e1;cases e1
   rw[List.getElem?_set_ne hj]at e2
   obtain⟨ys,q,r'⟩:=s.obj j b es e1 e2
   exact⟨ys,by rw[au (sS s.nd h e1 hj)];exact q,r'.mono st⟩
 . by_cases hj:k=j
   . subst hj
     rw[h]at e1;cases e1
     have hl:=(y3.mp e2).1
     rw[List.getElem?_set_self (by simpa using hl)]at e2
     cases e2
     exact r
   . rw[List.getElem?_set_ne hj]at e2
     exact(s.dob j b es e1 e2).move st.conv λ o q=>by rw[au (sS s.nd h e1 hj)];exact q
theorem StOk.hide(s:StOk K O H S){p:Addr}(h:H p=none)(o:HO):StOk K (O.hide p) (upd H p o) S:=by
 have st:=Step.fresh (O:=O) h o
 refine⟨s.nd,s.len,λ k a ds e1 e2=>?_,λ k a ds e1 e2=>?_,λ a ha z=>?_,λ b hb=>?_⟩
 . obtain⟨xs,q,r⟩:=s.obj k a ds e1 e2
   exact⟨xs,by rw[au (aC q h)];exact q,r.conv (Conv.hide h o)⟩
 . exact(s.dob k a ds e1 e2).move (Conv.hide h o) λ o q=>by rw[au (aC q h)];exact q
 . rcases ZJ.mp z with z | z
   . exact s.tracked (.inl ha) (z▸h)
   . exact s.apart a ha z
 . rcases ZJ.mp hb with z | z
   . subst z;rw[aU];simp
   . exact st.dom b (s.hidden b z)
theorem StOk.unhide{A:List (Addr×Bool)}{B:List Addr}(s:StOk K ⟨A,p::B⟩ H S):StOk K ⟨A,B⟩ H S:=
 ⟨s.nd,s.len,λ k a ds e1 e2=>let ⟨xs,q,r⟩:=s.obj k a ds e1 e2;⟨xs,q,r.conv Conv.unhide⟩,λ k a ds e1 e2=>(s.dob k a ds e1 e2).move Conv.unhide λ _ q=>q,λ a ha z=>s.apart a ha (x5 _ z),λ b hb=>s.hidden b (x5 _ hb)⟩
theorem StOk.updHid(s:StOk K O H S){p:Addr}(h:p∈O.B)(o:HO):StOk K O (upd H p o) S:=
 ⟨s.nd,s.len,λ k a ds e1 e2=>by
  obtain⟨xs,q,r⟩:=s.obj k a ds e1 e2
  have ne:a≠p:=λ e=>s.apart a (bW e1) (e▸h)
  exact⟨xs,by rw[au ne];exact q,r.conv (Conv.updHid h o)⟩,λ k a ds e1 e2=>by
  have ne:a≠p:=λ e=>s.apart a (bW e1) (e▸h)
  exact(s.dob k a ds e1 e2).move (Conv.updHid h o) λ _ q=>by rw[au ne];exact q,s.apart,λ b hb=>by
  by_cases e:b=p
  . subst e;rw[aU];simp
  . rw[au e];exact s.hidden b hb⟩
theorem Step.adopt{A:List (Addr×Bool)}(s:Step O ⟨A,O.B⟩ H H')(h:H p=none):Step O ⟨A++[(p,false)],O.B⟩ H H':=by
 obtain⟨N,e,f⟩:=s.ext
 refine⟨s.kept,s.dom,⟨N++[(p,false)],?_,λ b hb=>?_⟩,rfl⟩
 . show A++[(p,false)]=_
   rw[show A=O.A++N from e,List.append_assoc]
 . rw[dw]at hb
   rcases ZK.mp hb with z | z
   . exact f b z
   . rw[ZL.mp z];exact h
theorem Conv.adopt{A:List (Addr×Bool)}{B:List Addr}:Conv ⟨A,p::B⟩ ⟨A++[(p,false)],B⟩ H H:=
 ⟨λ a u n t=>⟨λ z=>n (z.elim (λ z=>(ZK.mp (by rw[←dw];exact z)).elim .inl λ z=>.inr (by rw[ZL.mp z];exact x8)) λ z=>.inr (x5 _ z)),t⟩,
  λ k a h=>by
   show(A++[(p,false)])[k]? =some a
   rw[w9 (y3.mp h).1];exact h⟩
theorem StOk.adopt{A:List (Addr×Bool)}{B:List Addr}{ds:List D}(s:StOk K ⟨A,p::B⟩ H S)(hp:p∉B)(h:H p=some (.lst xs))(r:Reps K ⟨A,p::B⟩ H xs ds):StOk K ⟨A++[(p,false)],B⟩ H (S++[ds]):=by
 have np:p∉adr A:=λ z=>s.apart p z x8
 have sl:A.length=S.length:=s.len
 refine⟨zO s.nd np,by simp[sl],λ k a es e1 e2=>?_,λ k a es e1 e2=>?_,λ a ha=>?_,λ b hb=>s.hidden b (x5 _ hb)⟩
 . rcases jK e1 with e1 | ⟨rfl,e⟩
   . have hk:=(y3.mp e1).1
     rw[w9 (by omega)]at e2
     obtain⟨ys,q,r'⟩:=s.obj k a es e1 e2
     exact⟨ys,q,r'.conv Conv.adopt⟩
   . cases e
     rw[List.getElem?_append_right (by omega),sl,Nat.sub_self]at e2
     cases e2
     exact⟨xs,h,r.conv Conv.adopt⟩
 . rcases jK e1 with e1 | ⟨rfl,e⟩
   . have hk:=(y3.mp e1).1
     rw[w9 (by omega)]at e2
     exact(s.dob k a es e1 e2).move Conv.adopt λ _ q=>q
   . cases e
 . have ha:a∈adr (A++[(p,false)]):=ha
   rw[dw]at ha
   rcases ZK.mp ha with z | z
   . exact λ q=>s.apart a z (x5 _ q)
   . rw[ZL.mp z];exact hp
theorem Step.inner{A1 A2:List (Addr×Bool)}{B:List Addr}{H1 H2:Hp}(a:Step O ⟨A1,B⟩ H H1)(b:Step ⟨A1,p::B⟩ ⟨A2,p::B⟩ H1 H2)(h:H p=none)(o:HO):Step O ⟨A2,B⟩ H (upd H2 p o):=by
 have b':Step ⟨A1,B⟩ ⟨A2,B⟩ H1 H2:=⟨b.kept,b.dom,b.ext,rfl⟩
 have c:=a.trans b'
 refine⟨λ x u hx t=>?_,λ x t=>?_,c.ext,c.hid⟩
 . rw[au (aC t h)];exact c.kept x u hx t
 . by_cases e:x=p
   . subst e;rw[aU];simp
   . rw[au e];exact c.dom x t
end DL
namespace DL
open PySem PySem.Spec L2
open PyProof.Rows
variable {K : PySem.W.Frag} {O : Own} {H : Hp} {x : D} {ds : List D} {i j : Int} {p : Addr} {xs : List V}
noncomputable abbrev Pins:=List (Addr×Obj)
noncomputable abbrev WD:=D->Store->Prop
noncomputable def QG(K:PySem.W.Frag)(O:Own)(H:Hp)(W:WD):VK:=λ v H'=>∃O' d S',W d S'/\Step O O' H H'/\StOk K O' H' S'/\Rep K O' H' v d
noncomputable def QA(K:PySem.W.Frag)(O:Own)(H:Hp)(W:List D->Store->Prop):List V->Hp->Prop:=λ vs H'=>∃O' ds S',W ds S'/\Step O O' H H'/\StOk K O' H' S'/\Reps K O' H' vs ds
noncomputable def QT(K:PySem.W.Frag)(O:Own)(H:Hp)(W:Bool->Store->Prop):Bool->Hp->Prop:=λ b H'=>∃O' S',W b S'/\Step O O' H H'/\StOk K O' H' S'
noncomputable def Ev(X:Cx)(Γ:Gam)(S:Store)(e:Expr)(W:WD):Prop:=
 ∀ (pins:Pins)(s:Shared)(σ:St)(H:Hp)(O:Own),Inv X pins σ H s->EnvOk X.K O H σ Γ->StOk X.K O H S->
   wpAny (model X.prog X.w) X.A (eval e X.env) (EP X pins σ (QG X.K O H W)) X.xe s
noncomputable def EvA(X:Cx)(Γ:Gam)(S:Store)(es:List Expr)(W:List D->Store->Prop):Prop:=
 ∀ (pos:Pos)(pins:Pins)(s:Shared)(σ:St)(H:Hp)(O:Own),Inv X pins σ H s->EnvOk X.K O H σ Γ->StOk X.K O H S->
   wpAny (model X.prog X.w) X.A (spliced (backTo pos (starEach es X.env))) (AP X pins σ (QA X.K O H W)) X.xe s
noncomputable def TsW(X:Cx)(Γ:Gam)(S:Store)(e:Expr)(W:Bool->Store->Prop):Prop:=
 ∀ (whole:Sem Value)(pins:Pins)(s:Shared)(σ:St)(H:Hp)(O:Own),Inv X pins σ H s->EnvOk X.K O H σ Γ->StOk X.K O H S->
   wpAny (model X.prog X.w) X.A (isTrue e X.env whole) (TP X pins σ (QT X.K O H W)) X.xe s
noncomputable def Ts(X:Cx)(Γ:Gam)(S:Store)(e:Expr)(W:Bool->Store->Prop):Prop:=
 ∀ (pins:Pins)(s:Shared)(σ:St)(H:Hp)(O:Own),Inv X pins σ H s->EnvOk X.K O H σ Γ->StOk X.K O H S->
   wpAny (model X.prog X.w) X.A (isTrue e X.env (eval e X.env)) (TP X pins σ (QT X.K O H W)) X.xe s
noncomputable def OpW(X:Cx)(f:Value->Value->Sem Value)(x y:D)(S:Store)(W:WD):Prop:=
 ∀ (pins:Pins)(s:Shared)(σ:St)(H:Hp)(O:Own)(v w:V)(u u':Value),Inv X pins σ H s->StOk X.K O H S->Rep X.K O H v x->Rep X.K O H w y->RelV v u->RelV w u'->
   wpAny (model X.prog X.w) X.A (f u u') (EP X pins σ (QG X.K O H W)) X.xe s
noncomputable def cG(X:Cx)(f:Value)(ds:List D)(S:Store)(W:WD):Prop:=
 ∀ (pins:Pins)(s:Shared)(σ:St)(H:Hp)(O:Own)(vs:List V)(us:List Value),Inv X pins σ H s->StOk X.K O H S->Reps X.K O H vs ds->Vals vs us->
   wpAny (model X.prog X.w) X.A (call f us) (EP X pins σ (QG X.K O H W)) X.xe s
noncomputable abbrev dM(X:Cx)(op:Operator):=OpW X (binaryOp op)
noncomputable abbrev bz(X:Cx)(op:CmpOp):=OpW X (compareOp op)
section
variable {X : Cx} {Γ : Gam} {S S1 : Store} {W : WD} {a b e : Expr} {es rest : List Expr} {pos : Pos}
theorem QG.pre{O1:Own}{H1:Hp}(st:Step O O1 H H1){v:V}{H':Hp}(q:QG K O1 H1 W v H'):QG K O H W v H':=by
 obtain⟨O',d,S',w,s',ok,r⟩:=q
 exact⟨O',d,S',w,st.trans s',ok,r⟩
theorem cH{pins:Pins}{σ:St}{O1:Own}{H1:Hp}(st:Step O O1 H H1){u:Value}{s':Shared}(q:EP X pins σ (QG X.K O1 H1 W) u s'):EP X pins σ (QG X.K O H W) u s':=by
 obtain⟨v,H',I,r,q⟩:=q
 exact⟨v,H',I,r,q.pre st⟩
theorem NP{pins:Pins}{σ:St}{O1:Own}{H1:Hp}(st:Step O O1 H H1){W:Bool->Store->Prop}{u:Bool}{s':Shared}(q:TP X pins σ (QT X.K O1 H1 W) u s'):TP X pins σ (QT X.K O H W) u s':=by
 obtain⟨H',I,O',S',w,s2,ok⟩:=q
 exact⟨H',I,O',S',w,st.trans s2,ok⟩
theorem Ev.mono{W':WD}(h:Ev X Γ S e W)(k:∀d S',W d S'->W' d S'):Ev X Γ S e W':=λ pins s σ H O I env st=>
 thn (h pins s σ H O I env st) λ _ _ ⟨v,H',I',r,O',d,S',w,q⟩=>⟨v,H',I',r,O',d,S',k d S' w,q⟩
theorem OpW.mono{f:Value->Value->Sem Value}{y:D}{W':WD}(h:OpW X f x y S W)(k:∀d S',W d S'->W' d S'):OpW X f x y S W':=λ pins s σ H O v w u u' I st r1 r2 r3 r4=>
 thn (h pins s σ H O v w u u' I st r1 r2 r3 r4) λ _ _ ⟨v,H',I',r,O',d,S',w,q⟩=>⟨v,H',I',r,O',d,S',k d S' w,q⟩
theorem eN{f:Value->Value->Sem Value}{r:R2}{y:D}(ho:OpR X f r)(h:∀O H v w,StOk X.K O H S->Rep X.K O H v x->Rep X.K O H w y->r v w H (QG X.K O H W)):OpW X f x y S W:=
 λ pins s σ H O v w u u' I st r1 r2 r3 r4=>ho pins s σ H v w u u' _ I r3 r4 (h O H v w st r1 r2)
theorem bR{f:Value}{r:List V->Hp->VK->Prop}(hc:gj X f r)(h:∀O H vs,StOk X.K O H S->Reps X.K O H vs ds->r vs H (QG X.K O H W)):cG X f ds S W:=
 λ pins s σ H O vs us I st r1 r2=>hc pins s σ H vs us _ I r2 (h O H vs st r1)
theorem QG.here{v:V}{d:D}(w:W d S)(st:StOk K O H S)(r:Rep K O H v d):QG K O H W v H:=⟨O,d,S,w,Step.refl O H,st,r⟩
theorem R9(i:Nat){x:Str}{d:D}(hΓ:Γ[i]? =some (some d))(w:W d S)(hN:X.N[i]? =some x:=by rfl)
 (hv:Vis X.env.scope x:=by first | exact Or.inl rfl | exact Or.inr (Or.inl rfl) | exact Or.inr (Or.inr rfl))(hd:(x==("__debug__":Str))=false:=by decide)(hcd:(x==("__classdict__":Str))=false:=by decide):
 Ev X Γ S (.Name x pos) W:=by
 intro pins s σ H O I env st
 obtain⟨v,e,r⟩:=env.at_ i d hΓ
 exact Sd hN hv hd hcd pins s σ H _ I ⟨v,e,QG.here w st r⟩
theorem JP{j}(w:W (.int i) S):Ev X Γ S (.Constant (.int i) j pos) W:=λ pins s σ H O I _ st=>Rr pins s σ H _ I (QG.here w st (.int i))
theorem UG{i:Bool}{j}(w:W (.bl i) S):Ev X Γ S (.Constant (.bool i) j pos) W:=λ pins s σ H O I _ st=>U8 pins s σ H _ I (QG.here w st (.bl i))
theorem M5{x:Str}{t:Tok}(hm:X.mg x=some (.int i t))(w:W (.int i) S)(hg:Gl X x:=by rfl)(hd:(x==("__debug__":Str))=false:=by decide):Ev X Γ S (.Name x pos) W:=
 λ pins s σ H O I _ st=>Qv hg hm (v:=.int i) ⟨t,rfl⟩ hd pins s σ H _ I (QG.here w st (.int i))
theorem zq{op:Operator}(h:Ev X Γ S a λ x S1=>Ev X Γ S1 b λ y S2=>dM X op x y S2 W):Ev X Γ S (.BinOp a op b pos) W:=by
 intro pins s σ H O I env st
 refine wpAny_BinOp (thn (h pins s σ H O I env st) λ u s1 hq_=>?_)
 obtain⟨v,H1,I1,r1,O1,x,S1,hb,st1,ok1,rep1⟩:=hq_
 refine thn (hb pins s1 σ H1 O1 I1 (env.mono st1) ok1) λ u' s2 hq_=>?_
 obtain⟨w,H2,I2,r2,O2,y,S2,hw,st2,ok2,rep2⟩:=hq_
 exact thn (hw pins s2 σ H2 O2 v w u u' I2 ok2 (rep1.mono st2) rep2 r1 r2) λ _ _ q=>cH (st1.trans st2) q
theorem Q9{op:CmpOp}(h:Ev X Γ S a λ x S1=>Ev X Γ S1 b λ y S2=>bz X op x y S2 W)(hm:behindInMarks op b=false:=by first | exact nomark _ | (with_unfolding_all rfl)):Ev X Γ S (.Compare a [op] [b] pos) W:=by
 intro pins s σ H O I env st
 refine wpAny_Compare1 (thn (h pins s σ H O I env st) λ u s1 hq_=>?_) hm
 obtain⟨v,H1,I1,r1,O1,x,S1,hb,st1,ok1,rep1⟩:=hq_
 refine thn (hb pins s1 σ H1 O1 I1 (env.mono st1) ok1) λ u' s2 hq_=>?_
 obtain⟨w,H2,I2,r2,O2,y,S2,hw,st2,ok2,rep2⟩:=hq_
 exact thn (hw pins s2 σ H2 O2 v w u u' I2 ok2 (rep1.mono st2) rep2 r1 r2) λ _ _ q=>cH (st1.trans st2) q
noncomputable abbrev asB(W:Bool->Store->Prop):WD:=λ d S=>∃c,d=.bl c/\W c S
theorem zu{op:CmpOp}{W:Bool->Store->Prop}(h:Ev X Γ S a λ x S1=>Ev X Γ S1 b λ y S2=>bz X op x y S2 (asB W))(hm:behindInMarks op b=false:=by first | exact nomark _ | (with_unfolding_all rfl)):Ts X Γ S (.Compare a [op] [b] pos) W:=by
 intro pins s σ H O I env st
 refine wpAny_isTrue_Compare1 (thn (h pins s σ H O I env st) λ u s1 hq_=>?_) hm
 obtain⟨v,H1,I1,r1,O1,x,S1,hb,st1,ok1,rep1⟩:=hq_
 refine thn (hb pins s1 σ H1 O1 I1 (env.mono st1) ok1) λ u' s2 hq_=>?_
 obtain⟨w,H2,I2,r2,O2,y,S2,hw,st2,ok2,rep2⟩:=hq_
 refine thn (hw pins s2 σ H2 O2 v w u u' I2 ok2 (rep1.mono st2) rep2 r1 r2) λ _ _ hq_=>?_
 obtain⟨z,H3,I3,r3,O3,d,S3,⟨c,hd,wc⟩,st3,ok3,rep3⟩:=hq_
 subst hd
 cases rep3
 cases r3
 exact wpAny_truthy_bool ⟨H3,I3,O3,S3,wc,(st1.trans st2).trans st3,ok3⟩
theorem Q0{W:Bool->Store->Prop}(h:Ev X Γ S e (asB W))(he:∀whole,isTrue e X.env whole=(do let v ←whole;standAt e.pos;holding [v] (truthy v)):=by intro _;rfl):Ts X Γ S e W:=by
 intro pins s σ H O I env st
 refine isTrue_plain (thn (h pins s σ H O I env st) λ _ _ hq_=>?_) (he _)
 obtain⟨z,H3,I3,r3,O3,d,S3,⟨c,hd,wc⟩,st3,ok3,rep3⟩:=hq_
 subst hd
 cases rep3
 cases r3
 exact wpAny_truthy_bool ⟨H3,I3,O3,S3,wc,st3,ok3⟩
theorem TsW.ts{W:Bool->Store->Prop}(h:TsW X Γ S e W):Ts X Γ S e W:=λ pins s σ H O I env st=>h _ pins s σ H O I env st
theorem tw_and1{W:Bool->Store->Prop}(h:Ts X Γ S a W):TsW X Γ S (.BoolOp .And [a] pos) W:=by
 intro wh pins s σ H O I env st
 refine isTrue_and (thn (h pins s σ H O I env st) λ c s1 e=>?_)
 cases c with
 | true=>exact isTrue_and_nil e
 | false=>exact e
theorem tw_or1{W:Bool->Store->Prop}(h:Ts X Γ S a W):TsW X Γ S (.BoolOp .Or [a] pos) W:=by
 intro wh pins s σ H O I env st
 refine isTrue_or (thn (h pins s σ H O I env st) λ c s1 e=>?_)
 cases c with
 | false=>exact isTrue_or_nil e
 | true=>exact e
theorem tw_and{W:Bool->Store->Prop}(h:Ts X Γ S a λ c S1=>(c=true->TsW X Γ S1 (.BoolOp .And (b::rest) pos) W)/\(c=false->W false S1)):TsW X Γ S (.BoolOp .And (a::b::rest) pos) W:=by
 intro wh pins s σ H O I env st
 refine isTrue_and (thn (h pins s σ H O I env st) λ c s1 hq_=>?_)
 obtain⟨H1,I1,O1,S1,w1,st1,ok1⟩:=hq_
 cases c with
 | true=>exact thn (w1.1 rfl wh pins s1 σ H1 O1 I1 (env.mono st1) ok1) λ _ _ q=>NP st1 q
 | false=>exact⟨H1,I1,O1,S1,w1.2 rfl,st1,ok1⟩
theorem tw_or{W:Bool->Store->Prop}(h:Ts X Γ S a λ c S1=>(c=true->W true S1)/\(c=false->TsW X Γ S1 (.BoolOp .Or (b::rest) pos) W)):TsW X Γ S (.BoolOp .Or (a::b::rest) pos) W:=by
 intro wh pins s σ H O I env st
 refine isTrue_or (thn (h pins s σ H O I env st) λ c s1 hq_=>?_)
 obtain⟨H1,I1,O1,S1,w1,st1,ok1⟩:=hq_
 cases c with
 | false=>exact thn (w1.2 rfl wh pins s1 σ H1 O1 I1 (env.mono st1) ok1) λ _ _ q=>NP st1 q
 | true=>exact⟨H1,I1,O1,S1,w1.1 rfl,st1,ok1⟩
theorem Ra{W:Bool->Store->Prop}(h:Ts X Γ S a λ c S1=>W (!c) S1):Ts X Γ S (.UnaryOp .Not a pos) W:=by
 intro pins s σ H O I env st
 exact isTrue_not (thn (h pins s σ H O I env st) λ c s1 ⟨H1,I1,O1,S1,w1,st1,ok1⟩=>⟨H1,I1,O1,S1,w1,st1,ok1⟩)
theorem JN{op}(h:Ev X Γ S a W):Ev X Γ S (.BoolOp op [a] pos) W:=λ pins s σ H O I env st=>BoolOp_one (h pins s σ H O I env st)
theorem Tj(h:Ev X Γ S a λ x S1=>∃c,x=.bl c/\(c=true->Ev X Γ S1 (.BoolOp .And (b::rest) pos) W)/\(c=false->W (.bl false) S1)):Ev X Γ S (.BoolOp .And (a::b::rest) pos) W:=by
 intro pins s σ H O I env st
 refine BoolOp_and (thn (h pins s σ H O I env st) λ u s1 hq_=>?_)
 obtain⟨v,H1,I1,r1,O1,x,S1,⟨c,hx,h1,h2⟩,st1,ok1,rep1⟩:=hq_
 subst hx
 cases rep1
 cases r1
 refine wpAny_truthy_bool ?_
 cases c with
 | true=>exact thn (h1 rfl pins s1 σ H1 O1 I1 (env.mono st1) ok1) λ _ _ q=>cH st1 q
 | false=>exact⟨.bl false,H1,I1,rfl,O1,.bl false,S1,h2 rfl,st1,ok1,.bl false⟩
theorem Vg(h:Ev X Γ S a λ x S1=>∃c,x=.bl c/\(c=true->W (.bl true) S1)/\(c=false->Ev X Γ S1 (.BoolOp .Or (b::rest) pos) W)):Ev X Γ S (.BoolOp .Or (a::b::rest) pos) W:=by
 intro pins s σ H O I env st
 refine BoolOp_or (thn (h pins s σ H O I env st) λ u s1 hq_=>?_)
 obtain⟨v,H1,I1,r1,O1,x,S1,⟨c,hx,h1,h2⟩,st1,ok1,rep1⟩:=hq_
 subst hx
 cases rep1
 cases r1
 refine wpAny_truthy_bool ?_
 cases c with
 | false=>exact thn (h2 rfl pins s1 σ H1 O1 I1 (env.mono st1) ok1) λ _ _ q=>cH st1 q
 | true=>exact⟨.bl true,H1,I1,rfl,O1,.bl true,S1,h1 rfl,st1,ok1,.bl true⟩
theorem Tq(h:Ev X Γ S a λ x S1=>∃c,x=.bl c/\W (.bl (!c)) S1):Ev X Γ S (.UnaryOp .Not a pos) W:=by
 intro pins s σ H O I env st
 refine UnaryOp_ (thn (h pins s σ H O I env st) λ u s1 hq_=>?_)
 obtain⟨v,H1,I1,r1,O1,x,S1,⟨c,hx,h1⟩,st1,ok1,rep1⟩:=hq_
 subst hx
 cases rep1
 cases r1
 exact not_of (wpAny_truthy_bool ⟨.bl (!c),H1,I1,rfl,O1,.bl (!c),S1,h1,st1,ok1,.bl (!c)⟩)
theorem HH(h:Ev X Γ S a λ x S1=>∃i,x=.int i/\W (.int (-i)) S1):Ev X Γ S (.UnaryOp .USub a pos) W:=by
 intro pins s σ H O I env st
 refine UnaryOp_ (thn (h pins s σ H O I env st) λ u s1 hq_=>?_)
 obtain⟨v,H1,I1,r1,O1,x,S1,⟨c,hx,h1⟩,st1,ok1,rep1⟩:=hq_
 subst hx
 cases rep1
 exact Q6 pins s1 σ H1 _ _ _ I1 r1 ⟨c,rfl,O1,.int (-c),S1,h1,st1,ok1,.int (-c)⟩
theorem MF{c:Expr}{op op':CmpOp}(h:Ev X Γ S a λ x S1=>Ev X Γ S1 b λ y S2=>bz X op x y S2 λ z S3=>∃k,z=.bl k/\(k=false->W (.bl false) S3)/\(k=true->Ev X Γ S3 c λ t S4=>bz X op' y t S4 W))
 (hm:lastMarks [op,op'] [b,c]=false:=by with_unfolding_all rfl):Ev X Γ S (.Compare a [op,op'] [b,c] pos) W:=by
 intro pins s σ H O I env st
 refine Compare_chain (thn (h pins s σ H O I env st) λ u s1 ⟨v,H1,I1,r1,O1,x,S1,hb,st1,ok1,rep1⟩=>chain_link (thn (hb pins s1 σ H1 O1 I1 (env.mono st1) ok1) λ u' s2 hq_=>?_)) hm
 obtain⟨w,H2,I2,r2,O2,y,S2,hw,st2,ok2,rep2⟩:=hq_
 refine thn (hw pins s2 σ H2 O2 v w u u' I2 ok2 (rep1.mono st2) rep2 r1 r2) λ _ s3 hq_=>?_
 obtain⟨z,H3,I3,r3,O3,d,S3,⟨k,hd,k1,k2⟩,st3,ok3,rep3⟩:=hq_
 subst hd
 cases rep3
 cases r3
 refine wpAny_truthy_bool ?_
 cases k with
 | false=>exact ite_ff ⟨.bl false,H3,I3,rfl,O3,.bl false,S3,k1 rfl,(st1.trans st2).trans st3,ok3,.bl false⟩
 | true=>
   refine ite_tt (chain_last (thn (k2 rfl pins s3 σ H3 O3 I3 (((env.mono st1).mono st2).mono st3) ok3) λ u4 s4 hq_=>?_))
   obtain⟨w4,H4,I4,r4,O4,t,S4,h4,st4,ok4,rep4⟩:=hq_
   exact thn (h4 pins s4 σ H4 O4 w w4 u' u4 I4 ok4 ((rep2.mono st3).mono st4) rep4 r2 r4) λ _ _ q=>cH (((st1.trans st2).trans st3).trans st4) q
theorem d8{W:List D->Store->Prop}(w:W [] S):EvA X Γ S [] W:=λ _ pins s σ H O I _ st=>Calls.spliced_nil ⟨[],H,I,.nil,O,[],S,w,Step.refl O H,st,.nil⟩
theorem bI{W:List D->Store->Prop}(h:Ev X Γ S e λ d S1=>EvA X Γ S1 es λ ds S2=>W (d::ds) S2)(hs:starEach (e::es) X.env=(false,eval e X.env)::starEach es X.env:=by rfl):EvA X Γ S (e::es) W:=by
 intro pos pins s σ H O I env st
 rw[hs]
 show wpAny _ _ (spliced ((false,eval e X.env)::backTo pos (starEach es X.env))) _ _ s
 refine Calls.spliced_cons (thn (h pins s σ H O I env st) λ u s1 hq_=>?_)
 obtain⟨v,H1,I1,r1,O1,x,S1,hb,st1,ok1,rep1⟩:=hq_
 exact thn (hb pos pins s1 σ H1 O1 I1 (env.mono st1) ok1) λ us s2 ⟨xs,H2,I2,r2,O2,ds,S2,w,st2,ok2,rep2⟩=>⟨v::xs,H2,I2,.cons r1 r2,O2,x::ds,S2,w,st1.trans st2,ok2,.cons (rep1.mono st2) rep2⟩
theorem small{n:Nat}(h:n≤1000000):n≤sizeLine:=Nat.le_trans h (by decide)
theorem TQ(st:StOk K O H S)(h:H p=none):Tp K O (upd H p (.tup xs)) p xs:=⟨st.fresh_not h,aU⟩
theorem TX(st:StOk K O H S)(h:H p=none):Ls K O (upd H p (.lst xs)) p xs:=.inl ⟨st.fresh_not h,.inl aU⟩
theorem g8(w:W (.tup ds) S)(st:StOk K O H S)(h:H p=none)(r:Reps K O H xs ds):QG K O H W (.ref p) (upd H p (.tup xs)):=
 ⟨O,.tup ds,S,w,Step.fresh h _,st.fresh h _,.tup (TQ st h) (r.mono (Step.fresh h _))⟩
theorem eF(w:W (.lst ds) S)(st:StOk K O H S)(h:H p=none)(r:Reps K O H xs ds):QG K O H W (.ref p) (upd H p (.lst xs)):=
 ⟨O,.lst ds,S,w,Step.fresh h _,st.fresh h _,.lst (TX st h) (r.mono (Step.fresh h _))⟩
theorem jQ(w:W (.loc S.length) (S++[ds]))(st:StOk K O H S)(h:H p=none)(r:Reps K O H xs ds):QG K O H W (.ref p) (upd H p (.lst xs)):=
 ⟨O.more p,.loc S.length,S++[ds],w,Step.own h _,st.own h r,.loc (by show(O.A++[(p,false)])[S.length]? =some (p,false);rw[←st.len];simp)⟩
theorem R7{x1}(h:EvA X Γ S es λ ds S1=>ds.length≤1000000/\W (.tup ds) S1):Ev X Γ S (.Tuple es x1 pos) W:=by
 intro pins s σ H O I env st
 refine wpAny_Tuple_spliced (thn (h pos pins s σ H O I env st) λ us s1 ⟨xs,H1,I1,r,O1,ds,S1,⟨z,w⟩,st1,ok1,rep⟩=>⟨by rw[←r.length,rep.length];exact small z,?_⟩)
 have hf:H1 s1.heap.objs.size=none:=I1.hok.fresh (x4 _)
 refine⟨.ref s1.heap.objs.size,upd H1 s1.heap.objs.size (.tup xs),I1.laid (t':=s1.toks) (λ b u e=>ZC _ e) (x4 _) ?_,rfl,(g8 w ok1 hf rep).pre st1⟩
 exact⟨by rw[rep.length];exact small z,us,r,⟨_,ZD _ rfl,rfl,_,rfl⟩⟩
theorem RQ(h:EvA X Γ S es λ ds S1=>ds.length≤1000000/\W (.lst ds) S1):Ev X Γ S (.List es pos) W:=by
 intro pins s σ H O I env st
 refine wpAny_List_spliced (thn (h pos pins s σ H O I env st) λ us s1 ⟨xs,H1,I1,r,O1,ds,S1,⟨z,w⟩,st1,ok1,rep⟩=>⟨by rw[←r.length,rep.length];exact small z,?_⟩)
 have hf:H1 s1.heap.objs.size=none:=I1.hok.fresh (x4 _)
 refine⟨.ref s1.heap.objs.size,upd H1 s1.heap.objs.size (.lst xs),I1.laid (t':=s1.toks) (λ b u e=>ZC _ e) (x4 _) ?_,rfl,(eF w ok1 hf rep).pre st1⟩
 exact⟨by rw[rep.length];exact small z,us,0,r,ZD _ rfl⟩
theorem Oq(h:EvA X Γ S es λ ds S1=>ds.length≤1000000/\W (.loc S1.length) (S1++[ds])):Ev X Γ S (.List es pos) W:=by
 intro pins s σ H O I env st
 refine wpAny_List_spliced (thn (h pos pins s σ H O I env st) λ us s1 ⟨xs,H1,I1,r,O1,ds,S1,⟨z,w⟩,st1,ok1,rep⟩=>⟨by rw[←r.length,rep.length];exact small z,?_⟩)
 have hf:H1 s1.heap.objs.size=none:=I1.hok.fresh (x4 _)
 refine⟨.ref s1.heap.objs.size,upd H1 s1.heap.objs.size (.lst xs),I1.laid (t':=s1.toks) (λ b u e=>ZC _ e) (x4 _) ?_,rfl,(jQ w ok1 hf rep).pre st1⟩
 exact⟨by rw[rep.length];exact small z,us,0,r,ZD _ rfl⟩
theorem jP{op:Operator}{C:Int->Int->Prop}{g:Int->Int->Int}(ho:OpR X (binaryOp op) (rI C λ i j=>.int (g i j))){i j:Int}(c:C i j)(w:W (.int (g i j)) S):dM X op (.int i) (.int j) S W:=
 eN ho λ O H v w' st r1 r2=>by cases r1;cases r2;exact⟨i,j,rfl,rfl,c,QG.here w st (.int _)⟩
theorem yG{op:Operator}{g:Int->Int->Int}(ho:OpR X (binaryOp op) (rI0 λ i j=>.int (g i j))){i j:Int}(w:W (.int (g i j)) S):dM X op (.int i) (.int j) S W:=
 eN ho λ O H v w' st r1 r2=>by cases r1;cases r2;exact⟨i,j,rfl,rfl,QG.here w st (.int _)⟩
theorem Vd(w:W (.int (i+j)) S):dM X .Add (.int i) (.int j) S W:=yG Rf w
theorem Up(w:W (.int (i-j)) S):dM X .Sub (.int i) (.int j) S W:=yG Rt w
theorem Vf(c:CMul i j)(w:W (.int (i*j)) S):dM X .Mult (.int i) (.int j) S W:=jP Rp c w
theorem Ug(c:0<j)(w:W (.int (i % j)) S):dM X .Mod (.int i) (.int j) S W:=jP SM c w
theorem TY(c:0<j/\j<1073741824)(w:W (.int (i/j)) S):dM X .FloorDiv (.int i) (.int j) S W:=jP Oj c w
theorem UT(c:CPow i j)(w:W (.int (i ^ j.toNat)) S):dM X .Pow (.int i) (.int j) S W:=jP Ri c w
theorem oR{op:CmpOp}{g:Int->Int->Bool}(ho:OpR X (compareOp op) (rI0 λ i j=>.bl (g i j))){i j:Int}(w:W (.bl (g i j)) S):bz X op (.int i) (.int j) S W:=
 eN ho λ O H v w' st r1 r2=>by cases r1;cases r2;exact⟨i,j,rfl,rfl,QG.here w st (.bl _)⟩
theorem Vt(w:W (.bl (decide (i<j))) S):bz X .Lt (.int i) (.int j) S W:=oR Uo w
theorem Vs(w:W (.bl (decide (i≤j))) S):bz X .LtE (.int i) (.int j) S W:=oR U7 w
theorem V0(w:W (.bl (decide (j<i))) S):bz X .Gt (.int i) (.int j) S W:=oR UV w
theorem Vq(w:W (.bl (decide (j≤i))) S):bz X .GtE (.int i) (.int j) S W:=oR Us w
theorem Ue(w:W (.bl (decide (i=j))) S):bz X .Eq (.int i) (.int j) S W:=
 eN Nx λ O H v w' st r1 r2=>by
  cases r1;cases r2
  have e:decide (V.int i=V.int j)=decide (i=j):=by rw[oX];exact(Bool.beq_eq_decide_eq i j)
  exact⟨rfl,by rw[e];exact QG.here w st (.bl _)⟩
theorem Ux(w:W (.bl (!decide (i=j))) S):bz X .NotEq (.int i) (.int j) S W:=
 eN Od λ O H v w' st r1 r2=>by
  cases r1;cases r2
  have e:decide (V.int i=V.int j)=decide (i=j):=by rw[oX];exact(Bool.beq_eq_decide_eq i j)
  exact⟨rfl,by rw[e];exact QG.here w st (.bl _)⟩
theorem Ui{i j:Bool}(w:W (.bl (i==j)) S):bz X .Eq (.bl i) (.bl j) S W:=
 eN Nx λ O H v w' st r1 r2=>by
  cases r1;cases r2
  exact⟨rfl,by rw[rJ];exact QG.here w st (.bl _)⟩
theorem Uc{i j:Bool}(w:W (.bl (!(i==j))) S):bz X .NotEq (.bl i) (.bl j) S W:=
 eN Od λ O H v w' st r1 r2=>by
  cases r1;cases r2
  exact⟨rfl,by rw[rJ];exact QG.here w st (.bl _)⟩
theorem Ve(w:W (.bl (match x with | .non=>true | _=>false)) S):bz X .Is x .non S W:=
 eN R3 λ O H v w' st r1 r2=>by
  cases r2
  refine⟨rfl,?_⟩
  cases r1<;>exact QG.here w st (.bl _)
theorem Oo(w:W (.bl (match x with | .non=>false | _=>true)) S):bz X .IsNot x .non S W:=
 eN Qo λ O H v w' st r1 r2=>by
  cases r2
  refine⟨rfl,?_⟩
  cases r1<;>exact QG.here w st (.bl _)
theorem RJ{es:List D}(hz:ds.length+es.length≤1000000)(w:W (.tup (ds++es)) S):dM X .Add (.tup ds) (.tup es) S W:=by
 intro pins s σ H O v w' u u' I st r1 r2 r3 r4
 cases r1 with
 | @tup a xs _ h1 q1=>
   cases r2 with
   | @tup b ys _ h2 q2=>
     by_cases hx:xs=[]
     . subst hx
       have e:ds=[]:=by have:=q1.length;simpa using this.symm
       subst e
       cases r3
       cases r4
       obtain⟨its,v1,p1,_⟩:=I.tuple h1.sq
       obtain⟨its2,v2,p2,_⟩:=I.tuple h2.sq
       cases v1
       obtain⟨⟨cls,dd,data,sl⟩,ho,hc,n,hd⟩:=id p1
       obtain⟨⟨cls2,dd2,data2,sl2⟩,ho2,hc2,n2,hd2⟩:=id p2
       simp only at hc hd hc2 hd2
       subst hc hd hc2 hd2
       exact concat_meets ⟨_,ho,rfl⟩ ⟨_,ho2,rfl⟩ noFill_tuple_add seq_tuple_add PySem.F.slot_tuple_add PySem.F.entry_tuple_add (PySem.F.args_tuple_add_2 _ _)
        (tuple_addW0 a b ([]:List Value).toArray its2.toArray n n2 dd dd2 sl sl2 rfl) ⟨ho,ho2,⟨.ref b,H,I,rfl,QG.here w st (.tup h2 q2)⟩⟩
     . refine Pj pins s σ H _ _ u u' _ I r3 r4 ⟨a,b,xs,ys,rfl,rfl,h1.sq,h2.sq,hx,by rw[q1.length,q2.length];exact small hz,λ e=>?_,λ _ p hp=>g8 w st hp (q1.append q2)⟩
       subst e
       have e:es=[]:=by have:=q2.length;simpa using this.symm
       subst e
       rw[List.append_nil]at w
       exact QG.here w st (.tup h1 q1)
theorem Sh{es:List D}(hz:ds.length+es.length≤1000000)(w:W (.lst (ds++es)) S):dM X .Add (.lst ds) (.lst es) S W:=by
 intro pins s σ H O v w' u u' I st r1 r2 r3 r4
 cases r1 with
 | @lst a xs _ h1 q1=>
   cases r2 with
   | @lst b ys _ h2 q2=>
     cases r3
     cases r4
     obtain⟨its,v1,p1,_⟩:=I.list h1.sq
     obtain⟨its2,v2,p2,_⟩:=I.list h2.sq
     obtain⟨⟨cls,dd,data,sl⟩,n,ho,hc,hdd,hd⟩:=id p1
     obtain⟨⟨cls2,dd2,data2,sl2⟩,n2,ho2,hc2,hdd2,hd2⟩:=id p2
     simp only at hc hd hc2 hd2
     subst hc hd hc2 hd2
     have z:its.length+its2.length≤sizeLine:=by rw[←v1.length,←v2.length,q1.length,q2.length];exact small hz
     refine concat_meets ⟨_,ho,rfl⟩ ⟨_,ho2,rfl⟩ noFill_list_add seq_list_add PySem.F.slot_list_add PySem.F.entry_list_add (PySem.F.args_list_add_2 _ _)
      (list_addW a b its.toArray its2.toArray n n2 dd dd2 sl sl2 (by simpa using z)) ⟨ho,ho2,?_⟩
     have ea:its.toArray++its2.toArray=(its++its2).toArray:=by simp
     rw[ea]
     refine⟨.ref s.heap.objs.size,_,I.lnew (t':=s.toks) (v1.append v2) (by rw[x9,q1.length,q2.length];exact small hz),rfl,eF w st I.fresh (q1.append q2)⟩
end
end DL
namespace DL
open PySem PySem.Spec L2
open PyProof.Rows
variable {K : PySem.W.Frag} {O : Own} {H : Hp} {xs : List V} {ds : List D} {i : Int} {d : D} {k : Nat} {x : Str} {p : Pos}
section
variable {X : Cx} {Γ : Gam} {S : Store} {W : WD} {a b e : Expr} {es : List Expr} {pos : Pos}
noncomputable def IxW(X:Cx)(a b:Expr)(x y:D)(S:Store)(W:WD):Prop:=
 ∀ (pins:Pins)(s:Shared)(σ:St)(H:Hp)(O:Own)(v w:V)(u u':Value),Inv X pins σ H s->StOk X.K O H S->Rep X.K O H v x->Rep X.K O H w y->RelV v u->RelV w u'->
   subscripted b false u u'=operate [u,u'] (getItem u u')->wpAny (model X.prog X.w) X.A (subscriptTail a b u u') (EP X pins σ (QG X.K O H W)) X.xe s
theorem U6(h:Ev X Γ S a λ x S1=>Ev X Γ S1 b λ y S2=>IxW X a b x y S2 W)(hs:DY b:=by intro _ _;rfl):Ev X Γ S (.Subscript a b pos) W:=by
 intro pins s σ H O I env st
 refine Subscript_ (thn (h pins s σ H O I env st) λ u s1 hq_=>?_)
 obtain⟨v,H1,I1,r1,O1,x,S1,hb,st1,ok1,rep1⟩:=hq_
 refine thn (hb pins s1 σ H1 O1 I1 (env.mono st1) ok1) λ u' s2 hq_=>?_
 obtain⟨w,H2,I2,r2,O2,y,S2,hw,st2,ok2,rep2⟩:=hq_
 exact thn (hw pins s2 σ H2 O2 v w u u' I2 ok2 (rep1.mono st2) rep2 r1 r2 (hs _ _)) λ _ _ q=>cH (st1.trans st2) q
theorem uQ(r:Reps K O H xs ds)(h:atI ds i=some d):∃v,atI xs i=some v/\Rep K O H v d:=by
 unfold atI at h ⊢
 rw[r.length]
 cases e:ixN ds.length i with
 | none=>rw[e]at h;cases h
 | some j=>
   rw[e]at h
   exact r.get (i:=j) h
theorem Vi(h:atI ds i=some d)(w:W d S):IxW X a b (.tup ds) (.int i) S W:=by
 intro pins s σ H O v w' u u' I st r1 r2 r3 r4 hs
 cases r2
 cases r1 with
 | @tup p xs _ h1 q1=>
   obtain⟨z,hz,rz⟩:=uQ q1 h
   exact Rj a b pins s σ H _ _ u u' _ I r3 r4 ⟨p,xs,i,z,rfl,rfl,h1.sq,hz,QG.here w st rz⟩ hs
theorem Vn(h:atI ds i=some d)(w:W d S):IxW X a b (.lst ds) (.int i) S W:=by
 intro pins s σ H O v w' u u' I st r1 r2 r3 r4 hs
 cases r2
 cases r1 with
 | @lst p xs _ h1 q1=>
   obtain⟨z,hz,rz⟩:=uQ q1 h
   exact EY a b pins s σ H _ _ u u' _ I r3 r4 ⟨p,xs,i,z,rfl,rfl,h1.sq,hz,QG.here w st rz⟩ hs
theorem Uu(hk:S[k]? =some ds)(h:atI ds i=some d)(w:W d S):IxW X a b (.loc k) (.int i) S W:=by
 intro pins s σ H O v w' u u' I st r1 r2 r3 r4 hs
 cases r2
 cases r1 with
 | @loc p _ h1=>
   obtain⟨xs,hx,q1⟩:=st.obj k p ds h1 hk
   obtain⟨z,hz,rz⟩:=uQ q1 h
   exact EY a b pins s σ H _ _ u u' _ I r3 r4 ⟨p,xs,i,z,rfl,rfl,SqL.of hx,hz,QG.here w st rz⟩ hs
noncomputable def PoD(X:Cx)(Γ:Gam)(S:Store)(o:Option Expr)(W:Option Int->Store->Prop):Prop:=match o with
 | none=>W none S
 | some e=>Ev X Γ S e λ d S1=>∃i,d=.int i/\W (some i) S1
noncomputable def SlW(X:Cx)(x:D)(lo hi:Option Int)(S:Store)(W:WD):Prop:=
 ∀ (pins:Pins)(s:Shared)(σ:St)(H:Hp)(O:Own)(v:V)(u vl vu:Value)(sl:Addr),Inv X pins σ H s->StOk X.K O H S->Rep X.K O H v x->RelV v u->s.heap.IsSliceOf sl vl vu .none->IsPart vl lo->IsPart vu hi->
   ∃T id,typeLookup (.type T) "__getitem__"=pure (some (.builtin id))/\s.TypeIs u T/\wpAny (model X.prog X.w) X.A (getItem u (.ref sl)) (EP X pins σ (QG X.K O H W)) X.xe s
theorem J4{W:Option Int->Store->Prop}{o:Option Expr}(h:PoD X Γ S o W){pins:Pins}{s:Shared}{σ:St}{H:Hp}{O:Own}(I:Inv X pins σ H s)(env:EnvOk X.K O H σ Γ)(st:StOk X.K O H S):
 wpAny (model X.prog X.w) X.A (evalPart o X.env) (λ u s'=>∃p H' O' S',Inv X pins σ H' s'/\IsPart u p/\W p S'/\Step O O' H H'/\StOk X.K O' H' S') X.xe s:=by
 cases o with
 | none=>
   rw[evalPart_none]
   exact ZB ⟨none,H,O,S,I,.none,h,Step.refl O H,st⟩
 | some e=>
   rw[evalPart_some]
   refine thn (h pins s σ H O I env st) λ u s1 hq_=>?_
   obtain⟨v,H1,I1,r1,O1,x,S1,⟨i,hx,w⟩,st1,ok1,rep1⟩:=hq_
   subst hx
   cases rep1
   obtain⟨t,rfl⟩:=r1
   exact⟨some i,H1,O1,S1,I1,.int i t,w,st1,ok1⟩
theorem Lw{lo hi:Option Expr}{p2:Pos}(h:Ev X Γ S e λ x S1=>PoD X Γ S1 lo λ l S2=>PoD X Γ S2 hi λ r S3=>SlW X x l r S3 W):Ev X Γ S (.Subscript e (.Slice lo hi none p2) pos) W:=by
 intro pins s σ H O I env st
 refine Subscript_ (thn (h pins s σ H O I env st) λ v s1 hq_=>?_)
 obtain⟨y,H1,I1,r1,O1,x,S1,hb,st1,ok1,rep1⟩:=hq_
 refine wpAny_Slice (thn (J4 hb I1 (env.mono st1) ok1) λ vl s2 ⟨l,H2,O2,S2,I2,pl,hc,st2,ok2⟩=>thn (J4 hc I2 ((env.mono st1).mono st2) ok2) λ vu s3 hq_=>?_)
 obtain⟨r,H3,O3,S3,I3,pu,hd,st3,ok3⟩:=hq_
 rw[evalPart_none]
 refine ZB ?_
 have I4:Inv X pins σ H3 {s3 with heap:=s3.heap.push {cls:=.type "slice",data:=.fields #[vl,vu,.none]}}:=I3.kept (t':=s3.toks) λ b ob q=>ZC _ q
 obtain⟨T,id,hT,ht,hg⟩:=hd pins {s3 with heap:=s3.heap.push {cls:=.type "slice",data:=.fields #[vl,vu,.none]}} σ H3 O3 y v vl vu s3.heap.objs.size I4 ok3 ((rep1.mono st2).mono st3) r1 (Heap.IsSliceOf.new ..) pl pu
 show wpAny (model X.prog X.w) X.A (subscriptTail e (.Slice lo hi none p2) v (.ref s3.heap.objs.size)) _ X.xe {s3 with heap:=s3.heap.push {cls:=.type "slice",data:=.fields #[vl,vu,.none]}}
 exact tail_any (ops:=[.ref s3.heap.objs.size,v]) ht hT (thn hg λ _ _ q=>cH ((st1.trans st2).trans st3) q) (by with_unfolding_all rfl)
noncomputable def cutD(ds:List D)(lo hi:Option Int):List D:=(ds.drop (HT.sIx ds.length 0 lo)).take (HT.sIx ds.length ds.length hi-HT.sIx ds.length 0 lo)
theorem ue(r:Reps K O H xs ds)(lo hi:Option Int):Reps K O H (oh xs lo hi) (cutD ds lo hi):=by
 unfold oh cutD
 rw[r.length]
 exact(r.drop _).take _
theorem Cu{prog:Program}{w:World}{A:Around}{E:Value->Shared->Prop}{s:Shared}{t sl:Addr}{items:Array Value}{vl vu:Value}{lo hi:Option Int}{Q:Value->Shared->Prop}(ht:IsTup s.heap t items)(hs:s.heap.IsSliceOf sl vl vu .none)(pl:IsPart vl lo)(pu:IsPart vu hi)
 (h0:HT.sIx items.size 0 lo=0)(h1:HT.sIx items.size items.size hi=items.size)(h:Q (.ref t) s):wpAny (model prog w) A (getItem (.ref t) (.ref sl)) Q E s:=by
 obtain⟨os,hos,hcs,hds⟩:=id hs
 have isS:s.TypeIs (.ref sl) "slice":=⟨os,hos,hcs⟩
 unfold getItem
 try with_reducible refine ZQ ?_
 first | refine ZA (ZB ?_) | skip
 refine ZA (wpAny_sequenceKey ht.typeIs (by decide) ?_)
 refine ZA (wpAny_callSpecial?_slot (name:=Str.ofString "__getitem__") ht.typeIs PyProof.Rows.slot_tuple_getitem
  (ZP PyProof.Rows.slot_tuple_getitem ht.typeIs entry_tuple_getitem ?_ (args_tuple_getitem _ _)))
 show wpAny _ _ (Builtin.Tuple.tupleItemsOf (.ref t)>>=_) _ _ s
 refine ZA (tupleItemsOf_ ht (ZA (wpAny_typeOf isS ?_)))
 rw[if_pos (by decide)]
 refine ZA (HT.sliceApplied_gen hs pl pu ?_)
 rw[h0,h1]
 show wpAny _ _ (if(((0:Nat):Int)==0&&(1:Int)==1&&(items.size-0)==items.size)=true then _ else _) _ _ s
 rw[if_pos (by simp)]
 unfold Builtin.Tuple.tupleIsExact
 first
  | exact ZA (ZA (wpAny_typeOf ht.typeIs (ZB (by rw[if_pos (by decide)];exact ZA (wpAny_rule (ZB ⟨_,rfl,ZB h⟩))))))
  | (refine ZA (ZA (wpAny_typeOf ht.typeIs (ZB ?_)))
     simp only[beq_self_eq_true,if_true]
     exact ZA (wpAny_rule (ZB ⟨_,rfl,ZB h⟩)))
theorem Ur{lo hi:Option Int}(w:W (.tup (cutD ds lo hi)) S):SlW X (.tup ds) lo hi S W:=by
 intro pins s σ H O v u vl vu sl I st r1 r3 hs pl pu
 cases r1 with
 | @tup p xs _ h1 q1=>
   by_cases hw:HT.sIx xs.length 0 lo=0/\HT.sIx xs.length xs.length hi=xs.length
   . cases r3
     obtain⟨its,r,ht,hz⟩:=I.tuple h1.sq
     have hlen:its.toArray.size=xs.length:=by rw[x6];exact r.length.symm
     refine⟨"tuple",_,PyProof.Rows.slot_tuple_getitem.lookup,ht.typeIs,Cu ht hs pl pu (by rw[hlen];exact hw.1) (by rw[hlen];exact hw.2) ⟨.ref p,H,I,rfl,?_⟩⟩
     have e:cutD ds lo hi=ds:=by
      unfold cutD
      rw[←q1.length,hw.1,hw.2,List.drop_zero,List.take_of_length_le (by rw[←q1.length];omega)]
     rw[e]at w
     exact QG.here w st (.tup h1 q1)
   . exact Rx pins s σ H _ u vl vu lo hi sl _ I r3 hs pl pu ⟨p,xs,rfl,h1.sq,hw,λ p' hp=>g8 w st hp (ue q1 lo hi)⟩
theorem Ut{lo hi:Option Int}(w:W (.lst (cutD ds lo hi)) S):SlW X (.lst ds) lo hi S W:=by
 intro pins s σ H O v u vl vu sl I st r1 r3 hs pl pu
 cases r1 with
 | @lst p xs _ h1 q1=>exact Do pins s σ H _ u vl vu lo hi sl _ I r3 hs pl pu ⟨p,xs,rfl,h1.sq,λ p' hp=>eF w st hp (ue q1 lo hi)⟩
theorem KQ{id:String}(h:EvA X Γ S (e::es) λ ds S1=>cG X (.builtin id) ds S1 W)(hm:X.mg x=none)(hv:bootBuiltins x=some (.builtin id))(hg:Gl X x:=by rfl)(hn:x≠"__name__":=by decide)(hdb:(x==("__debug__":Str))=false:=by decide)
 (he:starEach (e::es) X.env=(false,eval e X.env)::starEach es X.env:=by rfl)(hpl:(backTo pos (starEach es X.env)).any (·.1)=false:=by rfl):Ev X Γ S (.Call (.Name x p) (e::es) [] pos) W:=by
 intro pins s σ H O I env st
 refine wpAny_Call_Name_kw (bJ I hg hm hv ?_ hn hdb)
 exact PyProof.Rows.callWith_builtin1 (thn (h pos pins s σ H O I env st) λ us s1 ⟨vs,H1,I1,r1,O1,ds,S1,w,st1,ok1,rep⟩=>thn (w pins s1 σ H1 O1 vs us I1 ok1 rep r1) λ _ _ q=>cH st1 q) he hpl
theorem Mp{T:String}(h:EvA X Γ S (e::es) λ ds S1=>cG X (.type T) ds S1 W)(hm:X.mg x=none)(hv:bootBuiltins x=some (.type T))(hg:Gl X x:=by rfl)(hn:x≠"__name__":=by decide)(hdb:(x==("__debug__":Str))=false:=by decide)
 (he:starEach (e::es) X.env=(false,eval e X.env)::starEach es X.env:=by rfl)(hpl:(backTo pos (starEach es X.env)).any (·.1)=false:=by rfl):Ev X Γ S (.Call (.Name x p) (e::es) [] pos) W:=by
 intro pins s σ H O I env st
 refine wpAny_Call_Name_kw (bJ I hg hm hv ?_ hn hdb)
 exact PyProof.Rows.callWith_type1 (thn (h pos pins s σ H O I env st) λ us s1 ⟨vs,H1,I1,r1,O1,ds,S1,w,st1,ok1,rep⟩=>thn (w pins s1 σ H1 O1 vs us I1 ok1 rep r1) λ _ _ q=>cH st1 q) he hpl
theorem b8{vs:List V}(r:Reps K O H vs [d]):∃v,vs=[v]/\Rep K O H v d:=by
 cases r with
 | cons a t=>cases t;exact⟨_,rfl,a⟩
theorem Q3(w:W (.int ds.length) S):cG X (.builtin "len") [.tup ds] S W:=bR iz λ O H vs st r=>by
 obtain⟨v,rfl,r'⟩:=b8 r
 cases r' with
 | @tup p xs _ h1 q1=>exact⟨p,xs,rfl,.inr h1.sq,by rw[q1.length];exact QG.here w st (.int _)⟩
theorem Sx(w:W (.int ds.length) S):cG X (.builtin "len") [.lst ds] S W:=bR iz λ O H vs st r=>by
 obtain⟨v,rfl,r'⟩:=b8 r
 cases r' with
 | @lst p xs _ h1 q1=>exact⟨p,xs,rfl,.inl h1.sq,by rw[q1.length];exact QG.here w st (.int _)⟩
theorem Q4(hk:S[k]? =some ds)(w:W (.int ds.length) S):cG X (.builtin "len") [.loc k] S W:=bR iz λ O H vs st r=>by
 obtain⟨v,rfl,r'⟩:=b8 r
 cases r' with
 | @loc p _ h1=>
   obtain⟨xs,hx,q1⟩:=st.obj k p ds h1 hk
   exact⟨p,xs,rfl,.inl (SqL.of hx),by rw[q1.length];exact QG.here w st (.int _)⟩
theorem Td(w:W (.tup ds) S):cG X (.type "tuple") [.lst ds] S W:=bR lM λ O H vs st r=>by
 obtain⟨v,rfl,r'⟩:=b8 r
 cases r' with
 | @lst p xs _ h1 q1=>exact⟨p,xs,rfl,.inl ⟨h1.sq,λ l hl=>g8 w st hl q1⟩⟩
theorem Tv(hk:S[k]? =some ds)(w:W (.tup ds) S):cG X (.type "tuple") [.loc k] S W:=bR lM λ O H vs st r=>by
 obtain⟨v,rfl,r'⟩:=b8 r
 cases r' with
 | @loc p _ h1=>
   obtain⟨xs,hx,q1⟩:=st.obj k p ds h1 hk
   exact⟨p,xs,rfl,.inl ⟨SqL.of hx,λ l hl=>g8 w st hl q1⟩⟩
theorem RN(w:W (.lst ds) S):cG X (.type "list") [.tup ds] S W:=bR eE λ O H vs st r=>by
 obtain⟨v,rfl,r'⟩:=b8 r
 cases r' with
 | @tup p xs _ h1 q1=>exact⟨p,xs,rfl,.inr h1.sq,λ l hl=>eF w st hl q1⟩
theorem Sy(w:W (.lst ds) S):cG X (.type "list") [.lst ds] S W:=bR eE λ O H vs st r=>by
 obtain⟨v,rfl,r'⟩:=b8 r
 cases r' with
 | @lst p xs _ h1 q1=>exact⟨p,xs,rfl,.inl h1.sq,λ l hl=>eF w st hl q1⟩
noncomputable abbrev Ct:=List D->Store->WD->Prop
noncomputable def spC(K:PySem.W.Frag)(n:Nat)(F:Ct):Sp:=λ vs H Q _=>∃O ds S W,ds.length=n/\Reps K O H vs ds/\StOk K O H S/\F ds S W/\∀v H',QG K O H W v H'->Q v H'
structure Callee(P:Program)(w:World)(K:PySem.W.Frag)(mg:Str->Option Value)(base:Heap)(x:Str)(k n:Nat)(F:Ct):Prop where
 ex:∃f fd ps,FnOk P w K mg base CX0 k f fd ps (spC K n F)/\mg x=some (.ref f)/\PySem.W.keepIn K (.ref f)=true/\Binds K fd ps []
theorem Pa{n:Nat}{F:Ct}(C:Callee X.prog X.w X.K X.mg X.base x k n F)(hr:Room k X.A)(h:EvA X Γ S (e::es) λ ds S1=>ds.length=n/\F ds S1 W)(hg:Gl X x:=by rfl)(hdb:(x==("__debug__":Str))=false:=by decide)
 (he:starEach (e::es) X.env=(false,eval e X.env)::starEach es X.env:=by rfl)(hpl:(backTo pos (starEach es X.env)).any (·.1)=false:=by rfl):Ev X Γ S (.Call (.Name x p) (e::es) [] pos) W:=by
 intro pins s σ H O I env st
 obtain⟨f,fd,ps,hF,hm,hk,hb⟩:=C.ex
 refine wpAny_Call_Name_kw (Ef I hg hm ?_ hdb)
 refine PySem.W.callWith_K (h₀:=X.base) I.ok.mod.kin hk (thn (h pos pins s σ H O I env st) λ us s1 ⟨vs,H1,I1,r1,O1,ds,S1,⟨hl,w⟩,st1,ok1,rep⟩=>⟨I1.kIn,?_⟩) he hpl
 refine Tt hF hr hb .nil U9 I1 r1 ?_
 rw[List.append_nil]
 exact⟨O1,ds,S1,W,hl,rep,ok1,w,λ v H' q=>q.pre st1⟩
structure Fin where
 nx:Gam->Store->Prop
 rt:WD
 bk:Gam->Store->Prop:=λ _ _=>False
 ct:Gam->Store->Prop:=λ _ _=>False
noncomputable def QN(K:PySem.W.Frag)(O:Own)(H:Hp)(W:Gam->Store->Prop):St->Hp->Prop:=λ σ' H'=>∃O' Γ' S',W Γ' S'/\Step O O' H H'/\StOk K O' H' S'/\EnvOk K O' H' σ' Γ'
noncomputable def ends(K:PySem.W.Frag)(O:Own)(H:Hp)(W:Fin):Ends:={nx:=QN K O H W.nx,rt:=QG K O H W.rt,bk:=QN K O H W.bk,ct:=QN K O H W.ct}
noncomputable def Rn(X:Cx)(Γ:Gam)(S:Store)(st:Stmt)(W:Fin):Prop:=
 ∀ (pins:Pins)(s:Shared)(σ:St)(H:Hp)(O:Own),Inv X pins σ H s->EnvOk X.K O H σ Γ->StOk X.K O H S->
   wpAny (model X.prog X.w) X.A (exec st X.env) (SP X pins (ends X.K O H W)) X.xe s
noncomputable def Rns(X:Cx)(Γ:Gam)(S:Store)(sts:List Stmt)(W:Fin):Prop:=
 ∀ (pins:Pins)(s:Shared)(σ:St)(H:Hp)(O:Own),Inv X pins σ H s->EnvOk X.K O H σ Γ->StOk X.K O H S->
   wpAny (model X.prog X.w) X.A (execs sts X.env) (SP X pins (ends X.K O H W)) X.xe s
theorem QN.pre{O1:Own}{H1:Hp}(st:Step O O1 H H1){W:Gam->Store->Prop}{v:St}{H':Hp}(q:QN K O1 H1 W v H'):QN K O H W v H':=by
 obtain⟨O',d,S',w,s',ok,r⟩:=q
 exact⟨O',d,S',w,st.trans s',ok,r⟩
theorem Fv{pins:Pins}{O1:Own}{H1:Hp}{W:Fin}(st:Step O O1 H H1){f:Flow}{s':Shared}(q:SP X pins (ends X.K O1 H1 W) f s'):SP X pins (ends X.K O H W) f s':=by
 cases f with
 | next=>obtain⟨σ,H',I,q⟩:=q;exact⟨σ,H',I,QN.pre st q⟩
 | brk=>obtain⟨σ,H',I,q⟩:=q;exact⟨σ,H',I,QN.pre st q⟩
 | cont=>obtain⟨σ,H',I,q⟩:=q;exact⟨σ,H',I,QN.pre st q⟩
 | ret u=>obtain⟨v,σ,H',I,r,q⟩:=q;exact⟨v,σ,H',I,r,QG.pre st q⟩
variable {W : Fin} {st : Stmt} {sts : List Stmt}
theorem Tz(w:W.nx Γ S):Rns X Γ S [] W:=λ pins s σ H O I env st=>wpAny_execs_nil ⟨σ,H,I,O,Γ,S,w,Step.refl O H,st,env⟩
theorem Og(h:Rn X Γ S st {W with nx:=λ Γ1 S1=>Rns X Γ1 S1 sts W}):Rns X Γ S (st::sts) W:=by
 intro pins s σ H O I env ok
 refine wpAny_execs_cons (thn (h pins s σ H O I env ok) λ f s1 q=>?_)
 cases f with
 | next=>
   obtain⟨σ',H',I',O1,Γ1,S1,w,st1,ok1,env1⟩:=q
   exact thn (w pins s1 σ' H' O1 I' env1 ok1) λ _ _ q=>Fv st1 q
 | ret v=>exact q
 | brk=>exact q
 | cont=>exact q
theorem Ub(h:Ev X Γ S e W.rt):Rn X Γ S (.Return (some e) pos) W:=by
 intro pins s σ H O I env ok
 exact wpAny_Return_some (thn (h pins s σ H O I env ok) λ v s1 ⟨x,H1,I1,r1,q1⟩=>⟨x,σ,H1,I1,r1,q1⟩)
theorem Vw{c:Expr}{xs ys:List Stmt}(h:Ts X Γ S c λ k S1=>(k=true->Rns X Γ S1 xs W)/\(k=false->Rns X Γ S1 ys W)):Rn X Γ S (.If c xs ys pos) W:=by
 intro pins s σ H O I env ok
 refine wpAny_If (thn (h pins s σ H O I env ok) λ d s1 hq_=>?_)
 obtain⟨H1,I1,O1,S1,w,st1,ok1⟩:=hq_
 cases d with
 | true=>exact thn (w.1 rfl pins s1 σ H1 O1 I1 (env.mono st1) ok1) λ _ _ q=>Fv st1 q
 | false=>exact thn (w.2 rfl pins s1 σ H1 O1 I1 (env.mono st1) ok1) λ _ _ q=>Fv st1 q
theorem NT(i:Nat){x:Str}{pos':Pos}(h:Ev X Γ S e λ d S1=>W.nx (Γ.set i (some d)) S1)(hN:X.N.Nodup)(hi:X.N[i]? =some x:=by rfl)(hx:Loc X.env.scope x:=by first | exact Or.inl rfl | exact Or.inr rfl)
 (hs:swapsWith e (some (.Name x pos')) pos.line X.env=pure false:=by rfl)(hf:X.fn x=true∨X.env.scope.names.lookup x=some .local:=by first | exact .inl rfl | exact .inr rfl):Rn X Γ S (.Assign [.Name x pos'] e pos) W:=by
 intro pins s σ H O I env ok
 refine wpAny_Assign_Name (thn (h pins s σ H O I env ok) λ v s1 hq_=>?_) hs
 obtain⟨y,H1,I1,r1,O1,d,S1,w,st1,ok1,rep1⟩:=hq_
 exact yP I1 hN hi hx r1 (λ s2 I2=>⟨_,H1,I2,O1,_,S1,w,st1,ok1,(env.mono st1).set rep1 i⟩) hf
theorem Sv(h:Ev X Γ S e λ d S1=>W.nx Γ S1)(hs:swapsWith e none pos.line X.env=pure false:=by rfl):Rn X Γ S (.Expr e pos) W:=by
 intro pins s σ H O I env ok
 exact wpAny_Expr_any (thn (h pins s σ H O I env ok) λ v s1 ⟨x,H1,I1,r1,O1,d,S1,w,st1,ok1,rep1⟩=>⟨σ,H1,I1,O1,Γ,S1,w,st1,ok1,env.mono st1⟩) I.quiet hs
noncomputable def tE(K:PySem.W.Frag)(Γ:Gam)(S:Store)(W:WD):TE:=λ σ H Q=>∃O,EnvOk K O H σ Γ/\StOk K O H S/\∀v H',QG K O H W v H'->Q v H'
theorem Rh{pins:Pins}{σ:St}{Q Q':VK}{u:Value}{s':Shared}(q:EP X pins σ Q u s')(k:∀v H',Q v H'->Q' v H'):EP X pins σ Q' u s':=by
 obtain⟨v,H',I,r,q⟩:=q
 exact⟨v,H',I,r,k v H' q⟩
theorem Ev.pe{W:WD}(h:Ev X Γ S e W):PE X e (tE X.K Γ S W):=λ pins s σ H Q I ⟨O,env,st,k⟩=>thn (h pins s σ H O I env st) λ _ _ q=>Rh q k
noncomputable def tEA(K:PySem.W.Frag)(Γ:Gam)(S:Store)(W:List D->Store->Prop):TA:=λ σ H Q=>∃O,EnvOk K O H σ Γ/\StOk K O H S/\∀v H',QA K O H W v H'->Q v H'
theorem EvA.pa{W:List D->Store->Prop}(h:EvA X Γ S es W):PA X es (tEA X.K Γ S W):=λ pos pins s σ H Q I ⟨O,env,st,k⟩=>thn (h pos pins s σ H O I env st) λ _ _ ⟨v,H',I',r,q⟩=>⟨v,H',I',r,k v H' q⟩
theorem QC{o i:Expr}{tpos:Pos}(h:Ev X Γ S e λ d S1=>Ev X Γ S1 o λ x S2=>Ev X Γ S2 i λ y S3=>∃k n ds j,x=.loc k/\y=.int n/\S3[k]? =some ds/\ixN ds.length n=some j/\W.nx Γ (S3.set k (ds.set j d)))
 (ha:∀v,assign (.Subscript o i tpos) X.env v=(do
  let ov ←holding [v] (eval o X.env)
  let iv ←holding [v,ov] (eval i X.env)
  standAt tpos
  holding [v,ov,iv] (setItem ov iv v)
  release [v,ov,iv] []):=by intro _;rfl)(hs:swapsWithSole [.Subscript o i tpos] e pos.line X.env=pure false:=by rfl)(hw:swappedStores [.Subscript o i tpos] e X.env=pure none:=by rfl)
 (h1:(assignEach [.Subscript o i tpos] X.env).map (·.2)=[assign (.Subscript o i tpos) X.env]:=by rfl):Rn X Γ S (.Assign [.Subscript o i tpos] e pos) W:=by
 intro pins s σ H O I env ok
 refine wpAny_Assign_stores (thn (h pins s σ H O I env ok) λ u s1 hq_=>?_) hs hw
 obtain⟨v,H1,I1,r1,O1,d,S1,w1,st1,ok1,rep1⟩:=hq_
 rw[h1]
 show wpAny _ _ (assign (.Subscript o i tpos) X.env u) _ _ _
 rw[ha]
 refine ZA (ZQ (thn (w1 pins s1 σ H1 O1 I1 (env.mono st1) ok1) λ ov s2 hq_=>?_))
 obtain⟨x,H2,I2,r2,O2,dx,S2,w2,st2,ok2,rep2⟩:=hq_
 refine ZA (ZQ (thn (w2 pins s2 σ H2 O2 I2 ((env.mono st1).mono st2) ok2) λ iv s3 hq_=>?_))
 obtain⟨y,H3,I3,r3,O3,dy,S3,⟨k,n,ds,j,ex,ey,hk,hj,w⟩,st3,ok3,rep3⟩:=hq_
 subst ex
 subst ey
 have rx:=rep2.mono st3
 cases rx with
 | @loc p _ hp=>
   cases rep3
   obtain⟨xs,hx,q⟩:=ok3.obj k p ds hp hk
   have rd:=(rep1.mono st2).mono st3
   refine ZA (wpAny_standAt (ZA (ZQ (thn (set_list pins s3 σ H3 _ _ v ov iv u (λ H'=>H'=upd H3 p (.lst (xs.set j v))) I3 r2 r3 r1 ⟨p,xs,n,j,rfl,rfl,hx,by rw[q.length];exact hj,rfl⟩) λ _ s4 hq_=>?_))))
   obtain⟨H4,I4,e4⟩:=hq_
   subst e4
   refine wpAny_release ⟨σ,_,I4,O3,Γ,_,w,((st1.trans st2).trans st3).trans (Step.put (bW hp) _),ok3.put hp (q.set rd j),(((env.mono st1).mono st2).mono st3).mono (Step.put (bW hp) _)⟩
noncomputable def BdW(X:Cx)(tg:Expr)(d:D)(Γ:Gam)(S:Store)(W:Gam->Store->Prop):Prop:=
 ∀ (pins:Pins)(s:Shared)(σ:St)(H:Hp)(O:Own)(v:V)(u:Value),Inv X pins σ H s->EnvOk X.K O H σ Γ->StOk X.K O H S->Rep X.K O H v d->RelV v u->
   wpAny (model X.prog X.w) X.A (assign tg X.env u) (λ _ s'=>∃σ' H',Inv X pins σ' H' s'/\QN X.K O H W σ' H') X.xe s
noncomputable def yo(X:Cx)(ts:List Expr)(ds:List D)(Γ:Gam)(S:Store)(W:Gam->Store->Prop):Prop:=
 ∀ (pins:Pins)(s:Shared)(σ:St)(H:Hp)(O:Own)(vs:List V)(us:List Value),Inv X pins σ H s->EnvOk X.K O H σ Γ->StOk X.K O H S->Reps X.K O H vs ds->Vals vs us->
   wpAny (model X.prog X.w) X.A (assignInOrder ((assignEach ts X.env).map (·.2)) us) (λ _ s'=>∃σ' H',Inv X pins σ' H' s'/\QN X.K O H W σ' H') X.xe s
theorem Qg(i:Nat){x:Str}{d:D}{W:Gam->Store->Prop}(w:W (Γ.set i (some d)) S)(hN:X.N.Nodup)(hi:X.N[i]? =some x:=by rfl)(hx:Loc X.env.scope x:=by first | exact Or.inl rfl | exact Or.inr rfl)
 (hf:X.fn x=true∨X.env.scope.names.lookup x=some .local:=by first | exact .inl rfl | exact .inr rfl):BdW X (.Name x pos) d Γ S W:=λ pins s σ H O v u I env st r ru=>
 wpAny_assign_Name (yP I hN hi hx ru (λ s' I'=>⟨_,H,I',O,_,S,w,Step.refl O H,st,env.set r i⟩) hf)
theorem Oh{W:Gam->Store->Prop}(w:W Γ S):yo X [] [] Γ S W:=λ pins s σ H O vs us I env st r ru=>by
 cases r
 cases ru
 exact assignInOrder_nil ⟨σ,H,I,O,Γ,S,w,Step.refl O H,st,env⟩
theorem Nk{t:Expr}{ts:List Expr}{W:Gam->Store->Prop}(h:BdW X t d Γ S λ Γ1 S1=>yo X ts ds Γ1 S1 W)
 (hs:(assignEach (t::ts) X.env).map (·.2)=assign t X.env::(assignEach ts X.env).map (·.2):=by rfl):yo X (t::ts) (d::ds) Γ S W:=λ pins s σ H O vs us I env st r ru=>by
 cases r with
 | cons r rr=>
   cases ru with
   | cons ru rru=>
     rw[hs]
     refine assignInOrder_cons (thn (h pins s σ H O _ _ I env st r ru) λ _ s1 hq_=>?_)
     obtain⟨σ1,H1,I1,O1,Γ1,S1,w,st1,ok1,env1⟩:=hq_
     refine thn (w pins s1 σ1 H1 O1 _ _ I1 env1 ok1 (rr.mono st1) rru) λ _ s2 ⟨σ2,H2,I2,q⟩=>⟨σ2,H2,I2,QN.pre st1 q⟩
theorem Tw{ts:List Expr}{W:Gam->Store->Prop}(h:yo X ts ds Γ S W)(hc:X.calm=true:=by rfl)(hn:(assignEach ts X.env).length=ds.length:=by rfl)(hst:(assignEach ts X.env).findIdx? (·.1)=none:=by rfl):BdW X (.Tuple ts k pos) (.tup ds) Γ S W:=λ pins s σ H O v u I env st r ru=>by
 cases r with
 | @tup p xs _ h1 q1=>
   cases ru
   obtain⟨its,rv,ht,hz⟩:=I.tuple h1.sq
   refine assign_Tuple_tuple (I.ok.hd hc) ht (by simp[hn,←q1.length,rv.length]) hst λ h' hx=>?_
   have I1:Inv X pins σ H {s with heap:=h'}:=I.kept (t':=s.toks) λ b o e=>hx b o (ZN (ZE e)) e
   exact h pins _ σ H O xs _ I1 env st q1 (by simpa using rv)
noncomputable def fV(K:PySem.W.Frag)(J:It)(O:Own)(H:Hp)(ds:List D):Prop:=
 ∀(O':Own)(H':Hp),Conv O O' H H'->(∀a,O'.has a->H' a≠none)->∀i:Nat,(∀d,ds[i]? =some d->J.go i H'/\∀x H'',J.yld i H' x H''->dD H' H''/\Rep K O' H'' x d)/\(i=ds.length->J.stop i H')
noncomputable def QI(K:PySem.W.Frag)(O:Own)(H:Hp)(W:List D->Store->Prop):It->Hp->Prop:=λ J H'=>∃O' ds S',W ds S'/\Step O O' H H'/\StOk K O' H' S'/\fV K J O' H' ds
noncomputable def ItW(X:Cx)(Γ:Gam)(S:Store)(tg iter:Expr)(W:List D->Store->Prop):Prop:=
 ∀ (pins:Pins)(s:Shared)(σ:St)(H:Hp)(O:Own),Inv X pins σ H s->EnvOk X.K O H σ Γ->StOk X.K O H S->
   wpAny (model X.prog X.w) X.A (eval iter X.env) (λ v s1=>wpAny (model X.prog X.w) X.A (pyIter v) (PIE X pins σ tg (QI X.K O H W)) X.xe s1) X.xe s
theorem pQ{a:Addr}(h:Ls K O H a xs)(r:Reps K O H xs ds):fV K (Itl K a) O H ds:=by
 intro O' H' st _ i
 have hq:=(h.conv st).sq
 refine⟨λ d hd=>?_,λ hi=>⟨xs,hq,by rw[r.length];exact Nat.le_of_eq hi.symm⟩⟩
 obtain⟨v,hv,rv⟩:=r.get hd
 refine⟨⟨xs,v,hq,hv⟩,λ x H'' y=>?_⟩
 obtain⟨e,y⟩:=y
 subst e
 have e:=y xs hq
 rw[hv]at e
 cases e
 exact⟨dD.refl _,rv.conv st⟩
theorem rP{a:Addr}(h:Tp K O H a xs)(r:Reps K O H xs ds):fV K (Itt K a) O H ds:=by
 intro O' H' st _ i
 have hq:=(h.conv st).sq
 refine⟨λ d hd=>?_,λ hi=>⟨xs,hq,by rw[r.length];exact Nat.le_of_eq hi.symm⟩⟩
 obtain⟨v,hv,rv⟩:=r.get hd
 refine⟨⟨xs,v,hq,hv⟩,λ x H'' y=>?_⟩
 obtain⟨e,y⟩:=y
 subst e
 have e:=y xs hq
 rw[hv]at e
 cases e
 exact⟨dD.refl _,rv.conv st⟩
noncomputable def upTo(lo:Int)(n:Nat):List D:=(List.range n).map λ(k:Nat)=>D.int (lo+(k:Int))
theorem ao(lo:Int)(n:Nat):(upTo lo n).length=n:=by simp[upTo]
theorem aL{lo:Int}{n i:Nat}(h:(upTo lo n)[i]? =some d):i<n/\d=.int (lo+i):=by
 unfold upTo at h
 rw[y9]at h
 cases e:(List.range n)[i]? with
 | none=>rw[e]at h;cases h
 | some k=>
   rw[e]at h
   obtain⟨hl,hk⟩:=y3.mp e
   simp at hl hk
   subst hk
   cases h
   exact⟨hl,rfl⟩
theorem nP(lo:Int)(n:Nat):fV K (Itr lo n) O H (upTo lo n):=by
 intro O' H' st _ i
 refine⟨λ d hd=>?_,λ hi=>by rw[ao]at hi;exact Nat.le_of_eq hi.symm⟩
 obtain⟨hi,ed⟩:=aL hd
 subst ed
 refine⟨hi,λ x H'' y=>?_⟩
 obtain⟨e,ex⟩:=y
 subst e
 subst ex
 exact⟨dD.refl _,.int _⟩
theorem HF{tg a:Expr}{W:List D->Store->Prop}(h:Ev X Γ S a λ d S1=>∃j:Int,d=.int j/\ -(2 ^ 62)≤j/\j<2 ^ 62/\W (upTo 0 j.toNat) S1)(hm:X.mg "range"=none)(hg:Gl X "range":=by rfl)(hs:starEach [a] X.env=[(false,eval a X.env)]:=by rfl):
 ItW X Γ S tg (.Call (.Name "range" p) [a] [] pos) W:=by
 intro pins s σ H O I env st
 refine HS hg hm (oY h.pe zL hs) hs pins s σ H _ I ⟨O,env,st,λ v H' q=>?_⟩
 obtain⟨O',d,S',⟨j,ed,h1,h2,w⟩,st1,ok1,rep⟩:=q
 subst ed
 cases rep
 exact⟨j,rfl,h1,h2,O',_,S',w,st1,ok1,nP 0 _⟩
theorem Im{tg a b:Expr}{W:List D->Store->Prop}(h:Ev X Γ S a λ d S1=>Ev X Γ S1 b λ d' S2=>∃i j:Int,d=.int i/\d'=.int j/\(-(2 ^ 62)≤i/\i<2 ^ 62/\ -(2 ^ 62)≤j/\j<2 ^ 62)/\W (upTo i (j-i).toNat) S2)(hm:X.mg "range"=none)(hg:Gl X "range":=by rfl)
 (hs:starEach [a,b] X.env=[(false,eval a X.env),(false,eval b X.env)]:=by rfl)(hs2:starEach [b] X.env=[(false,eval b X.env)]:=by rfl):
 ItW X Γ S tg (.Call (.Name "range" p) [a,b] [] pos) W:=by
 intro pins s σ H O I env st
 have hA:EvA X Γ S [a,b] λ ds S2=>∃i j:Int,ds=[.int i,.int j]/\(-(2 ^ 62)≤i/\i<2 ^ 62/\ -(2 ^ 62)≤j/\j<2 ^ 62)/\W (upTo i (j-i).toNat) S2:=
  bI (h.mono λ d S1 h1=>bI (h1.mono λ d' S2 ⟨i,j,e1,e2,hb,w⟩=>d8 ⟨i,j,by rw[e1,e2],hb,w⟩) hs2) (by rw[hs,hs2])
 refine Hz hg hm hA.pa hs hs2 pins s σ H _ I ⟨O,env,st,λ v H' q=>?_⟩
 obtain⟨O',ds,S',⟨i,j,ed,hb,w⟩,st1,ok1,rep⟩:=q
 subst ed
 cases rep with
 | cons r1 r2=>
   cases r2 with
   | cons r2 r3=>
     cases r3
     cases r1
     cases r2
     exact⟨i,j,rfl,hb,O',_,S',w,st1,ok1,nP i _⟩
theorem Va{tg iter:Expr}{body:List Stmt}(h:ItW X Γ S tg iter λ ds S1=>∃Pv:Nat->Gam->Store->Prop,Pv 0 Γ S1/\
 (∀i d Γ' S',ds[i]? =some d->Pv i Γ' S'->BdW X tg d Γ' S' λ Γ2 S2=>Rns X Γ2 S2 body {W with nx:=Pv (i+1),ct:=Pv (i+1),bk:=W.nx})/\(∀Γ' S',Pv ds.length Γ' S'->W.nx Γ' S'))
 (hp:PassesOwn (model X.prog X.w) X.A X.env X.xe:=by exact PassesOwn.never)(hc:X.calm=true:=by rfl)(hs:∀x,foldedSetIterable iter X.env x=pure x:=by intro _;rfl):Rn X Γ S (.For tg iter body [] pos) W:=by
 intro pins s σ H O I env ok
 let WI:List D->Store->Prop:=λ ds S1=>∃Pv:Nat->Gam->Store->Prop,Pv 0 Γ S1/\
     (∀i d Γ' S',ds[i]? =some d->Pv i Γ' S'->BdW X tg d Γ' S' λ Γ2 S2=>Rns X Γ2 S2 body {W with nx:=Pv (i+1),ct:=Pv (i+1),bk:=W.nx})/\(∀Γ' S',Pv ds.length Γ' S'->W.nx Γ' S')
 have hI:PI X tg iter (λ σ H R=>∃O,EnvOk X.K O H σ Γ/\StOk X.K O H S/\∀J H',QI X.K O H WI J H'->R J H'):=λ pins s σ H R I hh=>by
  obtain⟨O,env,st,k⟩:=hh
  refine thn (h pins s σ H O I env st) λ _ _ q=>thn q λ _ _ q2=>?_
  obtain⟨it,fp,tn,J,H',e1,e2,e3,e4,e5,e6⟩:=q2
  exact⟨it,fp,tn,J,H',e1,e2,e3,e4,e5,k J H' e6⟩
 have hG:PG X tg (λ v σ H Q=>∃O d Γ S W',EnvOk X.K O H σ Γ/\StOk X.K O H S/\Rep X.K O H v d/\BdW X tg d Γ S W'/\∀σ' H',QN X.K O H W' σ' H'->Q σ' H'):=λ pins s σ H v u Q I ru hh=>by
  obtain⟨O,d,Γ,S,W',env,st,r,b,k⟩:=hh
  refine thn (b pins s σ H O v u I env st r ru) λ _ _ q2=>?_
  obtain⟨σ',H',I',q⟩:=q2
  exact⟨σ',H',I',k σ' H' q⟩
 have hB:PSs X body (λ D σ H=>∃O Γ S W',EnvOk X.K O H σ Γ/\StOk X.K O H S/\Rns X Γ S body W'/\(∀σ' H',QN X.K O H W'.nx σ' H'->D.nx σ' H')/\(∀v H',QG X.K O H W'.rt v H'->D.rt v H')/\(∀σ' H',QN X.K O H W'.bk σ' H'->D.bk σ' H')/\∀σ' H',QN X.K O H W'.ct σ' H'->D.ct σ' H'):=
  λ pins s σ H D I hh=>by
   obtain⟨O,Γ,S,W',env,st,b,k1,k2,k3,k4⟩:=hh
   refine thn (b pins s σ H O I env st) λ f s' q=>?_
   cases f with
   | next=>obtain⟨σ',H',I',q⟩:=q;exact⟨σ',H',I',k1 σ' H' q⟩
   | brk=>obtain⟨σ',H',I',q⟩:=q;exact⟨σ',H',I',k3 σ' H' q⟩
   | cont=>obtain⟨σ',H',I',q⟩:=q;exact⟨σ',H',I',k4 σ' H' q⟩
   | ret u=>obtain⟨v,σ',H',I',r,q⟩:=q;exact⟨v,σ',H',I',r,k2 v H' q⟩
 refine JF hp hc hI hG hB hs pins s σ H _ I ⟨O,env,ok,λ J H1 q=>?_⟩
 obtain⟨O1,ds,S1,⟨Pv,p0,pt,pe⟩,st1,ok1,yl⟩:=q
 refine⟨λ i m σ' H'=>m=ds.length-i/\i≤ds.length/\∃O' Γ' S',Pv i Γ' S'/\Step O1 O' H1 H'/\StOk X.K O' H' S'/\EnvOk X.K O' H' σ' Γ',⟨ds.length,by simp,Nat.zero_le _,O1,Γ,S1,p0,Step.refl _ _,ok1,env.mono st1⟩,?_⟩
 rintro i m σ2 H2 ⟨rfl,hi,O2,Γ2,S2,p2,st2,ok2,env2⟩
 obtain⟨y1,y2⟩:=yl O2 H2 st2.conv (λ a ha=>ok2.tracked ha) i
 by_cases hlt:i<ds.length
 . obtain⟨go,yy⟩:=y1 ds[i] (y4 hlt)
   refine .inr ⟨go,λ σ' H'=>i+1≤ds.length/\∃O' Γ' S',Pv (i+1) Γ' S'/\Step O1 O' H1 H'/\StOk X.K O' H' S'/\EnvOk X.K O' H' σ' Γ',λ σ' H' q=>⟨ds.length-(i+1),by omega,rfl,q.1,q.2⟩,λ x H3 y=>?_⟩
   obtain⟨sm,rx⟩:=yy x H3 y
   have st3:=Step.same (O:=O2) sm
   refine⟨O2,ds[i],Γ2,S2,_,env2.mono st3,ok2.same sm,rx,pt i ds[i] Γ2 S2 (y4 hlt) p2,λ σ4 H4 q4=>?_⟩
   obtain⟨O4,Γ4,S4,w4,st4,ok4,env4⟩:=q4
   have stA:=(st2.trans st3).trans st4
   refine⟨O4,Γ4,S4,_,env4,ok4,w4,?_,?_,?_,?_⟩
   . rintro σ5 H5 ⟨O5,Γ5,S5,w5,st5,ok5,env5⟩
     exact⟨hlt,O5,Γ5,S5,w5,stA.trans st5,ok5,env5⟩
   . exact λ v H' q=>QG.pre (st1.trans stA) q
   . exact λ σ' H' q=>QN.pre (st1.trans stA) q
   . rintro σ5 H5 ⟨O5,Γ5,S5,w5,st5,ok5,env5⟩
     exact⟨hlt,O5,Γ5,S5,w5,stA.trans st5,ok5,env5⟩
 . have e:i=ds.length:=by omega
   subst e
   exact .inl ⟨y2 rfl,O2,Γ2,S2,pe Γ2 S2 p2,st1.trans st2,ok2,env2⟩
theorem Vp {P:Program}{w:World}{mg:Str->Option Value}{base:Heap}{qual:Str}{sm:Stmt}{f:Addr}{fd:FuncData}{N ps:List Str}{F:Ct}(FF:Fun K x qual sm f fd)(SC:FnScope N ps (aH sm))
 (body:∀(cdv:Value)(A:Around)(outer:List Env)(s:Shared)(H:Hp)(E:XK)(ds:List D)(S:Store)(W:WD),Room k (A.deeper (envOfC qual (aH sm) s.heap.objs.size f cdv))->ds.length=ps.length->F ds S W->
  Rns (oA CX0 P w K mg base N qual (aH sm) f cdv A outer s H E).nox (ds.map some++List.replicate (N.length-ds.length) none) S (cj sm) {nx:=λ _ S1=>W .non S1,rt:=W}):FnOk P w K mg base CX0 (k+1) f fd ps (spC K ps.length F):=by
 refine FF.ok SC (λ vs H Q E h=>?_) (λ cdv A outer s H vs Q E hr h=>?_)
 . obtain⟨O,ds,S,W,hl,r,_⟩:=h
   rw[r.length,hl]
 . obtain ⟨O,ds,S,W,hl,r,st,hF,q⟩:=h
   have hB:=body cdv A outer s H E ds S W hr hl hF
   refine⟨λ D σ H'=>∃O Γ S W',EnvOk K O H' σ Γ/\StOk K O H' S/\Rns (oA CX0 P w K mg base N qual (aH sm) f cdv A outer s H E).nox Γ S (cj sm) W'/\(∀σ' H2,QN K O H' W'.nx σ' H2->D.nx σ' H2)/\(∀v H2,QG K O H' W'.rt v H2->D.rt v H2)/\(∀σ' H2,QN K O H' W'.bk σ' H2->D.bk σ' H2)/\∀σ' H2,QN K O H' W'.ct σ' H2->D.ct σ' H2,?_,?_⟩
   . intro pins s σ H' D I ⟨O,Γ,S,W',env,st,b,k1,k2,k3,k4⟩
     refine thn (b pins s σ H' O I env st) λ f s' q=>?_
     cases f with
     | next=>obtain⟨σ',H',I',q⟩:=q;exact⟨σ',H',I',k1 σ' H' q⟩
     | brk=>obtain⟨σ',H',I',q⟩:=q;exact⟨σ',H',I',k3 σ' H' q⟩
     | cont=>obtain⟨σ',H',I',q⟩:=q;exact⟨σ',H',I',k4 σ' H' q⟩
     | ret u=>obtain⟨v,σ',H',I',r,q⟩:=q;exact⟨v,σ',H',I',r,k2 v H' q⟩
   . refine⟨O,_,S,_,?_,st,hB,?_,?_,?_,?_⟩
     . have hv:vs.length=ds.length:=r.length
       refine⟨by simp[L2.start,hv],λ i d h=>?_⟩
       by_cases hi:i<ds.length
       . rw[w9 (by simpa using hi),y9]at h
         cases e:ds[i]? with
         | none=>rw[e]at h;cases h
         | some d'=>
           rw[e]at h
           cases h
           obtain⟨v,hv',rv⟩:=r.get e
           refine⟨v,?_,rv⟩
           unfold L2.start
           rw[w9 (by rw[y8,hv];exact hi),y9,hv']
           rfl
       . rw[List.getElem?_append_right (by simpa using hi),List.getElem?_replicate]at h
         split at h<;>cases h
     . rintro σ' H2 ⟨O',Γ',S',w,st',ok',_⟩
       exact q _ _ ⟨O',.non,S',w,st',ok',.non⟩
     . exact λ v H2 z=>q v H2 z
     . rintro σ' H2 ⟨_,_,_,w,_⟩
       exact w.elim
     . rintro σ' H2 ⟨_,_,_,w,_⟩
       exact w.elim
end
end DL
namespace DL
open PySem PySem.Spec L2
open PyProof.Rows
variable {K : PySem.W.Frag} {O : Own} {H : Hp} {s : Shared}
noncomputable def rk(env:Env)(n:Str)(k:NameKind):NameKind:=if(k==NameKind.free&&env.scope.kind==.function&&env.kindOf n==some .cell)=true then .cell else k
theorem j7(sc:Scope)(env:Env):(relabel sc env).names=sc.names.map λ p=>(p.1,rk env p.1 p.2):=by
 show sc.names.map _=_
 congr 1
 funext p
 obtain⟨n,k⟩:=p
 unfold rk
 by_cases h:(k==NameKind.free&&env.scope.kind==.function&&env.kindOf n==some .cell)=true
 . simp only[h,if_true]
 . simp only[h,if_false,Bool.false_eq_true]
theorem eX(g:Str->NameKind->NameKind)(x:Str):∀names:List (Str×NameKind),(names.map λ p=>(p.1,g p.1 p.2)).lookup x=(names.lookup x).map (g x)
 | []=>rfl
 | (n,k)::r=>by
   have ih:=eX g x r
   rw[List.map_cons,List.lookup_cons,List.lookup_cons]
   cases hx:x==n with
   | true=>rw[ZI hx];rfl
   | false=>exact ih
theorem qm(env:Env)(n:Str)(k:NameKind):rk env n k=k∨(k=.free/\rk env n k=.cell):=by
 unfold rk
 by_cases h:(k==NameKind.free&&env.scope.kind==.function&&env.kindOf n==some .cell)=true
 . rw[if_pos h]
   rw[Bool.and_eq_true,Bool.and_eq_true]at h
   exact .inr ⟨ZI h.1.1,rfl⟩
 . rw[if_neg h];exact .inl rfl
theorem jU{env:Env}{sc:Scope}{x:Str}{k:NameKind}(h:(relabel sc env).names.lookup x=some k):∃k0,sc.names.lookup x=some k0/\(k=k0∨(k0=.free/\k=.cell)):=by
 rw[j7,eX]at h
 cases e:sc.names.lookup x with
 | none=>rw[e]at h;cases h
 | some k0=>
   rw[e]at h
   have h':rk env x k0=k:=Option.some.inj h
   refine⟨k0,rfl,?_⟩
   rcases qm env x k0 with q | ⟨q1,q2⟩
   . exact .inl (h'.symm.trans q)
   . exact .inr ⟨q1,h'.symm.trans q2⟩
theorem zr{env:Env}{sc:Scope}{x:Str}(h:sc.names.lookup x=some .free):(relabel sc env).names.lookup x=some .cell∨(relabel sc env).names.lookup x=some .free:=by
 rw[j7,eX,h]
 rcases qm env x .free with q | ⟨_,q⟩
 . exact .inr (congrArg some q)
 . exact .inl (congrArg some q)
noncomputable def closes(env:Env):List (Str×NameKind)->List (Str×Addr)->List (Str×Addr)
 | [],cs=>cs
 | (n,k)::r,cs=>closes env r (if k==.free then(n,(env.cells.lookup n).getD 0)::cs else cs)
theorem pR{env:Env}:∀(names:List (Str×NameKind))(cs:List (Str×Addr)),(∀y∈names,y.2=.free->∃c,env.cells.lookup y.1=some c)->
 (forIn (m:=Sem) names cs λ x r=>if(x.2==.free)=true then do let a ←cellOf env x.1;pure (ForInStep.yield ((x.1,a)::r))else pure (ForInStep.yield r))=pure (closes env names cs)
 | [],cs,_=>by rw[List.forIn_nil];rfl
 | (n,k)::r,cs,h=>by
   rw[List.forIn_cons]
   have ih:=λ cs=>pR (env:=env) r cs λ y hy=>h y (x5 _ hy)
   by_cases hk:(k==NameKind.free)=true
   . obtain⟨c,hc⟩:=h (n,k) x8 (ZI hk)
     have hc':env.cells.lookup n=some c:=hc
     have e:cellOf env n=pure c:=by unfold cellOf;rw[hc']
     have q:=ih ((n,c)::cs)
     simp only[hk,if_true,e,pure_bind]
     rw[q]
     simp[closes,hk,hc']
   . have q:=ih cs
     simp only[hk,if_false,pure_bind,Bool.false_eq_true]
     rw[q]
     simp[closes,hk]
theorem lL{env:Env}{sc:Scope}(h:∀y∈sc.names,y.2=.free->∃c,env.cells.lookup y.1=some c):closureFor sc env=pure (closes env sc.names []):=by
 have q:=pR (env:=env) sc.names [] h
 unfold closureFor
 first
  | (simp only[bind_pure];exact q)
  | (rw[show(forIn sc.names ([]:List (Str×Addr)) _:Sem _)=_ from q];rfl)
  | (refine Eq.trans (congrArg (λ t=>t>>=pure) q) ?_;simp)
theorem pN{env:Env}{x:Str}{c:Addr}:∀(names:List (Str×NameKind))(cs:List (Str×Addr)),(∀y∈names,y.2=.free->∃c,env.cells.lookup y.1=some c)->(∀c,cs.lookup x=some c->env.cells.lookup x=some c)->(closes env names cs).lookup x=some c->env.cells.lookup x=some c
 | [],cs,_,hc,h=>hc c h
 | (n, k)::r,cs,hf,hc,h=>by
   refine pN r _ (λ y hy=>hf y (x5 _ hy)) ?_ h
   intro c' h'
   by_cases hk:(k==NameKind.free)=true
   . rw[if_pos hk]at h'
     obtain⟨c2,h2⟩:=hf (n,k) x8 (ZI hk)
     have h2:env.cells.lookup n=some c2:=h2
     rw[List.lookup_cons]at h'
     cases hx:x==n with
     | true=>
       rw[hx,h2]at h'
       have e:x=n:=ZI hx
       subst e
       simp only[Option.getD_some]at h'
       cases h'
       exact h2
     | false=>rw[hx]at h';exact hc c' h'
   . rw[if_neg hk]at h'
     exact hc c' h'
theorem gw{env:Env}{x:Str}:∀(names:List (Str×NameKind))(cs:List (Str×Addr)),((∃c,cs.lookup x=some c)∨names.lookup x=some .free)->∃c,(closes env names cs).lookup x=some c
 | [],cs,h=>by
   rcases h with h | h
   . exact h
   . simp at h
 | (n, k)::r,cs,h=>by
   refine gw r _ ?_
   rcases h with⟨c,h⟩ | h
   . refine .inl ?_
     by_cases hk:(k==NameKind.free)=true
     . rw[if_pos hk,List.lookup_cons]
       cases hx:x==n with
       | true=>exact⟨_,rfl⟩
       | false=>exact⟨c,h⟩
     . rw[if_neg hk];exact⟨c,h⟩
   . rw[List.lookup_cons]at h
     cases hx:x==n with
     | true=>
       rw[hx]at h
       simp only at h
       cases h
       refine .inl ⟨(env.cells.lookup n).getD 0,?_⟩
       simp[List.lookup_cons,hx]
     | false=>rw[hx]at h;exact .inr h
noncomputable def fM(X:Cx)(sc:Scope)(N:List Str)(C:Addr)(s:Shared)(H:Hp)(ex:List Addr)(cl:List (Str×Addr)):Cx:=
 {X with N:=N,s₀:=s,H₀:=H,env:=compEnvC sc cl C X.env,outer:=X.stack,stack:=X.stack,ex:=ex,fn:=λ x=>sc.names.lookup x==some .cell,pn:=[]}
noncomputable def capt{α:Type}(cap:List (Option Nat))(xs:List (Option α)):List (Option α):=cap.map λ o=>o.bind λ j=>(xs[j]?).join
noncomputable def bj(N:List Str)(names:List (Str×NameKind))(N':List Str)(names':List (Str×NameKind)):List (Option Nat)->List Str->Bool
 | [],[]=>true
 | none::r,_::t=>bj N names N' names' r t
 | some j::r,x::t=>(N[j]? ==some x)&&(names.lookup x==some .cell||names.lookup x==some .free)&&(names'.lookup x==some .free)&&bj N names N' names' r t
 | _,_=>false
theorem n8{N:List Str}{names:List (Str×NameKind)}{N':List Str}{names':List (Str×NameKind)}:∀{cap:List (Option Nat)}{t:List Str},bj N names N' names' cap t=true->cap.length=t.length
 | [],[],_=>rfl
 | [],_::_,h=>by simp[bj]at h
 | _::_,[],h=>by
   rename_i o r
   cases o<;>simp[bj]at h
 | none::r,_::t,h=>by simp only[bj]at h;simp[n8 h]
 | some j::r,x::t,h=>by
   simp only[bj,Bool.and_eq_true]at h
   simp[n8 h.2]
theorem qH{N:List Str}{names:List (Str×NameKind)}{N':List Str}{names':List (Str×NameKind)}:∀{cap:List (Option Nat)}{t:List Str}{i j:Nat},bj N names N' names' cap t=true->cap[i]? =some (some j)->
 ∃x,t[i]? =some x/\N[j]? =some x/\(names.lookup x=some .cell∨names.lookup x=some .free)/\names'.lookup x=some .free
 | [],_,_,_,_,h=>by simp at h
 | none::r,[],_,_,h,_=>by simp[bj]at h
 | some _::r,[],_,_,h,_=>by simp[bj]at h
 | none::r,x::t,0,j,_,h=>by simp at h
 | none::r,x::t,i+1,j,h,e=>by
   simp only[bj]at h
   obtain⟨y,a,b⟩:=qH (i:=i) h (by simpa using e)
   exact⟨y,by simpa using a,b⟩
 | some k::r,x::t,0,j,h,e=>by
   simp only[bj,Bool.and_eq_true,Bool.or_eq_true,beq_iff_eq]at h
   simp at e
   subst e
   exact⟨x,rfl,h.1.1.1,h.1.1.2,h.1.2⟩
 | some k::r,x::t,i+1,j,h,e=>by
   simp only[bj,Bool.and_eq_true]at h
   obtain⟨y,a,b⟩:=qH (i:=i) h.2 (by simpa using e)
   exact⟨y,by simpa using a,b⟩
theorem El{α:Type}{cap:List (Option Nat)}{xs:List (Option α)}{i:Nat}{d:α}(h:(capt cap xs)[i]? =some (some d)):∃j,cap[i]? =some (some j)/\xs[j]? =some (some d):=by
 unfold capt at h
 rw[y9]at h
 cases e:cap[i]? with
 | none=>rw[e]at h;cases h
 | some o=>
   rw[e]at h
   cases o with
   | none=>simp at h
   | some j=>
     simp at h
     refine⟨j,rfl,?_⟩
     cases q:xs[j]? with
     | none=>rw[q]at h;cases h
     | some z=>rw[q]at h;simp at h;rw[h]
theorem EnvOk.capt{σ:St}{Γ:Gam}(e:EnvOk K O H σ Γ)(cap:List (Option Nat)):EnvOk K O H (capt cap σ) (capt cap Γ):=by
 refine⟨by simp[DL.capt],λ i d h=>?_⟩
 obtain⟨j,hj,hd⟩:=El h
 obtain⟨v,hv,r⟩:=e.at_ j d hd
 refine⟨v,?_,r⟩
 unfold DL.capt
 rw[y9,hj]
 simp[hv]
noncomputable def Sub(Γ Γ':Gam):Prop:=Γ.length=Γ'.length/\∀(i:Nat)(d:D),Γ[i]? =some (some d)->Γ'[i]? =some (some d)
theorem Sub.refl(Γ:Gam):Sub Γ Γ:=⟨rfl,λ _ _ h=>h⟩
theorem Sub.set{Γ Γ':Gam}(s:Sub Γ Γ')(i:Nat)(d:Option D)(h:Γ[i]? =some none:=by rfl):Sub Γ (Γ'.set i d):=⟨by rw[List.length_set];exact s.1,λ j c hj=>by
 have ne:i≠j:=λ e=>by subst e;rw[h]at hj;cases hj
 rw[List.getElem?_set_ne ne];exact s.2 j c hj⟩
theorem EnvOk.sub{σ:St}{Γ Γ':Gam}(e:EnvOk K O H σ Γ')(s:Sub Γ Γ'):EnvOk K O H σ Γ:=⟨e.len.trans s.1.symm,λ i d h=>e.at_ i d (s.2 i d h)⟩
theorem EnvOk.conv{O':Own}{H':Hp}{σ:St}{Γ:Gam}(e:EnvOk K O H σ Γ)(s:Conv O O' H H'):EnvOk K O' H' σ Γ:=
 ⟨e.len,λ i d h=>let ⟨v,a,b⟩:=e.at_ i d h;⟨v,a,b.conv s⟩⟩
noncomputable def freeOk(names names':List (Str×NameKind)):Bool:=names'.all λ y=>!(y.2==.free)||(names.lookup y.1==some .cell||names.lookup y.1==some .free)
theorem nQ{names names':List (Str×NameKind)}(h:freeOk names names'=true):∀y∈names',y.2=.free->names.lookup y.1=some .cell∨names.lookup y.1=some .free:=λ y hy e=>by
 have q:=List.all_eq_true.mp h y hy
 simp only[e,beq_self_eq_true,Bool.not_true,Bool.false_or,Bool.or_eq_true,beq_iff_eq]at q
 exact q
noncomputable def xW(names:List (Str×NameKind)):Bool:=match names.filter (λ y=>y.2==.cell)with
 | []=>true
 | [y]=>names.lookup y.1==some .cell
 | _=>false
theorem yN{names:List (Str×NameKind)}(h:names.filter (λ y=>y.2==.cell)=[])(n:Nat)(acc:List (Str×Addr))(hp:Heap):cellsFrom n names acc=acc/\pushCells hp names=hp:=by
 induction names with
 | nil=>exact⟨rfl,rfl⟩
 | cons y r ih=>
   obtain⟨x,k⟩:=y
   rw[List.filter_cons]at h
   by_cases hk:(k==NameKind.cell)=true
   . rw[if_pos hk]at h;cases h
   . rw[if_neg hk]at h
     obtain⟨i1,i2⟩:=ih h
     unfold cellsFrom pushCells
     rw[if_neg hk,if_neg hk]
     exact⟨i1,i2⟩
theorem uU{names:List (Str×NameKind)}{t:Str×NameKind}(h:names.filter (λ y=>y.2==.cell)=[t])(n:Nat)(acc:List (Str×Addr))(hp:Heap):cellsFrom n names acc=(t.1,n)::acc/\pushCells hp names=hp.push {cls:=.type "cell",data:=.cell none}:=by
 induction names with
 | nil=>cases h
 | cons y r ih=>
   obtain⟨x,k⟩:=y
   rw[List.filter_cons]at h
   by_cases hk:(k==NameKind.cell)=true
   . rw[if_pos hk]at h
     have e:=List.cons.inj h
     obtain⟨i1,i2⟩:=yN e.2 (n+1) ((x,n)::acc) (hp.push {cls:=.type "cell",data:=.cell none})
     unfold cellsFrom pushCells
     rw[if_pos hk,if_pos hk,i1,i2,←e.1]
     exact⟨rfl,rfl⟩
   . rw[if_neg hk]at h
     obtain⟨i1,i2⟩:=ih h
     unfold cellsFrom pushCells
     rw[if_neg hk,if_neg hk]
     exact⟨i1,i2⟩
theorem Oz{M:Model}{A:Around}{E:Value->Shared->Prop}{scope:Scope}{globals:Addr}{closure:List (Str×Addr)}{qual:Str}{outer:Env}{Q:Env->Shared->Prop}
 (hQ:Q (newEnv scope s.heap.objs.size globals (cellsFrom (s.heap.objs.size+1) scope.names closure) qual none .none (some outer) builtinsNs) {s with heap:=pushCells (s.heap.push {cls:=.type "dict",data:=.dict #[]}) scope.names}):
 wpAny M A (newFunctionEnv scope globals closure [] qual none .none (some outer)) Q E s:=by
 simp only[newFunctionEnv,Option.isSome_some,if_true]
 refine ZA (wpAny_alloc ?_)
 refine ZA (wpAny_layCells _ (λ name kind cells=>by cases hkc:kind==NameKind.cell<;>simp[hkc]) _ _ _ _ ?_)
 rw[show({s with heap:=s.heap.push {cls:=.type "dict",data:=.dict #[]}}:Shared).heap.objs.size=s.heap.objs.size+1 from Heap.size_push ..]
 rw[List.forIn_nil]
 exact ZA (ZB (ZB hQ))
structure CelsB(X:Cx)(sc:Scope)(cl:List (Str×Addr))(z:Nat)(h1:Heap):Prop where
 lk:∀x c,cl.lookup x=some c->X.env.cells.lookup x=some c∨(c=z/\sc.names.lookup x=some .cell/\h1.IsCell c none/\∀y,cl.lookup y=some c->y=x)
 has:∀x,sc.names.lookup x=some .cell∨sc.names.lookup x=some .free->∃c,cl.lookup x=some c
 cp:∀x c,sc.names.lookup x=some .free->X.env.cells.lookup x=some c->cl.lookup x=some c
 ow:∀x c,sc.names.lookup x=some .cell->cl.lookup x=some c->z≤c
section
variable {X : Cx}
theorem Qi{pins:Pins}{σ:St}{sc:Scope}{N':List Str}{cap:List (Option Nat)}{fp:List Addr}{h1:Heap}{t:Nat}(I:Inv X pins σ H s)(hfp:∀b∈fp,fC X pins H b)(hob:∀b∈fp,∃o,s.heap.get? b=some o)
 {cl:List (Str×Addr)}(hkind:sc.kind=.function)(hcl:CelsB X sc cl (s.heap.objs.size+2) h1)(hfree:∀y∈sc.names,y.2=.free->X.env.kindOf y.1=some .cell∨X.env.kindOf y.1=some .free)(hcap:bj X.N X.env.scope.names N' sc.names cap N'=true)
 (k:∀b u,s.heap.get? b=some u->h1.get? b=some u)(hD:h1.get? s.heap.objs.size=some {cls:=.type "list",data:=.seq #[] 0})(hC:∃m,h1.Ns (s.heap.objs.size+1) m):
 Inv (fM X sc N' (s.heap.objs.size+1) s H fp cl) [] (capt cap σ) (upd H s.heap.objs.size (.lst [])) {s with heap:=h1,toks:=t}:=by
 have fr0:H s.heap.objs.size=none:=I.hok.fresh (x4 _)
 have fr1:H (s.heap.objs.size+1)=none:=I.hok.fresh (Nat.le_succ _)
 have fr2:H (s.heap.objs.size+2)=none:=I.hok.fresh (by omega)
 have lt:∀b∈fp,b<s.heap.objs.size:=λ b hb=>let ⟨o,e⟩:=hob b hb;ZE e
 have clt:∀{x c},X.env.cells.lookup x=some c->c<s.heap.objs.size:=λ{x c} h=>by
  obtain⟨v,q⟩:=I.cell x c h
  exact q.lt
 refine⟨⟨I.ok.mod,hkind,I.ok.glob,I.ok.blt,Nat.le_succ _,λ x y c a b=>?_,λ x hx=>?_,λ x c z e=>?_,I.ok.hd,I.ok.frames,.inl rfl,λ b hb=>⟨ZN (Nat.lt_succ_of_lt (lt b hb)),λ x c h=>?_⟩,
  I.bs,Nat.le_trans I.ok.bsz I.sz,λ b o e hb=>?_,λ b hb z=>?_,I.stack,I.stkFree⟩,rfl,I.bare,Un.laid k (x4 _) fr0,?_,λ x c h=>?_,?_,λ x c h=>?_,λ p hp=>absurd (show p∈([]:Pins)from hp) (by simp),I.hok.laid k (x4 _) ⟨Nat.zero_le _,[],0,.nil,hD⟩,?_⟩
 . rcases hcl.lk x c a with q | ⟨_,_,_,q⟩
   . rcases hcl.lk y c b with q' | ⟨_,_,_,q'⟩
     . exact I.ok.inj x y c q q'
     . exact q' x a
   . exact(q y b).symm
 . have hx':(relabel sc X.env).names.lookup x=some .cell∨(relabel sc X.env).names.lookup x=some .free:=hx
   have z:sc.names.lookup x=some .cell∨sc.names.lookup x=some .free:=by
    rcases hx' with q | q
    . obtain⟨k0,e,r⟩:=jU q
      rcases r with r | r
      . exact .inl (by rw[e,r])
      . exact .inr (by rw[e,r.1])
    . obtain⟨k0,e,r⟩:=jU q
      rcases r with r | r
      . exact .inr (by rw[e,r])
      . exact absurd r.2 (by decide)
   exact hcl.has x z
 . have z':sc.names.lookup x=some .cell:=ZI z
   have:=hcl.ow x c z' e
   show s.heap.objs.size≤c
   omega
 . rcases hcl.lk x c h with q | ⟨q,_⟩
   . exact(hfp b hb).2.2.2.2.1 x c q
   . exact λ e=>Nat.lt_irrefl _ (ZM (lt b hb) (by rw[←e,q];exact Nat.le_add_right _ _))
 . rcases(hfp b hb).2.2.2.1 with z | z
   . exact I.ok.noex b o e z
   . exact absurd (ZM (ZE e) (Nat.le_trans I.ok.bsz z)) (Nat.lt_irrefl _)
 . rcases ZJ.mp (I.stkSub b z)with q | q
   . exact(hfp b hb).2.1 q
   . exact(hfp b hb).2.2.1 q
 . obtain⟨m,hm⟩:=hC
   refine⟨m,hm,λ i x v e1 e2 e3=>?_⟩
   obtain⟨j,hj,hv⟩:=El e2
   obtain⟨y,a,b,c,d⟩:=qH hcap hj
   have e1':N'[i]? =some x:=e1
   rw[a]at e1'
   cases e1'
   obtain⟨m0,hn0,hl⟩:=I.loc
   have vis:Vis X.env.scope x:=by
    rcases c with c | c
    . exact .inr (.inl c)
    . exact .inr (.inr c)
   obtain⟨u,r,l⟩:=hl j x v b hv vis
   refine⟨u,r,?_⟩
   rcases l with⟨q,_⟩ | ⟨q,cc,hc,hcell'⟩
   . exfalso
     have q':X.env.scope.names.lookup x=some .local:=q
     rcases c with c | c<;>· rw[c]at q';cases q'
   . have h2:=hcl.cp x cc d hc
     obtain⟨o,ho,hd⟩:=hcell'
     refine .inr ⟨?_,cc,h2,⟨o,k _ _ ho,hd⟩⟩
     exact zr d
 . rcases hcl.lk x c h with q | ⟨_,_,q,_⟩
   . obtain⟨v,o,ho,hd⟩:=I.cell x c q
     exact⟨v,o,k _ _ ho,hd⟩
   . exact⟨_,q⟩
 . show upd H s.heap.objs.size (.lst []) (s.heap.objs.size+1)=none
   rw[au (Nat.succ_ne_self _)];exact fr1
 . rcases hcl.lk x c h with q | ⟨q,_⟩
   . rw[au (ZN (clt q))];exact I.freeC x c q
   . subst q
     rw[au (Nat.ne_of_gt (Nat.lt_add_of_pos_right (by decide)))];exact fr2
 . show(capt cap σ).length=N'.length
   rw[←n8 hcap]
   simp[capt]
theorem uO{α:Type}{t:Sem α}{Q:α->Shared->Prop}{M:Model}{A:Around}{E E':Value->Shared->Prop}(hx:E=λ _ _=>False)(h:wpAny M A t Q E s):wpAny M A t Q E' s:=wpAny_mono h (λ _ _ q=>q) λ _ _ z=>by rw[hx]at z;exact z.elim
noncomputable def TsA(X:Cx)(Γ:Gam)(S:Store):List Expr->(Bool->Store->Prop)->Prop
 | [],W=>W true S
 | [c],W=>Ts X Γ S c W
 | _,_=>False
theorem Ou{X:Cx}{Γ:Gam}{S:Store}{ifs:List Expr}{W:Bool->Store->Prop}(h:TsA X Γ S ifs W){pins:Pins}{s:Shared}{σ:St}{H:Hp}{O:Own}(I:Inv X pins σ H s)(env:EnvOk X.K O H σ Γ)(st:StOk X.K O H S):
 wpAny (model X.prog X.w) X.A (forIn ifs true λ c r=>if r=true then do let ok ←isTrue c X.env (eval c X.env);pure (ForInStep.yield ok)else pure (ForInStep.yield r)) (TP X pins σ (QT X.K O H W)) X.xe s:=by
 match ifs,h with
 | [],h=>exact wpAny_tests_nil ⟨H,I,O,S,h,Step.refl O H,st⟩
 | [c],h=>exact wpAny_tests_one (h pins s σ H O I env st)
 | _::_::_,h=>exact h.elim
noncomputable def tW(K:PySem.W.Frag)(J:It)(O:Own)(H:Hp)(C:Store->Prop)(ds:List D):Prop:=
 ∀(O':Own)(H':Hp)(S':Store),Conv O O' H H'->StOk K O' H' S'->C S'->∀i:Nat,(∀d,ds[i]? =some d->J.go i H'/\∀x H'',J.yld i H' x H''->dD H' H''/\Rep K O' H'' x d)/\(i=ds.length->J.stop i H')
noncomputable def QIc(K:PySem.W.Frag)(O:Own)(H:Hp)(W:List D->(Store->Prop)->Store->Prop):It->Hp->Prop:=λ J H'=>∃O' ds C S',W ds C S'/\Step O O' H H'/\StOk K O' H' S'/\tW K J O' H' C ds
noncomputable def ItC(X:Cx)(Γ:Gam)(S:Store)(tg iter:Expr)(W:List D->(Store->Prop)->Store->Prop):Prop:=
 ∀ (pins:Pins)(s:Shared)(σ:St)(H:Hp)(O:Own),Inv X pins σ H s->EnvOk X.K O H σ Γ->StOk X.K O H S->
   wpAny (model X.prog X.w) X.A (eval iter X.env) (λ v s1=>wpAny (model X.prog X.w) X.A (pyIter v) (PIE X pins σ tg (QIc X.K O H W)) X.xe s1) X.xe s
theorem qw{J:It}{ds:List D}(y:fV K J O H ds):tW K J O H (λ _=>True) ds:=λ O' H' S' st ok _ i=>y O' H' st (λ a ha=>ok.tracked ha) i
theorem ItW.toC{X:Cx}{Γ:Gam}{S:Store}{tg iter:Expr}{W:List D->(Store->Prop)->Store->Prop}(h:ItW X Γ S tg iter λ ds S1=>W ds (λ _=>True) S1):ItC X Γ S tg iter W:=λ pins s σ H O I env st=>
 thn (h pins s σ H O I env st) λ _ _ q=>thn q λ _ _ hq_=>by
  obtain⟨it,fp,tn,J,H',e1,e2,e3,e4,e5,O',ds,S',w,z1,z2,z3⟩:=hq_
  exact⟨it,fp,tn,J,H',e1,e2,e3,e4,e5,O',ds,_,S',w,z1,z2,qw z3⟩
noncomputable abbrev rC(X:Cx)(sc:Scope)(N':List Str)(cap:List (Option Nat))(Γ:Gam)(elt tg:Expr)(ifs:List Expr)(W:WD):List D->(Store->Prop)->Store->Prop:=λ ds C0 S1=>
 ds.length≤1000000/\∃Pv:Nat->List D->Store->Prop,Pv 0 [] S1/\(∀i acc S',Pv i acc S'->C0 S')/\
  (∀i d acc S',ds[i]? =some d->Pv i acc S'->∀(C:Addr)(s:Shared)(H:Hp)(ex:List Addr)(cl:List (Str×Addr)),BdW (fM X sc N' C s H ex cl) tg d (capt cap Γ) S' λ Γ2 S2=>Sub (capt cap Γ) Γ2/\
   TsA (fM X sc N' C s H ex cl) Γ2 S2 ifs λ ok S3=>(ok=true->Ev (fM X sc N' C s H ex cl) Γ2 S3 elt λ y S4=>Pv (i+1) (acc++[y]) S4)/\(ok=false->Pv (i+1) acc S3))/\
  ∀acc S',Pv ds.length acc S'->W (.lst acc) S'∨W (.loc S'.length) (S'++[acc])
theorem uW{Γ:Gam}{S:Store}{elt tg iter:Expr}{ifs:List Expr}{sc:Scope}{cpos:Pos}{N':List Str}{cap:List (Option Nat)}{W:WD}{E:Value->Shared->Prop}{pins:Pins}{σ:St}
 {RR:Value->Addr->Result->Shared->Prop}
 (hx:X.xe=λ _ _=>False)(hc:X.calm=true)(hkind:sc.kind=.function)(hcell:xW sc.names=true)(hfree:∀y∈sc.names,y.2=.free->X.env.kindOf y.1=some .cell∨X.env.kindOf y.1=some .free)
 (hcap:bj X.N X.env.scope.names N' sc.names cap N'=true)(h:ItC X Γ S tg iter (rC X sc N' cap Γ elt tg ifs W))(I:Inv X pins σ H s)(env:EnvOk X.K O H σ Γ)(st:StOk X.K O H S)
 (fin:∀(s':Shared)(Hc:Hp)(D0 C:Addr)(m:Str->Option Value),Inv X pins σ Hc s'->s'.heap.Ns C m->fC X pins Hc C->D0≠C->QG X.K O H W (.ref D0) Hc->RR (.ref D0) C (.ok .next) s'):
 wpAny (model X.prog X.w) X.A (eval iter X.env) (λ x s₁=>wpAny (model X.prog X.w) X.A (pyIter x) (λ it s₂=>wpAny (model X.prog X.w) X.A (newList []) (λ acc s₃=>
  wpAny (model X.prog X.w) X.A (newFunctionEnv sc X.env.globals (closes X.env sc.names []) [] X.env.qual none .none (some X.env)) (λ cenv s₄=>
   codeAny (model X.prog X.w) X.A (.compStart (.ListComp elt [⟨tg,iter,ifs,0⟩] sc cpos) 0 it acc {cenv with scope:=relabel sc X.env}) (RR acc cenv.locals) s₄) E s₃) E s₂) E s₁) E s:=by
 refine thn (uO hx (h pins s σ H O I env st)) λ xv s1 h1=>thn (uO hx h1) λ itv s2 h2=>?_
 obtain⟨it,fp,tn,J,H2,e,I2,T,st2,f2,O2,ds,C0,S2,⟨hz,Pv,p0,pC,pt,pe⟩,stp,ok2,yl⟩:=h2
 subst e
 refine wpAny_newObj_type (Oz ?_)
 dsimp only
 have hD0:H2 s2.heap.objs.size=none:=I2.hok.fresh (x4 _)
 have hsz:(s2.heap.push {cls:=.type "list",dict:=none,data:=.seq ([]:List Value).toArray}).objs.size=s2.heap.objs.size+1:=Heap.size_push ..
 rw[hsz]
 have ns0:=Heap.Ns.new (s2.heap.push {cls:=.type "list",dict:=none,data:=.seq ([]:List Value).toArray}) (.type "dict")
 rw[hsz]at ns0
 obtain⟨cl,hcleq⟩:∃cl,cellsFrom (s2.heap.objs.size+1+1) sc.names (closes X.env sc.names [])=cl:=⟨_,rfl⟩
 obtain⟨h₁,hh1⟩:∃h₁,pushCells ((s2.heap.push {cls:=.type "list",dict:=none,data:=.seq ([]:List Value).toArray}).push {cls:=.type "dict",data:=.dict #[]}) sc.names=h₁:=⟨_,rfl⟩
 have hns₁:h₁.Ns (s2.heap.objs.size+1) (λ _=>none):=by rw[←hh1];exact ns0.keeps (pushCells_keeps _ _)
 have kp0:∀b u,(s2.heap.push {cls:=.type "list",dict:=none,data:=.seq ([]:List Value).toArray}).get? b=some u->h₁.get? b=some u:=λ b u e=>by rw[←hh1];exact pushCells_keeps _ _ b u (ZC _ e)
 have kp:∀b u,s2.heap.get? b=some u->h₁.get? b=some u:=λ b u e=>kp0 b u (ZC _ e)
 have hD1:h₁.get? s2.heap.objs.size=some {cls:=.type "list",data:=.seq #[] 0}:=kp0 _ _ (ZD _ rfl)
 have hf:∀y∈sc.names,y.2=.free->∃c,X.env.cells.lookup y.1=some c:=λ y hy e=>I.ok.has y.1 (hfree y hy e)
 have hcl :CelsB X sc cl (s2.heap.objs.size+2) h₁:=by
  have look:∀{x c},(closes X.env sc.names []).lookup x=some c->X.env.cells.lookup x=some c:=λ{x c} h=>pN sc.names [] hf (λ c h=>by simp at h) h
  have cpy:∀x c,sc.names.lookup x=some .free->X.env.cells.lookup x=some c->(closes X.env sc.names []).lookup x=some c:=λ x c d hc=>by
   obtain⟨c2,h2⟩:=gw (env:=X.env) sc.names [] (.inr d)
   have e:=look h2
   rw[hc]at e
   cases e
   exact h2
  unfold xW at hcell
  split at hcell
  . rename_i hfl
    have e1:=(yN hfl (s2.heap.objs.size+1+1) (closes X.env sc.names []) s2.heap).1
    rw[hcleq]at e1
    have no:∀x,sc.names.lookup x≠some .cell:=λ x z=>by
     have:(x,NameKind.cell)∈sc.names.filter (λ y=>y.2==.cell):=List.mem_filter.mpr ⟨PySem.mem_of_lookup z,rfl⟩
     rw[hfl]at this
     cases this
    rw[e1]
    exact⟨λ x c h=>.inl (look h),λ x hx=>hx.elim (λ z=>absurd z (no x)) λ z=>gw sc.names [] (.inr z),cpy,λ x c z=>absurd z (no x)⟩
  . rename_i y hfl
    have hy:sc.names.lookup y.1=some .cell:=ZI hcell
    obtain⟨e1,_⟩:=uU hfl (s2.heap.objs.size+1+1) (closes X.env sc.names []) s2.heap
    rw[hcleq]at e1
    have e2:=(uU hfl 0 [] ((s2.heap.push {cls:=.type "list",dict:=none,data:=.seq ([]:List Value).toArray}).push {cls:=.type "dict",data:=.dict #[]})).2
    rw[hh1]at e2
    have e3:((s2.heap.push {cls:=.type "list",dict:=none,data:=.seq ([]:List Value).toArray}).push {cls:=.type "dict",data:=.dict #[]}).objs.size=s2.heap.objs.size+2:=by rw[Heap.size_push,hsz]
    have cel:h₁.IsCell (s2.heap.objs.size+2) none:=by
     rw[e2,←e3]
     exact⟨_,ZD _ rfl,rfl⟩
    have only:∀x,sc.names.lookup x=some .cell->x=y.1:=λ x z=>by
     have:(x,NameKind.cell)∈sc.names.filter (λ y=>y.2==.cell):=List.mem_filter.mpr ⟨PySem.mem_of_lookup z,rfl⟩
     rw[hfl]at this
     have:=ZL.mp this
     rw[←this]
    have lt0:∀{x c},(closes X.env sc.names []).lookup x=some c->c<s2.heap.objs.size:=λ{x c} h=>by
     obtain⟨v,q⟩:=I2.cell x c (look h)
     exact q.lt
    have lk2:∀x,cl.lookup x=if x=y.1 then some (s2.heap.objs.size+1+1)else(closes X.env sc.names []).lookup x:=λ x=>by
     rw[e1,List.lookup_cons]
     by_cases z:x=y.1
     . subst z;simp
     . rw[if_neg z,beq_eq_false_iff_ne.mpr z]
    refine⟨λ x c h=>?_,λ x hx=>?_,λ x c d hc=>?_,λ x c z h=>?_⟩
    . rw [lk2]at h
      by_cases z:x=y.1
      . rw[if_pos z]at h
        cases h
        refine .inr ⟨rfl,by rw[z];exact hy,cel,λ u hu=>?_⟩
        rw[lk2]at hu
        by_cases z2:u=y.1
        . rw[z2,z]
        . rw[if_neg z2]at hu
          exact(Nat.lt_irrefl _ (Nat.lt_of_le_of_lt (Nat.le_add_right _ 2) (lt0 hu))).elim
      . rw[if_neg z]at h
        exact .inl (look h)
    . rw[lk2]
      by_cases z:x=y.1
      . exact⟨_,if_pos z⟩
      . rw[if_neg z]
        exact hx.elim (λ q=>absurd (only x q) z) λ q=>gw sc.names [] (.inr q)
    . rw[lk2,if_neg (λ z=>by rw[z,hy]at d;cases d)]
      exact cpy x c d hc
    . rw[lk2,if_pos (only x z)]at h
      cases h
      exact x4 _
  . cases hcell
 rw[hcleq,hh1]
 have hob:∀b∈fp,∃o,s2.heap.get? b=some o:=λ b hb=>let ⟨o,e,_⟩:=T.obj _ _ st2 b hb;⟨o,e⟩
 have I4:=Qi (t:=s2.toks) (h1:=h₁) I2 f2 hob hkind hcl hfree hcap kp hD1 ⟨_,hns₁⟩
 generalize hX':fM X sc N' (s2.heap.objs.size+1) s2 H2 fp cl=X' at I4
 have pt':=λ i d acc S' a b=>pt i d acc S' a b (s2.heap.objs.size+1) s2 H2 fp cl
 rw[hX']at pt'
 have eP:X'.prog=X.prog:=by rw[←hX'];rfl
 have ew:X'.w=X.w:=by rw[←hX'];rfl
 have eK:X'.K=X.K:=by rw[←hX'];rfl
 have eA:X'.A=X.A:=by rw[←hX'];rfl
 have ec:X'.calm=true:=by rw[←hX'];exact hc
 have ex':X'.xe=λ _ _=>False:=by rw[←hX'];exact hx
 have eenv:X'.env=compEnvC sc cl (s2.heap.objs.size+1) X.env:=by rw[←hX'];rfl
 have eex:X'.ex=fp:=by rw[←hX'];rfl
 have eout:X'.outer=X.stack:=by rw[←hX'];rfl
 have es0:X'.s₀=s2:=by rw[←hX'];rfl
 have eH0:X'.H₀=H2:=by rw[←hX'];rfl
 have epn:X'.pn=[]:=by rw[←hX'];rfl
 have stat:∀{H':Hp},(∀b∈fp,H' b=none)->∀b∈fp,fC X' [] H' b:=λ hn b hb=>by
  refine⟨hn b hb,(I4.ok.exf b (by rw[eex];exact hb)).1,I4.ok.exfs b (by rw[eex];exact hb),.inl (by rw[eex];exact hb),(I4.ok.exf b (by rw[eex];exact hb)).2,λ p hp=>?_⟩
  rw[epn]at hp
  exact absurd hp (by simp)
 have loop:∀s₃:Shared,s₃={s2 with heap:=h₁}->
  codeAny (model X.prog X.w) X.A (.compLoop (.ListComp elt [⟨tg,iter,ifs,0⟩] sc cpos) 0 (.ref it) (.ref s2.heap.objs.size) (compEnvC sc cl (s2.heap.objs.size+1) X.env))
   (RR (.ref s2.heap.objs.size) (s2.heap.objs.size+1)) s₃:=by
  intro s₃ es
  rw[←eenv]
  refine codeAny_loop rfl (λ n s'=>∃i acc xs Hc Ac Sc σc,n=ds.length-i/\i≤ds.length/\Inv X' [] σc Hc s'/\tn i s'.heap/\(∀b∈fp,Hc b=none)/\Pv i acc Sc/\Hc s2.heap.objs.size=some (.lst xs)/\xs.length≤i/\
   Reps X.K ⟨Ac,s2.heap.objs.size::O2.B⟩ Hc xs acc/\Step O2 ⟨Ac,O2.B⟩ H2 Hc/\StOk X.K ⟨Ac,s2.heap.objs.size::O2.B⟩ Hc Sc/\EnvOk X.K ⟨Ac,s2.heap.objs.size::O2.B⟩ Hc σc (capt cap Γ)) ?_ ds.length ?_
  . rintro n s' ⟨i,acc,xs,Hc,Ac,Sc,σc,rfl,hi,Ic,stc,frc,pc,hxs,hxl,rc,sc',okc,envc⟩
    show wpAny _ _ ((compTurn (.ListComp elt [⟨tg,iter,ifs,0⟩] sc cpos) 0 (.ref it) (.ref s2.heap.objs.size) X'.env).onRaise (λ x=>do noteFrame x X'.env;theTreesLotGoes x)) _ _ s'
    refine wpAny_noted ?_
    rw[compTurn_list]
    refine ZA (wpAny_standAt (ZA ?_))
    have cv:Conv O2 ⟨Ac,s2.heap.objs.size::O2.B⟩ H2 Hc:=by
     refine⟨λ a u n t=>?_,sc'.conv.lc⟩
     obtain⟨x1,x2⟩:=sc'.conv.tr a u n t
     refine⟨λ z=>?_,x2⟩
     rcases z with z | z
     . exact x1 (.inl z)
     . rcases ZJ.mp z with z | z
       . subst z;rw[hD0]at t;cases t
       . exact x1 (.inr z)
    obtain⟨y1,y2⟩:=yl _ _ _ cv okc (pC _ _ _ pc) i
    by_cases hlt:i<ds.length
    . obtain⟨go,yy⟩:=y1 ds[i] (y4 hlt)
      have it1:=T.item X' eP ew eK ec i [] s' σc Hc (λ _ _=>False) Ic (stat frc) stc go
      rw[eA]at it1
      refine wpAny_mono it1 (λ r s3 hq_=>?_) λ _ _ z=>z.elim
      obtain⟨u,hr,h3⟩:=hq_
      subst hr
      refine ZA (wpAny_mono h3 (λ _ s5 hq_=>?_) λ _ _ z=>z.elim)
      obtain⟨x,H5,I5,r5,y5,st5,fr5⟩:=hq_
      obtain⟨sm,rx⟩:=yy x H5 y5
      have I5':=I5.pinned (stat fr5) (T.obj _ _ st5)
      have st35:=Step.same (O:=⟨Ac,s2.heap.objs.size::O2.B⟩) sm
      have bd:=pt' i ds[i] acc Sc (y4 hlt) pc _ s5 σc H5 ⟨Ac,s2.heap.objs.size::O2.B⟩ x u I5' (by rw[eK];exact envc.mono st35) (by rw[eK];exact okc.same sm) (by rw[eK];exact rx) r5
      rw[eP,ew,eA]at bd
      refine ZA (wpAny_mono (uO (E':=λ _ _=>False) ex' bd) (λ _ s6 hq_=>?_) λ _ _ z=>z.elim)
      obtain⟨σ6,H6,I6,O6,Γ6,S6,⟨sub6,w6⟩,st6,ok6,env6⟩:=hq_
      have tst:=Ou w6 I6 env6 ok6
      rw[eP,ew,eA]at tst
      refine ZA (wpAny_mono (uO (E':=λ _ _=>False) ex' tst) (λ ok s7 hq_=>?_) λ _ _ z=>z.elim)
      obtain⟨H7,I7,O7,S7,w7,st7,ok7⟩:=hq_
      have st57:Step ⟨Ac,s2.heap.objs.size::O2.B⟩ O7 Hc H7:=st35.trans (st6.trans st7)
      have eB7:O7.B=s2.heap.objs.size::O2.B:=st57.hid
      have next:∀(s9:Shared)(H8:Hp)(O8:Own)(S8:Store)(ys:List V)(acc':List D),Step ⟨Ac,s2.heap.objs.size::O2.B⟩ O8 Hc H8->
       StOk X.K O8 H8 S8->EnvOk X.K O8 H8 σ6 (capt cap Γ)->Pv (i+1) acc' S8->Inv X' ([]++mU fp s5.heap) σ6 (upd H8 s2.heap.objs.size (.lst ys)) s9->Reps X.K O8 H8 ys acc'->ys.length≤i+1->
       ∃ m,m<ds.length-i/\∃i acc xs Hc Ac Sc σc,m=ds.length-i/\i≤ds.length/\Inv X' [] σc Hc s9/\tn i s9.heap/\(∀b∈fp,Hc b=none)/\Pv i acc Sc/\Hc s2.heap.objs.size=some (.lst xs)/\xs.length≤i/\
         Reps X.K ⟨Ac,s2.heap.objs.size::O2.B⟩ Hc xs acc/\Step O2 ⟨Ac,O2.B⟩ H2 Hc/\StOk X.K ⟨Ac,s2.heap.objs.size::O2.B⟩ Hc Sc/\EnvOk X.K ⟨Ac,s2.heap.objs.size::O2.B⟩ Hc σc (capt cap Γ):=by
       intro s9 H8 O8 S8 ys acc' st8 ok8 env8 p8 I8 r8 hl8
       have eB:O8.B=s2.heap.objs.size::O2.B:=st8.hid
       obtain⟨A8,B8⟩:=O8
       have eB':B8=s2.heap.objs.size::O2.B:=eB
       subst eB'
       have mem:s2.heap.objs.size∈(⟨A8,s2.heap.objs.size::O2.B⟩:Own).B:=x8
       refine⟨ds.length-(i+1),by omega,i+1,acc',ys,_,A8,S8,σ6,rfl,hlt,I8.unpinned,T.keep _ _ _ st5 λ b hb o e=>(I8.pin (b,o) (List.mem_append_right _ (List.mem_append_right _ (gq hb e)))).1,λ b hb=>?_,p8,aU,hl8,
        r8.conv (Conv.updHid mem _),sc'.inner st8 hD0 _,ok8.updHid mem _,env8.conv (Conv.updHid mem _)⟩
       obtain⟨o,e,d⟩:=T.obj _ _ st5 b hb
       exact(I8.pin (b,o) (List.mem_append_right _ (List.mem_append_right _ (gq hb e)))).2.1
      rw[eK]at ok7 env6 ok6
      have hid:∀{O':Own}{H':Hp}{S':Store},Step ⟨Ac,s2.heap.objs.size::O2.B⟩ O' Hc H'->H' s2.heap.objs.size=some (.lst xs):=λ st'=>
       st'.kept _ _ (λ z=>okc.apart _ z x8) hxs
      cases ok with
      | false=>
        refine ZB ⟨rfl,?_⟩
        have hx7:=hid (S':=S7) st57
        have eq7:upd H7 s2.heap.objs.size (.lst xs)=H7:=by
         funext b
         by_cases hb:b=s2.heap.objs.size
         . subst hb;rw[aU];exact hx7.symm
         . exact au hb
        exact next s7 H7 O7 S7 xs acc st57 ok7 ((env6.mono st7).sub sub6) (w7.2 rfl) (by rw[eq7];exact I7) (rc.mono st57) (Nat.le_succ_of_le hxl)
      | true=>
        have el:=w7.1 rfl _ s7 σ6 H7 O7 I7 (by rw[eK];exact env6.mono st7) (by rw[eK];exact ok7)
        rw[eP,ew,eA]at el
        refine ZA (ZA (wpAny_mono (uO (E':=λ _ _=>False) ex' el) (λ xe s8 hq_=>?_) λ _ _ z=>z.elim))
        obtain⟨v8,H8,I8,r8,O8,y,S8,w8,st8,ok8,rep8⟩:=hq_
        rw[eK]at ok8 rep8
        have st58:=st57.trans st8
        have hx8:=hid (S':=S8) st58
        have ap:=uZ (X:=X') _ s8 σ6 H8 (.ref s2.heap.objs.size) [v8] (.ref s2.heap.objs.size) [xe] (λ v H'=>H'=upd H8 s2.heap.objs.size (.lst (xs++[v8]))) I8 rfl (.cons r8 .nil)
         ⟨s2.heap.objs.size,xs,v8,rfl,rfl,hx8,Nat.lt_of_le_of_lt (Nat.le_trans hxl (Nat.le_trans hi hz)) (by decide),rfl⟩
        rw[eP,ew,eA]at ap
        refine ZA (wpAny_mono (uO (E':=λ _ _=>False) ex' ap) (λ _ s9 hq_=>ZB (ZB ⟨rfl,?_⟩)) λ _ _ z=>z.elim)
        obtain⟨_,H9,I9,_,e9⟩:=hq_
        subst e9
        exact next s9 H8 O8 S8 (xs++[v8]) (acc++[y]) st58 ok8 (((env6.mono st7).mono st8).sub sub6) w8 I9 ((rc.mono st58).append (.cons rep8 .nil)) (by rw[x9,List.length_singleton];omega)
    . have e:i=ds.length:=by omega
      subst e
      have dn:=T.done X' eP ew eK ec ds.length [] s' σc Hc (λ _ _=>False) Ic (stat frc) stc (y2 rfl)
      rw[eA]at dn
      refine wpAny_mono dn (λ r s3 hq_=>?_) λ _ _ z=>z.elim
      obtain⟨hr,I3⟩:=hq_
      subst hr
      refine ZB ?_
      obtain⟨m,hm,_⟩:=I3.loc
      have un:Un (frs X.stack) fp H2 Hc s2.heap s3.heap:=by
       have:=I3.base
       rw[eex,eH0,es0]at this
       show Un (frs X.stack) fp H2 Hc s2.heap s3.heap
       rw[←eout]
       exact this
      have os:s3.os=s2.os:=by
       have:=I3.os
       rw[es0]at this
       exact this
      have hok3:HOk X.prog X.w Hc s3.heap:=by
       have:=I3.hok
       rw[eP,ew]at this
       exact this
      have IX:Inv X pins σ Hc s3:=I2.call' os un hok3 I3.bare (λ b hb=>⟨(f2 b hb).2.2.2.1,(f2 b hb).2.1,(f2 b hb).2.2.2.2.1,(f2 b hb).2.2.2.2.2⟩)
      have hCn:Hc (s2.heap.objs.size+1)=none:=by
       have:=I3.free
       rw[eenv]at this
       exact this
      refine fin s3 Hc _ _ m IX (by rw[eenv]at hm;exact hm) (I2.fpOk (Nat.le_succ _) hCn) (ZN (Nat.lt_succ_self _)) ?_
      rcases pe acc Sc pc with w | w
      . refine⟨⟨Ac,O2.B⟩,.lst acc,Sc,w,stp.trans sc',okc.unhide,.lst (.inl ⟨λ z=>?_,.inl hxs⟩) (rc.conv Conv.unhide)⟩
        rcases z with z | z
        . exact okc.apart _ z x8
        . exact ok2.hidden _ z hD0
      . refine⟨⟨Ac++[(s2.heap.objs.size,false)],O2.B⟩,.loc Sc.length,Sc++[acc],w,stp.trans (sc'.adopt hD0),okc.adopt (λ z=>ok2.hidden _ z hD0) hxs rc,.loc ?_⟩
        have el:Ac.length=Sc.length:=okc.len
        show(Ac++[(s2.heap.objs.size,false)])[Sc.length]? =some _
        rw[←el];simp
  . refine⟨0,[],[],upd H2 s2.heap.objs.size (.lst []),O2.A,S2,capt cap σ,rfl,Nat.zero_le _,by rw[es];exact I4,by rw[es];exact T.keep 0 s2.heap h₁ st2 λ b hb o e=>kp b o e,λ b hb=>?_,p0,aU,x4 0,.nil,Step.fresh hD0 _,ok2.hide hD0 _,((env.mono stp).capt cap).conv (Conv.hide hD0 _)⟩
    obtain⟨o,e⟩:=hob b hb
    rw[au (ZN (ZE e))]
    exact(f2 b hb).1
 exact codeAny_compStart_list (loop _ rfl) (T.self _ 0 _ _ _ (T.keep 0 s2.heap h₁ st2 λ b hb o e=>kp b o e) (loop _ rfl))
variable {Γ : Gam} {S : Store} {elt tg iter : Expr} {ifs : List Expr} {sc : Scope} {pos : Pos} {N' : List Str} {cap : List (Option Nat)}
theorem Dy(N':List Str)(cap:List (Option Nat)){W:WD}(h:ItC X Γ S tg iter (rC X sc N' cap Γ elt tg ifs W))(hx:X.xe=λ _ _=>False:=by rfl)(hc:X.calm=true:=by rfl)(hkind:sc.kind=.function:=by rfl)
 (hcell:xW sc.names=true:=by rfl)(hfr:freeOk X.env.scope.names sc.names=true:=by rfl)
 (hnames:∀y∈sc.names,y.2=.local->sc.names.lookup y.1=some .local:=by decide+kernel)(hcap:bj X.N X.env.scope.names N' sc.names cap N'=true:=by rfl)(hs:∀x,foldedSetIterable iter X.env x=pure x:=by intro _;rfl):
 Ev X Γ S (.ListComp elt [⟨tg,iter,ifs,0⟩] sc pos) W:=by
 intro pins s σ H O I env st
 have hfree:∀y∈sc.names,y.2=.free->X.env.kindOf y.1=some .cell∨X.env.kindOf y.1=some .free:=nQ hfr
 have hf:∀y∈sc.names,y.2=.free->∃c,X.env.cells.lookup y.1=some c:=λ y hy e=>I.ok.has y.1 (hfree y hy e)
 rw[eval_ListComp]
 refine wpAny_comprehension_free (use:=none) (g:=⟨tg,iter,ifs,0⟩) (gs:=[]) rfl hs (lL hf) hkind hnames ?_
 refine uW (RR:=λ acc C=>compPost (model X.prog X.w) X.A X.xe none (EP X pins σ (QG X.K O H W)) acc C) hx hc hkind hcell hfree hcap h I env st ?_
 intro s' Hc D0 C m I' hm fp ne q
 refine⟨m,hm,λ h' sb=>⟨.ref D0,Hc,?_,rfl,q⟩⟩
 obtain⟨f0,f1,f2,f3,f4,f5⟩:=fp
 exact I'.turned (t':=s'.toks) (λ b o hb e=>(sb.2 b hb).trans e) f0 f1 f3 f4 f5
theorem Ih(i:Nat){x:Str}{pos' spos:Pos}{W:Fin}(N':List Str)(cap:List (Option Nat))(h:ItC X Γ S tg iter (rC X sc N' cap Γ elt tg ifs λ d S1=>W.nx (Γ.set i (some d)) S1))(hN:X.N.Nodup)(hi:X.N[i]? =some x:=by rfl)
 (hl:Loc X.env.scope x:=by first | exact Or.inl rfl | exact Or.inr rfl)(hsw:swapsWith (.ListComp elt [⟨tg,iter,ifs,0⟩] sc pos) (some (.Name x pos')) spos.line X.env=pure true:=by rfl)
 (hfn:X.fn x=true∨X.env.scope.names.lookup x=some .local:=by first | exact .inl rfl | exact .inr rfl)(hx:X.xe=λ _ _=>False:=by rfl)(hc:X.calm=true:=by rfl)(hkind:sc.kind=.function:=by rfl)
 (hcell:xW sc.names=true:=by rfl)(hfr:freeOk X.env.scope.names sc.names=true:=by rfl)
 (hnames:∀y∈sc.names,y.2=.local->sc.names.lookup y.1=some .local:=by decide+kernel)(hcap:bj X.N X.env.scope.names N' sc.names cap N'=true:=by rfl)(hs:∀x,foldedSetIterable iter X.env x=pure x:=by intro _;rfl):
 Rn X Γ S (.Assign [.Name x pos'] (.ListComp elt [⟨tg,iter,ifs,0⟩] sc pos) spos) W:=by
 intro pins s σ H O I env st
 have hfree:∀y∈sc.names,y.2=.free->X.env.kindOf y.1=some .cell∨X.env.kindOf y.1=some .free:=nQ hfr
 have hf:∀y∈sc.names,y.2=.free->∃c,X.env.cells.lookup y.1=some c:=λ y hy e=>I.ok.has y.1 (hfree y hy e)
 rw[exec_Assign_Name_used _ _ _ _ hsw]
 refine ZA (wpAny_standAt (ZA ?_))
 show wpAny _ X.A (do let _ ←comprehension (.ListComp elt [⟨tg,iter,ifs,0⟩] sc pos) sc X.env _ (newList []) false (eval iter X.env) (some (assign (.Name x pos') X.env))) _ _ s
 refine ZA (wpAny_mono (wpAny_comprehension_free (use:=some (assign (.Name x pos') X.env)) (g:=⟨tg,iter,ifs,0⟩) (gs:=[]) (Q:=λ _ s'=>SP X pins (ends X.K O H W) .next s') rfl hs (lL hf) hkind hnames ?_) (λ _ s' hq=>ZB (ZB hq)) λ _ _ e=>e)
 refine uW (RR:=λ acc C=>compPost (model X.prog X.w) X.A X.xe (some (assign (.Name x pos') X.env)) (λ _ s'=>SP X pins (ends X.K O H W) .next s') acc C) hx hc hkind hcell hfree hcap h I env st ?_
 intro s' Hc D0 C m I' hm fp ne q
 show wpAny _ X.A (assign (.Name x pos') X.env (.ref D0)) _ _ _
 refine wpAny_assign_Name (vf I' hN hi hl (show RelV (.ref D0) (.ref D0)from rfl) (λ s2 I2 hq_=>?_) hfn)
 obtain⟨a,sa,ha⟩:=hq_
 obtain⟨f0,f1,f2,f3,f4,f5⟩:=fp
 have neC:C≠a:=by
  rcases ha with z | z
  . rw[z];exact f1
  . exact(f4 x a z).symm
 refine⟨m,hm.sameBut sa neC,λ h' sb=>?_⟩
 obtain⟨O',d,S',w,stp,okp,rep⟩:=q
 exact⟨_,Hc,I2.turned (t':=s2.toks) (λ b o hb e=>(sb.2 b hb).trans e) f0 f1 f3 f4 f5,O',_,S',w,stp,okp,(env.mono stp).set rep i⟩
end
end DL
namespace DL
open PySem PySem.Spec L2
open PyProof.Rows
noncomputable def tyD:D->String
 | .non=>"NoneType" | .bl _=>"bool" | .int _=>"int" | .str _=>"str" | .tup _=>"tuple" | .lst _=>"list" | .loc _=>"list" | .dic=>"dict" | .dlo _=>"dict"
noncomputable def isi(t c:String):Bool:=t==c||(t=="bool"&&c=="int")
noncomputable def isT(c:String):Bool:=c=="int"||c=="bool"||c=="tuple"||c=="list"
theorem kit_at(K:PySem.W.Frag)(d:D){c:String}(hc:isT c=true):PySem.W.kitOne K (.type (tyD d)) (.type c)=some (isi (tyD d) c):=by
 have h:c="int"∨c="bool"∨c="tuple"∨c="list":=by
  simp only[isT,Bool.or_eq_true,beq_iff_eq]at hc
  rcases hc with((h | h) | h) | h
  . exact .inl h
  . exact .inr (.inl h)
  . exact .inr (.inr (.inl h))
  . exact .inr (.inr (.inr h))
 rcases h with h | h | h | h<;>subst h<;>cases d<;>kernel_rfl
section
variable {X : Cx} {Γ : Gam} {S : Store} {W : WD} {a b e : Expr} {es : List Expr} {pos : Pos}
theorem Ol{pins:Pins}{s:Shared}{σ:St}{H:Hp}{O:Own}{v:V}{u c:Value}{d:D}{A:Around}{E:Value->Shared->Prop}{Q:Value->Shared->Prop}(I:Inv X pins σ H s)(st:StOk X.K O H S)(r:Rep X.K O H v d)(ru:RelV v u)
 (go:∀{x t:Value}{Hh:Heap->Prop},PySem.W.KitX X.K x t Hh->t=.type (tyD d)->Hh s.heap->x≠.builtin "__main__.__loader__#opaque"->wpAny (model X.prog X.w) A (call (.builtin "isinstance") [x,c]) Q E s):
 wpAny (model X.prog X.w) A (call (.builtin "isinstance") [u,c]) Q E s:=by
 cases r with
 | non=>cases ru;exact go PySem.W.kitx_none rfl True.intro (λ z=>nomatch z)
 | bl y=>cases ru;exact go PySem.W.kitx_bool rfl True.intro (λ z=>nomatch z)
 | int y=>obtain⟨t,rfl⟩:=ru;exact go PySem.W.kitx_int rfl True.intro (λ z=>nomatch z)
 | str y=>obtain⟨t,rfl⟩:=ru;exact go PySem.W.kitx_str rfl True.intro (λ z=>nomatch z)
 | tup h1 q1=>
   cases ru
   obtain⟨its,_,⟨o,h2,h3,_⟩,_⟩:=I.tuple h1.sq
   exact go PySem.W.kitx_tuple rfl ⟨o,h2,h3⟩ (λ z=>nomatch z)
 | lst h1 q1=>
   cases ru
   obtain⟨its,_,pl,_⟩:=I.list h1.sq
   obtain⟨o,h2,h3,_⟩:=pl.isList
   exact go PySem.W.kitx_list rfl ⟨o,h2,h3⟩ (λ z=>nomatch z)
 | @loc p k hk=>
   cases ru
   have hl:k<S.length:=by rw[←st.len];exact(y3.mp hk).1
   obtain⟨xs,hx,_⟩:=st.obj k p S[k] hk (y4 hl)
   obtain⟨its,_,pl,_⟩:=I.list (SqL.of hx)
   obtain⟨o,h2,h3,_⟩:=pl.isList
   exact go PySem.W.kitx_list rfl ⟨o,h2,h3⟩ (λ z=>nomatch z)
 | @dic p h1 h2=>
   cases ru
   obtain⟨_,_,vs,_,o,es,ep,h3,h4,_⟩:=(show bh X.prog X.w H s.heap p (.dK [])from I.hok p _ h2)
   exact go PySem.W.kitx_dict rfl ⟨o,h3,h4.1⟩ (λ z=>nomatch z)
 | @dlo p k hk=>
   cases ru
   have hl:k<S.length:=by rw[←st.len];exact(y3.mp hk).1
   cases st.dob k p S[k] hk (y4 hl)with
   | t kvs hx _=>
     obtain⟨_,_,xs,_,o,es,ep,h3,h4,_⟩:=(show bh X.prog X.w H s.heap p (.dT kvs)from I.hok p _ hx)
     exact go PySem.W.kitx_dict rfl ⟨o,h3,h4.1⟩ (λ z=>nomatch z)
   | c ys _ hx _=>
     obtain⟨⟨_,_,_,o,es,ep,h3,h4,_⟩,_,_⟩:=(show bh X.prog X.w H s.heap p (.ext (RX p ys))from I.hok p _ hx)
     exact go PySem.W.kitx_dict rfl ⟨o,h3,h4.1⟩ (λ z=>nomatch z)
   | o ys _ hx _=>
     obtain⟨⟨_,_,_,o,es,ep,h3,h4,_⟩,_,_⟩:=(show bh X.prog X.w H s.heap p (.ext (kO p ys))from I.hok p _ hx)
     exact go PySem.W.kitx_dict rfl ⟨o,h3,h4.1⟩ (λ z=>nomatch z)
theorem RB{T:Str}{Tn:String}{p q:Pos}(h:Ev X Γ S a λ x S1=>W (.bl (isi (tyD x) Tn)) S1)(hT:isT Tn=true)(hb:bootBuiltins T=some (.type Tn))(hm1:X.mg "isinstance"=none)(hm:X.mg T=none)(hg1:Gl X "isinstance":=by rfl)(hg:Gl X T:=by rfl)
 (hn:T≠"__name__":=by decide)(hdb:(T==("__debug__":Str))=false:=by decide)(hs1:starEach [a,.Name T q] X.env=(false,eval a X.env)::starEach [.Name T q] X.env:=by rfl)(hs2:starEach [.Name T q] X.env=[(false,eval (.Name T q) X.env)]:=by rfl):
 Ev X Γ S (.Call (.Name "isinstance" p) [a,.Name T q] [] pos) W:=by
 intro pins s σ H O I env st
 have hc:gj X (.builtin "isinstance") (λ xs H' Q=>∃v,xs=[v,.ty Tn]/\∃O' d S',StOk X.K O' H' S'/\Rep X.K O' H' v d/\Q (.bl (isi (tyD d) Tn)) H'):=by
  intro pins s σ H xs us Q I r h
  obtain⟨v,rfl,O',d,S',st',rep,q⟩:=h
  obtain⟨u,u2,rfl,r1,r2⟩:=vals2 r
  cases r2
  refine Ol I st' rep r1 λ Z e p ne=>?_
  subst e
  exact PySem.W.kia_one Z I.kIn p (kit_at X.K d hT) ne λ tk=>⟨.bl _,H,I.tok tk,rfl,q⟩
 refine MP hc hg1 hm1 PyProof.Rows.boot_isinstance (oY h.pe (oY (QL hg hm hb (v:=.ty Tn) rfl hn hdb) zL hs2) hs1) (by decide) (by decide) hs1 (by rw[hs2];rfl) pins s σ H _ I ⟨O,env,st,λ v H' q=>?_⟩
 obtain⟨O',d,S',w,st1,ok1,rep⟩:=q
 exact⟨v,rfl,O',d,S',ok1,rep,O',_,S',w,st1,ok1,.bl _⟩
theorem range_all{α:Type}(f:α->Bool)(d:α):∀(bs:List α)(k:Nat),((List.range' k bs.length).all λ i=>f ((List.replicate k d++bs).getD i d))=bs.all f
 | [],_=>by simp
 | b ::bs,k=>by
   have ih:=range_all f d bs (k+1)
   rw[List.length_cons,List.range'_succ,List.all_cons,List.all_cons]
   congr 1
   . simp[List.getD]
   . rw[←ih]
     have e:List.replicate k d++b::bs=(List.replicate k d++[b])++bs:=by simp
     rw[List.all_eq,List.all_eq]
     congr 1
     apply propext
     constructor
     . intro h i hi
       have:=h i hi
       rw[List.mem_range']at hi
       obtain⟨j,hj,rfl⟩:=hi
       simp only[List.getD,List.getElem?_append,List.length_replicate]at this ⊢
       have g1:¬(k+1+1*j<k):=by omega
       have g2:¬(k+1+1*j<k+1):=by omega
       rw[if_neg g1]at this
       rw[if_neg g2]
       have e1:k+1+1*j-k=(k+1+1*j-(k+1))+1:=by omega
       rw[e1,List.getElem?_cons_succ]at this
       exact this
     . intro h i hi
       have:=h i hi
       rw[List.mem_range']at hi
       obtain⟨j,hj,rfl⟩:=hi
       simp only[List.getD,List.getElem?_append,List.length_replicate]at this ⊢
       have g1:¬(k+1+1*j<k):=by omega
       have g2:¬(k+1+1*j<k+1):=by omega
       rw[if_neg g2]at this
       rw[if_neg g1]
       have e1:k+1+1*j-k=(k+1+1*j-(k+1))+1:=by omega
       rw[e1,List.getElem?_cons_succ]
       exact this
theorem Hf(bs:List Bool):((List.range bs.length).all λ i=>bs.getD i false)=bs.all id:=by
 have:=range_all id false bs 0
 simpa[List.range_eq_range']using this
theorem k_all{bs:List Bool}(w:W (.bl (bs.all id)) S)(hc:X.calm=true:=by rfl):cG X (.builtin "all") [.lst (bs.map .bl)] S W:=by
 intro pins s σ H O vs us I st r ru
 obtain⟨v,rfl,r'⟩:=b8 r
 obtain⟨u,rfl,ru'⟩:=vals1 ru
 cases r' with
 | @lst a xs _ h1 q1=>
   cases ru'
   obtain⟨its,rv,pl,hz⟩:=I.list h1.sq
   have ex:=q1.bools
   subst ex
   have hlen:its.length=bs.length:=by rw[←rv.length];simp
   refine call_all_walk (wpAny_pyIter_list pl.isList ?_)
   have ne:a≠s.heap.objs.size:=by
    obtain⟨o,e,_⟩:=pl.isList
    exact ZN (ZE e)
   refine⟨_,_,_,_,_,_,λ i=>bs.getD i false,rfl,Walks.list (A:=X.A.in1) (I.ok.hd hc) _ a ne its.toArray,⟨⟨_,ZD _ rfl,rfl,rfl⟩,pl.isList.push _⟩,λ i v s' Q' E' hv hq=>?_,λ h' tk hk=>?_⟩
   . have hv:its[i]? =some v:=by simpa using hv
     have hi:i<bs.length:=by rw[←hlen];exact(y3.mp hv).1
     obtain⟨z,hz',rz⟩:=rv.get (i:=i) (x:=V.bl bs[i]) (by rw[y9,y4 hi];rfl)
     rw[hv]at hz'
     cases hz'
     cases rz
     have e:bs.getD i false=bs[i]:=by simp[List.getD,hi]
     have hq':Q' (bs.getD i false) s':=hq
     rw[e]at hq'
     exact wpAny_truthy_bool hq'
   . have e:(List.range its.toArray.size).all (λ i=>bs.getD i false)=bs.all id:=by rw[x6,hlen];exact Hf bs
     rw[e]
     refine⟨.bl _,H,I.kept (λ b o q=>hk b o (λ z=>?_) (ZC _ q)),rfl,QG.here w st (.bl _)⟩
     have z':b=s.heap.objs.size:=by simpa using z
     exact absurd (ZE q) (by rw[z'];exact Nat.lt_irrefl _)
theorem Uq{ns:List Int}(w:W (.int ns.sum) S)(hc:X.calm=true:=by rfl):cG X (.builtin "sum") [.lst (ns.map .int)] S W:=by
 intro pins s σ H O vs us I st r ru
 obtain⟨v,rfl,r'⟩:=b8 r
 obtain⟨u,rfl,ru'⟩:=vals1 ru
 cases r' with
 | @lst a xs _ h1 q1=>
   cases ru'
   obtain⟨its,rv,pl,hz⟩:=I.list h1.sq
   have ex:=q1.ints
   subst ex
   have hi:IntsAre its ns:=intsAre_of rv
   obtain⟨zs,ez⟩:=hi.allInts.items
   have hL:=pl.isList
   rw[ez]at hL
   refine sum_intListG (I.ok.hd hc) hL λ h' tk t' hk=>?_
   have e:preSum (numAt zs) zs.size=ns.sum:=by
    rw[preSum_eq,List.take_of_length_le (by simp),←nums_intItems,←ez]
    exact congrArg List.sum hi.numsOf
   rw[e]
   exact⟨.int _,H,I.kept hk,⟨_,rfl⟩,QG.here w st (.int _)⟩
mutual
noncomputable def deep:D->Nat
 | .tup ds=>aY ds+1
 | .lst ds=>aY ds+1
 | .dic=>1
 | _=>0
noncomputable def aY:List D->Nat
 | []=>0
 | d::ds=>max (deep d) (aY ds)
end
mutual
noncomputable def aq:D->Bool
 | .tup ds=>ak ds
 | .lst ds=>ak ds
 | .loc _=>false
 | .dlo _=>false
 | _=>true
noncomputable def ak:List D->Bool
 | []=>true
 | d::ds=>aq d&&ak ds
end
theorem dW{d:D}:∀{ds:List D}{i:Nat},ds[i]? =some d->deep d≤aY ds
 | [],_,h=>by simp at h
 | c::ds,0,h=>by simp at h;subst h;simp[aY];omega
 | c::ds,i+1,h=>by
   have:=dW (ds:=ds) (i:=i) (by simpa using h)
   simp[aY];omega
theorem fP{d:D}:∀{ds:List D}{i:Nat},ak ds=true->ds[i]? =some d->aq d=true
 | [],_,_,h=>by simp at h
 | c::ds,0,n,h=>by simp at h;subst h;simp[ak]at n;exact n.1
 | c::ds,i+1,n,h=>by
   simp[ak]at n
   exact fP (ds:=ds) (i:=i) n.2 (by simpa using h)
theorem lB{pins:Pins}{s:Shared}{σ:St}{H:Hp}{a:Addr}(I:Inv X pins σ H s)(h:H a=some (.dK [])):(a==sysModules)=false/\s.heap.DictOf (dZ X.prog X.w) a []:=by
 obtain⟨_,h2,vs,h3,h4⟩:=(show bh X.prog X.w H s.heap a (.dK [])from I.hok a _ h)
 cases h3
 exact⟨h2,h4⟩
theorem NB{P P':Program}{w w':World}{h:Heap}{a:Addr}(d:h.DictOf (dZ P w) a []):h.DictOf (dZ P' w') a []:=by
 obtain⟨o,es,ep,h1,h2,h3,h4,h5,h6⟩:=d
 have e:es=#[]:=by
  have q0:∀l,Pairs (dZ P w) l ([]:List (Key×Value))->l=[]:=by
   intro l hl
   cases hl
   rfl
  have q:es.toList=[]:=q0 _ h5
  exact Array.toList_eq_nil_iff.mp q
 subst e
 exact⟨o,#[],ep,h1,h2,h3,λ _ he=>by simp at he,Pairs.nil,List.nodup_nil⟩
theorem Hq (n:Nat):∀(x:D),deep x≤n->aq x=true->∀{pins:Pins}{s:Shared}{σ:St}{H:Hp}{O:Own}{v w:V}{u u':Value}{A:Around},Inv X pins σ H s->Rep X.K O H v x->Rep X.K O H w x->RelV v u->RelV w u'->A.units+n<cLine->SeqAt.EqAt A s u u' true:=by
 induction n with
 | zero=>
   intro x hx hn pins s σ H O v w u u' A I r1 r2 ru ru' hu
   cases r1 with
   | non=>cases r2;cases ru;cases ru';exact SeqAt.EqAt.same _
   | bl b=>cases r2;cases ru;cases ru';exact SeqAt.EqAt.same _
   | int i=>
     cases r2;obtain⟨t,rfl⟩:=ru;obtain⟨t',rfl⟩:=ru'
     have:=SeqAt.EqAt.int_int (A:=A) (s:=s) i t i t'
     rw[beq_self_eq_true]at this
     exact this
   | str i=>
     cases r2;obtain⟨t,rfl⟩:=ru;obtain⟨t',rfl⟩:=ru'
     have:=SeqAt.EqAt.str_str (A:=A) (s:=s) i t i t'
     rw[beq_self_eq_true]at this
     exact this
   | tup _ _=>simp[deep]at hx
   | lst _ _=>simp[deep]at hx
   | loc _=>simp[aq]at hn
   | dlo _=>simp[aq]at hn
   | dic _ _=>simp[deep]at hx
 | succ n ih=>
   intro x hx hn pins s σ H O v w u u' A I r1 r2 ru ru' hu
   cases r1 with
   | non=>cases r2;cases ru;cases ru';exact SeqAt.EqAt.same _
   | bl b=>cases r2;cases ru;cases ru';exact SeqAt.EqAt.same _
   | int i=>
     cases r2;obtain⟨t,rfl⟩:=ru;obtain⟨t',rfl⟩:=ru'
     have:=SeqAt.EqAt.int_int (A:=A) (s:=s) i t i t'
     rw[beq_self_eq_true]at this
     exact this
   | str i=>
     cases r2;obtain⟨t,rfl⟩:=ru;obtain⟨t',rfl⟩:=ru'
     have:=SeqAt.EqAt.str_str (A:=A) (s:=s) i t i t'
     rw[beq_self_eq_true]at this
     exact this
   | @tup a xs ds h1 q1=>
     cases r2 with
     | @tup b ys _ h2 q2=>
       cases ru;cases ru'
       by_cases e:a=b
       . subst e;exact SeqAt.EqAt.same _
       . obtain⟨its,v1,p1,_⟩:=I.tuple h1.sq
         obtain⟨its2,v2,p2,_⟩:=I.tuple h2.sq
         have l1:its.length=ds.length:=by rw[←v1.length,q1.length]
         have l2:its2.length=ds.length:=by rw[←v2.length,q2.length]
         have rc:=SeqAt.RcAt.tuples (A:=A) (e:=λ _=>true) (show s.heap.IsTuple a its.toArray from p1) (show s.heap.IsTuple b its2.toArray from p2) (by omega) (λ j j1 j2=>?_)
         . have e2:((List.range (min its.toArray.size its2.toArray.size)).all (λ _=>true)&&its.toArray.size==its2.toArray.size)=true:=by simp[l1,l2]
           rw[e2]at rc
           exact SeqAt.EqAt.of_refs e rc
         . have hj:j<ds.length:=by simpa[l1]using j1
           obtain⟨z1,a1,b1⟩:=q1.get (y4 hj)
           obtain⟨z2,a2,b2⟩:=q2.get (y4 hj)
           obtain⟨u1,c1,d1⟩:=v1.get a1
           obtain⟨u2,c2,d2⟩:=v2.get a2
           have e1:its.toArray[j]=u1:=by have:=(y3.mp c1).2;simpa using this
           have e2:its2.toArray[j]=u2:=by have:=(y3.mp c2).2;simpa using this
           rw[e1,e2]
           have hd:=dW (y4 hj)
           exact ih ds[j] (by simp[deep]at hx;omega) (fP (by simpa[aq]using hn) (y4 hj)) I b1 b2 d1 d2 (by show A.units+1+n<cLine;omega)
   | @lst a xs ds h1 q1=>
     cases r2 with
     | @lst b ys _ h2 q2=>
       cases ru;cases ru'
       by_cases e:a=b
       . subst e;exact SeqAt.EqAt.same _
       . obtain⟨its,v1,p1,_⟩:=I.list h1.sq
         obtain⟨its2,v2,p2,_⟩:=I.list h2.sq
         have l1:its.length=ds.length:=by rw[←v1.length,q1.length]
         have l2:its2.length=ds.length:=by rw[←v2.length,q2.length]
         have rc:=SeqAt.RcAt.lists (A:=A) (e:=λ _=>true) p1.isList p2.isList (by simp[l1,l2]) (by omega) (λ j j1 j2=>?_)
         . have e2:(List.range its.toArray.size).all (λ _=>true)=true:=by simp
           rw[e2]at rc
           exact SeqAt.EqAt.of_refs e rc
         . have hj:j<ds.length:=by simpa[l1]using j1
           obtain⟨z1,a1,b1⟩:=q1.get (y4 hj)
           obtain⟨z2,a2,b2⟩:=q2.get (y4 hj)
           obtain⟨u1,c1,d1⟩:=v1.get a1
           obtain⟨u2,c2,d2⟩:=v2.get a2
           have e1:its.toArray[j]=u1:=by have:=(y3.mp c1).2;simpa using this
           have e2:its2.toArray[j]=u2:=by have:=(y3.mp c2).2;simpa using this
           rw[e1,e2]
           have hd:=dW (y4 hj)
           exact ih ds[j] (by simp[deep]at hx;omega) (fP (by simpa[aq]using hn) (y4 hj)) I b1 b2 d1 d2 (by show A.units+1+n<cLine;omega)
   | loc _=>simp[aq]at hn
   | dlo _=>simp[aq]at hn
   | @dic a h1 e1=>
     cases r2 with
     | @dic b h2 e2=>
       cases ru;cases ru'
       by_cases e:a=b
       . subst e;exact SeqAt.EqAt.same _
       . obtain⟨z1,d1⟩:=lB I e1
         obtain⟨z2,d2⟩:=lB I e2
         refine SeqAt.EqAt.of_refs e λ prog w' E Q hq=>?_
         exact PySem.W.keq_eq (knd:=dZ prog w') z1 z2 (NB d1) (NB d2) (by omega) (λ _=>.nil) (by simpa using hq)
end
end DL
namespace DL
open PySem PySem.Spec L2
open PyProof.Rows
variable {pins : Pins} {H : Hp} {s : Shared}
section
variable {X : Cx} {Γ : Gam} {S : Store} {W : WD} {a b e : Expr} {es : List Expr} {pos : Pos}
theorem KR{x:D}(hu:X.A.units+60<cLine)(hn:aq x=true)(hd:deep x≤50)(w:W (.bl false) S):bz X .NotEq x x S W:=by
 intro pins s σ H O v w' u u' I st r1 r2 r3 r4
 have fin:∀{k:Bool},SeqAt.RcNeAt X.A s u u' k->k=false->wpAny (model X.prog X.w) X.A (compareOp .NotEq u u') (EP X pins σ (QG X.K O H W)) X.xe s:=λ h e=>by
  subst e
  exact h _ _ _ _ ⟨.bl false,H,I,rfl,QG.here w st (.bl false)⟩
 cases r1 with
 | non=>cases r2;cases r3;cases r4;exact fin SeqAt.RcNeAt.none_none rfl
 | bl y=>cases r2;cases r3;cases r4;exact fin (SeqAt.RcNeAt.bool_bool y y) (by simp)
 | int y=>cases r2;obtain⟨t,rfl⟩:=r3;obtain⟨t',rfl⟩:=r4;exact fin (SeqAt.RcNeAt.int_int y t y t') (by simp)
 | str y=>cases r2;obtain⟨t,rfl⟩:=r3;obtain⟨t',rfl⟩:=r4;exact fin (SeqAt.RcNeAt.str_str y t y t') (by simp)
 | @tup a xs ds h1 q1=>
   cases r2 with
   | @tup b ys _ h2 q2=>
     cases r3;cases r4
     obtain⟨its,v1,p1,_⟩:=I.tuple h1.sq
     obtain⟨its2,v2,p2,_⟩:=I.tuple h2.sq
     have l1:its.length=ds.length:=by rw[←v1.length,q1.length]
     have l2:its2.length=ds.length:=by rw[←v2.length,q2.length]
     refine fin (SeqAt.RcNeAt.tuples (e:=λ _=>true) (show s.heap.IsTuple a its.toArray from p1) (show s.heap.IsTuple b its2.toArray from p2) (by omega) (λ j j1 j2=>?_)) (by simp[l1,l2])
     have hj:j<ds.length:=by simpa[l1]using j1
     obtain⟨z1,a1,b1⟩:=q1.get (y4 hj)
     obtain⟨z2,a2,b2⟩:=q2.get (y4 hj)
     obtain⟨u1,c1,d1⟩:=v1.get a1
     obtain⟨u2,c2,d2⟩:=v2.get a2
     have e1:its.toArray[j]=u1:=by have:=(y3.mp c1).2;simpa using this
     have e2:its2.toArray[j]=u2:=by have:=(y3.mp c2).2;simpa using this
     rw[e1,e2]
     have hd':=dW (y4 hj)
     exact Hq 49 ds[j] (by simp[deep]at hd;omega) (fP (by simpa[aq]using hn) (y4 hj)) I b1 b2 d1 d2 (by show X.A.units+1+49<cLine;omega)
 | @lst a xs ds h1 q1=>
   cases r2 with
   | @lst b ys _ h2 q2=>
     cases r3;cases r4
     obtain⟨its,v1,p1,_⟩:=I.list h1.sq
     obtain⟨its2,v2,p2,_⟩:=I.list h2.sq
     have l1:its.length=ds.length:=by rw[←v1.length,q1.length]
     have l2:its2.length=ds.length:=by rw[←v2.length,q2.length]
     refine fin (SeqAt.RcNeAt.lists (e:=λ _=>true) p1.isList p2.isList (by simp[l1,l2]) (by omega) (λ j j1 j2=>?_)) (by simp)
     have hj:j<ds.length:=by simpa[l1]using j1
     obtain⟨z1,a1,b1⟩:=q1.get (y4 hj)
     obtain⟨z2,a2,b2⟩:=q2.get (y4 hj)
     obtain⟨u1,c1,d1⟩:=v1.get a1
     obtain⟨u2,c2,d2⟩:=v2.get a2
     have e1:its.toArray[j]=u1:=by have:=(y3.mp c1).2;simpa using this
     have e2:its2.toArray[j]=u2:=by have:=(y3.mp c2).2;simpa using this
     rw[e1,e2]
     have hd':=dW (y4 hj)
     exact Hq 49 ds[j] (by simp[deep]at hd;omega) (fP (by simpa[aq]using hn) (y4 hj)) I b1 b2 d1 d2 (by show X.A.units+1+49<cLine;omega)
 | loc _=>simp[aq]at hn
 | dlo _=>simp[aq]at hn
 | @dic a h1 e1=>
   cases r2 with
   | @dic b h2 e2=>
     cases r3;cases r4
     obtain⟨z1,d1⟩:=lB I e1
     obtain⟨z2,d2⟩:=lB I e2
     exact PySem.W.keq_ne (knd:=dZ X.prog X.w) z1 z2 d1 d2 (by omega) (λ _=>.nil) ⟨.bl false,H,I,rfl,QG.here w st (.bl false)⟩
end
set_option genInjectivity false in
structure SqKind(P:Program)(w:World)(K:PySem.W.Frag) where
 Sq:Hp->Addr->List V->Prop
 It:Heap->Addr->Addr->Nat->Prop
 Ob:Heap->Addr->Array Value->Prop
 itObj:∀{h it a i},It h it a i->∃o vs,h.get? it=some o/\o.data=.fields vs
 itAt:∀{h h' it a i},It h it a i->(∀o,h.get? it=some o->h'.get? it=some o)->It h' it a i
 obObj:∀{h a its},Ob h a its->∃o n,h.get? a=some o/\o.data=.seq its n
 draws:∀(A:Around),A.handled=none->∀(it a:Addr),a≠it->∀items:Array Value,Draws P w A it [it,a] items.size (λ i v=>items[i]? =some v) (λ i h=>It h it a i/\Ob h a items)
 get:∀{X:Cx}{pins:Pins}{σ:St}{H:Hp}{s:Shared}{a:Addr}{xs:List V},X.prog=P->X.w=w->X.K=K->Inv X pins σ H s->Sq H a xs->∃its:List Value,Vals xs its/\Ob s.heap a its.toArray
 inj:∀{X:Cx}{pins:Pins}{σ:St}{H:Hp}{s:Shared}{a:Addr}{xs ys:List V},X.prog=P->X.w=w->X.K=K->Inv X pins σ H s->Sq H a xs->Sq H a ys->xs=ys
 far:∀{X:Cx}{pins:Pins}{σ:St}{H:Hp}{s:Shared}{a b:Addr}{xs:List V},X.K=K->Inv X pins σ H s->Sq H a xs->fC X pins H b->a≠b
section
variable {P : Program} {w : World} {K : PySem.W.Frag}
theorem SqKind.ne(q:SqKind P w K){h:Heap}{it a:Addr}{i:Nat}{its:Array Value}(x:q.It h it a i)(y:q.Ob h a its):a≠it:=λ e=>by
 obtain⟨o,vs,h1,h2⟩:=q.itObj x
 obtain⟨o',n,h3,h4⟩:=q.obObj y
 rw[e,h1]at h3
 cases h3
 rw[h2]at h4
 cases h4
theorem SX{X:Cx}{σ:St}{a b:Addr}{o:Obj}(I:Inv X pins σ H s)(h:X.K.lookup a=some o)(f:fC X pins H b):a≠b:=λ z=>by
 have e:=I.ok.mod.kin a o h
 rw[z]at e
 rcases f.2.2.2.1 with q | q
 . exact I.ok.noex b o e q
 . exact absurd (ZM (ZE e) (Nat.le_trans I.ok.bsz q)) (Nat.lt_irrefl _)
noncomputable def Uz(P:Program)(w:World)(K:PySem.W.Frag):SqKind P w K where
 Sq:=SqL K
 It:=λ h it a i=>h.IsListIter it a i
 Ob:=λ h a its=>h.IsList a its
 itObj:=λ x=>let ⟨o,e,_,d⟩:=x;⟨o,_,e,d⟩
 itAt:=λ x k=>x.at k
 obObj:=λ x=>let ⟨o,e,_,n,d⟩:=x;⟨o,n,e,d⟩
 draws:=λ A hh it a ne items=>Draws.list hh it a ne items
 get:=λ hP hw hK I h=>by
  subst hP hw hK
  obtain⟨its,rv,p,_⟩:=I.list h
  exact⟨its,rv,p.isList⟩
 inj:=λ hP hw hK I h h'=>by
  subst hP hw hK
  exact I.list_inj h h'
 far:=λ hK I h f=>by
  subst hK
  rcases h with(h | ⟨_,h⟩) | ⟨o,_,_,h,_⟩
  . exact aC h f.1
  . exact aC h f.1
  . exact SX I h f
theorem R4{prog:Program}{w:World}{A:Around}{E:Value->Shared->Prop}{it t:Addr}{i:Nat}{items:Array Value}{x:Value}{Q:Value->Shared->Prop}(hi:s.heap.IsTupleIter it t i)(ht:s.heap.IsTuple t items)(hx:items[i]? =some x)
 (hQ:∀h',h'.IsTupleIter it t (i+1)->Heap.SameBut it s.heap h'->Q x {s with heap:=h'}):wpAny (model prog w) A (Builtin.SmallTypes.nextOf (.ref it)) Q E s:=by
 obtain⟨o,ho,hc,hd⟩:=id hi
 obtain⟨o2,ho2,_,n2,hd2⟩:=ht
 unfold Builtin.SmallTypes.nextOf
 refine ZA (wpAny_callSpecial?_slot (name:=Str.ofString "__next__") hi.typeIs F.slot_tuple_iterator_next (ZP F.slot_tuple_iterator_next hi.typeIs F.entry_tuple_iterator_next ?_ (F.args_tuple_iterator_next_1 _)))
 refine ZA (m:=field (.ref it) 0) (wpAny_field ho hd (x:=.ref t) rfl ?_)
 rw[if_neg (show ¬((Value.ref t==Value.none)=true)from y7)]
 refine ZA (m:=field (.ref it) 1) (wpAny_field ho hd (x:=.int i 0) rfl ?_)
 refine ZA (m:=seqItems? (.ref t)) (wpAny_seqItems ho2 hd2 ?_)
 simp only[Int.toNat_natCast,hx]
 refine ZA (wpAny_setField ho hd (by simp) (ZB ⟨x,rfl,ZB (hQ _ ⟨_,Heap.get?_update_self _ ho (Obj.isFreed_of_fields (Obj.data_mapFields hd _)),(Obj.cls_mapFields ..).trans hc,by rw[Obj.data_mapFields hd];simp[rawInt]⟩ (Heap.SameBut.update ..))⟩))
theorem Jc{prog:Program}{w:World}{A:Around}{E:Value->Shared->Prop}{it t:Addr}{i:Nat}{items:Array Value}{Q:Value->Shared->Prop}(hh:A.handled=none)(hi:s.heap.IsTupleIter it t i)(ht:s.heap.IsTuple t items)(hx:items[i]? =none)
 (hE:∀h' e,Heap.ExtBut it s.heap h'->(∃o,h'.get? e=some o/\o.cls=.type "StopIteration")->E (.ref e) {s with heap:=h'}):wpAny (model prog w) A (Builtin.SmallTypes.nextOf (.ref it)) Q E s:=by
 obtain⟨o,ho,hc,hd⟩:=id hi
 obtain⟨o2,ho2,_,n2,hd2⟩:=ht
 unfold Builtin.SmallTypes.nextOf
 refine ZA (wpAny_callSpecial?_slot (name:=Str.ofString "__next__") hi.typeIs F.slot_tuple_iterator_next (ZP F.slot_tuple_iterator_next hi.typeIs F.entry_tuple_iterator_next ?_ (F.args_tuple_iterator_next_1 _)))
 refine ZA (m:=field (.ref it) 0) (wpAny_field ho hd (x:=.ref t) rfl ?_)
 rw[if_neg (show ¬((Value.ref t==Value.none)=true)from y7)]
 refine ZA (m:=field (.ref it) 1) (wpAny_field ho hd (x:=.int i 0) rfl ?_)
 refine ZA (m:=seqItems? (.ref t)) (wpAny_seqItems ho2 hd2 ?_)
 simp only[Int.toNat_natCast,hx]
 refine ZA (wpAny_rule (ZA (wpAny_setField ho hd (by simp) (ZA (m:=newExc (.type "StopIteration") []) ?_))))
 simp only[newExc,newTuple]
 refine ZA (wpAny_newObj_type (ZA (m:=firstArgMember _ _) (wpAny_of_eq (a:=Value.none) (by first | rfl | (simp only[firstArgMember];rfl)) (wpAny_newObj_type ?_ (by size_fits)))) (by size_fits))
 simp only[raiseNew]
 refine ZA (wpAny_handled ?_)
 first | rw[show A.in1.handled=none from hh] | rw[hh]
 exact ZA (ZB (wpAny_throw (hE _ _ (((Heap.SameBut.update ..).extBut.push _).push _) ⟨_,ZD _ rfl,rfl⟩)))
theorem KY{prog:Program}{w:World}{A:Around}(hh:A.handled=none)(it t:Addr)(ne:t≠it)(items:Array Value):
 Draws prog w A it [it,t] items.size (λ i v=>items[i]? =some v) (λ i h=>h.IsTupleIter it t i/\h.IsTuple t items) where
 live:=λ i h x=>let ⟨o,e,_⟩:=x.1;⟨o,e⟩
 frame:=λ i h h' x k=>by
  obtain⟨⟨o,e,r⟩,⟨o2,e2,r2⟩⟩:=x
  exact⟨⟨o,k it (by simp) o e,r⟩,⟨o2,k t (by simp) o2 e2,r2⟩⟩
 item:=λ i s Q E hi x hQ=>R4 x.1 x.2 (x:=items[i]) (by simp[hi]) λ h' y sb=>hQ _ h' s.toks (by simp[hi]) ⟨y,x.2.extBut sb.extBut ne⟩ sb
 done:=λ s Q E x hE=>Jc hh x.1 x.2 (by simp) hE
noncomputable def M7(P:Program)(w:World)(K:PySem.W.Frag):SqKind P w K where
 Sq:=SqT K
 It:=λ h it a i=>h.IsTupleIter it a i
 Ob:=λ h a its=>h.IsTuple a its
 itObj:=λ x=>let ⟨o,e,_,d⟩:=x;⟨o,_,e,d⟩
 itAt:=λ x k=>let ⟨o,e,r⟩:=x;⟨o,k o e,r⟩
 obObj:=λ x=>let ⟨o,e,_,n,d⟩:=x;⟨o,n,e,d⟩
 draws:=λ A hh it a ne items=>KY hh it a ne items
 get:=λ hP hw hK I h=>by
  subst hP hw hK
  obtain⟨its,rv,p,_⟩:=I.tuple h
  exact⟨its,rv,p⟩
 inj:=λ hP hw hK I h h'=>by
  subst hP hw hK
  exact I.tuple_inj h h'
 far:=λ hK I h f=>by
  subst hK
  rcases h with(h | ⟨_,h⟩) | ⟨o,_,_,h,_⟩
  . exact aC h f.1
  . exact aC h f.1
  . exact SX I h f
theorem uo{X:Cx}{σ:St}{h':Heap}{t:Nat}{ch:List Addr}(I:Inv X pins σ H s)(hf:∀b∈ch,fC X pins H b)(k:∀b o,b∉ch->s.heap.get? b=some o->h'.get? b=some o):Inv X pins σ H {s with heap:=h',toks:=t}:=by
 have nch:∀b u,H b=some u->b∉ch:=λ b u e z=>by rw[(hf b z).1]at e;cases e
 refine I.step (g':=s.gens) (d':=s.drawn) (ch:=ch) (λ b hb=>⟨(hf b hb).2.2.2.1,(hf b hb).2.1,(hf b hb).2.2.2.2.1,(hf b hb).2.2.2.2.2⟩) (λ b o _ _ hc e _=>k b o hc e) (λ b o _ _ hc e _=>⟨o.slots,k b o hc e⟩) (λ _ _ _ _ n=>n) (λ b o hc e=>⟨o,k b o hc e⟩)
  (λ _ _ e=>e) (λ _ _ _ e=>e) (λ b ps e=>⟨#[],by rw[e];simp⟩) (λ m hm=>?_) (λ b u e=>?_) I.bare
 . obtain⟨o,es,ep,ho,r⟩:=hm
   exact⟨o,es,ep,k _ o (λ z=>(hf _ z).2.1 rfl) ho,r⟩
 . refine(I.hok b u e).stay (λ c v hc q=>k c v ?_ q) (λ _ q=>q) λ _ _ q=>q
   rcases hc with z | z
   . rw[z];exact nch b u e
   . exact nch c _ z
theorem z8{X:Cx}{σ:St}{s':Shared}{p:Addr}{o:HO}(I:Inv X pins σ H s)(I':Inv X pins σ H s')(hp:s.heap.objs.size≤p)(ob:bh X.prog X.w (upd H p o) s'.heap p o):Inv X pins σ (upd H p o) s':=by
 have hn:H p=none:=I.hok.fresh hp
 have nt:∀b u,H b=some u->b≠p:=λ b u e=>aC e hn
 refine⟨I'.ok,I'.os,I'.bare,⟨I'.base.keep,I'.base.slot,λ b ob e n hx=>?_,I'.base.there,λ b xs e=>?_,λ b ob u e=>?_,λ b ps e=>?_⟩,I'.loc,I'.cell,?_,λ x c e=>?_,λ q hq=>?_,λ b u e=>?_,I'.len⟩
 . have lt:b<s.heap.objs.size:=ZM (ZE e) I.sz
   rw[au (ZN (ZM lt hp))]
   exact I'.base.free b ob e n hx
 . have:=I'.base.tups b xs e
   rw[au (nt b _ this)];exact this
 . have:=I'.base.frzs b ob u e
   rw[au (nt b _ this)];exact this
 . obtain⟨m,e'⟩:=I'.base.tbls b ps e
   exact⟨m,by rw[au (nt b _ e')];exact e'⟩
 . rw[au (ZN (ZM I.lt hp))];exact I'.free
 . obtain⟨v,z⟩:=I.cell x c e
   rw[au (ZN (ZM z.lt hp))];exact I'.freeC x c e
 . obtain⟨e1,_⟩:=I.pin q hq
   obtain⟨a1,a2,a3⟩:=I'.pin q hq
   exact⟨a1,by rw[au (ZN (ZM (ZE e1) hp))];exact a2,a3⟩
 . by_cases hb:b=p
   . subst hb;rw[aU]at e;cases e;exact ob
   . rw[au hb]at e
     exact(I'.hok b u e).stay (λ c v _ q=>q) (λ c q=>by rw[au (nt c _ q)];exact q) λ c xs q=>by rw[au (nt c _ q)];exact q
noncomputable def Ite(q:SqKind P w K)(a:Addr):It:=
 ⟨λ i H=>∃xs x,q.Sq H a xs/\xs[i]? =some x,λ i H x H'=>∃p y,H p=none/\H'=upd H p (.tup [.int i,y])/\x=.ref p/\∀xs,q.Sq H a xs->xs[i]? =some y,λ i H=>∃xs,q.Sq H a xs/\i=xs.length⟩
theorem Jg(q:SqKind P w K){elts:List Expr}{k:Nat}{pos:Pos}(a e it:Addr)(hne:e≠it):Turn P w K (.Tuple elts k pos) (Ite q a) [e,it] e (λ i h=>(∃old,IsEnum h e it i old)/\q.It h it a i) where
 mem:=by simp
 obj:=λ i h st b hb=>by
  obtain⟨⟨old,he⟩,hi⟩:=st
  rcases ZJ.mp hb with rfl | hb
  . exact⟨_,he,λ v z=>nomatch z⟩
  . rw[ZL.mp hb]
    obtain⟨o,vs,h1,h2⟩:=q.itObj hi
    exact⟨o,h1,λ v z=>by rw[h2]at z;cases z⟩
 keep:=λ i h h' st k=>⟨let ⟨old,he⟩:=st.1;⟨old,k e (by simp) _ he⟩,q.itAt st.2 λ o e=>k it (by simp) o e⟩
 item :=by
  intro X hP hw hK hc i pins s σ H E I hf st hg
  obtain⟨xs,x,hq,hx⟩:=hg
  obtain⟨its,rv,ob⟩:=q.get hP hw hK I hq
  obtain⟨u,hu,ru⟩:=rv.get hx
  obtain⟨⟨old,he⟩,hi⟩:=st
  have ne:=q.ne hi ob
  have hea:e≠a:=λ z=>by
   obtain⟨o,n,h1,h2⟩:=q.obObj ob
   rw[←z,he]at h1
   cases h1
   cases h2
  have hlt:i<its.toArray.size:=by simpa using(y3.mp hu).1
  have uq:∀ys,q.Sq H a ys->ys[i]? =some x:=λ ys hy=>by rw[q.inj hP hw hK I hy hq];exact hx
  subst hP hw
  refine wpAny_pyNext_enum_itemD (q.draws X.A.in1 (I.ok.hd hc) it a ne its.toArray) he ⟨hi,ob⟩ hlt hne (by simp[hne,hea]) λ x' h' tk hPx ho hs' hT hsz hk=>?_
  have ex:x'=u:=by
   have:its.toArray[i]? =some u:=by simpa using hu
   rw[this]at hPx
   exact(Option.some.inj hPx).symm
  subst ex
  refine⟨_,rfl,wpAny_letOwnedTupleGo_enum ho λ h2 he2 sb=>?_⟩
  have I1:Inv X pins σ H {s with heap:=h2,toks:=tk+1}:=uo (ch:=[e,it]) I hf λ b o hb q'=>(sb.2 b (λ z=>hb (by simp[z]))).trans (hk b o (λ z=>hb (by simp[z])) (λ z=>hb (by simp[z])) q')
  have hp:H s.heap.objs.size=none:=I.hok.fresh (x4 _)
  have elt:e<s.heap.objs.size:=ZE he
  have hT2:h2.get? s.heap.objs.size=some {cls:=.type "tuple",data:=.seq #[.int i tk,x']}:=(sb.2 _ (Nat.ne_of_gt elt)).trans hT
  have I2:Inv X pins σ (upd H s.heap.objs.size (.tup [.int i,x])) {s with heap:=h2,toks:=tk+1}:=z8 I I1 (x4 _) ⟨by show 2≤sizeLine;decide,[.int i tk,x'],.cons ⟨tk,rfl⟩ (.cons ru .nil),_,hT2,rfl,_,rfl⟩
  refine⟨.ref s.heap.objs.size,_,I2,rfl,⟨_,x,hp,rfl,rfl,uq⟩,⟨⟨_,by simpa using he2⟩,q.itAt hs'.1 λ o q'=>(sb.2 it hne.symm).trans q'⟩,λ b hb=>?_⟩
  rw[au (ZN ?_)]
  . exact(hf b hb).1
  . rcases ZJ.mp hb with rfl | hb
    . exact elt
    . rw[ZL.mp hb]
      obtain⟨o,vs,h1,_⟩:=q.itObj hi
      exact ZE h1
 done:=by
  intro X hP hw hK hc i pins s σ H E I hf st hg
  obtain⟨xs,hq,hx⟩:=hg
  obtain⟨its,rv,ob⟩:=q.get hP hw hK I hq
  obtain⟨⟨old,he⟩,hi⟩:=st
  have ne:=q.ne hi ob
  subst hP hw
  obtain⟨f0,f1,f2,f3,f4,f5⟩:=hf it (by simp)
  have hn:i=its.toArray.size:=by rw[hx,rv.length];simp
  have st':q.It s.heap it a its.toArray.size/\q.Ob s.heap a its.toArray:=⟨hn▸hi,ob⟩
  exact wpAny_pyNext_enum_endD (q.draws X.A.in1 (I.ok.hd hc) it a ne its.toArray) he st' λ h' ext=>⟨rfl,I.turned (t':=s.toks) (λ b o hb e=>ext b o hb e) f0 f1 f3 f4 f5⟩
 self:=λ _ _ _ _ _ st h=>let ⟨old,he⟩:=st.1;wpAny_pyIter_enum he h
theorem pY(q:SqKind P w K){O:Own}{H:Hp}{a:Addr}{ds:List D}(h:∀O' H',Conv O O' H H'->∃xs,q.Sq H' a xs/\Reps K O' H' xs ds):fV K (Ite q a) O H (ds.mapIdx λ i d=>.tup [.int i,d]):=by
 intro O' H' cv tr i
 obtain⟨xs,hq,r⟩:=h O' H' cv
 refine⟨λ d hd=>?_,λ hi=>⟨xs,hq,by rw[hi,r.length];simp⟩⟩
 rw[List.getElem?_mapIdx]at hd
 cases e:ds[i]? with
 | none=>rw[e]at hd;cases hd
 | some d0=>
   rw[e]at hd
   cases hd
   obtain⟨v,hv,rv⟩:=r.get e
   refine⟨⟨xs,v,hq,hv⟩,λ x H'' y=>?_⟩
   obtain⟨p,y,hp,rfl,rfl,hy⟩:=y
   have ey:=hy xs hq
   rw[hv]at ey
   cases ey
   have np:¬O'.has p:=λ z=>tr p z hp
   exact⟨dD.fresh hp _,.tup ⟨np,aU⟩ (.cons (.int _) (.cons (rv.mono (Step.fresh hp _)) .nil))⟩
section
variable {X : Cx} {Γ : Gam} {S : Store} {e : Expr} {pos : Pos}
theorem Ec{σ:St}{elts:List Expr}{k:Nat}{tp:Pos}{R:It->Hp->Prop}{E:Value->Shared->Prop}{h':Heap}(q:SqKind X.prog X.w X.K){a:Addr}(I:Inv X pins σ H s)(he:IsEnum h' (s.heap.objs.size+1) s.heap.objs.size 0 .none)(hi:q.It h' s.heap.objs.size a 0)
 (kp:∀b o,s.heap.get? b=some o->h'.get? b=some o)(r:R (Ite q a) H):wpAny (model X.prog X.w) X.A (pyIter (.ref (s.heap.objs.size+1))) (PIE X pins σ (.Tuple elts k tp) R) E {s with heap:=h'}:=by
 refine wpAny_pyIter_enum he ?_
 refine⟨s.heap.objs.size+1,[s.heap.objs.size+1,s.heap.objs.size],_,_,H,rfl,I.kept (t':=s.toks) kp,Jg q a (s.heap.objs.size+1) s.heap.objs.size (Nat.succ_ne_self _),⟨⟨_,he⟩,hi⟩,λ b hb=>?_,r⟩
 rcases ZJ.mp hb with rfl | hb
 . exact I.fpOk (Nat.le_succ _) (I.hok.fresh (Nat.le_succ _))
 . rw[ZL.mp hb]
   exact I.fpOk (x4 _) (I.hok.fresh (x4 _))
theorem IK(l:Addr)(items:Array Value)(n:Nat)(dct:Option Addr)(sl:Array (Option Value)):
 Meets (Builtin.«enumerate.__new__» ⟨[.type "enumerate",.ref l],[]⟩) (λ _ R s=>s.heap.get? l=some {cls:=.type "tuple",dict:=dct,data:=.seq items n,slots:=sl}/\
  R (.ok (.ret (.ref (s.heap.push {cls:=.type "tuple_iterator",data:=.fields #[.ref l,.int 0 0]}).objs.size)))
    {s with heap:=(s.heap.push {cls:=.type "tuple_iterator",data:=.fields #[.ref l,.int 0 0]}).push {cls:=.type "enumerate",data:=.fields #[.none,.bool false,.ref s.heap.objs.size,rawInt 0,.none,.none]}}):=
 .of_wp λ prog w A R s h=>by
  obtain⟨hp,g,d,tk,os⟩:=s;obtain⟨hl,h⟩:=h
  have hsub:=sub_enumerate
  have hT:Heap.IsTuple (Shared.heap ⟨hp,g,d,tk,os⟩) l items:=⟨_,hl,rfl,n,rfl⟩
  wp_walk using AutoSeq1.wpAny_loadPart' hl
  refine wpAny_stack_any λ st=>ZB ?_
  split
  . rename_i c _ _ _ _ _
    cases (c==Value.type "enumerate")<;>(wp_walk using AutoSeq1.wpAny_loadPart' hl,wpAny_pyIter_tuple hT;exact⟨_,rfl,h⟩)
  . wp_walk using AutoSeq1.wpAny_loadPart' hl,wpAny_pyIter_tuple hT
    exact⟨_,rfl,h⟩
end
end
end DL
namespace DL
open PySem PySem.Spec L2
open PyProof.Rows
structure Zd(z TI TO i1 i2:Addr)(f1 f2:List Addr):Prop where
 a:TI≠z
 b:TO≠z
 c:TI≠TO
 d:TI≠i1
 e:TI≠i2
 f:TO≠i1
 g:TO≠i2
 h:i1≠z
 i:i2≠z
 j:z∉f1
 k:z∉f2
 l:TO∉f1
 m:TO∉f2
 n:i1∉f2
 o:i2∉f1
section
variable {prog : Program} {w : World} {A : Around} {E : Value -> Shared -> Prop} {s : Shared} {z TI TO i1 i2 : Addr} {f1 f2 : List Addr} {n1 n2 k : Nat} {P1 P2 : Nat -> Value -> Prop} {T1 T2 : Nat -> Heap -> Prop} {va vb : Value}
theorem Ro{Q:Value->Shared->Prop}(D1:Draws prog w A i1 f1 n1 P1 T1)(D2:Draws prog w A i2 f2 n2 P2 T2)(Z:Zd z TI TO i1 i2 f1 f2)(hz:IsZip s.heap z TI TO .none)(hTI:IsPair s.heap TI (.ref i1) (.ref i2))(hTO:IsPair s.heap TO va vb)(t1:T1 k s.heap)(t2:T2 k s.heap)(k1:k<n1)(k2:k<n2)
 (hQ:∀x y h' tk,P1 k x->P2 k y->IsZip h' z TI TO (rawInt s.heap.objs.size)->IsPair h' TO x y->T1 (k+1) h'->T2 (k+1) h'->IsPair h' s.heap.objs.size x y->
  (∀c o,c≠z->c≠TO->c≠i1->c≠i2->s.heap.get? c=some o->h'.get? c=some o)->Q (.ref s.heap.objs.size) {s with heap:=h',toks:=tk}):
 wpAny (model prog w) A (Builtin.«zip.__next__» ⟨[.ref z],[]⟩) (λ fin s'=>∃v,fin=.done (.ret v)/\Q v s') E s:=by
 obtain⟨hp,g,d,tk0,os⟩:=s
 refine ZA (m:=field (.ref z) 2) (wpAny_field hz rfl (x:=.bool false) rfl (ZA (m:=field (.ref z) 3) (wpAny_field hz rfl (x:=.ref TI) rfl (ZA (wpAny_seqItems hTI rfl ?_)))))
 refine ZA (m:=Builtin.SmallTypes.ownedTupleIsFree (.ref z)) ?_
 unfold Builtin.SmallTypes.ownedTupleIsFree
 refine ZA (wpAny_field hz rfl (x:=.none) rfl (ZB ?_))
 simp only[if_true]
 refine ZA (wpAny_rule (ZA (wpAny_field hz rfl (x:=.ref TO) rfl (ZA (wpAny_setField_rec hz (by simp) λ h1 hz1 s1=>?_)))))
 replace hz1:IsZip h1 z TI TO .ellipsis:=hz1
 refine ZA ?_
 simp only[List.zipIdx_cons,List.zipIdx_nil,List.forIn_cons,List.forIn_nil]
 refine ZA (ZA (wpAny_onRaise (ZA (m:=Builtin.SmallTypes.nextOf (.ref i1)) ?_)))
 refine D1.item k _ _ _ k1 (D1.frame _ _ _ t1 λ b hb o e=>s1.extBut b o (λ q=>Z.j (q▸hb)) e) λ x h2 tk1 p1 t1' s2=>ZB ?_
 replace s2:Heap.SameBut i1 h1 h2:=s2
 have o2:IsPair h2 TO va vb:=s2.extBut _ _ Z.f (s1.extBut _ _ Z.b hTO)
 refine ZA (wpAny_seqItems o2 rfl (ZA (wpAny_updateSeq_pair o2 λ h3 o3 s3=>ZA (wpAny_letGo (ZB ?_)))))
 replace o3:IsPair h3 TO x vb:=o3
 refine ZA (ZA (wpAny_onRaise (ZA (m:=Builtin.SmallTypes.nextOf (.ref i2)) ?_)))
 have t2':T2 k h3:=D2.frame _ _ _ t2 λ b hb o e=>s3.extBut b o (λ q=>Z.m (q▸hb)) (s2.extBut b o (λ q=>Z.n (q▸hb)) (s1.extBut b o (λ q=>Z.k (q▸hb)) e))
 refine D2.item k _ _ _ k2 t2' λ y h4 tk2 p2 t2'' s4=>ZB ?_
 replace s4:Heap.SameBut i2 h3 h4:=s4
 have o4:IsPair h4 TO x vb:=s4.extBut _ _ Z.g o3
 refine ZA (wpAny_seqItems o4 rfl (ZA (wpAny_updateSeq_pair o4 λ h5 o5 s5=>ZA (wpAny_letGo (ZB (ZB ?_))))))
 replace o5:IsPair h5 TO x y:=o5
 refine ZA (wpAny_seqItems o5 rfl (ZA (wpAny_newTuple ?_)))
 have sz:h5.objs.size=hp.objs.size:=by rw[s5.1,s4.1,s3.1,s2.1,s1.1]
 have hz5:IsZip h5 z TI TO .ellipsis:=s5.extBut _ _ Z.b.symm (s4.extBut _ _ Z.i.symm (s3.extBut _ _ Z.b.symm (s2.extBut _ _ Z.h.symm hz1)))
 have k5:∀c o,c≠z->c≠TO->c≠i1->c≠i2->hp.get? c=some o->h5.get? c=some o:=λ c o c1 c2 c3 c4 q=>s5.extBut _ _ c2 (s4.extBut _ _ c4 (s3.extBut _ _ c2 (s2.extBut _ _ c3 (s1.extBut _ _ c1 q))))
 have zlt:z<h5.objs.size:=ZE hz5
 refine ZA (m:=Builtin.SmallTypes.ownedTupleHandOut (.ref z) (.ref h5.objs.size)) ?_
 unfold Builtin.SmallTypes.ownedTupleHandOut
 have hz6:IsZip (h5.push {cls:=.type "tuple",data:=.seq #[x,y]}) z TI TO .ellipsis:=ZC _ hz5
 refine ZA (wpAny_setField_rec hz6 (by simp) λ h7 hz7 s7=>?_)
 replace hz7:IsZip h7 z TI TO (rawInt h5.objs.size):=hz7
 refine wpAny_setField_rec hz7 (by simp) λ h8 hz8 s8=>?_
 replace hz8:IsZip h8 z TI TO (rawInt h5.objs.size):=hz8
 have up:∀c o,c≠z->h5.get? c=some o->h8.get? c=some o:=λ c o c1 q=>s8.extBut _ _ c1 (s7.extBut _ _ c1 (ZC _ q))
 have p8:IsPair h8 h5.objs.size x y:=s8.extBut _ _ (Nat.ne_of_gt zlt) (s7.extBut _ _ (Nat.ne_of_gt zlt) (ZD _ rfl))
 rw[sz]at hz8 p8
 refine ZB ⟨_,rfl,?_⟩
 show Q (.ref h5.objs.size) _
 rw[sz]
 have u1:T1 (k+1) h8:=D1.frame _ _ _ t1' λ b hb o q=>up b o (λ r=>Z.j (r▸hb)) (s5.extBut b o (λ r=>Z.l (r▸hb)) (s4.extBut b o (λ r=>Z.o (r▸hb)) (s3.extBut b o (λ r=>Z.l (r▸hb)) q)))
 have u2:T2 (k+1) h8:=D2.frame _ _ _ t2'' λ b hb o q=>up b o (λ r=>Z.k (r▸hb)) (s5.extBut b o (λ r=>Z.m (r▸hb)) q)
 exact hQ x y h8 tk2 p1 p2 hz8 (up _ _ Z.b o5) u1 u2 p8 λ c o c1 c2 c3 c4 q=>up c o c1 (k5 c o c1 c2 c3 c4 q)
theorem Mz{Q:PySem.Fin->Shared->Prop}(D1:Draws prog w A i1 f1 n1 P1 T1)(D2:Draws prog w A i2 f2 n2 P2 T2)(Z:Zd z TI TO i1 i2 f1 f2)(hz:IsZip s.heap z TI TO .none)(hTI:IsPair s.heap TI (.ref i1) (.ref i2))(hTO:IsPair s.heap TO va vb)(t1:T1 k s.heap)(t2:T2 k s.heap)(hk:k=n1∨(k<n1/\k=n2))
 (hE:∀h' tk e,(∀c o,c≠z->c≠TO->c≠i1->c≠i2->s.heap.get? c=some o->h'.get? c=some o)->(∃o,h'.get? e=some o/\o.cls=.type "StopIteration")->E (.ref e) {s with heap:=h',toks:=tk}):
 wpAny (model prog w) A (Builtin.«zip.__next__» ⟨[.ref z],[]⟩) Q E s:=by
 obtain⟨hp,g,d,tk0,os⟩:=s
 refine ZA (m:=field (.ref z) 2) (wpAny_field hz rfl (x:=.bool false) rfl (ZA (m:=field (.ref z) 3) (wpAny_field hz rfl (x:=.ref TI) rfl (ZA (wpAny_seqItems hTI rfl ?_)))))
 refine ZA (m:=Builtin.SmallTypes.ownedTupleIsFree (.ref z)) ?_
 unfold Builtin.SmallTypes.ownedTupleIsFree
 refine ZA (wpAny_field hz rfl (x:=.none) rfl (ZB ?_))
 simp only[if_true]
 refine ZA (wpAny_rule (ZA (wpAny_field hz rfl (x:=.ref TO) rfl (ZA (wpAny_setField_rec hz (by simp) λ h1 hz1 s1=>?_)))))
 replace hz1:IsZip h1 z TI TO .ellipsis:=hz1
 refine ZA ?_
 simp only[List.zipIdx_cons,List.zipIdx_nil,List.forIn_cons,List.forIn_nil]
 refine ZA (ZA (wpAny_onRaise (ZA (m:=Builtin.SmallTypes.nextOf (.ref i1)) ?_)))
 have t1':T1 k h1:=D1.frame _ _ _ t1 λ b hb o e=>s1.extBut b o (λ q=>Z.j (q▸hb)) e
 rcases hk with rfl | ⟨k1,rfl⟩
 . refine D1.done _ _ _ t1' λ h2 e s2 hq_=>?_
   obtain⟨oe,he,ce⟩:=hq_
   replace s2:Heap.ExtBut i1 h1 h2:=s2
   have hz2:IsZip h2 z TI TO .ellipsis:=s2 _ _ Z.h.symm hz1
   have ez:e≠z:=λ q=>by subst q;rw[hz2]at he;cases he;simp at ce
   exact wpAny_setField_rec hz2 (by simp) λ h3 _ s3=>hE h3 _ e (λ c o c1 _ c3 _ q=>s3.extBut _ _ c1 (s2 _ _ c3 (s1.extBut _ _ c1 q))) ⟨oe,s3.extBut _ _ ez he,ce⟩
 . refine D1.item k _ _ _ k1 t1' λ x h2 tk1 p1 _ s2=>ZB ?_
   replace s2:Heap.SameBut i1 h1 h2:=s2
   have o2:IsPair h2 TO va vb:=s2.extBut _ _ Z.f (s1.extBut _ _ Z.b hTO)
   refine ZA (wpAny_seqItems o2 rfl (ZA (wpAny_updateSeq_pair o2 λ h3 o3 s3=>ZA (wpAny_letGo (ZB ?_)))))
   refine ZA (ZA (wpAny_onRaise (ZA (m:=Builtin.SmallTypes.nextOf (.ref i2)) ?_)))
   have t2':T2 k h3:=D2.frame _ _ _ t2 λ b hb o e=>s3.extBut b o (λ q=>Z.m (q▸hb)) (s2.extBut b o (λ q=>Z.n (q▸hb)) (s1.extBut b o (λ q=>Z.k (q▸hb)) e))
   refine D2.done _ _ _ t2' λ h4 e s4 hq_=>?_
   obtain⟨oe,he,ce⟩:=hq_
   replace s4:Heap.ExtBut i2 h3 h4:=s4
   have hz4:IsZip h4 z TI TO .ellipsis:=s4 _ _ Z.i.symm (s3.extBut _ _ Z.b.symm (s2.extBut _ _ Z.h.symm hz1))
   have ez:e≠z:=λ q=>by subst q;rw[hz4]at he;cases he;simp at ce
   exact wpAny_setField_rec hz4 (by simp) λ h5 _ s5=>hE h5 _ e (λ c o c1 c2 c3 c4 q=>s5.extBut _ _ c1 (s4 _ _ c4 (s3.extBut _ _ c2 (s2.extBut _ _ c3 (s1.extBut _ _ c1 q))))) ⟨oe,s5.extBut _ _ ez he,ce⟩
end
section
variable {P : Program} {w : World} {K : PySem.W.Frag}
noncomputable def Itz(q r:SqKind P w K)(a b:Addr):It:=
 ⟨λ i H=>∃xs ys x y,q.Sq H a xs/\r.Sq H b ys/\xs[i]? =some x/\ys[i]? =some y,
  λ i H v H'=>∃p x y,H p=none/\H'=upd H p (.tup [x,y])/\v=.ref p/\(∀xs,q.Sq H a xs->xs[i]? =some x)/\∀ys,r.Sq H b ys->ys[i]? =some y,
  λ i H=>∃xs ys,q.Sq H a xs/\r.Sq H b ys/\i=min xs.length ys.length⟩
structure Zr(z TI TO i1 i2:Addr):Prop where
 a:TI≠z
 b:TO≠z
 c:TI≠TO
 d:TI≠i1
 e:TI≠i2
 f:TO≠i1
 g:TO≠i2
 h:i1≠z
 i:i2≠z
 j:i1≠i2
theorem Zr.zd(q r:SqKind P w K){X:Cx}{pins:Pins}{σ:St}{H:Hp}{s:Shared}{z TI TO i1 i2 a b:Addr}{xs ys:List V}(Z:Zr z TI TO i1 i2)(hK:X.K=K)(I:Inv X pins σ H s)(hf:∀c∈[z,TI,TO,i1,i2],fC X pins H c)(hq:q.Sq H a xs)(hr:r.Sq H b ys):Zd z TI TO i1 i2 [i1,a] [i2,b]:=by
 have fa:∀c∈[z,TI,TO,i1,i2],c≠a:=λ c hc=>(q.far hK I hq (hf c hc)).symm
 have fb:∀c∈[z,TI,TO,i1,i2],c≠b:=λ c hc=>(r.far hK I hr (hf c hc)).symm
 refine⟨Z.a,Z.b,Z.c,Z.d,Z.e,Z.f,Z.g,Z.h,Z.i,?_,?_,?_,?_,?_,?_⟩
 . simp[Z.h.symm,fa z (by simp)]
 . simp[Z.i.symm,fb z (by simp)]
 . simp[Z.f,fa TO (by simp)]
 . simp[Z.g,fb TO (by simp)]
 . simp[Z.j,fb i1 (by simp)]
 . simp[Z.j.symm,fa i2 (by simp)]
theorem Lx(q r:SqKind P w K){elts:List Expr}{k:Nat}{pos:Pos}(a b z TI TO i1 i2:Addr)(Z:Zr z TI TO i1 i2):Turn P w K (.Tuple elts k pos) (Itz q r a b) [z,TI,TO,i1,i2] z
 (λ i h=>IsZip h z TI TO .none/\IsPair h TI (.ref i1) (.ref i2)/\(∃va vb,IsPair h TO va vb)/\q.It h i1 a i/\r.It h i2 b i) where
 mem:=by simp
 obj:=λ i h st c hc=>by
  obtain⟨hz,hTI,⟨va,vb,hTO⟩,hi,hj⟩:=st
  obtain⟨o,vs,h1,h2⟩:=q.itObj hi
  obtain⟨o',vs',h1',h2'⟩:=r.itObj hj
  simp only[List.mem_cons,List.not_mem_nil,or_false]at hc
  rcases hc with rfl | rfl | rfl | rfl | rfl
  . exact⟨_,hz,λ v z=>nomatch z⟩
  . exact⟨_,hTI,λ v z=>nomatch z⟩
  . exact⟨_,hTO,λ v z=>nomatch z⟩
  . exact⟨o,h1,λ v z=>by rw[h2]at z;cases z⟩
  . exact⟨o',h1',λ v z=>by rw[h2']at z;cases z⟩
 keep:=λ i h h' st k=>by
  obtain⟨hz,hTI,⟨va,vb,hTO⟩,hi,hj⟩:=st
  exact⟨k z (by simp) _ hz,k TI (by simp) _ hTI,⟨va,vb,k TO (by simp) _ hTO⟩,q.itAt hi λ o e=>k i1 (by simp) o e,r.itAt hj λ o e=>k i2 (by simp) o e⟩
 item:=by
  intro X hP hw hK hc i pins s σ H E I hf st hg
  obtain⟨xs,ys,x,y,hq,hr,hx,hy⟩:=hg
  obtain⟨its,rv,ob⟩:=q.get hP hw hK I hq
  obtain⟨its2,rv2,ob2⟩:=r.get hP hw hK I hr
  obtain⟨u,hu,ru⟩:=rv.get hx
  obtain⟨u2,hu2,ru2⟩:=rv2.get hy
  obtain⟨hz,hTI,⟨va,vb,hTO⟩,hi,hj⟩:=st
  have ux:∀zs,q.Sq H a zs->zs[i]? =some x:=λ zs h=>by rw[q.inj hP hw hK I h hq];exact hx
  have uy:∀zs,r.Sq H b zs->zs[i]? =some y:=λ zs h=>by rw[r.inj hP hw hK I h hr];exact hy
  have Z2:=Z.zd q r hK I hf hq hr
  have l1:i<its.toArray.size:=by simpa using(y3.mp hu).1
  have l2:i<its2.toArray.size:=by simpa using(y3.mp hu2).1
  subst hP hw
  have hT:s.TypeIs (.ref z) "zip":=⟨_,hz,rfl⟩
  unfold pyNext
  refine ZA (wpAny_attempt (wpAny_callSpecial?_slot (name:=Str.ofString "__next__") hT F.slot_zip_next (ZP F.slot_zip_next hT F.entry_zip_next ?_ (F.args_zip_next_1 _))))
  refine Ro (q.draws X.A.in1 (I.ok.hd hc) i1 a (q.ne hi ob) its.toArray) (r.draws X.A.in1 (I.ok.hd hc) i2 b (r.ne hj ob2) its2.toArray) Z2 hz hTI hTO ⟨hi,ob⟩ ⟨hj,ob2⟩ l1 l2 λ x' y' h' tk px py hz' hTO' t1 t2 hp' kp=>ZB ?_
  have ex:x'=u:=by
   have e1:its.toArray[i]? =some u:=by simpa using hu
   rw[e1]at px
   exact(Option.some.inj px).symm
  have ey:y'=u2:=by
   have e1:its2.toArray[i]? =some u2:=by simpa using hu2
   rw[e1]at py
   exact(Option.some.inj py).symm
  subst ex
  subst ey
  refine⟨_,rfl,wpAny_letOwnedTupleGo_zip hz' λ h2 hz2 sb=>?_⟩
  have I1:Inv X pins σ H {s with heap:=h2,toks:=tk}:=uo (ch:=[z,TI,TO,i1,i2]) I hf λ c o hb q'=>(sb.2 c (λ z=>hb (by simp[z]))).trans (kp c o (λ z=>hb (by simp[z])) (λ z=>hb (by simp[z])) (λ z=>hb (by simp[z])) (λ z=>hb (by simp[z])) q')
  have hp:H s.heap.objs.size=none:=I.hok.fresh (x4 _)
  have elt:z<s.heap.objs.size:=ZE hz
  have hT2:h2.get? s.heap.objs.size=some {cls:=.type "tuple",data:=.seq #[x',y']}:=(sb.2 _ (Nat.ne_of_gt elt)).trans hp'
  have I2:Inv X pins σ (upd H s.heap.objs.size (.tup [x,y])) {s with heap:=h2,toks:=tk}:=z8 I I1 (x4 _) ⟨by show 2≤sizeLine;decide,[x',y'],.cons ru (.cons ru2 .nil),_,hT2,rfl,_,rfl⟩
  have hTI':IsPair h2 TI (.ref i1) (.ref i2):=(sb.2 _ Z.a).trans (kp _ _ Z.a Z.c Z.d Z.e hTI)
  refine⟨.ref s.heap.objs.size,_,I2,rfl,⟨_,x,y,hp,rfl,rfl,ux,uy⟩,⟨hz2,hTI',⟨_,_,(sb.2 _ Z.b).trans hTO'⟩,q.itAt t1.1 λ o q'=>(sb.2 i1 Z.h).trans q',r.itAt t2.1 λ o q'=>(sb.2 i2 Z.i).trans q'⟩,λ c hb=>?_⟩
  rw[au (ZN ?_)]
  . exact(hf c hb).1
  . obtain⟨o,vs,h1,_⟩:=q.itObj hi
    obtain⟨o',vs',h1',_⟩:=r.itObj hj
    simp only[List.mem_cons,List.not_mem_nil,or_false]at hb
    rcases hb with rfl | rfl | rfl | rfl | rfl
    . exact elt
    . exact ZE hTI
    . exact ZE hTO
    . exact ZE h1
    . exact ZE h1'
 done:=by
  intro X hP hw hK hc i pins s σ H E I hf st hg
  obtain⟨xs,ys,hq,hr,hn⟩:=hg
  obtain⟨its,rv,ob⟩:=q.get hP hw hK I hq
  obtain⟨its2,rv2,ob2⟩:=r.get hP hw hK I hr
  obtain⟨hz,hTI,⟨va,vb,hTO⟩,hi,hj⟩:=st
  have Z2:=Z.zd q r hK I hf hq hr
  subst hP hw
  have hT:s.TypeIs (.ref z) "zip":=⟨_,hz,rfl⟩
  have hk:i=its.toArray.size∨(i<its.toArray.size/\i=its2.toArray.size):=by
   have e1:=rv.length
   have e2:=rv2.length
   simp only[x6]
   omega
  unfold pyNext
  refine ZA (wpAny_attempt (wpAny_callSpecial?_slot (name:=Str.ofString "__next__") hT F.slot_zip_next (ZP F.slot_zip_next hT F.entry_zip_next ?_ (F.args_zip_next_1 _))))
  refine Mz (q.draws X.A.in1 (I.ok.hd hc) i1 a (q.ne hi ob) its.toArray) (r.draws X.A.in1 (I.ok.hd hc) i2 b (r.ne hj ob2) its2.toArray) Z2 hz hTI hTO ⟨hi,ob⟩ ⟨hj,ob2⟩ hk λ h' tk e kp hq_=>?_
  obtain⟨o,he,ce⟩:=hq_
  refine ZA (wpAny_isInstance (T:="StopIteration") (b:=true) ⟨o,he,ce⟩ isSubtype_stop (ZB ⟨rfl,?_⟩))
  exact uo (ch:=[z,TI,TO,i1,i2]) I hf λ c o hb q'=>kp c o (λ z=>hb (by simp[z])) (λ z=>hb (by simp[z])) (λ z=>hb (by simp[z])) (λ z=>hb (by simp[z])) q'
 self:=λ _ _ _ _ _ st h=>wpAny_pyIter_zip st.1 h
theorem Hl(q r:SqKind P w K){O:Own}{H:Hp}{a b:Addr}{ds es:List D}(h:∀O' H',Conv O O' H H'->∃xs ys,q.Sq H' a xs/\Reps K O' H' xs ds/\r.Sq H' b ys/\Reps K O' H' ys es):fV K (Itz q r a b) O H (List.zipWith (λ x y=>.tup [x,y]) ds es):=by
 intro O' H' cv tr i
 obtain⟨xs,ys,hq,r1,hr,r2⟩:=h O' H' cv
 refine⟨λ d hd=>?_,λ hi=>⟨xs,ys,hq,hr,by rw[hi,r1.length,r2.length,List.length_zipWith]⟩⟩
 rw[List.getElem?_zipWith]at hd
 cases e1:ds[i]? with
 | none=>rw[e1]at hd;cases hd
 | some d1=>
   cases e2:es[i]? with
   | none=>rw[e1,e2]at hd;cases hd
   | some d2=>
     rw[e1,e2]at hd
     cases hd
     obtain⟨v1,hv1,rv1⟩:=r1.get e1
     obtain⟨v2,hv2,rv2⟩:=r2.get e2
     refine⟨⟨xs,ys,v1,v2,hq,hr,hv1,hv2⟩,λ x H'' y=>?_⟩
     obtain⟨p,x',y',hp,rfl,rfl,hx,hy⟩:=y
     have ex:=hx xs hq
     have ey:=hy ys hr
     rw[hv1]at ex
     rw[hv2]at ey
     cases ex
     cases ey
     have np:¬O'.has p:=λ z=>tr p z hp
     exact⟨dD.fresh hp _,.tup ⟨np,aU⟩ (.cons (rv1.mono (Step.fresh hp _)) (.cons (rv2.mono (Step.fresh hp _)) .nil))⟩
noncomputable abbrev zh(h:Heap)(c1 c2:String)(l1 l2:Addr):Heap:=
 ((((h.push {cls:=.type c1,data:=.fields #[.ref l1,.int 0 0]}).push {cls:=.type c2,data:=.fields #[.ref l2,.int 0 0]}).push {cls:=.type "tuple",data:=.seq #[.ref h.objs.size,.ref (h.push {cls:=.type c1,data:=.fields #[.ref l1,.int 0 0]}).objs.size]}).push {cls:=.type "tuple",data:=.seq #[.none,.none]})
noncomputable abbrev zhz(h:Heap)(c1 c2:String)(l1 l2:Addr):Heap:=
 (zh h c1 c2 l1 l2).push {cls:=.type "zip",data:=.fields #[.none,.bool false,.bool false,.ref ((h.push {cls:=.type c1,data:=.fields #[.ref l1,.int 0 0]}).push {cls:=.type c2,data:=.fields #[.ref l2,.int 0 0]}).objs.size,
  .ref (((h.push {cls:=.type c1,data:=.fields #[.ref l1,.int 0 0]}).push {cls:=.type c2,data:=.fields #[.ref l2,.int 0 0]}).push {cls:=.type "tuple",data:=.seq #[.ref h.objs.size,.ref (h.push {cls:=.type c1,data:=.fields #[.ref l1,.int 0 0]}).objs.size]}).objs.size]}
theorem J8(l1 l2:Addr)(xs ys:Array Value):
 Meets (Builtin.«zip.__new__» ⟨[.type "zip",.ref l1,.ref l2],[]⟩) (λ _ R s=>s.heap.IsTuple l1 xs/\s.heap.IsTuple l2 ys/\
  R (.ok (.ret (.ref (zh s.heap "tuple_iterator" "tuple_iterator" l1 l2).objs.size))) {s with heap:=zhz s.heap "tuple_iterator" "tuple_iterator" l1 l2}):=
 .of_wp λ prog w A R s h=>by
  obtain⟨hp,g,d,tk,os⟩:=s;obtain⟨a1,a2,h⟩:=h
  have hsub:=sub_zip
  have b1:Heap.IsTuple (Shared.heap ⟨hp,g,d,tk,os⟩) l1 xs:=a1
  have b2:Heap.IsTuple (Shared.heap ⟨hp.push {cls:=.type "tuple_iterator",data:=.fields #[.ref l1,.int 0 0]},g,d,tk,os⟩) l2 ys:=Heap.IsTuple.push a2 _
  wp_walk using wpAny_pyIter_tuple b1,wpAny_pyIter_tuple b2
  exact⟨_,rfl,h⟩
end
section
variable {X : Cx} {Γ : Gam} {S : Store} {pos : Pos}
theorem zip_parts(h:Heap)(c1 c2:String)(l1 l2:Addr):(zh h c1 c2 l1 l2).objs.size=h.objs.size+4/\IsZip (zhz h c1 c2 l1 l2) (h.objs.size+4) (h.objs.size+2) (h.objs.size+3) .none/\IsPair (zhz h c1 c2 l1 l2) (h.objs.size+2) (.ref h.objs.size) (.ref (h.objs.size+1))/\IsPair (zhz h c1 c2 l1 l2) (h.objs.size+3) .none .none/\
 (zhz h c1 c2 l1 l2).get? h.objs.size=some {cls:=.type c1,data:=.fields #[.ref l1,.int 0 0]}/\(zhz h c1 c2 l1 l2).get? (h.objs.size+1)=some {cls:=.type c2,data:=.fields #[.ref l2,.int 0 0]}/\∀b o,h.get? b=some o->(zhz h c1 c2 l1 l2).get? b=some o:=by
 have z1:(h.push {cls:=.type c1,data:=.fields #[.ref l1,.int 0 0]}).objs.size=h.objs.size+1:=Heap.size_push ..
 have z2:((h.push {cls:=.type c1,data:=.fields #[.ref l1,.int 0 0]}).push {cls:=.type c2,data:=.fields #[.ref l2,.int 0 0]}).objs.size=h.objs.size+2:=by rw[Heap.size_push,z1]
 have z3:(((h.push {cls:=.type c1,data:=.fields #[.ref l1,.int 0 0]}).push {cls:=.type c2,data:=.fields #[.ref l2,.int 0 0]}).push {cls:=.type "tuple",data:=.seq #[.ref h.objs.size,.ref (h.push {cls:=.type c1,data:=.fields #[.ref l1,.int 0 0]}).objs.size]}).objs.size=h.objs.size+3:=by rw[Heap.size_push,z2]
 have z4:(zh h c1 c2 l1 l2).objs.size=h.objs.size+4:=by rw[Heap.size_push,z3]
 have g5:=ZD (zh h c1 c2 l1 l2) (o:={cls:=.type "zip",data:=.fields #[.none,.bool false,.bool false,.ref ((h.push {cls:=.type c1,data:=.fields #[.ref l1,.int 0 0]}).push {cls:=.type c2,data:=.fields #[.ref l2,.int 0 0]}).objs.size,
  .ref (((h.push {cls:=.type c1,data:=.fields #[.ref l1,.int 0 0]}).push {cls:=.type c2,data:=.fields #[.ref l2,.int 0 0]}).push {cls:=.type "tuple",data:=.seq #[.ref h.objs.size,.ref (h.push {cls:=.type c1,data:=.fields #[.ref l1,.int 0 0]}).objs.size]}).objs.size]}) rfl
 have g4:(zhz h c1 c2 l1 l2).get? (((h.push {cls:=.type c1,data:=.fields #[.ref l1,.int 0 0]}).push {cls:=.type c2,data:=.fields #[.ref l2,.int 0 0]}).push {cls:=.type "tuple",data:=.seq #[.ref h.objs.size,.ref (h.push {cls:=.type c1,data:=.fields #[.ref l1,.int 0 0]}).objs.size]}).objs.size=some {cls:=.type "tuple",data:=.seq #[.none,.none]}:=ZC _ (ZD _ rfl)
 have g3:(zhz h c1 c2 l1 l2).get? ((h.push {cls:=.type c1,data:=.fields #[.ref l1,.int 0 0]}).push {cls:=.type c2,data:=.fields #[.ref l2,.int 0 0]}).objs.size=some {cls:=.type "tuple",data:=.seq #[.ref h.objs.size,.ref (h.push {cls:=.type c1,data:=.fields #[.ref l1,.int 0 0]}).objs.size]}:=ZC _ (ZC _ (ZD _ rfl))
 have g2:(zhz h c1 c2 l1 l2).get? (h.push {cls:=.type c1,data:=.fields #[.ref l1,.int 0 0]}).objs.size=some {cls:=.type c2,data:=.fields #[.ref l2,.int 0 0]}:=ZC _ (ZC _ (ZC _ (ZD _ rfl)))
 have g1:(zhz h c1 c2 l1 l2).get? h.objs.size=some {cls:=.type c1,data:=.fields #[.ref l1,.int 0 0]}:=ZC _ (ZC _ (ZC _ (ZC _ (ZD _ rfl))))
 rw[z2,z3,z4]at g5
 rw[z3]at g4
 rw[z1,z2]at g3
 rw[z1]at g2
 refine⟨z4,?_,g3,g4,g1,g2,λ b o e=>ZC _ (ZC _ (ZC _ (ZC _ (ZC _ e))))⟩
 show(zhz h c1 c2 l1 l2).get? _=_
 unfold zhz
 rw[z2,z3]
 exact g5
theorem Q5{pins:Pins}{σ:St}{H:Hp}{s:Shared}{elts:List Expr}{k:Nat}{tp:Pos}{R:It->Hp->Prop}{E:Value->Shared->Prop}{c1 c2:String}{l1 l2:Addr}(q r:SqKind X.prog X.w X.K)(I:Inv X pins σ H s)
 (hi:q.It (zhz s.heap c1 c2 l1 l2) s.heap.objs.size l1 0)(hj:r.It (zhz s.heap c1 c2 l1 l2) (s.heap.objs.size+1) l2 0)(rr:R (Itz q r l1 l2) H):
 wpAny (model X.prog X.w) X.A (pyIter (.ref (s.heap.objs.size+4))) (PIE X pins σ (.Tuple elts k tp) R) E {s with heap:=zhz s.heap c1 c2 l1 l2}:=by
 obtain⟨_,p1,p2,p3,_,_,kp⟩:=zip_parts s.heap c1 c2 l1 l2
 refine wpAny_pyIter_zip p1 ?_
 refine⟨s.heap.objs.size+4,[s.heap.objs.size+4,s.heap.objs.size+2,s.heap.objs.size+3,s.heap.objs.size,s.heap.objs.size+1],_,_,H,rfl,I.kept (t':=s.toks) kp,Lx q r l1 l2 (s.heap.objs.size+4) (s.heap.objs.size+2) (s.heap.objs.size+3) s.heap.objs.size (s.heap.objs.size+1) ?_,⟨p1,p2,⟨_,_,p3⟩,hi,hj⟩,λ b hb=>?_,rr⟩
 . constructor<;>exact λ z=>by have z':(_:Nat)=_:=z;omega
 . have hb':s.heap.objs.size≤b:=by
    simp only[List.mem_cons,List.not_mem_nil,or_false]at hb
    rcases hb with rfl | rfl | rfl | rfl | rfl
    . exact Nat.le_add_right _ _
    . exact Nat.le_add_right _ _
    . exact Nat.le_add_right _ _
    . exact x4 _
    . exact Nat.le_add_right _ _
   exact I.fpOk hb' (I.hok.fresh hb')
theorem Nv{e1 e2:Expr}{elts:List Expr}{k:Nat}{tp p:Pos}{W:List D->Store->Prop}(h:Ev X Γ S e1 λ d S1=>Ev X Γ S1 e2 λ d' S2=>∃ds es,d=.tup ds/\d'=.tup es/\W (List.zipWith (λ x y=>.tup [x,y]) ds es) S2)(hm:X.mg "zip"=none)(hg:Gl X "zip":=by rfl)
 (hs:starEach [e1,e2] X.env=(false,eval e1 X.env)::starEach [e2] X.env:=by rfl)(hs2:starEach [e2] X.env=[(false,eval e2 X.env)]:=by rfl):
 ItW X Γ S (.Tuple elts k tp) (.Call (.Name "zip" p) [e1,e2] [] pos) W:=by
 intro pins s σ H O I env st
 have hA:EvA X Γ S [e1,e2] λ dd S2=>∃ds es,dd=[.tup ds,.tup es]/\W (List.zipWith (λ x y=>.tup [x,y]) ds es) S2:=
  bI (h.mono λ d S1 h1=>bI (h1.mono λ d' S2 ⟨ds,es,a,b,w⟩=>d8 ⟨ds,es,by rw[a,b],w⟩) hs2) hs
 refine Call_ (bJ I hg hm boot_zip (PyProof.Rows.callWith_type1 (thn (hA pos pins s σ H O I env st) λ us s1 hq_=>?_) hs (by rw[hs2];rfl)))
 obtain⟨vs,H1,I1,r1,O1,dd,S1,⟨ds,es,ed,w⟩,st1,ok1,rep⟩:=hq_
 subst ed
 cases rep with
 | cons ra rb=>
   cases rb with
   | cons rb rc=>
     cases rc
     obtain⟨u,u2,rfl,ru,ru2⟩:=vals2 r1
     cases ra with
     | @tup a xs _ h1 q1=>
       cases rb with
       | @tup b ys _ h2 q2=>
         cases ru
         cases ru2
         obtain⟨its,rv,pl,hz⟩:=I1.tuple h1.sq
         obtain⟨its2,rv2,pl2,hz2⟩:=I1.tuple h2.sq
         obtain⟨z4,p1,p2,p3,p4,p5,kp⟩:=zip_parts s1.heap "tuple_iterator" "tuple_iterator" a b
         refine callType_new F.called_zip (by decide) (F.typeCall_zip_2 _ _) (F.newCall_zip_2 _ _) (λ obj=>F.args_object_init_3 obj _ _) F.entry_zip_new (J8 a b its.toArray its2.toArray) ⟨pl,pl2,?_⟩
         show _/\_
         rw[z4]
         refine⟨⟨_,p1,rfl⟩,Q5 (M7 X.prog X.w X.K) (M7 X.prog X.w X.K) I1 ⟨_,p4,rfl,rfl⟩ ⟨_,p5,rfl,rfl⟩ ⟨O1,_,S1,w,st1,ok1,Hl _ _ λ O' H' cv=>⟨xs,ys,(h1.conv cv).sq,q1.conv cv,(h2.conv cv).sq,q2.conv cv⟩⟩⟩
end
end DL
namespace DL
open PySem PySem.Spec L2
open PyProof.Rows
section
variable {X : Cx} {Γ : Gam} {S : Store} {e : Expr}
theorem VR{W:Option Int->Store->Prop}(h:Ev X Γ S e λ d S1=>∃i,d=.int i/\W (some i) S1):PoD X Γ S (some e) W:=h
theorem VJ{W:Option Int->Store->Prop}(h:W none S):PoD X Γ S none W:=h
theorem Um{c:Expr}{W:Bool->Store->Prop}(h:Ts X Γ S c W):TsA X Γ S [c] W:=h
end
theorem aD{α:Type}{xs:List α}{i:Nat}{x:α}(h:xs[i]? =some x):xs.take (i+1)=xs.take i++[x]:=by rw[List.take_add_one,h];rfl
theorem qd(d:D)(ds:List D):cutD (d::ds) (some 1) none=ds:=by
 unfold cutD
 have h1:HT.sIx (d::ds).length 0 (some 1)=1:=by
  have:=HT.sIx_nat (d::ds).length 0 1
  simp only[List.length_cons]at this ⊢
  have h2:((1:Nat):Int)=1:=rfl
  rw[h2]at this
  rw[this];omega
 rw[h1,HT.sIx_none]
 simp
theorem gA(ds:List D)(lo hi:Option Int):(cutD ds lo hi).length≤ds.length:=by
 unfold cutD
 rw[List.length_take,List.length_drop];omega
theorem rT{ds:List D}{k:Int}(h:0≤k):cutD ds none (some k)=ds.take k.toNat:=by
 unfold cutD
 rw[HT.sIx_none]
 have e:HT.sIx ds.length ds.length (some k)=min k.toNat ds.length:=by
  have:=HT.sIx_nat ds.length ds.length k.toNat
  rwa[Int.toNat_of_nonneg h]at this
 rw[e,List.drop_zero,Nat.sub_zero]
 rcases Nat.le_total k.toNat ds.length with q | q
 . rw[Nat.min_eq_left q]
 . rw[Nat.min_eq_right q,List.take_of_length_le (x4 _),List.take_of_length_le q]
theorem j8{ds:List D}{k:Int}(h:0≤k):cutD ds (some k) none=ds.drop k.toNat:=by
 unfold cutD
 rw[HT.sIx_none]
 have e:HT.sIx ds.length 0 (some k)=min k.toNat ds.length:=by
  have:=HT.sIx_nat ds.length 0 k.toNat
  rwa[Int.toNat_of_nonneg h]at this
 rw[e]
 rcases Nat.le_total k.toNat ds.length with q | q
 . rw[Nat.min_eq_left q,List.take_of_length_le (by rw[List.length_drop];omega)]
 . rw[Nat.min_eq_right q,List.drop_eq_nil_of_le (x4 _),List.drop_eq_nil_of_le q];simp
theorem ig{α:Type}{ds:List α}{v:Int}(h0:0≤v)(h1:v<ds.length):∃x,atI ds v=some x/\ds[v.toNat]? =some x:=by
 have hk:v.toNat<ds.length:=by omega
 refine⟨ds[v.toNat],?_,y4 hk⟩
 have q:=aA (xs:=ds) (j:=v.toNat) (y4 hk)
 rwa[Int.toNat_of_nonneg h0]at q
theorem kW{α:Type}(x:α)(xs:List α):atI (x::xs) 0=some x:=aA (xs:=x::xs) (j:=0) rfl
theorem set_get{S:Store}{k:Nat}{l l':List D}(h:S[k]? =some l):(S.set k l')[k]? =some l':=List.getElem?_set_self (y3.mp h).1
end DL
namespace RF
open PySem PySem.Spec L2 DL
open PyProof.Rows
open Builtin
theorem qj:fillsNumberSlot (.type "tuple") "mul"=pure false:=
 PySem.fillsNumberSlot_seq (id:="tuple.__mul__") (r:=some (.builtin "tuple.__rmul__")) F.slot_tuple_mul.lookup (by decide+kernel) F.slot_tuple_rmul.lookup (by decide+kernel)
theorem xG:seqRepeat? (.type "tuple")=pure (some (.builtin "tuple.__mul__")):=by
 unfold seqRepeat?
 rw[PySem.seqSlot_of (T:="tuple") (name:="__mul__") (id:="tuple.__mul__") F.slot_tuple_mul.lookup (by decide+kernel),PySem.seqSlot_of (T:="tuple") (name:="__rmul__") (id:="tuple.__rmul__") F.slot_tuple_rmul.lookup (by decide+kernel)]
 rfl
theorem t7(a:Int)(t:Tok)(l:Addr)(items:Array Value)(n:Nat)(dct:Option Addr)(sl:Array (Option Value)):
 Meets (Builtin.«int.__rmul__» ⟨[.int a t,.ref l],[]⟩) (λ _ R s=>s.heap.get? l=some {cls:=.type "tuple",dict:=dct,data:=.seq items n,slots:=sl}/\R (.ok (.ret Value.notImplemented)) s):=
 .of_wp λ prog w A R s h=>by obtain⟨hp,g,d,tk,os⟩:=s;obtain⟨hl,h⟩:=h;wp_walk;exact⟨_,rfl,h⟩
theorem uc(l:Addr)(items:Array Value)(n:Nat)(dct:Option Addr)(sl:Array (Option Value))(x:Int)(u:Tok)(h1:¬(decide (x< -(2 ^ 63))||decide (x≥2 ^ 63))=true)(hc:(items.isEmpty||x==1)=true):
 Meets (Builtin.«tuple.__mul__» ⟨[.ref l,.int x u],[]⟩) (λ _ R s=>s.heap.get? l=some {cls:=.type "tuple",dict:=dct,data:=.seq items n,slots:=sl}/\R (.ok (.ret (.ref l))) s):=
 .of_wp λ prog w A R s h=>by
  obtain⟨hp,g,d,tk,os⟩:=s;obtain⟨hl,h⟩:=h
  unfold Builtin.«tuple.__mul__»
  wp_walk
  rw[if_neg h1]
  wp_walk using AutoSeq1.wpAny_loadPart' hl
  try rw[if_pos hc]
  wp_walk using AutoSeq1.wpAny_loadPart' hl
  exact⟨_,rfl,h⟩
theorem t6(l:Addr)(items:Array Value)(n:Nat)(dct:Option Addr)(sl:Array (Option Value))(x:Int)(u:Tok)(h1:¬(decide (x< -(2 ^ 63))||decide (x≥2 ^ 63))=true)(hc:¬(items.isEmpty||x==1)=true)(h2:(decide (x≤0)||items.isEmpty)=true):
 Meets (Builtin.«tuple.__mul__» ⟨[.ref l,.int x u],[]⟩) (λ _ R s=>s.heap.get? l=some {cls:=.type "tuple",dict:=dct,data:=.seq items n,slots:=sl}/\R (.ok (.ret (.ref s.heap.objs.size))) {s with heap:=s.heap.push {cls:=.type "tuple",data:=.seq #[]}}):=
 .of_wp λ prog w A R s h=>by
  obtain⟨hp,g,d,tk,os⟩:=s;obtain⟨hl,h⟩:=h
  unfold Builtin.«tuple.__mul__»
  wp_walk
  rw[if_neg h1]
  wp_walk using AutoSeq1.wpAny_loadPart' hl
  try rw[if_neg hc]
  wp_walk using AutoSeq1.wpAny_loadPart' hl
  try rw[if_pos h2]
  wp_walk using AutoSeq1.wpAny_loadPart' hl
  exact⟨_,rfl,h⟩
theorem uA(l:Addr)(items:Array Value)(n:Nat)(dct:Option Addr)(sl:Array (Option Value))(x:Int)(u:Tok)(h1:¬(decide (x< -(2 ^ 63))||decide (x≥2 ^ 63))=true)(hc:¬(items.isEmpty||x==1)=true)(h2:¬(decide (x≤0)||items.isEmpty)=true)
 (h3:¬((items.size:Int)*x>(2 ^ 63-1)/8))(h4:¬Builtin.Tuple.tupleTooMany ((items.size:Int)*x)=true)(h5:((List.replicate x.toNat items).foldl (· ++·) #[]).size≤sizeLine):
 Meets (Builtin.«tuple.__mul__» ⟨[.ref l,.int x u],[]⟩) (λ _ R s=>s.heap.get? l=some {cls:=.type "tuple",dict:=dct,data:=.seq items n,slots:=sl}/\R (.ok (.ret (.ref s.heap.objs.size))) {s with heap:=s.heap.push {cls:=.type "tuple",data:=.seq ((List.replicate x.toNat items).foldl (· ++·) #[])}}):=
 .of_wp λ prog w A R s h=>by
  obtain⟨hp,g,d,tk,os⟩:=s;obtain⟨hl,h⟩:=h
  unfold Builtin.«tuple.__mul__»
  wp_walk
  rw[if_neg h1]
  wp_walk using AutoSeq1.wpAny_loadPart' hl
  try rw[if_neg hc]
  wp_walk using AutoSeq1.wpAny_loadPart' hl
  try rw[if_neg h2]
  wp_walk using AutoSeq1.wpAny_loadPart' hl
  try rw[if_neg h3]
  wp_walk using AutoSeq1.wpAny_loadPart' hl
  try rw[if_neg h4]
  wp_walk using AutoSeq1.wpAny_loadPart' hl
  exact⟨_,rfl,h⟩
theorem Reps.rep{K:PySem.W.Frag}{O:Own}{H:Hp}{vs:List V}{ds:List D}(r:Reps K O H vs ds):∀k:Nat,Reps K O H (List.replicate k vs).flatten (List.replicate k ds).flatten
 | 0=>.nil
 | k+1=>by
   rw[List.replicate_succ,List.replicate_succ,List.flatten_cons,List.flatten_cons]
   exact r.append (Reps.rep r k)
theorem Ti{X:Cx}{S:Store}{W:WD}{ds:List D}{k:Int}(hk: -(2 ^ 63)≤k/\k<2 ^ 63)(hz:ds.length*k.toNat≤1000000)(w:W (.tup (List.replicate k.toNat ds).flatten) S):dM X .Mult (.tup ds) (.int k) S W:=by
 intro pins s σ H O v w' u u' I st r1 r2 r3 r4
 cases r1 with
 | @tup a xs _ h1 q1=>
   cases r2
   cases r3
   obtain⟨t,rfl⟩:=r4
   obtain⟨its,v1,p1,_⟩:=I.tuple h1.sq
   obtain⟨⟨cls,dd,data,sl⟩,ho,hc,n,hd⟩:=id p1
   simp only at hc hd
   subst hc hd
   have l1:its.length=ds.length:=by rw[←v1.length,q1.length]
   have c1:¬(decide (k< -(2 ^ 63))||decide (k≥2 ^ 63))=true:=by
    rw[ZH (by omega),ZH (by omega)];decide
   have new:∀m:Nat,m=k.toNat->EP X pins σ (QG X.K O H W) (.ref s.heap.objs.size) {s with heap:=s.heap.push {cls:=.type "tuple",data:=.seq (List.replicate m its).flatten.toArray}}:=by
    rintro m rfl
    refine⟨.ref s.heap.objs.size,upd H s.heap.objs.size (.tup (List.replicate k.toNat xs).flatten),I.laid (t':=s.toks) (λ b u e=>ZC _ e) (x4 _) ?_,rfl,g8 w st I.fresh (Reps.rep q1 _)⟩
    exact⟨by rw[len_rep,q1.length,Nat.mul_comm];exact small hz,_,v1.rep _,⟨_,ZD _ rfl,rfl,_,rfl⟩⟩
   refine PySem.wpAny_binaryOp_repeat_ref (T:="tuple") (U:="int") (by decide) ⟨_,ho,rfl⟩ (λ s'=>typeIs_int s' k t) qj F.fills_int_mul F.slot_int_rmul xG F.slot_int_index.lookup
    (call_meets F.slot_int_rmul (typeIs_int s k t) F.entry_int_rmul (F.args_int_rmul_2 _ _) (t7 k t a its.toArray n dd sl) ⟨ho,rfl,⟨_,ho,rfl⟩,?_⟩)
   by_cases b1:(its.toArray.isEmpty||k==1)=true
   . refine call_meets F.slot_tuple_mul ⟨_,ho,rfl⟩ F.entry_tuple_mul (F.args_tuple_mul_2 _ _) (uc a its.toArray n dd sl k t c1 b1) ⟨ho,.ref a,H,I,rfl,?_⟩
     have e:(List.replicate k.toNat ds).flatten=ds:=by
      rw[Bool.or_eq_true]at b1
      rcases b1 with z | z
      . have:its=[]:=by simpa using z
        have:ds=[]:=by rw[this]at l1;simpa using l1.symm
        subst this
        simp
      . have:k=1:=ZI z
        subst this
        simp
     rw[e]at w
     exact QG.here w st (.tup h1 q1)
   . by_cases b2:(decide (k≤0)||its.toArray.isEmpty)=true
     . refine call_meets F.slot_tuple_mul ⟨_,ho,rfl⟩ F.entry_tuple_mul (F.args_tuple_mul_2 _ _) (t6 a its.toArray n dd sl k t c1 b1 b2) ⟨ho,?_⟩
       have h0:k.toNat=0:=by
        rw[Bool.or_eq_true]at b2
        rcases b2 with z | z
        . have:=ZF z;omega
        . exact absurd (by rw[z];rfl) b1
       have:=new 0 h0.symm
       exact this
     . have h0:0<k:=by
        cases z:decide (k≤0)with
        | true=>exact absurd (by rw[z];rfl) b2
        | false=>have:=of_decide_eq_false z;omega
       have ek:(its.toArray.size:Int)*k=((its.length*k.toNat:Nat):Int):=by
        rw[x6,Int.natCast_mul,Int.toNat_of_nonneg (by omega)]
       have fz:List.foldl (λ x1 x2=>x1++x2) #[] (List.replicate k.toNat its.toArray)=(List.replicate k.toNat its).flatten.toArray:=by
        have:=foldl_rep its k.toNat []
        rw[List.nil_append]at this
        exact this
       have big:its.length*k.toNat≤1000000:=by rw[l1];exact hz
       refine call_meets F.slot_tuple_mul ⟨_,ho,rfl⟩ F.entry_tuple_mul (F.args_tuple_mul_2 _ _) (uA a its.toArray n dd sl k t c1 b1 b2 (by rw[ek];omega) ?_ ?_) ⟨ho,?_⟩
       . rw[ek]
         have:(1000000:Nat)≤sizeLine:=by decide
         unfold Builtin.Tuple.tupleTooMany
         rw[decide_eq_true_eq]
         omega
       . rw[fz,x6,len_rep,Nat.mul_comm];exact small big
       . rw[fz]
         exact new _ rfl
end RF
namespace RF
open PySem PySem.Spec L2 DL
open PyProof.Rows
variable {W : WD}
set_option genInjectivity false in
structure Wd where
 P:Program
 w:World
 K:PySem.W.Frag
 mg:Str->Option Value
 base:Heap
noncomputable abbrev Nm:=List (Str×NameKind)
structure At(Ω:Wd)(X:Cx)(r:Nat)(top:Bool)(N:List Str)(nm:Nm):Prop where
 p:X.prog=Ω.P
 w:X.w=Ω.w
 k:X.K=Ω.K
 g:X.mg=Ω.mg
 b:X.base=Ω.base
 room:Room r X.A
 xe:X.xe=λ _ _=>False
 calm:X.calm=true
 n:X.N=N
 nd:N.Nodup
 kind:X.env.scope.kind=.function
 look:∀x k,nm.lookup x=some k->X.env.kindOf x=some k∨(k=.free/\X.env.kindOf x=some .cell)
 fn:∀x,nm.lookup x=some .cell->X.fn x=true
noncomputable def vis(nm:Nm)(x:Str):Bool:=match nm.lookup x with | some .local=>true | some .cell=>true | some .free=>true | _=>false
noncomputable def lcl(top:Bool)(nm:Nm)(x:Str):Bool:=match nm.lookup x with | some .local=>true | some .cell=>true | _=>false
noncomputable def glb(nm:Nm)(x:Str):Bool:=nm.lookup x==some .globalImplicit
noncomputable def okN(x:Str):Bool:=!(x==("__debug__":Str))&&(!(x==("__classdict__":Str))&& !(x==("__name__":Str)))
noncomputable def okE:Expr->Bool
 | .Starred .. =>false | .Set .. =>false | .Slice .. =>false | _=>true
noncomputable def noC:Expr->Bool
 | .ListComp .. =>false | .SetComp .. =>false | .DictComp .. =>false | _=>true
noncomputable def Ml:Expr->Bool
 | .UnaryOp .. =>false | .BoolOp .. =>false | .IfExp .. =>false | .Compare .. =>false | _=>true
theorem aa{a b:Bool}(h:(a&&b)=true):a=true/\b=true:=by cases a<;>cases b<;>first | exact⟨rfl,rfl⟩ | exact(y7 h).elim
theorem nt{a:Bool}(h:(!a)=true):a=false:=by cases a<;>first | rfl | exact(y7 h).elim
theorem iG{x:Str}(h:okN x=true):(x==("__debug__":Str))=false/\(x==("__classdict__":Str))=false/\x≠"__name__":=by
 obtain⟨h1,h2⟩:=aa h
 obtain⟨h2,h3⟩:=aa h2
 exact⟨nt h1,nt h2,λ e=>by rw[e]at h3;simp at h3⟩
section
variable {Ω : Wd} {X : Cx} {r : Nat} {top : Bool} {N : List Str} {nm : Nm} {x : Str}
theorem At.vis(A:At Ω X r top N nm)(h:RF.vis nm x=true):Vis X.env.scope x:=by
 unfold RF.vis at h
 cases e:nm.lookup x with
 | none=>rw[e]at h;cases h
 | some k=>
   rw[e]at h
   have q:=A.look x k e
   cases k with
   | «local»=>rcases q with q | ⟨q,_⟩;exact .inl q;exact nomatch q
   | cell=>rcases q with q | ⟨q,_⟩;exact .inr (.inl q);exact nomatch q
   | free=>rcases q with q | ⟨_,q⟩;exact .inr (.inr q);exact .inr (.inl q)
   | _=>exact(y7 h).elim
theorem At.lcl(A:At Ω X r top N nm)(h:RF.lcl top nm x=true):Loc X.env.scope x/\(X.fn x=true∨X.env.scope.names.lookup x=some .local):=by
 unfold RF.lcl at h
 cases e:nm.lookup x with
 | none=>rw[e]at h;cases h
 | some k=>
   rw[e]at h
   have q:=A.look x k e
   cases k with
   | «local»=>rcases q with q | ⟨q,_⟩;exact⟨.inl q,.inr q⟩;exact nomatch q
   | cell=>rcases q with q | ⟨q,_⟩;exact⟨.inr q,.inl (A.fn x e)⟩;exact nomatch q
   | _=>exact(y7 h).elim
theorem At.glb(A:At Ω X r top N nm)(h:RF.glb nm x=true):Gl X x:=by
 have e:nm.lookup x=some .globalImplicit:=ZI h
 rcases A.look x _ e with q | ⟨q,_⟩
 . exact q
 . exact nomatch q
end
theorem aB{e:Expr}(h:okE e=true)(es:List Expr)(env:Env):starEach (e::es) env=(false,eval e env)::starEach es env:=by
 cases e<;>first | rfl | exact(y7 h).elim
theorem tu:∀{es:List Expr}(_:es.all okE=true)(pos:Pos)(env:Env),(backTo pos (starEach es env)).any (·.1)=false
 | [],_,_,_=>rfl
 | e::es,h,pos,env=>by
   rw[List.all_cons]at h
   obtain⟨h1,h2⟩:=aa h
   rw[aB h1]
   show(false||(backTo pos (starEach es env)).any (·.1))=false
   rw[tu h2];rfl
theorem fu{op:CmpOp}{e:Expr}(h:okE e=true):behindInMarks op e=false:=by
 cases e<;>first | rfl | exact(y7 h).elim
theorem Av{e:Expr}(h:okE e=true):DY e:=by
 intro _ _
 cases e<;>first | rfl | exact(y7 h).elim
theorem jL{e:Expr}(h:okE e=true)(env:Env):∀x,foldedSetIterable e env x=pure x:=by
 intro x
 cases e<;>first | rfl | exact(y7 h).elim
theorem kj{e:Expr}(h:noC e=true)(t:Option Expr)(l:Nat)(env:Env):swapsWith e t l env=pure false:=by
 cases e<;>first | rfl | exact(y7 h).elim
theorem Hx{e:Expr}(h:Ml e=true)(env:Env):∀whole,isTrue e env whole=(do let v ←whole;standAt e.pos;holding [v] (truthy v)):=by
 intro w
 cases e<;>first | rfl | exact(y7 h).elim
section
variable {X : Cx} {Γ : Gam} {S : Store} {e : Expr} {es : List Expr}
theorem EvA.mono{W W':List D->Store->Prop}(h:EvA X Γ S es W)(k:∀ds S',W ds S'->W' ds S'):EvA X Γ S es W':=λ pos pins s σ H O I env st=>
 thn (h pos pins s σ H O I env st) λ _ _ ⟨v,H',I',r,O',d,S',w,q⟩=>⟨v,H',I',r,O',d,S',k d S' w,q⟩
theorem Ts.mono{W W':Bool->Store->Prop}(h:Ts X Γ S e W)(k:∀c S',W c S'->W' c S'):Ts X Γ S e W':=λ pins s σ H O I env st=>
 thn (h pins s σ H O I env st) λ _ _ ⟨H',I',O',S',w,q⟩=>⟨H',I',O',S',k _ S' w,q⟩
theorem BdW.mono{d:D}{W W':Gam->Store->Prop}(h:BdW X e d Γ S W)(k:∀G S',W G S'->W' G S'):BdW X e d Γ S W':=λ pins s σ H O v u I env st r ru=>
 thn (h pins s σ H O v u I env st r ru) λ _ _ ⟨σ',H',I',O',G,S',w,q⟩=>⟨σ',H',I',O',G,S',k G S' w,q⟩
theorem ItW.mono{tg:Expr}{W W':List D->Store->Prop}(h:ItW X Γ S tg e W)(k:∀ds S',W ds S'->W' ds S'):ItW X Γ S tg e W':=λ pins s σ H O I env st=>
 thn (h pins s σ H O I env st) λ _ _ q=>thn q λ _ _ ⟨it,fp,tn,J,H',e1,e2,e3,e4,e5,O',ds,S',w,z⟩=>⟨it,fp,tn,J,H',e1,e2,e3,e4,e5,O',ds,S',k ds S' w,z⟩
theorem Rc{pins:Pins}{O:Own}{H:Hp}{W W':DL.Fin}(h1:∀G S,W.nx G S->W'.nx G S)(h2:∀d S,W.rt d S->W'.rt d S)(h3:∀G S,W.bk G S->W'.bk G S)(h4:∀G S,W.ct G S->W'.ct G S){f:Flow}{s':Shared}(q:SP X pins (ends X.K O H W) f s'):SP X pins (ends X.K O H W') f s':=by
 cases f with
 | next=>obtain⟨σ,H',I,O',G,S',w,q⟩:=q;exact⟨σ,H',I,O',G,S',h1 _ _ w,q⟩
 | brk=>obtain⟨σ,H',I,O',G,S',w,q⟩:=q;exact⟨σ,H',I,O',G,S',h3 _ _ w,q⟩
 | cont=>obtain⟨σ,H',I,O',G,S',w,q⟩:=q;exact⟨σ,H',I,O',G,S',h4 _ _ w,q⟩
 | ret u=>obtain⟨v,σ,H',I,r,O',d,S',w,q⟩:=q;exact⟨v,σ,H',I,r,O',d,S',h2 _ _ w,q⟩
theorem Rn.mono{st:Stmt}{W W':DL.Fin}(h:Rn X Γ S st W)(h1:∀G S,W.nx G S->W'.nx G S)(h2:∀d S,W.rt d S->W'.rt d S)(h3:∀G S,W.bk G S->W'.bk G S)(h4:∀G S,W.ct G S->W'.ct G S):Rn X Γ S st W':=λ pins s σ H O I env ok=>
 thn (h pins s σ H O I env ok) λ _ _ q=>Rc h1 h2 h3 h4 q
theorem HW{a b c:Expr}{op op':CmpOp}{pos:Pos}{W:Bool->Store->Prop}(h:Ev X Γ S a λ x S1=>Ev X Γ S1 b λ y S2=>bz X op x y S2 (asB λ k S3=>(k=false->W false S3)/\(k=true->Ev X Γ S3 c λ t S4=>bz X op' y t S4 (asB W))))
 (hm:lastMarks [op,op'] [b,c]=false):Ts X Γ S (.Compare a [op,op'] [b,c] pos) W:=by
 intro pins s σ H O I env st
 refine isTrue_chain (rs:=[]) (thn (h pins s σ H O I env st) λ u s1 hq_=>?_) hm
 obtain⟨v,H1,I1,r1,O1,x,S1,hb,st1,ok1,rep1⟩:=hq_
 refine test_link (thn (hb pins s1 σ H1 O1 I1 (env.mono st1) ok1) λ u' s2 hq_=>?_)
 obtain⟨w,H2,I2,r2,O2,y,S2,hw,st2,ok2,rep2⟩:=hq_
 refine thn (hw pins s2 σ H2 O2 v w u u' I2 ok2 (rep1.mono st2) rep2 r1 r2) λ _ s3 hq_=>?_
 obtain⟨z,H3,I3,r3,O3,d3,S3,⟨k,hd,k1,k2⟩,st3,ok3,rep3⟩:=hq_
 subst hd
 cases rep3
 cases r3
 refine wpAny_truthy_bool ?_
 cases k with
 | false=>exact ite_ff ⟨H3,I3,O3,S3,k1 rfl,(st1.trans st2).trans st3,ok3⟩
 | true=>
   refine ite_tt (test_last (thn (k2 rfl pins s3 σ H3 O3 I3 (((env.mono st1).mono st2).mono st3) ok3) λ u4 s4 hq_=>?_))
   obtain⟨w4,H4,I4,r4,O4,t,S4,h4,st4,ok4,rep4⟩:=hq_
   refine thn (h4 pins s4 σ H4 O4 w w4 u' u4 I4 ok4 ((rep2.mono st3).mono st4) rep4 r2 r4) λ _ s5 hq_=>?_
   obtain⟨z5,H5,I5,r5,O5,d5,S5,⟨k,hd,w5⟩,st5,ok5,rep5⟩:=hq_
   subst hd
   cases rep5
   cases r5
   exact wpAny_truthy_bool ⟨H5,I5,O5,S5,w5,(((st1.trans st2).trans st3).trans st4).trans st5,ok5⟩
end
noncomputable def bII(x y:D)(k:Int->Int->Prop):Prop:=match x with
 | .int i=>(match y with
   | .int j=>k i j
   | _=>False)
 | _=>False
theorem d7{x y:D}{k:Int->Int->Prop}(h:bII x y k):∃i j,x=.int i/\y=.int j/\k i j:=by
 cases x<;>first | exact h.elim | (cases y<;>first | exact h.elim | exact⟨_,_,rfl,rfl,h⟩)
noncomputable def bTu(x:D)(k:List D->Prop):Prop:=match x with
 | .tup a=>k a
 | _=>False
theorem tY{x:D}{k:List D->Prop}(h:bTu x k):∃a,x=.tup a/\k a:=by cases x<;>first | exact h.elim | exact⟨_,rfl,h⟩
noncomputable def bLs(x:D)(k:List D->Prop):Prop:=match x with
 | .lst a=>k a
 | _=>False
theorem DR{x:D}{k:List D->Prop}(h:bLs x k):∃a,x=.lst a/\k a:=by cases x<;>first | exact h.elim | exact⟨_,rfl,h⟩
noncomputable def bIn(x:D)(k:Int->Prop):Prop:=match x with
 | .int a=>k a
 | _=>False
theorem Qn{x:D}{k:Int->Prop}(h:bIn x k):∃a,x=.int a/\k a:=by cases x<;>first | exact h.elim | exact⟨_,rfl,h⟩
noncomputable def K4(x:D)(a b c:Prop):Prop:=match x with
 | .int _=>a
 | .tup _=>b
 | _=>c
theorem xF{x:D}{a b c:Prop}(h:K4 x a b c):a∨b∨c:=by cases x<;>first | exact .inl h | exact .inr (.inl h) | exact .inr (.inr h)
noncomputable def Oc(op:Operator)(x y:D)(S:Store)(W:WD):Prop:=match op with
 | .Add=>K4 x (bII x y λ i j=>W (.int (i+j)) S) (bTu x λ a=>bTu y λ b=>a.length+b.length≤1000000/\W (.tup (a++b)) S) (bLs x λ a=>bLs y λ b=>a.length+b.length≤1000000/\W (.lst (a++b)) S)
 | .Sub=>bII x y λ i j=>W (.int (i-j)) S
 | .Mult=>K4 x (bII x y λ i j=>CMul i j/\W (.int (i*j)) S) (bTu x λ a=>bIn y λ n=>(-(2 ^ 63)≤n/\n<2 ^ 63)/\a.length*n.toNat≤1000000/\W (.tup (List.replicate n.toNat a).flatten) S) False
 | .Mod=>bII x y λ i j=>0<j/\W (.int (i % j)) S
 | .FloorDiv=>bII x y λ i j=>(0<j/\j<1073741824)/\W (.int (i/j)) S
 | .Pow=>bII x y λ i j=>CPow i j/\W (.int (i ^ j.toNat)) S
 | _=>False
theorem Ly{X:Cx}{op:Operator}{x y:D}{S:Store}(h:Oc op x y S W):dM X op x y S W:=by
 cases op<;>first | exact(show False from h).elim | skip
 . rcases xF h with h | h | h
   . obtain⟨i,j,rfl,rfl,h⟩:=d7 h;exact Vd h
   . obtain⟨a,rfl,h1⟩:=tY h;obtain⟨b,rfl,h2⟩:=tY h1;exact RJ h2.1 h2.2
   . obtain⟨a,rfl,h1⟩:=DR h;obtain⟨b,rfl,h2⟩:=DR h1;exact Sh h2.1 h2.2
 . obtain⟨i,j,rfl,rfl,h⟩:=d7 h;exact Up h
 . rcases xF h with h | h | h
   . obtain⟨i,j,rfl,rfl,h⟩:=d7 h;exact Vf h.1 h.2
   . obtain⟨a,rfl,h1⟩:=tY h;obtain⟨b,rfl,h2⟩:=Qn h1;exact Ti h2.1 h2.2.1 h2.2.2
   . exact h.elim
 all_goals obtain⟨i,j,rfl,rfl,h⟩:=d7 h
 all_goals first | exact Ug h.1 h.2 | exact TY h.1 h.2 | exact UT h.1 h.2
noncomputable def Gg(x y:D)(S:Store)(W:WD):Prop:=match x,y with
 | .tup ds,.int i=>∃d,atI ds i=some d/\W d S
 | .lst ds,.int i=>∃d,atI ds i=some d/\W d S
 | .loc k,.int i=>∃ds d,S[k]? =some ds/\atI ds i=some d/\W d S
 | _,_=>False
theorem Oe{X:Cx}{a b:Expr}{x y:D}{S:Store}(h:Gg x y S W):IxW X a b x y S W:=by
 unfold Gg at h
 split at h
 . obtain⟨d,h1,h2⟩:=h;exact Vi h1 h2
 . obtain⟨d,h1,h2⟩:=h;exact Vn h1 h2
 . obtain⟨ds,d,h1,h2,h3⟩:=h;exact Uu h1 h2 h3
 . exact h.elim
noncomputable def Ng(x:D)(l h:Option Int)(S:Store)(W:WD):Prop:=match x with
 | .tup ds=>W (.tup (cutD ds l h)) S
 | .lst ds=>W (.lst (cutD ds l h)) S
 | .loc k=>∃ds,S[k]? =some ds/\W (.lst (cutD ds l h)) S
 | _=>False
theorem Uw{X:Cx}{S:Store}{k:Nat}{ds:List D}{lo hi:Option Int}(hk:S[k]? =some ds)(w:W (.lst (cutD ds lo hi)) S):SlW X (.loc k) lo hi S W:=by
 intro pins s σ H O v u vl vu sl I st r1 r3 hs pl pu
 cases r1 with
 | @loc p _ h1=>
   obtain⟨xs,hx,q1⟩:=st.obj k p ds h1 hk
   exact Do pins s σ H _ u vl vu lo hi sl _ I r3 hs pl pu ⟨p,xs,rfl,SqL.of hx,λ p' hp=>eF w st hp (ue q1 lo hi)⟩
theorem PT{X:Cx}{x:D}{l r:Option Int}{S:Store}(h:Ng x l r S W):SlW X x l r S W:=by
 unfold Ng at h
 split at h
 . exact Ur h
 . exact Ut h
 . obtain⟨ds,h1,h2⟩:=h;exact Uw h1 h2
 . exact h.elim
inductive Ty where
 | int | bool | tuple | list
 deriving DecidableEq
noncomputable def Ty.id:Ty->String
 | .int=>"int" | .bool=>"bool" | .tuple=>"tuple" | .list=>"list"
noncomputable def Ty.nm:Ty->Str
 | .int=>"int" | .bool=>"bool" | .tuple=>"tuple" | .list=>"list"
noncomputable def isD:Ty->D->Bool
 | .int,.int _=>true | .int,.bl _=>true | .bool,.bl _=>true | .tuple,.tup _=>true | .list,.lst _=>true | .list,.loc _=>true | _,_=>false
theorem TJ(T:Ty)(x:D):isi (tyD x) T.id=isD T x:=by cases T<;>cases x<;>rfl
theorem Ty.isT(T:Ty):DL.isT T.id=true:=by cases T<;>rfl
theorem Ty.boot(T:Ty):bootBuiltins T.nm=some (.type T.id):=by cases T<;>decide+kernel
theorem Ty.ok(T:Ty):(T.nm==("__debug__":Str))=false/\T.nm≠"__name__":=by cases T<;>decide+kernel
end RF
namespace RF
open PySem PySem.Spec L2 DL
open PyProof.Rows
variable {ds : List D} {S : Store} {x y : D} {W : Bool -> Store -> Prop}
mutual
noncomputable def eqD:D->D->Bool
 | .non,.non=>true
 | .bl a,.bl b=>a==b
 | .int a,.int b=>a==b
 | .bl a,.int b=>(if a then 1 else 0)==b
 | .int a,.bl b=>a==(if b then 1 else 0)
 | .str a,.str b=>a==b
 | .tup a,.tup b=>cA a b
 | .lst a,.lst b=>cA a b
 | .dic,.dic=>true
 | _,_=>false
noncomputable def cA:List D->List D->Bool
 | [],[]=>true
 | a::as,b::bs=>eqD a b&&cA as bs
 | _,_=>false
end
mutual
noncomputable def okD:D->Bool
 | .tup ds=>bN ds
 | .lst ds=>bN ds
 | .loc _=>false
 | .dic=>false
 | .dlo _=>false
 | _=>true
noncomputable def bN:List D->Bool
 | []=>true
 | d::ds=>okD d&&bN ds
end
mutual
inductive Sn(K:PySem.W.Frag)(H:Hp):V->D->Prop
 | non:Sn K H .non .non
 | bl(b:Bool):Sn K H (.bl b) (.bl b)
 | int(i:Int):Sn K H (.int i) (.int i)
 | str(x:Str):Sn K H (.str x) (.str x)
 | tup{a:Addr}{xs:List V}{ds:List D}(h:SqT K H a xs)(r:Sns K H xs ds):Sn K H (.ref a) (.tup ds)
 | lst{a:Addr}{xs:List V}{ds:List D}(h:SqL K H a xs)(r:Sns K H xs ds):Sn K H (.ref a) (.lst ds)
inductive Sns(K:PySem.W.Frag)(H:Hp):List V->List D->Prop
 | nil:Sns K H [] []
 | cons{v:V}{d:D}{vs:List V}{ds:List D}(r:Sn K H v d)(t:Sns K H vs ds):Sns K H (v::vs) (d::ds)
end
section
variable {K : PySem.W.Frag} {H : Hp} {O : Own}
theorem Sns.length:∀{vs:List V}{ds:List D},Sns K H vs ds->vs.length=ds.length
 | _,_,.nil=>rfl
 | _,_,.cons _ t=>by simp[Sns.length t]
theorem Sns.get:∀{vs:List V}{ds:List D}{i:Nat}{d:D},Sns K H vs ds->ds[i]? =some d->∃v,vs[i]? =some v/\Sn K H v d
 | _,_,_,_,.nil,e=>by simp at e
 | _,_,0,_,.cons r _,e=>by simp at e;subst e;exact⟨_,rfl,r⟩
 | _,_,i+1,d,.cons _ t,e=>by
   obtain⟨v,h1,h2⟩:=Sns.get (i:=i) (d:=d) t (by simpa using e)
   exact⟨v,by simpa using h1,h2⟩
mutual
theorem yr:∀{v:V}{d:D},okD d=true->Rep K O H v d->Sn K H v d
 | _,_,_,.non=>.non
 | _,_,_,.bl b=>.bl b
 | _,_,_,.int i=>.int i
 | _,_,_,.str x=>.str x
 | _,_,h,.tup h1 r=>.tup h1.sq (jC (by simpa[okD]using h) r)
 | _,_,h,.lst h1 r=>.lst h1.sq (jC (by simpa[okD]using h) r)
 | _,_,h,.loc _=>by simp[okD]at h
 | _,_,h,.dic _ _=>by simp[okD]at h
 | _,_,h,.dlo _=>by simp[okD]at h
theorem jC:∀{vs:List V}{ds:List D},bN ds=true->Reps K O H vs ds->Sns K H vs ds
 | _,_,_,.nil=>.nil
 | _,_,h,.cons r t=>by
   simp only[bN,Bool.and_eq_true]at h
   exact .cons (yr h.1 r) (jC h.2 t)
end
end
section
variable {X : Cx} {pins : Pins} {s : Shared} {σ : DL.St} {H : Hp}
mutual
theorem sE(I:Inv X pins σ H s):∀{v:V}{x y:D},Sn X.K H v x->Sn X.K H v y->x=y
 | _,_,_,.non,b=>by cases b;rfl
 | _,_,_,.bl _,b=>by cases b;rfl
 | _,_,_,.int _,b=>by cases b;rfl
 | _,_,_,.str _,b=>by cases b;rfl
 | _,_,_,.tup h r,b=>by
   cases b with
   | tup h' r'=>
     have e:=I.tuple_inj h h'
     subst e
     rw[uB I r r']
   | lst h' r'=>
     exfalso
     obtain⟨its,_,⟨o,h2,h3,_⟩,_⟩:=I.tuple h
     obtain⟨its2,_,pl,_⟩:=I.list h'
     obtain⟨o',h2',h3',_⟩:=pl.isList
     rw[h2]at h2'
     cases h2'
     rw[h3]at h3'
     exact absurd h3' (by decide)
 | _,_,_,.lst h r,b=>by
   cases b with
   | lst h' r'=>
     have e:=I.list_inj h h'
     subst e
     rw[uB I r r']
   | tup h' r'=>
     exfalso
     obtain⟨its,_,⟨o,h2,h3,_⟩,_⟩:=I.tuple h'
     obtain⟨its2,_,pl,_⟩:=I.list h
     obtain⟨o',h2',h3',_⟩:=pl.isList
     rw[h2]at h2'
     cases h2'
     rw[h3]at h3'
     exact absurd h3' (by decide)
theorem uB(I:Inv X pins σ H s):∀{vs:List V}{xs ys:List D},Sns X.K H vs xs->Sns X.K H vs ys->xs=ys
 | _,_,_,.nil,b=>by cases b;rfl
 | _,_,_,.cons r t,b=>by
   cases b with
   | cons r' t'=>rw[sE I r r',uB I t t']
end
end
mutual
theorem kI:∀(x:D),aq x=true->eqD x x=true
 | .non,_=>by simp[eqD]
 | .bl _,_=>by simp[eqD]
 | .int _,_=>by simp[eqD]
 | .str _,_=>by simp[eqD]
 | .tup ds,h=>by simp only[eqD];exact m7 ds (by simpa[aq]using h)
 | .lst ds,h=>by simp only[eqD];exact m7 ds (by simpa[aq]using h)
 | .loc _,h=>by simp[aq]at h
 | .dic,_=>by simp[eqD]
theorem m7:∀(xs:List D),ak xs=true->cA xs xs=true
 | [],_=>by simp[cA]
 | d::ds,h=>by
   simp only[ak,Bool.and_eq_true]at h
   simp only[cA,Bool.and_eq_true]
   exact⟨kI d h.1,m7 ds h.2⟩
end
mutual
theorem Nh:∀(x:D),okD x=true->aq x=true
 | .non,_=>by simp[aq]
 | .bl _,_=>by simp[aq]
 | .int _,_=>by simp[aq]
 | .str _,_=>by simp[aq]
 | .tup ds,h=>by simp only[aq];exact nM ds (by simpa[okD]using h)
 | .lst ds,h=>by simp only[aq];exact nM ds (by simpa[okD]using h)
 | .loc _,h=>by simp[okD]at h
 | .dic,h=>by simp[okD]at h
 | .dlo _,h=>by simp[okD]at h
theorem nM:∀(xs:List D),bN xs=true->ak xs=true
 | [],_=>by simp[ak]
 | d::ds,h=>by
   simp only[bN,Bool.and_eq_true]at h
   simp only[ak,Bool.and_eq_true]
   exact⟨Nh d h.1,nM ds h.2⟩
end
noncomputable abbrev eqJ(ds es:List D)(j:Nat):Bool:=eqD (ds.getD j .non) (es.getD j .non)
theorem MJ(d e:D)(ds es:List D):(eqJ (d::ds) (e::es)) ∘ Nat.succ=eqJ ds es:=by
 funext j;simp[eqJ,List.getD]
theorem lz:∀(ds es:List D),((List.range (min ds.length es.length)).all (eqJ ds es)&&ds.length==es.length)=cA ds es
 | [],[]=>by simp[cA]
 | [],e::es=>by simp[cA]
 | d::ds,[]=>by simp[cA]
 | d::ds,e::es=>by
   have ih:=lz ds es
   have h1:min (d::ds).length (e::es).length=min ds.length es.length+1:=by simp only[List.length_cons];omega
   rw[h1,List.range_succ_eq_map,List.all_cons,List.all_map,MJ]
   have h2:((d::ds).length==(e::es).length)=(ds.length==es.length):=by simp
   have h3:eqJ (d::ds) (e::es) 0=eqD d e:=by simp[eqJ,List.getD]
   rw[h2,h3,Bool.and_assoc,ih]
   simp only[cA]
theorem Lr{es:List D}(h:ds.length=es.length):(List.range ds.length).all (eqJ ds es)=cA ds es:=by
 rw[←lz ds es,←h,Nat.min_self,beq_self_eq_true,Bool.and_true]
theorem QB{es:List D}(h:ds.length≠es.length):cA ds es=false:=by
 rw[←lz ds es]
 have:(ds.length==es.length)=false:=by simpa using h
 rw[this,Bool.and_false]
section
variable {X : Cx}
theorem oU{n:Nat}(ih:∀(x y:D),deep x≤n->∀{pins:Pins}{s:Shared}{σ:DL.St}{H:Hp}{v w:V}{u u':Value}{A:Around},Inv X pins σ H s->Sn X.K H v x->Sn X.K H w y->RelV v u->RelV w u'->A.units+n<cLine->SeqAt.EqAt A s u u' (eqD x y))
 (x y:D)(hx:deep x≤n+1){pins:Pins}{s:Shared}{σ:DL.St}{H:Hp}{v w:V}{u u':Value}{A:Around}(I:Inv X pins σ H s)(r1:Sn X.K H v x)(r2:Sn X.K H w y)(ru:RelV v u)(ru':RelV w u')(hu:A.units+(n+1)<cLine):
 SeqAt.RcAt A s u u' (eqD x y)/\SeqAt.RcNeAt A s u u' (!eqD x y):=by
 have hu0:A.units<cLine:=by omega
 have part:∀{ds es:List D}{xs ys:List V}{its its2:List Value},aY ds≤n->Sns X.K H xs ds->Sns X.K H ys es->Vals xs its->Vals ys its2->∀j(h1:j<its.toArray.size)(h2:j<its2.toArray.size),SeqAt.EqAt A.in1 s its.toArray[j] its2.toArray[j] (eqJ ds es j):=by
  intro ds es xs ys its its2 hd q1 q2 v1 v2 j j1 j2
  have l1:its.length=ds.length:=by rw[←v1.length,q1.length]
  have l2:its2.length=es.length:=by rw[←v2.length,q2.length]
  have hj:j<ds.length:=by simpa[l1]using j1
  have hj2:j<es.length:=by simpa[l2]using j2
  obtain⟨z1,a1,b1⟩:=q1.get (y4 hj)
  obtain⟨z2,a2,b2⟩:=q2.get (y4 hj2)
  obtain⟨u1,c1,d1⟩:=v1.get a1
  obtain⟨u2,c2,d2⟩:=v2.get a2
  have e1:its.toArray[j]=u1:=by have:=(y3.mp c1).2;simpa using this
  have e2:its2.toArray[j]=u2:=by have:=(y3.mp c2).2;simpa using this
  rw[e1,e2]
  have e3:eqJ ds es j=eqD ds[j] es[j]:=by simp[eqJ,List.getD,hj,hj2]
  rw[e3]
  have hd':=dW (y4 hj)
  exact ih ds[j] es[j] (by omega) I b1 b2 d1 d2 (by show A.units+1+n<cLine;omega)
 cases r1 with
 | non=>
   cases ru
   cases r2 with
   | non=>cases ru';exact⟨SeqAt.RcAt.none_none,SeqAt.RcNeAt.none_none⟩
   | bl b=>cases ru';exact⟨SeqAt.RcAt.none_bool b,SeqAt.RcNeAt.none_bool b⟩
   | int i=>obtain⟨t',rfl⟩:=ru';exact⟨SeqAt.RcAt.none_int i t',SeqAt.RcNeAt.none_int i t'⟩
   | str i=>obtain⟨t',rfl⟩:=ru';exact⟨SeqAt.RcAt.none_str i t',SeqAt.RcNeAt.none_str i t'⟩
   | tup h2 q2=>
     cases ru';obtain⟨its2,v2,p2,_⟩:=I.tuple h2
     exact⟨SeqAt.RcAt.none_tuple (show s.heap.IsTuple _ its2.toArray from p2) hu0,SeqAt.RcNeAt.none_tuple (show s.heap.IsTuple _ its2.toArray from p2) hu0⟩
   | lst h2 q2=>
     cases ru';obtain⟨its2,v2,p2,_⟩:=I.list h2
     exact⟨SeqAt.RcAt.none_list p2.isList hu0,SeqAt.RcNeAt.none_list p2.isList hu0⟩
 | bl a=>
   cases ru
   cases r2 with
   | non=>cases ru';exact⟨SeqAt.RcAt.bool_none a,SeqAt.RcNeAt.bool_none a⟩
   | bl b=>cases ru';exact⟨SeqAt.RcAt.bool_bool a b,SeqAt.RcNeAt.bool_bool a b⟩
   | int i=>obtain⟨t',rfl⟩:=ru';exact⟨SeqAt.RcAt.bool_int a i t',SeqAt.RcNeAt.bool_int a i t'⟩
   | str i=>obtain⟨t',rfl⟩:=ru';exact⟨SeqAt.RcAt.bool_str a i t',SeqAt.RcNeAt.bool_str a i t'⟩
   | tup h2 q2=>
     cases ru';obtain⟨its2,v2,p2,_⟩:=I.tuple h2
     exact⟨SeqAt.RcAt.bool_tuple a (show s.heap.IsTuple _ its2.toArray from p2) hu0,SeqAt.RcNeAt.bool_tuple a (show s.heap.IsTuple _ its2.toArray from p2) hu0⟩
   | lst h2 q2=>
     cases ru';obtain⟨its2,v2,p2,_⟩:=I.list h2
     exact⟨SeqAt.RcAt.bool_list a p2.isList hu0,SeqAt.RcNeAt.bool_list a p2.isList hu0⟩
 | int a=>
   obtain⟨t,rfl⟩:=ru
   cases r2 with
   | non=>cases ru';exact⟨SeqAt.RcAt.int_none a t,SeqAt.RcNeAt.int_none a t⟩
   | bl b=>cases ru';exact⟨SeqAt.RcAt.int_bool a t b,SeqAt.RcNeAt.int_bool a t b⟩
   | int i=>obtain⟨t',rfl⟩:=ru';exact⟨SeqAt.RcAt.int_int a t i t',SeqAt.RcNeAt.int_int a t i t'⟩
   | str i=>obtain⟨t',rfl⟩:=ru';exact⟨SeqAt.RcAt.int_str a t i t',SeqAt.RcNeAt.int_str a t i t'⟩
   | tup h2 q2=>
     cases ru';obtain⟨its2,v2,p2,_⟩:=I.tuple h2
     exact⟨SeqAt.RcAt.int_tuple a t (show s.heap.IsTuple _ its2.toArray from p2) hu0,SeqAt.RcNeAt.int_tuple a t (show s.heap.IsTuple _ its2.toArray from p2) hu0⟩
   | lst h2 q2=>
     cases ru';obtain⟨its2,v2,p2,_⟩:=I.list h2
     exact⟨SeqAt.RcAt.int_list a t p2.isList hu0,SeqAt.RcNeAt.int_list a t p2.isList hu0⟩
 | str a=>
   obtain⟨t,rfl⟩:=ru
   cases r2 with
   | non=>cases ru';exact⟨SeqAt.RcAt.str_none a t,SeqAt.RcNeAt.str_none a t⟩
   | bl b=>cases ru';exact⟨SeqAt.RcAt.str_bool a t b,SeqAt.RcNeAt.str_bool a t b⟩
   | int i=>obtain⟨t',rfl⟩:=ru';exact⟨SeqAt.RcAt.str_int a t i t',SeqAt.RcNeAt.str_int a t i t'⟩
   | str i=>obtain⟨t',rfl⟩:=ru';exact⟨SeqAt.RcAt.str_str a t i t',SeqAt.RcNeAt.str_str a t i t'⟩
   | tup h2 q2=>
     cases ru';obtain⟨its2,v2,p2,_⟩:=I.tuple h2
     exact⟨SeqAt.RcAt.str_tuple a t (show s.heap.IsTuple _ its2.toArray from p2) hu0,SeqAt.RcNeAt.str_tuple a t (show s.heap.IsTuple _ its2.toArray from p2) hu0⟩
   | lst h2 q2=>
     cases ru';obtain⟨its2,v2,p2,_⟩:=I.list h2
     exact⟨SeqAt.RcAt.str_list a t p2.isList hu0,SeqAt.RcNeAt.str_list a t p2.isList hu0⟩
 | @tup a xs ds h1 q1=>
   cases ru
   obtain⟨its,v1,p1,_⟩:=I.tuple h1
   have p1:s.heap.IsTuple a its.toArray:=p1
   cases r2 with
   | non=>cases ru';exact⟨SeqAt.RcAt.tuple_none p1 hu0,SeqAt.RcNeAt.tuple_none p1 hu0⟩
   | bl b=>cases ru';exact⟨SeqAt.RcAt.tuple_bool b p1 hu0,SeqAt.RcNeAt.tuple_bool b p1 hu0⟩
   | int i=>obtain⟨t',rfl⟩:=ru';exact⟨SeqAt.RcAt.tuple_int i t' p1 hu0,SeqAt.RcNeAt.tuple_int i t' p1 hu0⟩
   | str i=>obtain⟨t',rfl⟩:=ru';exact⟨SeqAt.RcAt.tuple_str i t' p1 hu0,SeqAt.RcNeAt.tuple_str i t' p1 hu0⟩
   | @tup b ys es h2 q2=>
     cases ru'
     obtain⟨its2,v2,p2,_⟩:=I.tuple h2
     have p2:s.heap.IsTuple b its2.toArray:=p2
     have l1:its.toArray.size=ds.length:=by rw[x6,←v1.length,q1.length]
     have l2:its2.toArray.size=es.length:=by rw[x6,←v2.length,q2.length]
     have hd:aY ds≤n:=by simp[deep]at hx;exact hx
     have a1:=SeqAt.RcAt.tuples (e:=eqJ ds es) p1 p2 hu0 (part hd q1 q2 v1 v2)
     have a2:=SeqAt.RcNeAt.tuples (e:=eqJ ds es) p1 p2 hu0 (part hd q1 q2 v1 v2)
     rw[l1,l2,lz]at a1 a2
     simp only[eqD]
     exact⟨a1,a2⟩
   | lst h2 q2=>
     cases ru';obtain⟨its2,v2,p2,_⟩:=I.list h2
     exact⟨SeqAt.RcAt.tuple_list p1 p2.isList hu0,SeqAt.RcNeAt.tuple_list p1 p2.isList hu0⟩
 | @lst a xs ds h1 q1=>
   cases ru
   obtain⟨its,v1,p1,_⟩:=I.list h1
   have p1:=p1.isList
   cases r2 with
   | non=>cases ru';exact⟨SeqAt.RcAt.list_none p1 hu0,SeqAt.RcNeAt.list_none p1 hu0⟩
   | bl b=>cases ru';exact⟨SeqAt.RcAt.list_bool b p1 hu0,SeqAt.RcNeAt.list_bool b p1 hu0⟩
   | int i=>obtain⟨t',rfl⟩:=ru';exact⟨SeqAt.RcAt.list_int i t' p1 hu0,SeqAt.RcNeAt.list_int i t' p1 hu0⟩
   | str i=>obtain⟨t',rfl⟩:=ru';exact⟨SeqAt.RcAt.list_str i t' p1 hu0,SeqAt.RcNeAt.list_str i t' p1 hu0⟩
   | tup h2 q2=>
     cases ru';obtain⟨its2,v2,p2,_⟩:=I.tuple h2
     exact⟨SeqAt.RcAt.list_tuple p1 (show s.heap.IsTuple _ its2.toArray from p2) hu0,SeqAt.RcNeAt.list_tuple p1 (show s.heap.IsTuple _ its2.toArray from p2) hu0⟩
   | @lst b ys es h2 q2=>
     cases ru'
     obtain⟨its2,v2,p2,_⟩:=I.list h2
     have p2:=p2.isList
     have l1:its.toArray.size=ds.length:=by rw[x6,←v1.length,q1.length]
     have l2:its2.toArray.size=es.length:=by rw[x6,←v2.length,q2.length]
     have hd:aY ds≤n:=by simp[deep]at hx;exact hx
     simp only[eqD]
     by_cases hl:ds.length=es.length
     . have a1:=SeqAt.RcAt.lists (e:=eqJ ds es) p1 p2 (by rw[l1,l2,hl]) hu0 (part hd q1 q2 v1 v2)
       have a2:=SeqAt.RcNeAt.lists (e:=eqJ ds es) p1 p2 (by rw[l1,l2,hl]) hu0 (part hd q1 q2 v1 v2)
       rw[l1,Lr hl]at a1 a2
       exact⟨a1,a2⟩
     . have z:(its.toArray.size !=its2.toArray.size)=true:=by rw[l1,l2];simpa using hl
       rw[QB hl]
       exact⟨SeqAt.RcAt.lists_lengths p1 p2 z hu0,SeqAt.RcNeAt.lists_lengths p1 p2 z hu0⟩
theorem yR:∀{K:PySem.W.Frag}{H:Hp}{v:V}{x:D},Sn K H v x->aq x=true:=by
 intro K H v x h
 refine Sn.rec (motive_1:=λ v x _=>aq x=true) (motive_2:=λ vs xs _=>ak xs=true) ?_ ?_ ?_ ?_ ?_ ?_ ?_ ?_ h
 . simp[aq]
 . intro b;simp[aq]
 . intro b;simp[aq]
 . intro b;simp[aq]
 . intro a xs ds h r ih;simpa[aq]using ih
 . intro a xs ds h r ih;simpa[aq]using ih
 . simp[ak]
 . intro v d vs ds r t ih1 ih2;simp[ak,ih1,ih2]
theorem Fo (n:Nat):∀(x y:D),deep x≤n->∀{pins:Pins}{s:Shared}{σ:DL.St}{H:Hp}{v w:V}{u u':Value}{A:Around},Inv X pins σ H s->Sn X.K H v x->Sn X.K H w y->RelV v u->RelV w u'->A.units+n<cLine->SeqAt.EqAt A s u u' (eqD x y):=by
 induction n with
 | zero=>
   intro x y hx pins s σ H v w u u' A I r1 r2 ru ru' hu
   cases r1 with
   | non=>
     cases ru
     cases r2 with
     | non=>cases ru';exact SeqAt.EqAt.same _
     | bl b=>cases ru';exact SeqAt.EqAt.none_bool b
     | int i=>obtain⟨t',rfl⟩:=ru';exact SeqAt.EqAt.none_int i t'
     | str i=>obtain⟨t',rfl⟩:=ru';exact SeqAt.EqAt.none_str i t'
     | tup h2 q2=>cases ru';obtain⟨its2,v2,p2,_⟩:=I.tuple h2;exact SeqAt.EqAt.none_tuple (show s.heap.IsTuple _ its2.toArray from p2) (by omega)
     | lst h2 q2=>cases ru';obtain⟨its2,v2,p2,_⟩:=I.list h2;exact SeqAt.EqAt.none_list p2.isList (by omega)
   | bl a=>
     cases ru
     cases r2 with
     | non=>cases ru';exact SeqAt.EqAt.bool_none a
     | bl b=>cases ru';exact SeqAt.EqAt.bool_bool a b
     | int i=>obtain⟨t',rfl⟩:=ru';exact SeqAt.EqAt.bool_int a i t'
     | str i=>obtain⟨t',rfl⟩:=ru';exact SeqAt.EqAt.bool_str a i t'
     | tup h2 q2=>cases ru';obtain⟨its2,v2,p2,_⟩:=I.tuple h2;exact SeqAt.EqAt.bool_tuple a (show s.heap.IsTuple _ its2.toArray from p2) (by omega)
     | lst h2 q2=>cases ru';obtain⟨its2,v2,p2,_⟩:=I.list h2;exact SeqAt.EqAt.bool_list a p2.isList (by omega)
   | int a=>
     obtain⟨t,rfl⟩:=ru
     cases r2 with
     | non=>cases ru';exact SeqAt.EqAt.int_none a t
     | bl b=>cases ru';exact SeqAt.EqAt.int_bool a t b
     | int i=>obtain⟨t',rfl⟩:=ru';exact SeqAt.EqAt.int_int a t i t'
     | str i=>obtain⟨t',rfl⟩:=ru';exact SeqAt.EqAt.int_str a t i t'
     | tup h2 q2=>cases ru';obtain⟨its2,v2,p2,_⟩:=I.tuple h2;exact SeqAt.EqAt.int_tuple a t (show s.heap.IsTuple _ its2.toArray from p2) (by omega)
     | lst h2 q2=>cases ru';obtain⟨its2,v2,p2,_⟩:=I.list h2;exact SeqAt.EqAt.int_list a t p2.isList (by omega)
   | str a=>
     obtain⟨t,rfl⟩:=ru
     cases r2 with
     | non=>cases ru';exact SeqAt.EqAt.str_none a t
     | bl b=>cases ru';exact SeqAt.EqAt.str_bool a t b
     | int i=>obtain⟨t',rfl⟩:=ru';exact SeqAt.EqAt.str_int a t i t'
     | str i=>obtain⟨t',rfl⟩:=ru';exact SeqAt.EqAt.str_str a t i t'
     | tup h2 q2=>cases ru';obtain⟨its2,v2,p2,_⟩:=I.tuple h2;exact SeqAt.EqAt.str_tuple a t (show s.heap.IsTuple _ its2.toArray from p2) (by omega)
     | lst h2 q2=>cases ru';obtain⟨its2,v2,p2,_⟩:=I.list h2;exact SeqAt.EqAt.str_list a t p2.isList (by omega)
   | tup _ _=>simp[deep]at hx
   | lst _ _=>simp[deep]at hx
 | succ n ih=>
   intro x y hx pins s σ H v w u u' A I r1 r2 ru ru' hu
   by_cases h0:deep x≤n
   . exact ih x y h0 I r1 r2 ru ru' (by omega)
   . have both:=oU ih x y hx I r1 r2 ru ru' hu
     cases r1 with
     | non=>simp[deep]at h0
     | bl b=>simp[deep]at h0
     | int b=>simp[deep]at h0
     | str b=>simp[deep]at h0
     | @tup a xs ds h1 q1=>
       cases ru
       obtain⟨its,v1,p1,_⟩:=I.tuple h1
       have p1:s.heap.IsTuple a its.toArray:=p1
       cases r2 with
       | non=>cases ru';exact SeqAt.EqAt.tuple_none p1 (by omega)
       | bl b=>cases ru';exact SeqAt.EqAt.tuple_bool b p1 (by omega)
       | int i=>obtain⟨t',rfl⟩:=ru';exact SeqAt.EqAt.tuple_int i t' p1 (by omega)
       | str i=>obtain⟨t',rfl⟩:=ru';exact SeqAt.EqAt.tuple_str i t' p1 (by omega)
       | @tup b ys es h2 q2=>
         cases ru'
         by_cases e:a=b
         . subst e
           have e2:=sE I (.tup h1 q1) (.tup h2 q2)
           rw[←e2,kI _ (yR (.tup h1 q1))]
           exact SeqAt.EqAt.same _
         . exact SeqAt.EqAt.of_refs e both.1
       | @lst b ys es h2 q2=>
         cases ru';obtain⟨its2,v2,p2,_⟩:=I.list h2;exact SeqAt.EqAt.tuple_list p1 p2.isList (by omega)
     | @lst a xs ds h1 q1=>
       cases ru
       obtain⟨its,v1,p1,_⟩:=I.list h1
       have p1:=p1.isList
       cases r2 with
       | non=>cases ru';exact SeqAt.EqAt.list_none p1 (by omega)
       | bl b=>cases ru';exact SeqAt.EqAt.list_bool b p1 (by omega)
       | int i=>obtain⟨t',rfl⟩:=ru';exact SeqAt.EqAt.list_int i t' p1 (by omega)
       | str i=>obtain⟨t',rfl⟩:=ru';exact SeqAt.EqAt.list_str i t' p1 (by omega)
       | tup h2 q2=>cases ru';obtain⟨its2,v2,p2,_⟩:=I.tuple h2;exact SeqAt.EqAt.list_tuple p1 (show s.heap.IsTuple _ its2.toArray from p2) (by omega)
       | @lst b ys es h2 q2=>
         cases ru'
         by_cases e:a=b
         . subst e
           have e2:=sE I (.lst h1 q1) (.lst h2 q2)
           rw[←e2,kI _ (yR (.lst h1 q1))]
           exact SeqAt.EqAt.same _
         . exact SeqAt.EqAt.of_refs e both.1
noncomputable def vw(S:Store):D->D
 | .loc k=>match S[k]? with | some ds=>.lst ds | none=>.loc k
 | d=>d
noncomputable def G6(S:Store)(x y:D):Prop:=okD (vw S x)=true/\okD (vw S y)=true/\deep (vw S x)≤50
theorem iR{K:PySem.W.Frag}{O:Own}{H:Hp}{v:V}(st:StOk K O H S)(r:Rep K O H v x)(h:okD (vw S x)=true):Sn K H v (vw S x):=by
 cases r with
 | @loc a k hk=>
   simp only[vw]at h ⊢
   have hl:k<S.length:=by rw[←st.len];exact(y3.mp hk).1
   obtain⟨xs,hx,q⟩:=st.obj k a S[k] hk (y4 hl)
   rw[y4 hl]at h ⊢
   exact .lst (SqL.of hx) (jC (by simpa[okD]using h) q)
 | non=>exact .non
 | bl b=>exact .bl b
 | int i=>exact .int i
 | str i=>exact .str i
 | tup h1 q1=>exact yr h (.tup h1 q1)
 | lst h1 q1=>exact yr h (.lst h1 q1)
 | dic h1 e1=>simp[vw,okD]at h
 | dlo h1=>simp[vw,okD]at h
theorem Vm(hu:X.A.units+60<cLine)(h:G6 S x y)(w:W (eqD (vw S x) (vw S y)) S):bz X .Eq x y S (asB W):=by
 intro pins s σ H O v w' u u' I st r1 r2 r3 r4
 obtain⟨h1,h2,h3⟩:=h
 have:=(oU (n:=50) (A:=X.A) (Fo 50) (vw S x) (vw S y) (by omega) I (iR st r1 h1) (iR st r2 h2) r3 r4 (by omega)).1
 exact this _ _ _ _ ⟨.bl _,H,I,rfl,QG.here ⟨_,rfl,w⟩ st (.bl _)⟩
theorem U4(hu:X.A.units+60<cLine)(h:G6 S x y)(w:W (!eqD (vw S x) (vw S y)) S):bz X .NotEq x y S (asB W):=by
 intro pins s σ H O v w' u u' I st r1 r2 r3 r4
 obtain⟨h1,h2,h3⟩:=h
 have:=(oU (n:=50) (A:=X.A) (Fo 50) (vw S x) (vw S y) (by omega) I (iR st r1 h1) (iR st r2 h2) r3 r4 (by omega)).2
 exact this _ _ _ _ ⟨.bl _,H,I,rfl,QG.here ⟨_,rfl,w⟩ st (.bl _)⟩
theorem rn:∀{xs:List V}{its:List Value}{i:Nat}{v:V},Vals xs its->xs[i]? =some v->∃y,its[i]? =some y/\RelV v y
 | _,_,_,_,.nil,e=>by simp at e
 | _,_,0,_,.cons a _,e=>by simp at e;subst e;exact⟨_,rfl,a⟩
 | _,_,i+1,v,.cons _ t,e=>by
   obtain⟨y,h1,h2⟩:=rn (i:=i) (v:=v) t (by simpa using e)
   exact⟨y,by simpa using h1,h2⟩
theorem Ei{pins:Pins}{s:Shared}{σ:DL.St}{H:Hp}{v w':V}{u u':Value}(hu:X.A.units+60<cLine)(I:Inv X pins σ H s)(sx:Sn X.K H v x)(sy:Sn X.K H w' (.lst ds))(r3:RelV v u)(r4:RelV w' u')(h3:aY ds≤50):
 ∃(l:Addr) (its:List Value) (e:Value->Bool),u'=.ref l/\s.heap.IsList l its.toArray/\(∀y,y∈its.toArray->SeqAt.EqAt X.A.in1 s y u (e y))/\its.toArray.any e=ds.any λ d=>eqD d x:=by
 classical
 cases sy with
 | @lst a xs _ h1 q1=>
   cases r4
   obtain⟨its,rv,pl,hz⟩:=I.list h1
   let e:Value->Bool:=λ y=>decide (∃(v':V) (d:D),RelV v' y/\Sn X.K H v' d/\eqD d x=true)
   have ev:∀(y:Value)(v':V)(d:D),RelV v' y->Sn X.K H v' d->e y=eqD d x:=by
    intro y v' d hr hs
    cases hd:eqD d x with
    | true=>exact ZG ⟨v',d,hr,hs,hd⟩
    | false=>
      refine ZH ?_
      rintro⟨v2,d2,hr2,hs2,hd2⟩
      have ev':=hr2.inj hr
      subst ev'
      have:=sE I hs2 hs
      subst this
      rw[hd]at hd2;cases hd2
   refine⟨a,its,e,rfl,pl.isList,?_,?_⟩
   . intro y hy
     have hy':y∈its:=by simpa using hy
     obtain⟨i,hi⟩:=ZR hy'
     have hlt:i<xs.length:=by rw[rv.length];exact(y3.mp hi).1
     obtain⟨d,hd⟩:∃d,ds[i]? =some d:=⟨_,y4 (by rw[←q1.length];exact hlt)⟩
     obtain⟨v',hv',hs⟩:=q1.get hd
     obtain⟨y',hy2,hr⟩:=rn rv hv'
     rw[hi]at hy2;cases hy2
     rw[ev y v' d hr hs]
     exact Fo 50 d x (Nat.le_trans (dW hd) h3) I hs sx hr r3 (by show X.A.units+1+50<cLine;omega)
   . have hlen:its.length=ds.length:=by rw[←rv.length,q1.length]
     have main:∀(xs:List V)(its:List Value)(ds:List D),Vals xs its->Sns X.K H xs ds->its.any e=ds.any λ d=>eqD d x:=by
      intro xs its ds rv q1
      induction rv generalizing ds with
      | nil=>cases q1;rfl
      | cons hr _ ih=>
        cases q1 with
        | cons hs ht=>rw[List.any_cons,List.any_cons,ev _ _ _ hr hs,ih _ ht]
     rw[List.any_toArray]
     exact main xs its ds rv q1
theorem UW(hu:X.A.units+60<cLine)(hy:vw S y=.lst ds)(h1:okD (vw S x)=true)(h2:bN ds=true)(h3:aY ds≤50)(w:W (ds.any λ d=>eqD d (vw S x)) S):bz X .In x y S (asB W):=by
 intro pins s σ H O v w' u u' I st r1 r2 r3 r4
 have sy:=iR st r2 (by rw[hy];simpa[okD]using h2)
 rw[hy]at sy
 obtain⟨l,its,e,rfl,hl,he,ha⟩:=Ei hu I (iR st r1 h1) sy r3 r4 h3
 refine SeqAt.in_listAt e hl he ?_
 rw[ha]
 exact⟨.bl _,H,I,rfl,QG.here ⟨_,rfl,w⟩ st (.bl _)⟩
theorem Tr(hu:X.A.units+60<cLine)(hy:vw S y=.lst ds)(h1:okD (vw S x)=true)(h2:bN ds=true)(h3:aY ds≤50)(w:W (!(ds.any λ d=>eqD d (vw S x))) S):bz X .NotIn x y S (asB W):=by
 intro pins s σ H O v w' u u' I st r1 r2 r3 r4
 have sy:=iR st r2 (by rw[hy];simpa[okD]using h2)
 rw[hy]at sy
 obtain⟨l,its,e,rfl,hl,he,ha⟩:=Ei hu I (iR st r1 h1) sy r3 r4 h3
 refine SeqAt.notIn_listAt e hl he ?_
 rw[ha]
 exact⟨.bl _,H,I,rfl,QG.here ⟨_,rfl,w⟩ st (.bl _)⟩
end
end RF
namespace RF
open PySem PySem.Spec L2 DL
open PyProof.Rows
variable {X : Cx}
noncomputable def isN:D->Bool
 | .non=>true
 | _=>false
theorem R8{a b:Bool}{S:Store}{W:Bool->Store->Prop}(w:W (a==b) S):bz X .Is (.bl a) (.bl b) S (asB W):=by
 intro pins s σ H O v w' u u' I st r1 r2 r3 r4
 cases r1;cases r2;cases r3;cases r4
 refine wpAny_is_plain rfl ?_
 have e:(Value.bool a==Value.bool b)=(a==b):=by cases a<;>cases b<;>rfl
 rw[e]
 exact⟨.bl _,H,I,rfl,QG.here ⟨_,rfl,w⟩ st (.bl _)⟩
theorem KD{a b:Bool}{S:Store}{W:Bool->Store->Prop}(w:W (!(a==b)) S):bz X .IsNot (.bl a) (.bl b) S (asB W):=by
 intro pins s σ H O v w' u u' I st r1 r2 r3 r4
 cases r1;cases r2;cases r3;cases r4
 refine wpAny_isNot_plain rfl ?_
 have e:(Value.bool a==Value.bool b)=(a==b):=by cases a<;>cases b<;>rfl
 rw[e]
 exact⟨.bl _,H,I,rfl,QG.here ⟨_,rfl,w⟩ st (.bl _)⟩
noncomputable def bEq(x y:D)(ki:Int->Int->Prop)(kb:Bool->Bool->Prop)(g:Prop):Prop:=match x with
 | .int i=>(match y with
   | .int j=>ki i j
   | _=>g)
 | .bl i=>(match y with
   | .bl j=>kb i j
   | _=>g)
 | _=>g
theorem Em{x y:D}{ki:Int->Int->Prop}{kb:Bool->Bool->Prop}{g:Prop}(h:bEq x y ki kb g):(∃i j,x=.int i/\y=.int j/\ki i j)∨(∃i j,x=.bl i/\y=.bl j/\kb i j)∨g:=by
 cases x<;>first | exact .inr (.inr h) | (cases y<;>first | exact .inr (.inr h) | exact .inl ⟨_,_,rfl,rfl,h⟩ | exact .inr (.inl ⟨_,_,rfl,rfl,h⟩))
noncomputable def bIs(x y:D)(n:Prop)(kb:Bool->Bool->Prop):Prop:=match y with
 | .non=>n
 | .bl j=>(match x with
   | .bl i=>kb i j
   | _=>False)
 | _=>False
theorem DX{x y:D}{n:Prop}{kb:Bool->Bool->Prop}(h:bIs x y n kb):(y=.non/\n)∨∃i j,x=.bl i/\y=.bl j/\kb i j:=by
 cases y<;>first | exact h.elim | exact .inl ⟨rfl,h⟩ | (cases x<;>first | exact h.elim | exact .inr ⟨_,_,rfl,rfl,h⟩)
@[irreducible] noncomputable def bf(op:CmpOp)(x y:D)(S:Store)(W:Bool->Store->Prop):Prop:=match op with
  | .Lt=>bII x y λ i j=>W (decide (i<j)) S
  | .LtE=>bII x y λ i j=>W (decide (i≤j)) S
  | .Gt=>bII x y λ i j=>W (decide (j<i)) S
  | .GtE=>bII x y λ i j=>W (decide (j≤i)) S
  | .Eq=>bEq x y (λ i j=>W (decide (i=j)) S) (λ i j=>W (i==j) S) (G6 S x y/\W (eqD (vw S x) (vw S y)) S)
  | .NotEq=>bEq x y (λ i j=>W (!decide (i=j)) S) (λ i j=>W (!(i==j)) S) ((G6 S x y/\W (!eqD (vw S x) (vw S y)) S)∨(x=y/\aq x=true/\deep x≤50/\W false S))
  | .Is=>bIs x y (W (isN x) S) λ i j=>W (i==j) S
  | .IsNot=>bIs x y (W (!isN x) S) λ i j=>W (!(i==j)) S
  | .In=>∃ds,vw S y=.lst ds/\okD (vw S x)=true/\bN ds=true/\aY ds≤50/\W (ds.any λ d=>eqD d (vw S x)) S
  | .NotIn=>∃ds,vw S y=.lst ds/\okD (vw S x)=true/\bN ds=true/\aY ds≤50/\W (!(ds.any λ d=>eqD d (vw S x))) S
theorem bY{op:CmpOp}{x y:D}{S:Store}{W:Bool->Store->Prop}{b:Bool}(h:∀V:WD,V (.bl b) S->bz X op x y S V)(w:W b S):bz X op x y S (asB W):=h (asB W) ⟨b,rfl,w⟩
theorem fj{op:CmpOp}{x y:D}{S:Store}{W:Bool->Store->Prop}(hu:X.A.units+60<cLine)(h:bf op x y S W):bz X op x y S (asB W):=by
 unfold bf at h
 cases op with
 | Lt=>obtain⟨i,j,rfl,rfl,h⟩:=d7 h;exact bY (λ _=>Vt) h
 | LtE=>obtain⟨i,j,rfl,rfl,h⟩:=d7 h;exact bY (λ _=>Vs) h
 | Gt=>obtain⟨i,j,rfl,rfl,h⟩:=d7 h;exact bY (λ _=>V0) h
 | GtE=>obtain⟨i,j,rfl,rfl,h⟩:=d7 h;exact bY (λ _=>Vq) h
 | Eq=>
   rcases Em h with⟨i,j,rfl,rfl,h⟩ | ⟨i,j,rfl,rfl,h⟩ | h
   . exact bY (λ _=>Ue) h
   . exact bY (λ _=>Ui) h
   . exact Vm hu h.1 h.2
 | NotEq=>
   rcases Em h with⟨i,j,rfl,rfl,h⟩ | ⟨i,j,rfl,rfl,h⟩ | h | ⟨rfl,h1,h2,h3⟩
   . exact bY (λ _=>Ux) h
   . exact bY (λ _=>Uc) h
   . exact U4 hu h.1 h.2
   . exact KR hu h1 h2 ⟨false,rfl,h3⟩
 | Is=>
   rcases DX h with⟨rfl,h⟩ | ⟨i,j,rfl,rfl,h⟩
   . exact bY (λ V w=>Ve w) h
   . exact R8 h
 | IsNot=>
   rcases DX h with⟨rfl,h⟩ | ⟨i,j,rfl,rfl,h⟩
   . refine bY (λ V w=>Oo ?_) h
     cases x<;>exact w
   . exact KD h
 | In=>obtain⟨ds,h1,h2,h3,h4,h5⟩:=h;exact UW hu h1 h2 h3 h4 h5
 | NotIn=>obtain⟨ds,h1,h2,h3,h4,h5⟩:=h;exact Tr hu h1 h2 h3 h4 h5
section
variable {i j : Int} {a b : Bool} {x y : D} {S : Store} {W : Bool -> Store -> Prop}
theorem cLt(w:W (decide (i<j)) S):bf .Lt (.int i) (.int j) S W:=by unfold bf;exact w
theorem cLe(w:W (decide (i≤j)) S):bf .LtE (.int i) (.int j) S W:=by unfold bf;exact w
theorem cGt(w:W (decide (j<i)) S):bf .Gt (.int i) (.int j) S W:=by unfold bf;exact w
theorem cGe(w:W (decide (j≤i)) S):bf .GtE (.int i) (.int j) S W:=by unfold bf;exact w
theorem cEqI(w:W (decide (i=j)) S):bf .Eq (.int i) (.int j) S W:=by unfold bf;exact w
theorem cEqB(w:W (a==b) S):bf .Eq (.bl a) (.bl b) S W:=by unfold bf;exact w
theorem cIn{ds:List D}(h1:vw S y=.lst ds)(h2:okD (vw S x)=true)(h3:bN ds=true)(h4:aY ds≤50)(w:W (ds.any λ d=>eqD d (vw S x)) S):bf .In x y S W:=by unfold bf;cases x<;>exact⟨ds,h1,h2,h3,h4,w⟩
theorem RV{ds:List D}(h1:vw S y=.lst ds)(h2:okD (vw S x)=true)(h3:bN ds=true)(h4:aY ds≤50)(w:W (!(ds.any λ d=>eqD d (vw S x))) S):bf .NotIn x y S W:=by unfold bf;cases x<;>exact⟨ds,h1,h2,h3,h4,w⟩
end
set_option genInjectivity false in
structure Ex(Ω:Wd) where
 lev:Nat
 chk:Bool->List Str->Nm->Expr->Bool
 wp:Gam->Store->WD->Prop
 sound:∀{X:Cx}{r:Nat}{top:Bool}{N:List Str}{nm:Nm}{e:Expr}{Γ:Gam}{S:Store}{W:WD},At Ω X r top N nm->lev≤r->chk top N nm e=true->wp Γ S W->Ev X Γ S e W
set_option genInjectivity false in
structure Te(Ω:Wd) where
 lev:Nat
 chk:Bool->List Str->Nm->Expr->Bool
 wp:Gam->Store->(Bool->Store->Prop)->Prop
 sound:∀{X:Cx}{r:Nat}{top:Bool}{N:List Str}{nm:Nm}{e:Expr}{Γ:Gam}{S:Store}{W:Bool->Store->Prop},At Ω X r top N nm->lev≤r->chk top N nm e=true->wp Γ S W->Ts X Γ S e W
set_option genInjectivity false in
structure Ar(Ω:Wd) where
 lev:Nat
 chk:Bool->List Str->Nm->List Expr->Bool
 wp:Gam->Store->(List D->Store->Prop)->Prop
 plain:∀{top:Bool}{N:List Str}{nm:Nm}{es:List Expr},chk top N nm es=true->es.all okE=true
 sound:∀{X:Cx}{r:Nat}{top:Bool}{N:List Str}{nm:Nm}{es:List Expr}{Γ:Gam}{S:Store}{W:List D->Store->Prop},At Ω X r top N nm->lev≤r->chk top N nm es=true->wp Γ S W->EvA X Γ S es W
set_option genInjectivity false in
structure Bo(Ω:Wd) where
 lev:Nat
 chk:Bool->List Str->Nm->List Expr->Bool
 wpA:Gam->Store->WD->Prop
 wpO:Gam->Store->WD->Prop
 ne:∀{top:Bool}{N:List Str}{nm:Nm}{es:List Expr},chk top N nm es=true->∃b rest,es=b::rest
 soundA:∀{X:Cx}{r:Nat}{top:Bool}{N:List Str}{nm:Nm}{es:List Expr}{Γ:Gam}{S:Store}{W:WD}{pos:Pos},At Ω X r top N nm->lev≤r->chk top N nm es=true->wpA Γ S W->Ev X Γ S (.BoolOp .And es pos) W
 soundO:∀{X:Cx}{r:Nat}{top:Bool}{N:List Str}{nm:Nm}{es:List Expr}{Γ:Gam}{S:Store}{W:WD}{pos:Pos},At Ω X r top N nm->lev≤r->chk top N nm es=true->wpO Γ S W->Ev X Γ S (.BoolOp .Or es pos) W
set_option genInjectivity false in
structure Bt(Ω:Wd) where
 lev:Nat
 chk:Bool->List Str->Nm->List Expr->Bool
 wpA:Gam->Store->(Bool->Store->Prop)->Prop
 wpO:Gam->Store->(Bool->Store->Prop)->Prop
 ne:∀{top:Bool}{N:List Str}{nm:Nm}{es:List Expr},chk top N nm es=true->∃b rest,es=b::rest
 soundA:∀{X:Cx}{r:Nat}{top:Bool}{N:List Str}{nm:Nm}{es:List Expr}{Γ:Gam}{S:Store}{W:Bool->Store->Prop}{pos:Pos},At Ω X r top N nm->lev≤r->chk top N nm es=true->wpA Γ S W->TsW X Γ S (.BoolOp .And es pos) W
 soundO:∀{X:Cx}{r:Nat}{top:Bool}{N:List Str}{nm:Nm}{es:List Expr}{Γ:Gam}{S:Store}{W:Bool->Store->Prop}{pos:Pos},At Ω X r top N nm->lev≤r->chk top N nm es=true->wpO Γ S W->TsW X Γ S (.BoolOp .Or es pos) W
theorem At.hu{Ω:Wd}{r:Nat}{top:Bool}{N:List Str}{nm:Nm}(A:At Ω X r top N nm):X.A.units+60<cLine:=by have:=A.room.un;omega
theorem lv2{a b r:Nat}(h:max a b≤r):a≤r/\b≤r:=by omega
variable {Ω : Wd}
noncomputable def Ex.var(i:Nat):Ex Ω where
 lev:=0
 chk _ N nm e:=match e with | .Name x _=>(N[i]? ==some x)&&(vis nm x&&okN x) | _=>false
 wp Γ S W:=match Γ[i]? with | some (some d)=>W d S | _=>False
 sound:=by
  intro X r top N nm e Γ S W A _ hc hw
  cases e with
  | Name x pos=>
    obtain⟨h1,h2⟩:=aa hc
    obtain⟨h2,h3⟩:=aa h2
    obtain⟨d1,d2,_⟩:=iG h3
    have h1:N[i]? =some x:=ZI h1
    cases hΓ:Γ[i]? with
    | none=>rw[hΓ]at hw;exact hw.elim
    | some o=>
      cases o with
      | none=>rw[hΓ]at hw;exact hw.elim
      | some d=>
        rw[hΓ]at hw
        exact R9 i hΓ hw (by rw[A.n];exact h1) (A.vis h2) d1 d2
  | _=>exact fE hc
noncomputable def Ex.int(i:Int):Ex Ω where
 lev:=0
 chk _ _ _ e:=match e with | .Constant (.int j) _ _=>j==i | _=>false
 wp _ S W:=W (.int i) S
 sound:=by
  intro X r top N nm e Γ S W A _ hc hw
  cases e with
  | Constant c k pos=>
    cases c with
    | int j=>have e:j=i:=ZI hc;subst e;exact JP hw
    | _=>exact fE hc
  | _=>exact fE hc
noncomputable def Ex.bl(i:Bool):Ex Ω where
 lev:=0
 chk _ _ _ e:=match e with | .Constant (.bool j) _ _=>j==i | _=>false
 wp _ S W:=W (.bl i) S
 sound:=by
  intro X r top N nm e Γ S W A _ hc hw
  cases e with
  | Constant c k pos=>
    cases c with
    | bool j=>have e:j=i:=ZI hc;subst e;exact UG hw
    | _=>exact fE hc
  | _=>exact fE hc
noncomputable def Ex.gint{x:Str}{i:Int}(h:∃t,Ω.mg x=some (.int i t)):Ex Ω where
 lev:=0
 chk _ _ nm e:=match e with | .Name y _=>(y==x)&&(glb nm x&&okN x) | _=>false
 wp _ S W:=W (.int i) S
 sound:=by
  intro X r top N nm e Γ S W A _ hc hw
  cases e with
  | Name y pos=>
    obtain⟨h1,h2⟩:=aa hc
    obtain⟨h2,h3⟩:=aa h2
    have e:y=x:=ZI h1
    subst e
    obtain⟨t,h⟩:=h
    exact M5 (by rw[A.g];exact h) hw (A.glb h2) (iG h3).1
  | _=>exact fE hc
noncomputable def Ex.bin(op:Operator)(a b:Ex Ω):Ex Ω where
 lev:=max a.lev b.lev
 chk top N nm e:=match e with | .BinOp l o r _=>(o==op)&&(a.chk top N nm l&&b.chk top N nm r) | _=>false
 wp Γ S W:=a.wp Γ S λ x S1=>b.wp Γ S1 λ y S2=>Oc op x y S2 W
 sound:=by
  intro X r top N nm e Γ S W A hl hc hw
  obtain⟨l1,l2⟩:=lv2 hl
  cases e with
  | BinOp l o r' pos=>
    obtain⟨h1,h2⟩:=aa hc
    obtain⟨h2,h3⟩:=aa h2
    have e:o=op:=ZI h1
    subst e
    exact zq ((a.sound A l1 h2 hw).mono λ x S1 q=>(b.sound A l2 h3 q).mono λ y S2 q=>Ly q)
  | _=>exact fE hc
noncomputable def Ex.cmp(op:CmpOp)(a b:Ex Ω):Ex Ω where
 lev:=max a.lev b.lev
 chk top N nm e:=match e with | .Compare l [o] [r] _=>(o==op)&&(okE r&&(a.chk top N nm l&&b.chk top N nm r)) | _=>false
 wp Γ S W:=a.wp Γ S λ x S1=>b.wp Γ S1 λ y S2=>bf op x y S2 λ c S3=>W (.bl c) S3
 sound:=by
  intro X r top N nm e Γ S W A hl hc hw
  obtain⟨l1,l2⟩:=lv2 hl
  cases e with
  | Compare l os rs pos=>
    match os,rs,hc with
    | [o],[r'],hc=>
      obtain⟨h1,h2⟩:=aa hc
      obtain⟨h0,h2⟩:=aa h2
      obtain⟨h2,h3⟩:=aa h2
      have e:o=op:=ZI h1
      subst e
      exact Q9 ((a.sound A l1 h2 hw).mono λ x S1 q=>(b.sound A l2 h3 q).mono λ y S2 q=>(fj A.hu q).mono λ d S3 ⟨c,e,w⟩=>by subst e;exact w) (fu h0)
    | [],_,hc=>exact fE hc
    | [_],[],hc=>exact fE hc
    | [_],_::_::_,hc=>exact fE hc
    | _::_::_,_,hc=>exact fE hc
  | _=>exact fE hc
noncomputable def Te.cmp(op:CmpOp)(a b:Ex Ω):Te Ω where
 lev:=max a.lev b.lev
 chk top N nm e:=match e with | .Compare l [o] [r] _=>(o==op)&&(okE r&&(a.chk top N nm l&&b.chk top N nm r)) | _=>false
 wp Γ S W:=a.wp Γ S λ x S1=>b.wp Γ S1 λ y S2=>bf op x y S2 W
 sound:=by
  intro X r top N nm e Γ S W A hl hc hw
  obtain⟨l1,l2⟩:=lv2 hl
  cases e with
  | Compare l os rs pos=>
    match os,rs,hc with
    | [o],[r'],hc=>
      obtain⟨h1,h2⟩:=aa hc
      obtain⟨h0,h2⟩:=aa h2
      obtain⟨h2,h3⟩:=aa h2
      have e:o=op:=ZI h1
      subst e
      exact zu ((a.sound A l1 h2 hw).mono λ x S1 q=>(b.sound A l2 h3 q).mono λ y S2 q=>fj A.hu q) (fu h0)
    | [],_,hc=>exact fE hc
    | [_],[],hc=>exact fE hc
    | [_],_::_::_,hc=>exact fE hc
    | _::_::_,_,hc=>exact fE hc
  | _=>exact fE hc
noncomputable abbrev NZ(a:Ex Ω)(o1:CmpOp)(b:Ex Ω)(o2:CmpOp)(c:Ex Ω)(Γ:Gam)(S:Store)(W:Bool->Store->Prop):Prop:=
 a.wp Γ S λ x S1=>b.wp Γ S1 λ y S2=>bf o1 x y S2 λ k S3=>(k=false->W false S3)/\(k=true->c.wp Γ S3 λ t S4=>bf o2 y t S4 W)
noncomputable def Ex.ch2(a:Ex Ω)(o1:CmpOp)(b:Ex Ω)(o2:CmpOp)(c:Ex Ω):Ex Ω where
 lev:=max (max a.lev b.lev) c.lev
 chk top N nm e:=match e with | .Compare l [p1,p2] [m,r] _=>(p1==o1)&&((p2==o2)&&(okE r&&(a.chk top N nm l&&(b.chk top N nm m&&c.chk top N nm r)))) | _=>false
 wp Γ S W:=NZ a o1 b o2 c Γ S λ k S1=>W (.bl k) S1
 sound:=by
  intro X r top N nm e Γ S W A hl hc hw
  obtain⟨l1,l3⟩:=lv2 hl
  obtain⟨l1,l2⟩:=lv2 l1
  cases e with
  | Compare l os rs pos=>
    match os,rs,hc with
    | [p1,p2],[m,r'],hc=>
      obtain⟨h1,h2⟩:=aa hc
      obtain⟨h2,h3⟩:=aa h2
      obtain⟨h0,h3⟩:=aa h3
      obtain⟨h3,h4⟩:=aa h3
      obtain⟨h4,h5⟩:=aa h4
      have e:p1=o1:=ZI h1
      subst e
      have e:p2=o2:=ZI h2
      subst e
      refine MF ((a.sound A l1 h3 hw).mono λ x S1 q=>(b.sound A l2 h4 q).mono λ y S2 q=>(fj A.hu q).mono λ d S3 ⟨k,e,w⟩=>⟨k,e,w.1,λ hk=>(c.sound A l3 h5 (w.2 hk)).mono λ t S4 q=>(fj A.hu q).mono λ d S3 ⟨c,e,w⟩=>by subst e;exact w⟩) (fu h0)
    | [],_,hc=>exact fE hc
    | [_],_,hc=>exact fE hc
    | [_,_],[],hc=>exact fE hc
    | [_,_],[_],hc=>exact fE hc
    | [_,_],_::_::_::_,hc=>exact fE hc
    | _::_::_::_,_,hc=>exact fE hc
  | _=>exact fE hc
noncomputable def Te.ch2(a:Ex Ω)(o1:CmpOp)(b:Ex Ω)(o2:CmpOp)(c:Ex Ω):Te Ω where
 lev:=max (max a.lev b.lev) c.lev
 chk top N nm e:=match e with | .Compare l [p1,p2] [m,r] _=>(p1==o1)&&((p2==o2)&&(okE r&&(a.chk top N nm l&&(b.chk top N nm m&&c.chk top N nm r)))) | _=>false
 wp Γ S W:=NZ a o1 b o2 c Γ S W
 sound:=by
  intro X r top N nm e Γ S W A hl hc hw
  obtain⟨l1,l3⟩:=lv2 hl
  obtain⟨l1,l2⟩:=lv2 l1
  cases e with
  | Compare l os rs pos=>
    match os,rs,hc with
    | [p1,p2],[m,r'],hc=>
      obtain⟨h1,h2⟩:=aa hc
      obtain⟨h2,h3⟩:=aa h2
      obtain⟨h0,h3⟩:=aa h3
      obtain⟨h3,h4⟩:=aa h3
      obtain⟨h4,h5⟩:=aa h4
      have e:p1=o1:=ZI h1
      subst e
      have e:p2=o2:=ZI h2
      subst e
      refine HW ((a.sound A l1 h3 hw).mono λ x S1 q=>(b.sound A l2 h4 q).mono λ y S2 q=>(fj A.hu q).mono λ d S3 ⟨k,e,w⟩=>⟨k,e,w.1,λ hk=>(c.sound A l3 h5 (w.2 hk)).mono λ t S4 q=>fj A.hu q⟩) (fu h0)
    | [],_,hc=>exact fE hc
    | [_],_,hc=>exact fE hc
    | [_,_],[],hc=>exact fE hc
    | [_,_],[_],hc=>exact fE hc
    | [_,_],_::_::_::_,hc=>exact fE hc
    | _::_::_::_,_,hc=>exact fE hc
  | _=>exact fE hc
noncomputable def Te.val(a:Ex Ω):Te Ω where
 lev:=a.lev
 chk top N nm e:=Ml e&&a.chk top N nm e
 wp Γ S W:=a.wp Γ S λ d S1=>match d with | .bl c=>W c S1 | _=>False
 sound:=by
  intro X r top N nm e Γ S W A hl hc hw
  obtain⟨h1,h2⟩:=aa hc
  refine Q0 ((a.sound A hl h2 hw).mono λ d S1 q=>?_) (Hx h1 _)
  cases d<;>first | exact⟨_,rfl,q⟩ | exact q.elim
noncomputable def Te.not(t:Te Ω):Te Ω where
 lev:=t.lev
 chk top N nm e:=match e with | .UnaryOp .Not a _=>t.chk top N nm a | _=>false
 wp Γ S W:=t.wp Γ S λ c S1=>W (!c) S1
 sound:=by
  intro X r top N nm e Γ S W A hl hc hw
  cases e with
  | UnaryOp o a pos=>
    cases o with
    | Not=>exact Ra (t.sound A hl hc hw)
    | _=>exact fE hc
  | _=>exact fE hc
noncomputable def Bt.one(t:Te Ω):Bt Ω where
 lev:=t.lev
 chk top N nm es:=match es with | [e]=>t.chk top N nm e | _=>false
 wpA Γ S W:=t.wp Γ S W
 wpO Γ S W:=t.wp Γ S W
 ne:=by
  intro top N nm es hc
  match es,hc with
  | [e],_=>exact⟨_,_,rfl⟩
  | [],hc=>exact fE hc
  | _::_::_,hc=>exact fE hc
 soundA:=by
  intro X r top N nm es Γ S W pos A hl hc hw
  match es,hc with
  | [e],hc=>exact tw_and1 (t.sound A hl hc hw)
  | [],hc=>exact fE hc
  | _::_::_,hc=>exact fE hc
 soundO:=by
  intro X r top N nm es Γ S W pos A hl hc hw
  match es,hc with
  | [e],hc=>exact tw_or1 (t.sound A hl hc hw)
  | [],hc=>exact fE hc
  | _::_::_,hc=>exact fE hc
noncomputable def Bt.cons(t:Te Ω)(r:Bt Ω):Bt Ω where
 lev:=max t.lev r.lev
 chk top N nm es:=match es with | e::es=>t.chk top N nm e&&r.chk top N nm es | _=>false
 wpA Γ S W:=t.wp Γ S λ c S1=>(c=true->r.wpA Γ S1 W)/\(c=false->W false S1)
 wpO Γ S W:=t.wp Γ S λ c S1=>(c=true->W true S1)/\(c=false->r.wpO Γ S1 W)
 ne:=by
  intro top N nm es hc
  match es,hc with
  | _::_,_=>exact⟨_,_,rfl⟩
  | [],hc=>exact fE hc
 soundA:=by
  intro X r' top N nm es Γ S W pos A hl hc hw
  obtain⟨l1,l2⟩:=lv2 hl
  match es,hc with
  | e::es,hc=>
    obtain⟨h1,h2⟩:=aa hc
    obtain⟨b,rest,rfl⟩:=r.ne h2
    exact tw_and (Ts.mono (t.sound A l1 h1 hw) λ c S1 q=>⟨λ hk=>r.soundA A l2 h2 (q.1 hk),q.2⟩)
  | [],hc=>exact fE hc
 soundO:=by
  intro X r' top N nm es Γ S W pos A hl hc hw
  obtain⟨l1,l2⟩:=lv2 hl
  match es,hc with
  | e::es,hc=>
    obtain⟨h1,h2⟩:=aa hc
    obtain⟨b,rest,rfl⟩:=r.ne h2
    exact tw_or (Ts.mono (t.sound A l1 h1 hw) λ c S1 q=>⟨q.1,λ hk=>r.soundO A l2 h2 (q.2 hk)⟩)
  | [],hc=>exact fE hc
noncomputable def Te.and(l:Bt Ω):Te Ω where
 lev:=l.lev
 chk top N nm e:=match e with | .BoolOp .And es _=>l.chk top N nm es | _=>false
 wp Γ S W:=l.wpA Γ S W
 sound:=by
  intro X r top N nm e Γ S W A hl hc hw
  cases e with
  | BoolOp o es pos=>
    cases o with
    | And=>exact(l.soundA A hl hc hw).ts
    | _=>exact fE hc
  | _=>exact fE hc
noncomputable def Te.or(l:Bt Ω):Te Ω where
 lev:=l.lev
 chk top N nm e:=match e with | .BoolOp .Or es _=>l.chk top N nm es | _=>false
 wp Γ S W:=l.wpO Γ S W
 sound:=by
  intro X r top N nm e Γ S W A hl hc hw
  cases e with
  | BoolOp o es pos=>
    cases o with
    | Or=>exact(l.soundO A hl hc hw).ts
    | _=>exact fE hc
  | _=>exact fE hc
noncomputable def Bo.one(t:Ex Ω):Bo Ω where
 lev:=t.lev
 chk top N nm es:=match es with | [e]=>t.chk top N nm e | _=>false
 wpA Γ S W:=t.wp Γ S W
 wpO Γ S W:=t.wp Γ S W
 ne:=by
  intro top N nm es hc
  match es,hc with
  | [e],_=>exact⟨_,_,rfl⟩
  | [],hc=>exact fE hc
  | _::_::_,hc=>exact fE hc
 soundA:=by
  intro X r top N nm es Γ S W pos A hl hc hw
  match es,hc with
  | [e],hc=>exact JN (t.sound A hl hc hw)
  | [],hc=>exact fE hc
  | _::_::_,hc=>exact fE hc
 soundO:=by
  intro X r top N nm es Γ S W pos A hl hc hw
  match es,hc with
  | [e],hc=>exact JN (t.sound A hl hc hw)
  | [],hc=>exact fE hc
  | _::_::_,hc=>exact fE hc
noncomputable def Bo.cons(t:Ex Ω)(r:Bo Ω):Bo Ω where
 lev:=max t.lev r.lev
 chk top N nm es:=match es with | e::es=>t.chk top N nm e&&r.chk top N nm es | _=>false
 wpA Γ S W:=t.wp Γ S λ d S1=>match d with | .bl c=>(c=true->r.wpA Γ S1 W)/\(c=false->W (.bl false) S1) | _=>False
 wpO Γ S W:=t.wp Γ S λ d S1=>match d with | .bl c=>(c=true->W (.bl true) S1)/\(c=false->r.wpO Γ S1 W) | _=>False
 ne:=by
  intro top N nm es hc
  match es,hc with
  | _::_,_=>exact⟨_,_,rfl⟩
  | [],hc=>exact fE hc
 soundA:=by
  intro X r' top N nm es Γ S W pos A hl hc hw
  obtain⟨l1,l2⟩:=lv2 hl
  match es,hc with
  | e::es,hc=>
    obtain⟨h1,h2⟩:=aa hc
    obtain⟨b,rest,rfl⟩:=r.ne h2
    refine Tj ((t.sound A l1 h1 hw).mono λ d S1 q=>?_)
    cases d<;>first | exact⟨_,rfl,λ hk=>r.soundA A l2 h2 (q.1 hk),q.2⟩ | exact q.elim
  | [],hc=>exact fE hc
 soundO:=by
  intro X r' top N nm es Γ S W pos A hl hc hw
  obtain⟨l1,l2⟩:=lv2 hl
  match es,hc with
  | e::es,hc=>
    obtain⟨h1,h2⟩:=aa hc
    obtain⟨b,rest,rfl⟩:=r.ne h2
    refine Vg ((t.sound A l1 h1 hw).mono λ d S1 q=>?_)
    cases d<;>first | exact⟨_,rfl,q.1,λ hk=>r.soundO A l2 h2 (q.2 hk)⟩ | exact q.elim
  | [],hc=>exact fE hc
noncomputable def Ex.and(l:Bo Ω):Ex Ω where
 lev:=l.lev
 chk top N nm e:=match e with | .BoolOp .And es _=>l.chk top N nm es | _=>false
 wp Γ S W:=l.wpA Γ S W
 sound:=by
  intro X r top N nm e Γ S W A hl hc hw
  cases e with
  | BoolOp o es pos=>
    cases o with
    | And=>exact l.soundA A hl hc hw
    | _=>exact fE hc
  | _=>exact fE hc
noncomputable def Ex.or(l:Bo Ω):Ex Ω where
 lev:=l.lev
 chk top N nm e:=match e with | .BoolOp .Or es _=>l.chk top N nm es | _=>false
 wp Γ S W:=l.wpO Γ S W
 sound:=by
  intro X r top N nm e Γ S W A hl hc hw
  cases e with
  | BoolOp o es pos=>
    cases o with
    | Or=>exact l.soundO A hl hc hw
    | _=>exact fE hc
  | _=>exact fE hc
noncomputable def Ex.not(a:Ex Ω):Ex Ω where
 lev:=a.lev
 chk top N nm e:=match e with | .UnaryOp .Not b _=>a.chk top N nm b | _=>false
 wp Γ S W:=a.wp Γ S λ d S1=>match d with | .bl c=>W (.bl (!c)) S1 | _=>False
 sound:=by
  intro X r top N nm e Γ S W A hl hc hw
  cases e with
  | UnaryOp o b pos=>
    cases o with
    | Not=>
      refine Tq ((a.sound A hl hc hw).mono λ d S1 q=>?_)
      cases d<;>first | exact⟨_,rfl,q⟩ | exact q.elim
    | _=>exact fE hc
  | _=>exact fE hc
noncomputable def Ex.neg(a:Ex Ω):Ex Ω where
 lev:=a.lev
 chk top N nm e:=match e with | .UnaryOp .USub b _=>a.chk top N nm b | _=>false
 wp Γ S W:=a.wp Γ S λ d S1=>match d with | .int c=>W (.int (-c)) S1 | _=>False
 sound:=by
  intro X r top N nm e Γ S W A hl hc hw
  cases e with
  | UnaryOp o b pos=>
    cases o with
    | USub=>
      refine HH ((a.sound A hl hc hw).mono λ d S1 q=>?_)
      cases d<;>first | exact⟨_,rfl,q⟩ | exact q.elim
    | _=>exact fE hc
  | _=>exact fE hc
noncomputable def Ar.nil:Ar Ω where
 lev:=0
 chk _ _ _ es:=match es with | []=>true | _=>false
 wp _ S W:=W [] S
 plain:=by
  intro top N nm es hc
  match es,hc with
  | [],_=>rfl
  | _::_,hc=>exact fE hc
 sound:=by
  intro X r top N nm es Γ S W A _ hc hw
  match es,hc with
  | [],_=>exact d8 hw
  | _::_,hc=>exact fE hc
noncomputable def Ar.cons(a:Ex Ω)(r:Ar Ω):Ar Ω where
 lev:=max a.lev r.lev
 chk top N nm es:=match es with | e::es=>okE e&&(a.chk top N nm e&&r.chk top N nm es) | _=>false
 wp Γ S W:=a.wp Γ S λ d S1=>r.wp Γ S1 λ ds S2=>W (d::ds) S2
 plain:=by
  intro top N nm es hc
  match es,hc with
  | e::es,hc=>
    obtain⟨h1,h2⟩:=aa hc
    obtain⟨h2,h3⟩:=aa h2
    rw[List.all_cons,h1,r.plain h3];rfl
  | [],hc=>exact fE hc
 sound:=by
  intro X r' top N nm es Γ S W A hl hc hw
  obtain⟨l1,l2⟩:=lv2 hl
  match es,hc with
  | e::es,hc=>
    obtain⟨h1,h2⟩:=aa hc
    obtain⟨h2,h3⟩:=aa h2
    exact bI ((a.sound A l1 h2 hw).mono λ d S1 q=>r.sound A l2 h3 q) (aB h1 _ _)
  | [],hc=>exact fE hc
noncomputable def Ex.tup(as:Ar Ω):Ex Ω where
 lev:=as.lev
 chk top N nm e:=match e with | .Tuple es _ _=>as.chk top N nm es | _=>false
 wp Γ S W:=as.wp Γ S λ ds S1=>ds.length≤1000000/\W (.tup ds) S1
 sound:=by
  intro X r top N nm e Γ S W A hl hc hw
  cases e with
  | Tuple es k pos=>exact R7 (as.sound A hl hc hw)
  | _=>exact fE hc
noncomputable def Ex.lst(as:Ar Ω):Ex Ω where
 lev:=as.lev
 chk top N nm e:=match e with | .List es _=>as.chk top N nm es | _=>false
 wp Γ S W:=as.wp Γ S λ ds S1=>ds.length≤1000000/\W (.lst ds) S1
 sound:=by
  intro X r top N nm e Γ S W A hl hc hw
  cases e with
  | List es pos=>exact RQ (as.sound A hl hc hw)
  | _=>exact fE hc
noncomputable def Ex.own(as:Ar Ω):Ex Ω where
 lev:=as.lev
 chk top N nm e:=match e with | .List es _=>as.chk top N nm es | _=>false
 wp Γ S W:=as.wp Γ S λ ds S1=>ds.length≤1000000/\W (.loc S1.length) (S1++[ds])
 sound:=by
  intro X r top N nm e Γ S W A hl hc hw
  cases e with
  | List es pos=>exact Oq (as.sound A hl hc hw)
  | _=>exact fE hc
noncomputable def Ex.ix(a b:Ex Ω):Ex Ω where
 lev:=max a.lev b.lev
 chk top N nm e:=match e with | .Subscript l r _=>okE r&&(a.chk top N nm l&&b.chk top N nm r) | _=>false
 wp Γ S W:=a.wp Γ S λ x S1=>b.wp Γ S1 λ y S2=>Gg x y S2 W
 sound:=by
  intro X r top N nm e Γ S W A hl hc hw
  obtain⟨l1,l2⟩:=lv2 hl
  cases e with
  | Subscript l r' pos=>
    obtain⟨h1,h2⟩:=aa hc
    obtain⟨h2,h3⟩:=aa h2
    exact U6 ((a.sound A l1 h2 hw).mono λ x S1 q=>(b.sound A l2 h3 q).mono λ y S2 q=>Oe q) (Av h1)
  | _=>exact fE hc
set_option genInjectivity false in
structure Po(Ω:Wd) where
 lev:Nat
 chk:Bool->List Str->Nm->Option Expr->Bool
 wp:Gam->Store->(Option Int->Store->Prop)->Prop
 sound:∀{X:Cx}{r:Nat}{top:Bool}{N:List Str}{nm:Nm}{e:Option Expr}{Γ:Gam}{S:Store}{W:Option Int->Store->Prop},At Ω X r top N nm->lev≤r->chk top N nm e=true->wp Γ S W->PoD X Γ S e W
noncomputable def Po.no:Po Ω where
 lev:=0
 chk _ _ _ e:=match e with | none=>true | _=>false
 wp _ S W:=W none S
 sound:=by
  intro X r top N nm e Γ S W A hl hc hw
  cases e with
  | none=>exact VJ hw
  | some e=>exact fE hc
noncomputable def Po.so(a:Ex Ω):Po Ω where
 lev:=a.lev
 chk top N nm e:=match e with | some e=>a.chk top N nm e | _=>false
 wp Γ S W:=a.wp Γ S λ d S1=>match d with | .int i=>W (some i) S1 | _=>False
 sound:=by
  intro X r top N nm e Γ S W A hl hc hw
  cases e with
  | some e=>
    refine VR ((a.sound A hl hc hw).mono λ d S1 q=>?_)
    cases d<;>first | exact⟨_,rfl,q⟩ | exact q.elim
  | none=>exact fE hc
theorem PoD.mono{Γ:Gam}{S:Store}{e:Option Expr}{W W':Option Int->Store->Prop}(h:PoD X Γ S e W)(k:∀c S',W c S'->W' c S'):PoD X Γ S e W':=by
 cases e with
 | none=>exact k _ _ h
 | some e=>exact Ev.mono h λ d S1 ⟨i,e,w⟩=>⟨i,e,k _ _ w⟩
noncomputable def Ex.sl(a:Ex Ω)(lo hi:Po Ω):Ex Ω where
 lev:=max a.lev (max lo.lev hi.lev)
 chk top N nm e:=match e with | .Subscript l (.Slice x y none _) _=>a.chk top N nm l&&(lo.chk top N nm x&&hi.chk top N nm y) | _=>false
 wp Γ S W:=a.wp Γ S λ x S1=>lo.wp Γ S1 λ l S2=>hi.wp Γ S2 λ h S3=>Ng x l h S3 W
 sound:=by
  intro X r top N nm e Γ S W A hl hc hw
  obtain⟨l1,l2⟩:=lv2 hl
  obtain⟨l2,l3⟩:=lv2 l2
  cases e with
  | Subscript l sl pos=>
    cases sl with
    | Slice x y z p2=>
      cases z with
      | none=>
        obtain⟨h1,h2⟩:=aa hc
        obtain⟨h2,h3⟩:=aa h2
        exact Lw ((a.sound A l1 h1 hw).mono λ x S1 q=>PoD.mono (lo.sound A l2 h2 q) λ l S2 q=>PoD.mono (hi.sound A l3 h3 q) λ h S3 q=>PT q)
      | some _=>exact fE hc
    | _=>exact fE hc
  | _=>exact fE hc
noncomputable def Ex.call{x:Str}{k n:Nat}{F:Ct}(C:Callee Ω.P Ω.w Ω.K Ω.mg Ω.base x k n F)(as:Ar Ω):Ex Ω where
 lev:=max k as.lev
 chk top N nm e:=match e with | .Call (.Name y _) (a::es) [] _=>(y==x)&&(glb nm x&&(okN x&&as.chk top N nm (a::es))) | _=>false
 wp Γ S W:=as.wp Γ S λ ds S1=>ds.length=n/\F ds S1 W
 sound:=by
  intro X r top N nm e Γ S W A hl hc hw
  obtain⟨l1,l2⟩:=lv2 hl
  cases e with
  | Call f es ks pos=>
    cases f with
    | Name y p=>
      match es,ks,hc with
      | a::es,[],hc=>
        obtain⟨h1,h2⟩:=aa hc
        obtain⟨h2,h3⟩:=aa h2
        obtain⟨h3,h4⟩:=aa h3
        have e:y=x:=ZI h1
        subst e
        have pl:=as.plain h4
        rw[List.all_cons]at pl
        obtain⟨p1,p2⟩:=aa pl
        have C':Callee X.prog X.w X.K X.mg X.base y k n F:=by rw[A.p,A.w,A.k,A.g,A.b];exact C
        exact Pa C' (A.room.mono l1) (as.sound A l2 h4 hw) (A.glb h2) (iG h3).1 (aB p1 _ _) (tu p2 _ _)
      | [],_,hc=>exact fE hc
      | _::_,_::_,hc=>exact fE hc
    | _=>exact fE hc
  | _=>exact fE hc
set_option genInjectivity false in
structure Bf where
 x:Str
 id:String
 boot:bootBuiltins x=some (.builtin id)
 wp:List D->Store->WD->Prop
 sound:∀{X:Cx}{ds:List D}{S:Store}{W:WD},X.calm=true->Room 0 X.A->wp ds S W->cG X (.builtin id) ds S W
noncomputable def Ex.blt(b:Bf)(hm:Ω.mg b.x=none)(as:Ar Ω):Ex Ω where
 lev:=as.lev
 chk top N nm e:=match e with | .Call (.Name y _) (a::es) [] _=>(y==b.x)&&(glb nm b.x&&(okN b.x&&as.chk top N nm (a::es))) | _=>false
 wp Γ S W:=as.wp Γ S λ ds S1=>b.wp ds S1 W
 sound:=by
  intro X r top N nm e Γ S W A hl hc hw
  cases e with
  | Call f es ks pos=>
    cases f with
    | Name y p=>
      match es,ks,hc with
      | a::es,[],hc=>
        obtain⟨h1,h2⟩:=aa hc
        obtain⟨h2,h3⟩:=aa h2
        obtain⟨h3,h4⟩:=aa h3
        have e:y=b.x:=ZI h1
        subst e
        have pl:=as.plain h4
        rw[List.all_cons]at pl
        obtain⟨p1,p2⟩:=aa pl
        exact KQ (EvA.mono (as.sound A hl h4 hw) λ ds S1 q=>b.sound A.calm (A.room.mono (Nat.zero_le _)) q) (by rw[A.g];exact hm) b.boot (A.glb h2) (iG h3).2.2 (iG h3).1 (aB p1 _ _) (tu p2 _ _)
      | [],_,hc=>exact fE hc
      | _::_,_::_,hc=>exact fE hc
    | _=>exact fE hc
  | _=>exact fE hc
set_option genInjectivity false in
structure Bc where
 x:Str
 id:String
 boot:bootBuiltins x=some (.type id)
 wp:List D->Store->WD->Prop
 sound:∀{X:Cx}{ds:List D}{S:Store}{W:WD},X.calm=true->Room 0 X.A->wp ds S W->cG X (.type id) ds S W
noncomputable def Ex.typ(b:Bc)(hm:Ω.mg b.x=none)(as:Ar Ω):Ex Ω where
 lev:=as.lev
 chk top N nm e:=match e with | .Call (.Name y _) (a::es) [] _=>(y==b.x)&&(glb nm b.x&&(okN b.x&&as.chk top N nm (a::es))) | _=>false
 wp Γ S W:=as.wp Γ S λ ds S1=>b.wp ds S1 W
 sound:=by
  intro X r top N nm e Γ S W A hl hc hw
  cases e with
  | Call f es ks pos=>
    cases f with
    | Name y p=>
      match es,ks,hc with
      | a::es,[],hc=>
        obtain⟨h1,h2⟩:=aa hc
        obtain⟨h2,h3⟩:=aa h2
        obtain⟨h3,h4⟩:=aa h3
        have e:y=b.x:=ZI h1
        subst e
        have pl:=as.plain h4
        rw[List.all_cons]at pl
        obtain⟨p1,p2⟩:=aa pl
        exact Mp (EvA.mono (as.sound A hl h4 hw) λ ds S1 q=>b.sound A.calm (A.room.mono (Nat.zero_le _)) q) (by rw[A.g];exact hm) b.boot (A.glb h2) (iG h3).2.2 (iG h3).1 (aB p1 _ _) (tu p2 _ _)
      | [],_,hc=>exact fE hc
      | _::_,_::_,hc=>exact fE hc
    | _=>exact fE hc
  | _=>exact fE hc
noncomputable def Ex.isi(hm:Ω.mg "isinstance"=none)(a:Ex Ω)(T:Ty)(hT:Ω.mg T.nm=none):Ex Ω where
 lev:=a.lev
 chk top N nm e:=match e with | .Call (.Name y _) [b,.Name t _] [] _=>(y==("isinstance":Str))&&(glb nm "isinstance"&&((t==T.nm)&&(glb nm T.nm&&(okE b&&a.chk top N nm b)))) | _=>false
 wp Γ S W:=a.wp Γ S λ d S1=>W (.bl (isD T d)) S1
 sound:=by
  intro X r top N nm e Γ S W A hl hc hw
  split at hc
  . rename_i y p b t q pos
    obtain⟨h1,g2⟩:=aa hc
    obtain⟨h2,g3⟩:=aa g2
    obtain⟨h3,g4⟩:=aa g3
    obtain⟨h4,g5⟩:=aa g4
    obtain⟨h5,h6⟩:=aa g5
    have e:y="isinstance":=ZI h1
    subst e
    have e:t=T.nm:=ZI h3
    subst e
    exact RB (Tn:=T.id) ((a.sound A hl h6 hw).mono λ d S1 q=>by rw[TJ];exact q) T.isT T.boot (by rw[A.g];exact hm) (by rw[A.g];exact hT) (A.glb h2) (A.glb h4) T.ok.2 T.ok.1 (aB h5 _ _) (aB (e:=.Name T.nm q) rfl [] _)
  . exact fE hc
end RF
namespace RF
open PySem PySem.Spec L2 DL
open PyProof.Rows
variable {Γ : Gam}
inductive Tg where
 | nm(i:Nat) | tup(is:List Nat)
noncomputable def setAll:Gam->List Nat->List D->Gam
 | Γ,i::is,d::ds=>setAll (Γ.set i (some d)) is ds
 | Γ,_,_=>Γ
noncomputable def Tg.wp:Tg->D->Gam->(Gam->Prop)->Prop
 | .nm i,d,Γ,W=>W (Γ.set i (some d))
 | .tup is,.tup ds,Γ,W=>ds.length=is.length/\W (setAll Γ is ds)
 | .tup _,_,_,_=>False
noncomputable def Tg.slots:Tg->List Nat
 | .nm i=>[i]
 | .tup is=>is
noncomputable def wW(top:Bool)(N:List Str)(nm:Nm)(i:Nat)(e:Expr):Bool:=match e with | .Name x _=>(N[i]? ==some x)&&lcl top nm x | _=>false
noncomputable def fO(top:Bool)(N:List Str)(nm:Nm):List Nat->List Expr->Bool
 | [],[]=>true
 | i::is,e::es=>wW top N nm i e&&fO top N nm is es
 | _,_=>false
noncomputable def Tg.chk(t:Tg)(top:Bool)(N:List Str)(nm:Nm)(e:Expr):Bool:=match t with
 | .nm i=>wW top N nm i e
 | .tup is=>match e with | .Tuple es _ _=>fO top N nm is es | _=>false
section
variable {Ω : Wd} {X : Cx} {r : Nat} {top : Bool} {N : List Str} {nm : Nm}
theorem Kv(A:At Ω X r top N nm){i:Nat}{e:Expr}{d:D}{Γ:Gam}{S:Store}{W:Gam->Store->Prop}(hc:wW top N nm i e=true)(hw:W (Γ.set i (some d)) S):BdW X e d Γ S W:=by
 cases e with
 | Name x pos=>
   obtain⟨h1,h2⟩:=aa hc
   have h1:N[i]? =some x:=ZI h1
   obtain⟨l1,l2⟩:=A.lcl h2
   exact Qg i hw (by rw[A.n];exact A.nd) (by rw[A.n];exact h1) l1 l2
 | _=>exact fE hc
theorem zQ{i:Nat}{is:List Nat}{es:List Expr}(h:fO top N nm (i::is) es=true):∃x p es',es=.Name x p::es'/\wW top N nm i (.Name x p)=true/\fO top N nm is es'=true:=by
 cases es with
 | nil=>exact(y7 h).elim
 | cons e es=>
   obtain⟨h1,h2⟩:=aa h
   cases e with
   | Name x p=>exact⟨x,p,es,rfl,h1,h2⟩
   | _=>exact(y7 h1).elim
theorem Ez{es:List Expr}(h:fO top N nm [] es=true):es=[]:=by
 cases es with
 | nil=>rfl
 | cons e es=>exact(y7 h).elim
theorem J0(A:At Ω X r top N nm){S:Store}{W:Gam->Store->Prop}:∀{is:List Nat}{es:List Expr}{ds:List D}{Γ:Gam},fO top N nm is es=true->ds.length=is.length->W (setAll Γ is ds) S->yo X es ds Γ S W
 | [],es,ds,Γ,hc,hl,hw=>by
   have e:=Ez hc
   subst e
   have e:ds=[]:=by simpa using hl
   subst e
   exact Oh hw
 | i::is,es,ds,Γ,hc,hl,hw=>by
   obtain⟨x,p,es',rfl,h1,h2⟩:=zQ hc
   cases ds with
   | nil=>simp at hl
   | cons d ds=>exact Nk (Kv A h1 (J0 A h2 (by simpa using hl) hw)) rfl
theorem Eu:∀{is:List Nat}{es:List Expr},fO top N nm is es=true->∀env:Env,(assignEach es env).length=is.length/\(assignEach es env).findIdx? (·.1)=none
 | [],es,hc,env=>by
   have e:=Ez hc
   subst e
   exact⟨rfl,rfl⟩
 | i::is,es,hc,env=>by
   obtain⟨x,p,es',rfl,h1,h2⟩:=zQ hc
   obtain⟨a,b⟩:=Eu h2 env
   have e:assignEach (.Name x p::es') env=(false,assign (.Name x p) env)::assignEach es' env:=rfl
   rw[e]
   refine⟨by simp[a],?_⟩
   rw[List.findIdx?_cons,b]
   rfl
theorem Tg.sound(A:At Ω X r top N nm){t:Tg}{e:Expr}{d:D}{Γ:Gam}{S:Store}{W:Gam->Store->Prop}(hc:t.chk top N nm e=true)(hw:t.wp d Γ λ Γ'=>W Γ' S):BdW X e d Γ S W:=by
 cases t with
 | nm i=>exact Kv A hc hw
 | tup is=>
   cases e with
   | Tuple es k pos=>
     have hc:fO top N nm is es=true:=hc
     cases d with
     | tup ds=>
       obtain⟨hl,hw⟩:ds.length=is.length/\W (setAll Γ is ds) S:=hw
       obtain⟨a,b⟩:=Eu hc X.env
       exact Tw (J0 A hc hl hw) A.calm (a.trans hl.symm) b
     | _=>exact hw.elim
   | _=>exact fE hc
end
theorem Sub.setAll{Γ:Gam}:∀{is:List Nat}{ds:List D}{Γ':Gam},Sub Γ Γ'->(∀i∈is,Γ[i]? =some none)->Sub Γ (RF.setAll Γ' is ds)
 | [],ds,Γ',h,_=>by cases ds<;>exact h
 | i::is,[],Γ',h,_=>h
 | i::is,d::ds,Γ',h,hi=>show Sub Γ (RF.setAll (Γ'.set i (some d)) is ds)from Sub.setAll (Γ':=Γ'.set i (some d)) (h.set i (some d) (hi i x8)) λ j hj=>hi j (x5 _ hj)
theorem JZ{cap:List (Option Nat)}{i:Nat}(h:cap[i]? =some none):(capt cap Γ)[i]? =some none:=by
 unfold capt
 rw[y9,h];rfl
set_option genInjectivity false in
structure Itb(Ω:Wd) where
 lev:Nat
 chk:Bool->List Str->Nm->Expr->Expr->Bool
 wp:Gam->Store->(List D->Store->Prop)->Prop
 sound:∀{X:Cx}{r:Nat}{top:Bool}{N:List Str}{nm:Nm}{tg e:Expr}{Γ:Gam}{S:Store}{W:List D->Store->Prop},At Ω X r top N nm->lev≤r->chk top N nm tg e=true->wp Γ S W->ItW X Γ S tg e W
theorem Tf{X:Cx}{S:Store}{tg e:Expr}{W:List D->Store->Prop}(h:Ev X Γ S e λ d S1=>match d with | .lst ds=>W ds S1 | .tup ds=>W ds S1 | _=>False):ItW X Γ S tg e W:=by
 intro pins s σ H O I env st
 refine thn (h pins s σ H O I env st) λ u s1 hq_=>?_
 obtain⟨v,H1,I1,r1,O1,d,S1,w,st1,ok1,rep⟩:=hq_
 cases rep with
 | @lst a xs ds h1 q1=>
   cases r1
   obtain⟨its,rv,p,hz⟩:=I1.list h1.sq
   refine wpAny_pyIter_list p.isList ?_
   refine⟨s1.heap.objs.size,[s1.heap.objs.size],_,_,H1,rfl,I1.kept (t':=s1.toks) λ b o e=>ZC _ e,mL a _,⟨_,ZD _ rfl,rfl,rfl⟩,λ b hb=>?_,O1,ds,S1,w,st1,ok1,pQ h1 q1⟩
   have e:b=s1.heap.objs.size:=by simpa using hb
   subst e
   exact I1.fpOk (x4 _) (I1.hok.fresh (x4 _))
 | @tup a xs ds h1 q1=>
   cases r1
   obtain⟨its,rv,p,hz⟩:=I1.tuple h1.sq
   refine wpAny_pyIter_tuple (show s1.heap.IsTuple a its.toArray from p) ?_
   refine⟨s1.heap.objs.size,[s1.heap.objs.size],_,_,H1,rfl,I1.kept (t':=s1.toks) λ b o e=>ZC _ e,sU a _,⟨_,ZD _ rfl,rfl,rfl⟩,λ b hb=>?_,O1,ds,S1,w,st1,ok1,rP h1 q1⟩
   have e:b=s1.heap.objs.size:=by simpa using hb
   subst e
   exact I1.fpOk (x4 _) (I1.hok.fresh (x4 _))
 | _=>exact w.elim
variable {Ω : Wd}
noncomputable def Itb.seq(a:Ex Ω):Itb Ω where
 lev:=a.lev
 chk top N nm _ e:=a.chk top N nm e
 wp Γ S W:=a.wp Γ S λ d S1=>match d with | .lst ds=>W ds S1 | .tup ds=>W ds S1 | _=>False
 sound:=by
  intro X r top N nm tg e Γ S W A hl hc hw
  exact Tf (a.sound A hl hc hw)
noncomputable def Itb.rng1(hm:Ω.mg "range"=none)(a:Ex Ω):Itb Ω where
 lev:=a.lev
 chk top N nm _ e:=match e with | .Call (.Name y _) [b] [] _=>(y==("range":Str))&&(glb nm "range"&&(okE b&&a.chk top N nm b)) | _=>false
 wp Γ S W:=a.wp Γ S λ d S1=>match d with | .int j=>(-(2 ^ 62)≤j/\j<2 ^ 62)/\W (upTo 0 j.toNat) S1 | _=>False
 sound:=by
  intro X r top N nm tg e Γ S W A hl hc hw
  split at hc
  . rename_i y p b pos
    obtain⟨h1,g2⟩:=aa hc
    obtain⟨h2,g3⟩:=aa g2
    obtain⟨h3,h4⟩:=aa g3
    have e:y="range":=ZI h1
    subst e
    refine HF ((a.sound A hl h4 hw).mono λ d S1 q=>?_) (by rw[A.g];exact hm) (A.glb h2) (aB h3 [] _)
    cases d<;>first | exact⟨_,rfl,q.1.1,q.1.2,q.2⟩ | exact q.elim
  . exact fE hc
noncomputable def Itb.rng2(hm:Ω.mg "range"=none)(a b:Ex Ω):Itb Ω where
 lev:=max a.lev b.lev
 chk top N nm _ e:=match e with | .Call (.Name y _) [l,r] [] _=>(y==("range":Str))&&(glb nm "range"&&((okE l&&okE r)&&(a.chk top N nm l&&b.chk top N nm r))) | _=>false
 wp Γ S W:=a.wp Γ S λ d S1=>b.wp Γ S1 λ d' S2=>match d,d' with | .int i,.int j=>(-(2 ^ 62)≤i/\i<2 ^ 62/\ -(2 ^ 62)≤j/\j<2 ^ 62)/\W (upTo i (j-i).toNat) S2 | _,_=>False
 sound:=by
  intro X r top N nm tg e Γ S W A hl hc hw
  obtain⟨l1,l2⟩:=lv2 hl
  split at hc
  . rename_i y p l r' pos
    obtain⟨h1,g2⟩:=aa hc
    obtain⟨h2,g3⟩:=aa g2
    obtain⟨h3,h4⟩:=aa g3
    obtain⟨h5,h6⟩:=aa h3
    obtain⟨h7,h8⟩:=aa h4
    have e:y="range":=ZI h1
    subst e
    refine Im ((a.sound A l1 h7 hw).mono λ d S1 q=>(b.sound A l2 h8 q).mono λ d' S2 q=>?_) (by rw[A.g];exact hm) (A.glb h2) (by rw[aB h5,aB h6];rfl) (aB h6 [] _)
    cases d<;>first | exact q.elim | (cases d'<;>first | exact⟨_,_,rfl,rfl,q.1,q.2⟩ | exact q.elim)
  . exact fE hc
set_option genInjectivity false in
structure Cd(Ω:Wd) where
 lev:Nat
 chk:Bool->List Str->Nm->List Expr->Bool
 wp:Gam->Store->(Bool->Store->Prop)->Prop
 sound:∀{X:Cx}{r:Nat}{top:Bool}{N:List Str}{nm:Nm}{es:List Expr}{Γ:Gam}{S:Store}{W:Bool->Store->Prop},At Ω X r top N nm->lev≤r->chk top N nm es=true->wp Γ S W->TsA X Γ S es W
noncomputable def Cd.no:Cd Ω where
 lev:=0
 chk _ _ _ es:=match es with | []=>true | _=>false
 wp _ S W:=W true S
 sound:=by
  intro X r top N nm es Γ S W A hl hc hw
  match es,hc with
  | [],_=>exact hw
  | _::_,hc=>exact fE hc
noncomputable def Cd.so(t:Te Ω):Cd Ω where
 lev:=t.lev
 chk top N nm es:=match es with | [e]=>t.chk top N nm e | _=>false
 wp Γ S W:=t.wp Γ S W
 sound:=by
  intro X r top N nm es Γ S W A hl hc hw
  match es,hc with
  | [e],hc=>exact Um (t.sound A hl hc hw)
  | [],hc=>exact fE hc
  | _::_::_,hc=>exact fE hc
@[irreducible] noncomputable def jc(cap:List (Option Nat))(Γ:Gam)(elt:Ex Ω)(tg:Tg)(cd:Cd Ω)(W:WD)(ds:List D)(C0:Store->Prop)(S1:Store):Prop:=
  ds.length≤1000000/\∃Pv:Nat->List D->Store->Prop,Pv 0 [] S1/\(∀i acc S',Pv i acc S'->C0 S')/\
   (∀i d acc S',ds[i]? =some d->Pv i acc S'->tg.wp d (capt cap Γ) λ Γ2=>cd.wp Γ2 S' λ ok S3=>(ok=true->elt.wp Γ2 S3 λ y S4=>Pv (i+1) (acc++[y]) S4)/\(ok=false->Pv (i+1) acc S3))/\
   ∀acc S',Pv ds.length acc S'->W (.lst acc) S'∨W (.loc S'.length) (S'++[acc])
noncomputable abbrev iU(cap:List (Option Nat))(Γ:Gam)(elt:Ex Ω)(tg:Tg)(cd:Cd Ω)(W:WD)(ds:List D)(S1:Store):Prop:=jc cap Γ elt tg cd W ds (λ _=>True) S1
theorem cB{cap:List (Option Nat)}{elt:Ex Ω}{tg:Tg}{cd:Cd Ω}{W:WD}{ds:List D}{C0:Store->Prop}{S1:Store}(h:ds.length≤1000000/\∃Pv:Nat->List D->Store->Prop,Pv 0 [] S1/\(∀i acc S',Pv i acc S'->C0 S')/\
 (∀i d acc S',ds[i]? =some d->Pv i acc S'->tg.wp d (capt cap Γ) λ Γ2=>cd.wp Γ2 S' λ ok S3=>(ok=true->elt.wp Γ2 S3 λ y S4=>Pv (i+1) (acc++[y]) S4)/\(ok=false->Pv (i+1) acc S3))/\
 ∀acc S',Pv ds.length acc S'->W (.lst acc) S'∨W (.loc S'.length) (S'++[acc])):jc cap Γ elt tg cd W ds C0 S1:=by unfold jc;exact h
theorem fD{cap:List (Option Nat)}{elt:Ex Ω}{tg:Tg}{cd:Cd Ω}{W:WD}{ds:List D}{S1:Store}(h:ds.length≤1000000/\∃Pv:Nat->List D->Store->Prop,Pv 0 [] S1/\
 (∀i d acc S',ds[i]? =some d->Pv i acc S'->tg.wp d (capt cap Γ) λ Γ2=>cd.wp Γ2 S' λ ok S3=>(ok=true->elt.wp Γ2 S3 λ y S4=>Pv (i+1) (acc++[y]) S4)/\(ok=false->Pv (i+1) acc S3))/\
 ∀acc S',Pv ds.length acc S'->W (.lst acc) S'):iU cap Γ elt tg cd W ds S1:=by
 obtain⟨hz,Pv,p0,pt,pe⟩:=h
 exact cB ⟨hz,Pv,p0,λ _ _ _ _=>trivial,pt,λ acc S' q=>.inl (pe acc S' q)⟩
noncomputable def gD(N':List Str)(cap:List (Option Nat))(elt:Ex Ω)(tg:Tg)(it:Itb Ω)(cd:Cd Ω)(top:Bool)(N:List Str)(nm:Nm)(e:Expr):Bool:=match e with
 | .ListComp x [⟨t,i,cs,0⟩] sc _=>(sc.kind==.function)&&(xW sc.names&&(freeOk nm sc.names&&((sc.names.all λ y=>!(y.2==.local)||(sc.names.lookup y.1==some .local))&&(bj N nm N' sc.names cap N'&&
  (okE i&&((tg.slots.all λ j=>cap[j]? ==some none)&&(decide N'.Nodup&&(it.chk top N nm t i&&(tg.chk false N' sc.names t&&(cd.chk false N' sc.names cs&&elt.chk false N' sc.names x))))))))))
 | _=>false
section
variable {X : Cx} {r : Nat} {top : Bool} {N : List Str} {nm : Nm}
theorem vN(A:At Ω X r top N nm){x:Str}(h:nm.lookup x=some .cell∨nm.lookup x=some .free):X.env.scope.names.lookup x=some .cell∨X.env.scope.names.lookup x=some .free:=by
 rcases h with h | h
 . rcases A.look x _ h with q | ⟨q,_⟩
   . exact .inl q
   . exact nomatch q
 . rcases A.look x _ h with q | ⟨_,q⟩
   . exact .inr q
   . exact .inl q
theorem mW(A:At Ω X r top N nm){names:Nm}(h:freeOk nm names=true):freeOk X.env.scope.names names=true:=by
 unfold freeOk
 refine List.all_eq_true.mpr λ y hy=>?_
 by_cases e:y.2=.free
 . have:=vN A (nQ h y hy e)
   rcases this with q | q<;>simp[q]
 . simp[e]
theorem iI(A:At Ω X r top N nm){N':List Str}{names':Nm}:∀{cap:List (Option Nat)}{t:List Str},bj N nm N' names' cap t=true->bj X.N X.env.scope.names N' names' cap t=true
 | [],[],_=>rfl
 | [],_::_,h=>by simp[bj]at h
 | none::_,[],h=>by simp[bj]at h
 | some _::_,[],h=>by simp[bj]at h
 | none::r,_::t,h=>by simp only[bj]at h ⊢;exact iI A h
 | some j::r,x::t,h=>by
   simp only[bj,Bool.and_eq_true,Bool.or_eq_true,beq_iff_eq]at h ⊢
   exact⟨⟨⟨by rw[A.n];exact h.1.1.1,vN A h.1.1.2⟩,h.1.2⟩,iI A h.2⟩
theorem RM(A:At Ω X r top N nm){sc:Scope}{N':List Str}{C:Addr}{s:Shared}{H:Hp}{ex:List Addr}{cl:List (Str×Addr)}(hk:sc.kind=.function)(nd:N'.Nodup):At Ω (fM X sc N' C s H ex cl) r false N' sc.names where
 p:=A.p
 w:=A.w
 k:=A.k
 g:=A.g
 b:=A.b
 room:=A.room
 xe:=A.xe
 calm:=A.calm
 n:=rfl
 nd:=nd
 kind:=hk
 look:=by
  intro x k h
  show(relabel sc X.env).names.lookup x=some k∨_
  rw[j7,eX,h]
  rcases qm X.env x k with q | ⟨q1,q2⟩
  . exact .inl (congrArg some q)
  . refine .inr ⟨q1,?_⟩
    show(relabel sc X.env).names.lookup x=some .cell
    rw[j7,eX,h]
    exact congrArg some q2
 fn:=λ x h=>by show(sc.names.lookup x==some .cell)=true;rw[h];rfl
theorem kZ(A:At Ω X r top N nm){sc:Scope}{N':List Str}{cap:List (Option Nat)}{elt:Ex Ω}{tg:Tg}{cd:Cd Ω}{x t:Expr}{cs:List Expr}{Γ:Gam}{W:WD}{ds:List D}{C0:Store->Prop}{S1:Store}(le:elt.lev≤r)(lc:cd.lev≤r)(hk:sc.kind=.function)(nd:N'.Nodup)(hs:(tg.slots.all λ j=>cap[j]? ==some none)=true)
 (ht:tg.chk false N' sc.names t=true)(hcd:cd.chk false N' sc.names cs=true)(he:elt.chk false N' sc.names x=true)(h:jc cap Γ elt tg cd W ds C0 S1):rC X sc N' cap Γ x t cs W ds C0 S1:=by
 unfold jc at h
 obtain⟨hz,Pv,p0,pC,pt,pe⟩:=h
 refine⟨hz,Pv,p0,pC,λ i d acc S' hd hp C s H ex cl=>?_,pe⟩
 have B:=RM A (C:=C) (s:=s) (H:=H) (ex:=ex) (cl:=cl) hk nd
 have sl:∀j∈tg.slots,(capt cap Γ)[j]? =some none:=λ j hj=>JZ (by
  have:=List.all_eq_true.mp hs j hj
  exact ZI this)
 have base:=pt i d acc S' hd hp
 have go:∀Γ2,(cd.wp Γ2 S' λ ok S3=>(ok=true->elt.wp Γ2 S3 λ y S4=>Pv (i+1) (acc++[y]) S4)/\(ok=false->Pv (i+1) acc S3))->
  TsA (fM X sc N' C s H ex cl) Γ2 S' cs λ ok S3=>(ok=true->Ev (fM X sc N' C s H ex cl) Γ2 S3 x λ y S4=>Pv (i+1) (acc++[y]) S4)/\(ok=false->Pv (i+1) acc S3):=by
  intro Γ2 q
  have:=cd.sound B lc hcd q
  match cs,this with
  | [],this=>exact⟨λ hk=>elt.sound B le he (this.1 hk),this.2⟩
  | [c],this=>exact Ts.mono this λ ok S3 z=>⟨λ hk=>elt.sound B le he (z.1 hk),z.2⟩
  | _::_::_,this=>exact this.elim
 refine Tg.sound B (W:=λ Γ2 S2=>Sub (capt cap Γ) Γ2/\TsA (fM X sc N' C s H ex cl) Γ2 S2 cs λ ok S3=>(ok=true->Ev (fM X sc N' C s H ex cl) Γ2 S3 x λ y S4=>Pv (i+1) (acc++[y]) S4)/\(ok=false->Pv (i+1) acc S3)) ht ?_
 cases tg with
 | nm j=>exact⟨(Sub.refl _).set j _ (sl j (by simp[Tg.slots])),go _ base⟩
 | tup is=>
   cases d with
   | tup es=>exact⟨base.1,Sub.setAll (Sub.refl _) sl,go _ base.2⟩
   | _=>exact base.elim
end
noncomputable def Ex.comp(N':List Str)(cap:List (Option Nat))(elt:Ex Ω)(tg:Tg)(it:Itb Ω)(cd:Cd Ω):Ex Ω where
 lev:=max elt.lev (max it.lev cd.lev)
 chk top N nm e:=gD N' cap elt tg it cd top N nm e
 wp Γ S W:=it.wp Γ S λ ds S1=>iU cap Γ elt tg cd W ds S1
 sound:=by
  intro X r top N nm e Γ S W A hl hc hw
  obtain⟨l1,l2⟩:=lv2 hl
  obtain⟨l2,l3⟩:=lv2 l2
  unfold gD at hc
  split at hc
  . rename_i x t i cs sc pos
    obtain⟨h1,hc⟩:=aa hc
    obtain⟨h2,hc⟩:=aa hc
    obtain⟨h3,hc⟩:=aa hc
    obtain⟨h4,hc⟩:=aa hc
    obtain⟨h5,hc⟩:=aa hc
    obtain⟨h6,hc⟩:=aa hc
    obtain⟨h7,hc⟩:=aa hc
    obtain⟨h8,hc⟩:=aa hc
    obtain⟨h9,hc⟩:=aa hc
    obtain⟨h10,hc⟩:=aa hc
    obtain⟨h11,h12⟩:=aa hc
    have hk:sc.kind=.function:=ZI h1
    refine Dy N' cap (ItW.toC (ItW.mono (it.sound A l2 h9 hw) λ ds S1 q=>kZ A l1 l3 hk (ZF h8) h7 h10 h11 h12 q)) A.xe A.calm hk h2 (mW A h3) (λ y hy e=>?_) (iI A h5) (jL h6 _)
    . have:=List.all_eq_true.mp h4 y hy
      simpa[e]using this
  . exact fE hc
end RF
namespace RF
open PySem PySem.Spec L2 DL
open PyProof.Rows
variable {Ω : Wd}
theorem JC{e:Expr}(h:noC e=true)(t:Expr)(l:Nat)(env:Env):swapsWithSole [t] e l env=pure false:=by
 unfold swapsWithSole
 exact kj h (some t) l env
set_option genInjectivity false in
structure Sm(Ω:Wd) where
 lev:Nat
 chk:Bool->List Str->Nm->Stmt->Bool
 wp:Gam->Store->DL.Fin->Prop
 sound:∀{X:Cx}{r:Nat}{top:Bool}{N:List Str}{nm:Nm}{st:Stmt}{Γ:Gam}{S:Store}{W:DL.Fin},At Ω X r top N nm->lev≤r->chk top N nm st=true->wp Γ S W->Rn X Γ S st W
set_option genInjectivity false in
structure Bl(Ω:Wd) where
 lev:Nat
 chk:Bool->List Str->Nm->List Stmt->Bool
 wp:Gam->Store->DL.Fin->Prop
 sound:∀{X:Cx}{r:Nat}{top:Bool}{N:List Str}{nm:Nm}{sts:List Stmt}{Γ:Gam}{S:Store}{W:DL.Fin},At Ω X r top N nm->lev≤r->chk top N nm sts=true->wp Γ S W->Rns X Γ S sts W
noncomputable def Bl.nil:Bl Ω where
 lev:=0
 chk _ _ _ sts:=match sts with | []=>true | _=>false
 wp Γ S W:=W.nx Γ S
 sound:=by
  intro X r top N nm sts Γ S W A hl hc hw
  match sts,hc with
  | [],_=>exact Tz hw
  | _::_,hc=>exact fE hc
noncomputable def Bl.cons(s:Sm Ω)(b:Bl Ω):Bl Ω where
 lev:=max s.lev b.lev
 chk top N nm sts:=match sts with | st::sts=>s.chk top N nm st&&b.chk top N nm sts | _=>false
 wp Γ S W:=s.wp Γ S {W with nx:=λ Γ1 S1=>b.wp Γ1 S1 W}
 sound:=by
  intro X r top N nm sts Γ S W A hl hc hw
  obtain⟨l1,l2⟩:=lv2 hl
  match sts,hc with
  | st::sts,hc=>
    obtain⟨h1,h2⟩:=aa hc
    exact Og (Rn.mono (s.sound A l1 h1 hw) (λ G S1 q=>b.sound A l2 h2 q) (λ _ _ q=>q) (λ _ _ q=>q) λ _ _ q=>q)
  | [],hc=>exact fE hc
noncomputable def Sm.ret(a:Ex Ω):Sm Ω where
 lev:=a.lev
 chk top N nm st:=match st with | .Return (some e) _=>a.chk top N nm e | _=>false
 wp Γ S W:=a.wp Γ S W.rt
 sound:=by
  intro X r top N nm st Γ S W A hl hc hw
  cases st with
  | Return o pos=>
    cases o with
    | some e=>exact Ub (a.sound A hl hc hw)
    | none=>exact fE hc
  | _=>exact fE hc
noncomputable def Sm.expr(a:Ex Ω):Sm Ω where
 lev:=a.lev
 chk top N nm st:=match st with | .Expr e _=>noC e&&a.chk top N nm e | _=>false
 wp Γ S W:=a.wp Γ S λ _ S1=>W.nx Γ S1
 sound:=by
  intro X r top N nm st Γ S W A hl hc hw
  cases st with
  | Expr e pos=>
    obtain⟨h1,h2⟩:=aa hc
    exact Sv (a.sound A hl h2 hw) (kj h1 _ _ _)
  | _=>exact fE hc
noncomputable def Sm.ite(c:Te Ω)(a b:Bl Ω):Sm Ω where
 lev:=max c.lev (max a.lev b.lev)
 chk top N nm st:=match st with | .If t xs ys _=>c.chk top N nm t&&(a.chk top N nm xs&&b.chk top N nm ys) | _=>false
 wp Γ S W:=c.wp Γ S λ k S1=>(k=true->a.wp Γ S1 W)/\(k=false->b.wp Γ S1 W)
 sound:=by
  intro X r top N nm st Γ S W A hl hc hw
  obtain⟨l1,l2⟩:=lv2 hl
  obtain⟨l2,l3⟩:=lv2 l2
  cases st with
  | If t xs ys pos=>
    obtain⟨h1,h2⟩:=aa hc
    obtain⟨h2,h3⟩:=aa h2
    exact Vw (Ts.mono (c.sound A l1 h1 hw) λ k S1 q=>⟨λ hk=>a.sound A l2 h2 (q.1 hk),λ hk=>b.sound A l3 h3 (q.2 hk)⟩)
  | _=>exact fE hc
noncomputable def Sm.set(i:Nat)(a:Ex Ω):Sm Ω where
 lev:=a.lev
 chk top N nm st:=match st with | .Assign [.Name x _] e _=>(N[i]? ==some x)&&(lcl top nm x&&(noC e&&a.chk top N nm e)) | _=>false
 wp Γ S W:=a.wp Γ S λ d S1=>W.nx (Γ.set i (some d)) S1
 sound:=by
  intro X r top N nm st Γ S W A hl hc hw
  split at hc
  . obtain⟨h1,h2⟩:=aa hc
    obtain⟨h2,h3⟩:=aa h2
    obtain⟨h3,h4⟩:=aa h3
    obtain⟨l1,l2⟩:=A.lcl h2
    exact NT i (a.sound A hl h4 hw) (by rw[A.n];exact A.nd) (by rw[A.n];exact ZI h1) l1 (kj h3 _ _ _) l2
  . exact fE hc
noncomputable def Sm.setC(i:Nat)(N':List Str)(cap:List (Option Nat))(elt:Ex Ω)(tg:Tg)(it:Itb Ω)(cd:Cd Ω):Sm Ω where
 lev:=max elt.lev (max it.lev cd.lev)
 chk top N nm st:=match st with | .Assign [.Name x p] e _=>(N[i]? ==some x)&&(lcl top nm x&&(top&&(gD N' cap elt tg it cd top N nm e))) | _=>false
 wp Γ S W:=it.wp Γ S λ ds S1=>iU cap Γ elt tg cd (λ d S2=>W.nx (Γ.set i (some d)) S2) ds S1
 sound := by
  intro X r top N nm st Γ S W A hl hc hw
  split at hc
  . rename_i x p e spos
    obtain⟨k1,q1⟩:=aa hc
    obtain⟨k2,q2⟩:=aa q1
    obtain⟨k0,hcomp⟩:=aa q2
    obtain⟨l1,l2⟩:=A.lcl k2
    have hN:X.N[i]? =some x:=by rw[A.n];exact ZI k1
    have nd:X.N.Nodup:=by rw[A.n];exact A.nd
    have hc2:=hcomp
    obtain⟨le,l3⟩:=lv2 hl
    obtain⟨li,lc⟩:=lv2 l3
    unfold gD at hc2
    split at hc2
    . rename_i x' t i' cs sc pos
      obtain⟨h1,hc⟩:=aa hc2
      obtain⟨h2,hc⟩:=aa hc
      obtain⟨h3,hc⟩:=aa hc
      obtain⟨h4,hc⟩:=aa hc
      obtain⟨h5,hc⟩:=aa hc
      obtain⟨h6,hc⟩:=aa hc
      obtain⟨h7,hc⟩:=aa hc
      obtain⟨h8,hc⟩:=aa hc
      obtain⟨h9,hc⟩:=aa hc
      obtain⟨h10,hc⟩:=aa hc
      obtain⟨h11,h12⟩:=aa hc
      have hk:sc.kind=.function:=ZI h1
      by_cases hb:(X.env.blockKind==.function&&X.env.kindOf x==some .local&&p.line==(Expr.ListComp x' [⟨t,i',cs,0⟩] sc pos).pos.line&& !(sc.names.any λ(n,k)=>n==x&&(k==.local||k==.cell)))=true
      . refine Ih i N' cap (ItW.toC (ItW.mono (it.sound A li h9 hw) λ ds S1 q=>kZ A le lc hk (ZF h8) h7 h10 h11 h12 q)) nd hN l1 ?_ l2 A.xe A.calm hk h2 (mW A h3) (λ y hy e=>?_) (iI A h5) (jL h6 _)
        . show(pure (X.env.blockKind==.function&&X.env.kindOf x==some .local&&p.line==(Expr.ListComp x' [⟨t,i',cs,0⟩] sc pos).pos.line&& !(sc.names.any λ(n,k)=>n==x&&(k==.local||k==.cell))):Sem Bool)=pure true
          rw[hb]
        . have:=List.all_eq_true.mp h4 y hy
          simpa[e]using this
      . have hb:_=false:=Bool.eq_false_iff.mpr hb
        refine NT i ((Ex.comp N' cap elt tg it cd).sound A hl hcomp hw) nd hN l1 ?_ l2
        show(pure (X.env.blockKind==.function&&X.env.kindOf x==some .local&&p.line==(Expr.ListComp x' [⟨t,i',cs,0⟩] sc pos).pos.line&& !(sc.names.any λ(n,k)=>n==x&&(k==.local||k==.cell))):Sem Bool)=pure false
        rw[hb]
    . exact(y7 hc2).elim
  . exact fE hc
noncomputable def Sm.setIx(o i a:Ex Ω):Sm Ω where
 lev:=max a.lev (max o.lev i.lev)
 chk top N nm st:=match st with | .Assign [.Subscript x y _] e _=>noC e&&(okE y&&(a.chk top N nm e&&(o.chk top N nm x&&i.chk top N nm y))) | _=>false
 wp Γ S W:=a.wp Γ S λ d S1=>o.wp Γ S1 λ x S2=>i.wp Γ S2 λ y S3=>match x,y with | .loc k,.int n=>∃ds j,S3[k]? =some ds/\ixN ds.length n=some j/\W.nx Γ (S3.set k (ds.set j d)) | _,_=>False
 sound:=by
  intro X r top N nm st Γ S W A hl hc hw
  obtain⟨l1,l2⟩:=lv2 hl
  obtain⟨l2,l3⟩:=lv2 l2
  split at hc
  . rename_i x y p e spos
    obtain⟨h1,hc⟩:=aa hc
    obtain⟨h2,hc⟩:=aa hc
    obtain⟨h3,hc⟩:=aa hc
    obtain⟨h4,h5⟩:=aa hc
    refine QC ((a.sound A l1 h3 hw).mono λ d S1 q=>(o.sound A l2 h4 q).mono λ x S2 q=>(i.sound A l3 h5 q).mono λ y S3 q=>?_) ?_ (JC h1 _ _ _) ?_ rfl
    . cases x<;>first | exact q.elim | (cases y<;>first | exact q.elim | (obtain⟨ds,j,a,b,c⟩:=q;exact⟨_,_,ds,j,rfl,rfl,a,b,c⟩))
    . intro v
      cases y<;>first | rfl | exact(y7 h2).elim
    . rfl
  . exact fE hc
@[irreducible] noncomputable def jq(Γ:Gam)(tg:Tg)(body:Bl Ω)(W:DL.Fin)(ds:List D)(S1:Store):Prop:=
  ∃Pv:Nat->Gam->Store->Prop,Pv 0 Γ S1/\(∀i d Γ' S',ds[i]? =some d->Pv i Γ' S'->tg.wp d Γ' λ Γ2=>body.wp Γ2 S' {W with nx:=Pv (i+1),ct:=Pv (i+1),bk:=W.nx})/\(∀Γ' S',Pv ds.length Γ' S'->W.nx Γ' S')
theorem aO{Γ:Gam}{tg:Tg}{body:Bl Ω}{W:DL.Fin}{ds:List D}{S1:Store}(h:∃Pv:Nat->Gam->Store->Prop,Pv 0 Γ S1/\(∀i d Γ' S',ds[i]? =some d->Pv i Γ' S'->tg.wp d Γ' λ Γ2=>body.wp Γ2 S' {W with nx:=Pv (i+1),ct:=Pv (i+1),bk:=W.nx})/\(∀Γ' S',Pv ds.length Γ' S'->W.nx Γ' S')):jq Γ tg body W ds S1:=by unfold jq;exact h
noncomputable def Sm.for(tg:Tg)(it:Itb Ω)(body:Bl Ω):Sm Ω where
 lev:=max it.lev body.lev
 chk top N nm st:=match st with | .For t i b [] _=>okE i&&(tg.chk top N nm t&&(it.chk top N nm t i&&body.chk top N nm b)) | _=>false
 wp Γ S W:=it.wp Γ S λ ds S1=>jq Γ tg body W ds S1
 sound:=by
  intro X r top N nm st Γ S W A hl hc hw
  obtain⟨l1,l2⟩:=lv2 hl
  split at hc
  . rename_i t i b pos
    obtain⟨h1,hc⟩:=aa hc
    obtain⟨h2,hc⟩:=aa hc
    obtain⟨h3,h4⟩:=aa hc
    refine Va (ItW.mono (it.sound A l1 h3 hw) λ ds S1 q=>?_) (by rw[A.xe];exact PassesOwn.never) A.calm (jL h1 _)
    unfold jq at q
    obtain⟨Pv,p0,pt,pe⟩:=q
    refine⟨Pv,p0,λ i d Γ' S' hd hp=>BdW.mono (Tg.sound A (W:=λ Γ2 S2=>body.wp Γ2 S2 {W with nx:=Pv (i+1),ct:=Pv (i+1),bk:=W.nx}) h2 (pt i d Γ' S' hd hp)) λ Γ2 S2 q=>body.sound A l2 h4 q,pe⟩
  . exact fE hc
noncomputable def Vl(N ps:List Str)(sm:Stmt)(k:Nat)(body:Bl Ω):Bool:=
 ((aH sm).kind==.function)&&(!(aH sm).isCoroutine&&(!(aH sm).isGenerator&&(decide N.Nodup&&(decide (N.take ps.length=ps)&&((ps.all λ x=>(aH sm).names.lookup x==some .local||(aH sm).names.lookup x==some .cell)&&
   (((aH sm).names.all λ y=>!(y.2==.free))&&(Nat.ble body.lev k&&body.chk true N (aH sm).names (cj sm))))))))
theorem az{x qual:Str}{sm:Stmt}{f:Addr}{fd:FuncData}{N ps:List Str}{k:Nat}{F:Ct}(FF:Fun Ω.K x qual sm f fd)(body:Bl Ω)(hc:Vl N ps sm k body=true)
 (vc:∀(ds:List D)(S:Store)(W:WD),F ds S W->ds.length=ps.length->body.wp (ds.map some++List.replicate (N.length-ds.length) none) S {nx:=λ _ S1=>W .non S1,rt:=W}):FnOk Ω.P Ω.w Ω.K Ω.mg Ω.base CX0 (k+1) f fd ps (spC Ω.K ps.length F):=by
 obtain⟨h1,hc⟩:=aa hc
 obtain⟨h2,hc⟩:=aa hc
 obtain⟨h3,hc⟩:=aa hc
 obtain⟨h4,hc⟩:=aa hc
 obtain⟨h5,hc⟩:=aa hc
 obtain⟨h6,hc⟩:=aa hc
 obtain⟨h7,hc⟩:=aa hc
 obtain⟨h8,h9⟩:=aa hc
 have nd:N.Nodup:=ZF h4
 have sc:FnScope N ps (aH sm):=⟨ZI h1,nt h2,nt h3,nd,ZF h5,λ x hx=>by
  have:=List.all_eq_true.mp h6 x hx
  simpa using this,λ y hy e=>by
  have:=List.all_eq_true.mp h7 y hy
  simp[e]at this⟩
 refine Vp FF sc λ cdv A outer s H E ds S W hr hl h=>?_
 refine body.sound (r:=k) (top:=true) (N:=N) (nm:=(aH sm).names) ⟨rfl,rfl,rfl,rfl,rfl,hr,rfl,rfl,rfl,nd,sc.kind,λ x kk h=>.inl h,λ _ _=>rfl⟩ (Nat.le_of_ble_eq_true h8) h9 (vc ds S W h hl)
theorem callee{x qual:Str}{sm:Stmt}{f:Addr}{fd:FuncData}{ps:List Str}{k n:Nat}{F:Ct}(FF:Fun Ω.K x qual sm f fd)(h:FnOk Ω.P Ω.w Ω.K Ω.mg Ω.base CX0 k f fd ps (spC Ω.K n F))(hm:Ω.mg x=some (.ref f))(b:Binds Ω.K fd ps []):Callee Ω.P Ω.w Ω.K Ω.mg Ω.base x k n F:=⟨f,fd,ps,h,hm,FF.kp,b⟩
end RF
namespace RF
open PySem PySem.Spec L2 DL
open PyProof.Rows
noncomputable def bA:Bf where
 x:="len"
 id:="len"
 boot:=by decide+kernel
 wp ds S W:=match ds with
  | [.tup ds]=>W (.int ds.length) S
  | [.lst ds]=>W (.int ds.length) S
  | [.loc k]=>∃ds,S[k]? =some ds/\W (.int ds.length) S
  | _=>False
 sound:=by
  intro X ds S W hc hr h
  split at h
  . exact Q3 h
  . exact Sx h
  . obtain⟨ds,h1,h2⟩:=h;exact Q4 h1 h2
  . exact h.elim
noncomputable def fH:Bf where
 x:="all"
 id:="all"
 boot:=by decide+kernel
 wp ds S W:=match ds with
  | [.lst ds]=>∃bs:List Bool,ds=bs.map .bl/\W (.bl (bs.all id)) S
  | _=>False
 sound:=by
  intro X ds S W hc hr h
  split at h
  . obtain⟨bs,rfl,h⟩:=h;exact k_all h hc
  . exact h.elim
noncomputable def VN:Bf where
 x:="abs"
 id:="abs"
 boot:=by decide+kernel
 wp ds S W:=match ds with
  | [.int i]=>W (.int (if i<0 then-i else i)) S
  | _=>False
 sound:=by
  intro X ds S W hc hr h
  split at h
  . refine bR Ni λ O H vs st r=>?_
    obtain⟨v,rfl,r'⟩:=b8 r
    cases r'
    exact⟨_,rfl,QG.here h st (.int _)⟩
  . exact h.elim
theorem NK{K:PySem.W.Frag}{O:Own}{H:Hp}{vs:List V}{d e:D}(r:Reps K O H vs [d,e]):∃v w,vs=[v,w]/\Rep K O H v d/\Rep K O H w e:=by
 cases r with
 | cons a t=>
   cases t with
   | cons b t=>cases t;exact⟨_,_,rfl,a,b⟩
noncomputable def VL:Bf where
 x:="min"
 id:="min"
 boot:=by decide+kernel
 wp ds S W:=match ds with
  | [.int i,.int j]=>W (.int (if j<i then j else i)) S
  | _=>False
 sound:=by
  intro X ds S W hc hr h
  split at h
  . refine bR (Hy hc) λ O H vs st r=>?_
    obtain⟨v,w,rfl,r1,r2⟩:=NK r
    cases r1
    cases r2
    exact⟨_,_,rfl,QG.here h st (.int _)⟩
  . exact h.elim
noncomputable def M4:Bf where
 x:="max"
 id:="max"
 boot:=by decide+kernel
 wp ds S W:=match ds with
  | [.int i,.int j]=>W (.int (if j>i then j else i)) S
  | _=>False
 sound:=by
  intro X ds S W hc hr h
  split at h
  . refine bR (JD hc) λ O H vs st r=>?_
    obtain⟨v,w,rfl,r1,r2⟩:=NK r
    cases r1
    cases r2
    exact⟨_,_,rfl,QG.here h st (.int _)⟩
  . exact h.elim
noncomputable def dg:Bc where
 x:="tuple"
 id:="tuple"
 boot:=by decide+kernel
 wp ds S W:=match ds with
  | [.lst ds]=>W (.tup ds) S
  | [.loc k]=>∃ds,S[k]? =some ds/\W (.tup ds) S
  | _=>False
 sound:=by
  intro X ds S W hc hr h
  split at h
  . exact Td h
  . obtain⟨ds,h1,h2⟩:=h;exact Tv h1 h2
  . exact h.elim
noncomputable def Vk:Bc where
 x:="list"
 id:="list"
 boot:=by decide+kernel
 wp ds S W:=match ds with
  | [.tup ds]=>W (.lst ds) S
  | [.lst ds]=>W (.lst ds) S
  | _=>False
 sound:=by
  intro X ds S W hc hr h
  split at h
  . exact RN h
  . exact Sy h
  . exact h.elim
section
variable {X : Cx} {Γ : Gam} {S : Store} {e : Expr} {pos : Pos}
theorem Qf{elts:List Expr}{k:Nat}{tp p:Pos}{W:List D->Store->Prop}(h:Ev X Γ S e λ d S1=>match d with | .lst ds=>W (ds.mapIdx λ i d=>.tup [.int i,d]) S1 | .tup ds=>W (ds.mapIdx λ i d=>.tup [.int i,d]) S1 | _=>False)(hm:X.mg "enumerate"=none)(hg:Gl X "enumerate")(hs:starEach [e] X.env=[(false,eval e X.env)]):
 ItW X Γ S (.Tuple elts k tp) (.Call (.Name "enumerate" p) [e] [] pos) W:=by
 intro pins s σ H O I env st
 refine Call_ (bJ I hg hm boot_enumerate (PyProof.Rows.callWith_type1 (thn (oY h.pe zL hs pos pins s σ H (λ vs H'=>∃v,vs=[v]/\QG X.K O H (λ d S1=>match d with | .lst ds=>W (ds.mapIdx λ i d=>.tup [.int i,d]) S1 | .tup ds=>W (ds.mapIdx λ i d=>.tup [.int i,d]) S1 | _=>False) v H') I ⟨O,env,st,λ v H' q=>⟨v,rfl,q⟩⟩) λ us s1 hq_=>?_) hs rfl))
 obtain⟨vs,H1,I1,r1,v,ev,O1,d,S1,w,st1,ok1,rep⟩:=hq_
 subst ev
 obtain⟨u,rfl,ru⟩:=vals1 r1
 cases rep with
 | @lst a xs ds h1 q1=>
   cases ru
   obtain⟨its,rv,pl,hz⟩:=I1.list h1.sq
   refine call_enumerate_list pl.isList λ h' he hi _ kp=>Ec (Uz X.prog X.w X.K) I1 he hi kp ⟨O1,_,S1,w,st1,ok1,pY _ λ O' H' cv=>⟨xs,(h1.conv cv).sq,q1.conv cv⟩⟩
 | @tup a xs ds h1 q1=>
   cases ru
   obtain⟨its,rv,pl,hz⟩:=I1.tuple h1.sq
   obtain⟨⟨c,dct,dt,sl⟩,hl,hc,n,hd⟩:=pl
   replace hc:c=.type "tuple":=hc
   replace hd:dt=.seq its.toArray n:=hd
   subst hc hd
   refine callType_new F.called_enumerate (by decide) (F.typeCall_enumerate_1 _) (F.newCall_enumerate_1 _) (λ obj=>F.args_object_init_2 obj _) F.entry_enumerate_new (IK a its.toArray n dct sl) ⟨hl,?_⟩
   have hz:(s1.heap.push {cls:=.type "tuple_iterator",data:=.fields #[.ref a,.int 0 0]}).objs.size=s1.heap.objs.size+1:=Heap.size_push ..
   show _/\_
   rw[hz]
   have he:IsEnum ((s1.heap.push {cls:=.type "tuple_iterator",data:=.fields #[.ref a,.int 0 0]}).push {cls:=.type "enumerate",data:=.fields #[.none,.bool false,.ref s1.heap.objs.size,rawInt 0,.none,.none]}) (s1.heap.objs.size+1) s1.heap.objs.size 0 .none:=by
    have:=ZD (s1.heap.push {cls:=.type "tuple_iterator",data:=.fields #[.ref a,.int 0 0]}) (o:={cls:=.type "enumerate",data:=.fields #[.none,.bool false,.ref s1.heap.objs.size,rawInt 0,.none,.none]}) rfl
    rw[hz]at this
    exact this
   have hi:Heap.IsTupleIter ((s1.heap.push {cls:=.type "tuple_iterator",data:=.fields #[.ref a,.int 0 0]}).push {cls:=.type "enumerate",data:=.fields #[.none,.bool false,.ref s1.heap.objs.size,rawInt 0,.none,.none]}) s1.heap.objs.size a 0:=
    ⟨_,ZC _ (ZD _ rfl),rfl,rfl⟩
   exact⟨⟨_,he,rfl⟩,Ec (M7 X.prog X.w X.K) I1 he hi (λ b o e=>ZC _ (ZC _ e)) ⟨O1,_,S1,w,st1,ok1,pY _ λ O' H' cv=>⟨xs,(h1.conv cv).sq,q1.conv cv⟩⟩⟩
 | _=>exact w.elim
end
variable {Ω : Wd}
noncomputable def Itb.enm(hm:Ω.mg "enumerate"=none)(a:Ex Ω):Itb Ω where
 lev:=a.lev
 chk top N nm tg e:=match tg,e with | .Tuple ..,.Call (.Name y _) [b] [] _=>(y==("enumerate":Str))&&(glb nm "enumerate"&&(okE b&&a.chk top N nm b)) | _,_=>false
 wp Γ S W:=a.wp Γ S λ d S1=>match d with | .lst ds=>W (ds.mapIdx λ i d=>.tup [.int i,d]) S1 | .tup ds=>W (ds.mapIdx λ i d=>.tup [.int i,d]) S1 | _=>False
 sound:=by
  intro X r top N nm tg e Γ S W A hl hc hw
  split at hc
  . obtain⟨h1,h2⟩:=aa hc
    obtain⟨h2,h3⟩:=aa h2
    obtain⟨h3,h4⟩:=aa h3
    have e:=ZI h1
    subst e
    exact Qf (a.sound A hl h4 hw) (by rw[A.g];exact hm) (A.glb h2) (aB h3 [] _)
  . exact fE hc
noncomputable def Itb.zip(hm:Ω.mg "zip"=none)(a b:Ex Ω):Itb Ω where
 lev:=max a.lev b.lev
 chk top N nm tg e:=match tg,e with | .Tuple ..,.Call (.Name y _) [l,r] [] _=>(y==("zip":Str))&&(glb nm "zip"&&((okE l&&okE r)&&(a.chk top N nm l&&b.chk top N nm r))) | _,_=>false
 wp Γ S W:=a.wp Γ S λ d S1=>b.wp Γ S1 λ d' S2=>match d,d' with | .tup ds,.tup es=>W (List.zipWith (λ x y=>.tup [x,y]) ds es) S2 | _,_=>False
 sound:=by
  intro X r top N nm tg e Γ S W A hl hc hw
  obtain⟨l1,l2⟩:=lv2 hl
  split at hc
  . obtain⟨h1,h2⟩:=aa hc
    obtain⟨h2,h3⟩:=aa h2
    obtain⟨h3,h4⟩:=aa h3
    obtain⟨h5,h6⟩:=aa h3
    obtain⟨h7,h8⟩:=aa h4
    have e:=ZI h1
    subst e
    refine Nv ((a.sound A l1 h7 hw).mono λ d S1 q=>(b.sound A l2 h8 q).mono λ d' S2 q=>?_) (by rw[A.g];exact hm) (A.glb h2) (aB h5 _ _) (aB h6 [] _)
    cases d<;>first | exact q.elim | (cases d'<;>first | exact⟨_,_,rfl,rfl,q⟩ | exact q.elim)
  . exact fE hc
end RF
namespace RF
theorem ff{P:Prop}(h:false=true):P:=(y7 h).elim
theorem tf{P:Prop}(h:true=false):P:=(y7 h.symm).elim
end RF
namespace RF
open PySem PySem.Spec L2 DL
open PyProof.Rows
noncomputable abbrev Cal(Ω:Wd)(x:Str)(k n:Nat)(F:Ct):Prop:=Callee Ω.P Ω.w Ω.K Ω.mg Ω.base x k n F
noncomputable abbrev Ok(Ω:Wd)(k:Nat)(f:Addr)(fd:FuncData)(ps:List Str)(F:Ct):Prop:=FnOk Ω.P Ω.w Ω.K Ω.mg Ω.base CX0 k f fd ps (spC Ω.K ps.length F)
noncomputable def oW:Ct:=λ ds S W=>∃ns,ds=[.lst (List.map .int ns)]/\ns.length≤63/\(∀S',W (.bl true) S')/\S=[]
theorem RZ{K:PySem.W.Frag}{H:Hp}{a:Addr}{ns:List Int}{E:XK}(hl:ns.length≤63)(hS:SqL K H a (ns.map V.int)):spC K 1 oW [.ref a] H (λ v _=>v=.bl true) E:=by
 refine⟨⟨[],[]⟩,[.lst (ns.map .int)],[],λ d _=>d=.bl true,rfl,.cons (.lst (xs:=ns.map V.int) ?_ (Reps.of_ints ns)) .nil,?_,⟨ns,rfl,hl,λ _=>rfl,rfl⟩,λ v H' q=>?_⟩
 . rcases hS with h | h
   . exact .inl ⟨λ z=>by rcases z with z | z<;>exact absurd (show a∈([]:List Addr)from z) (by simp),h⟩
   . exact .inr (.inr h)
 . exact⟨List.nodup_nil,rfl,λ k a ds e=>by simp at e,λ k a ds e=>by simp at e,λ a h=>absurd (show a∈([]:List Addr)from h) (by simp),λ a h=>absurd (show a∈([]:List Addr)from h) (by simp)⟩
 . obtain⟨O',d,S',w,_,_,r⟩:=q
   subst w
   cases r
   rfl
theorem walk{lev:Nat}{x:Str}{l:PySem.W.OpenLaw}{q:Program}{loose:List Str}{XP:(Str->Option Value)->Heap->Prop}{YP:World->Heap->Prop}{d:DefRec}{K:Params->PySem.W.Frag}(hn:l.most=some 63)(hdf:d.params.defaults=[])(hr:Room lev callerA)
 (hY:∀(w:World)(h:Heap),YP w h->(K w.params).In h)
 (F:∀(w:World)(mg:Str->Option Value)(fa:Addr)(h:Heap),(K w.params).In h->h.Ns mainGlobals mg->mg d.name=some (.ref fa)->
  ∃fd:FuncData,(∀(s:Shared)(u:Value),BindsTo s fd ⟨[u],[]⟩ [(x,u)])/\∀base:Heap,(K w.params).In base->base.Ns mainGlobals mg->FnOk l.prog w (K w.params) mg base CX0 lev fa fd [x] (spC (K w.params) 1 oW)):
 PySem.W.WalkO q loose XP YP l.row.toRowW d [] (λ f vs=>PySem.call f vs):=
 L2.walk_of (n:=63) (k:=lev) (x:=x) (CX:=λ _=>CX0) (sp:=λ w=>spC (K w.params) 1 oW) hn (by decide) hdf hr hY F (λ _ _ a ns hl _ hS=>RZ hl hS) λ _ _ _ _ _ z=>z
theorem Tg.mono{t:Tg}{d:D}{Γ:Gam}{W W':Gam->Prop}(h:t.wp d Γ W)(k:∀G,W G->W' G):t.wp d Γ W':=by
 cases t with
 | nm i=>exact k _ h
 | tup is=>
   cases d with
   | tup ds=>exact⟨h.1,k _ h.2⟩
   | _=>exact h.elim
section
variable {Ω : Wd} {cap : List (Option Nat)} {Γ : Gam} {elt : Ex Ω} {tg : Tg} {cd : Cd Ω} {W : WD} {ds : List D} {S1 : Store}
theorem eQ(f:D->D)(hz:ds.length≤1000000)(h:∀(i:Nat)(d:D),ds[i]? =some d->∀Q:WD,Q (f d) S1->tg.wp d (capt cap Γ) λ Γ2=>elt.wp Γ2 S1 Q)(w:W (.lst (ds.map f)) S1):iU cap Γ elt tg (Cd.no (Ω:=Ω)) W ds S1:=by
 refine fD ⟨hz,λ i acc S'=>acc=(ds.take i).map f/\S'=S1,⟨rfl,rfl⟩,?_,?_⟩
 . rintro i d acc S' hd ⟨rfl,rfl⟩
   refine Tg.mono (h i d hd (λ y S4=>(ds.take i).map f++[y]=(ds.take (i+1)).map f/\S4=S') ⟨?_,rfl⟩) λ G q=>⟨λ _=>q,λ z=>tf z⟩
   rw[aD hd,List.map_append];rfl
 . rintro acc S' ⟨rfl,rfl⟩
   rw[List.take_length];exact w
end
theorem bT{A B:Prop}(h:A):(true=true->A)/\(true=false->B):=⟨λ _=>h,λ z=>tf z⟩
theorem bF{A B:Prop}(h:B):(false=true->A)/\(false=false->B):=⟨λ z=>ff z,λ _=>h⟩
end RF
namespace RF
open PySem PySem.Spec L2 DL
open PyProof.Rows
variable {ds : List D} {W : WD} {Γ : Gam} {S : Store} {i : Int}
mutual
theorem cZ{K:PySem.W.Frag}{O O':Own}{H:Hp}(h:∀a,¬O.has a->¬O'.has a):∀{v:V}{d:D},aq d=true->Rep K O H v d->Rep K O' H v d
 | _,_,_,.non=>.non
 | _,_,_,.bl b=>.bl b
 | _,_,_,.int i=>.int i
 | _,_,_,.str x=>.str x
 | _,_,n,.tup h1 r=>.tup ⟨h _ h1.1,h1.2⟩ (cU h (by simpa[aq]using n) r)
 | _,_,n,.lst h1 r=>.lst (h1.imp (λ q=>⟨h _ q.1,q.2⟩) id) (cU h (by simpa[aq]using n) r)
 | _,_,n,.loc _=>by simp[aq]at n
 | _,_,n,.dlo _=>by simp[aq]at n
 | _,_,_,.dic h1 e=>.dic (h _ h1) e
theorem cU{K:PySem.W.Frag}{O O':Own}{H:Hp}(h:∀a,¬O.has a->¬O'.has a):∀{vs:List V}{ds:List D},ak ds=true->Reps K O H vs ds->Reps K O' H vs ds
 | _,_,_,.nil=>.nil
 | _,_,n,.cons r t=>by
   simp only[ak,Bool.and_eq_true]at n
   exact .cons (cZ h n.1 r) (cU h n.2 t)
end
theorem yW{K:PySem.W.Frag}{O O':Own}{H:Hp}(h:∀a,¬O.has a->¬O'.has a):∀{vs:List (List Key×V)}{ds:List D},ak ds=true->Kps K O H vs ds->Kps K O' H vs ds
 | _,_,_,.nil=>.nil
 | _,_,n,.cons r t=>by
   simp only[ak,aq,Bool.and_eq_true]at n
   exact .cons (cZ h n.1.2.1 r) (yW h n.2 t)
theorem zP{K:PySem.W.Frag}{O O':Own}{H:Hp}(h:∀a,¬O.has a->¬O'.has a):∀{vs:Cy}{ds:List D},ak ds=true->Kcs K O H vs ds->Kcs K O' H vs ds
 | _,_,_,.nil=>.nil
 | _,_,n,.cons e rk rv r t=>by
   simp only[ak,aq,Bool.and_eq_true]at n
   exact .cons e (cZ h n.1.1 rk) rv (cZ h n.1.2.1 r) (zP h n.2 t)
theorem zV{K:PySem.W.Frag}{O O':Own}{H:Hp}(h:∀a,¬O.has a->¬O'.has a):∀{vs:Oy}{ds:List D},ak ds=true->Kos K O H vs ds->Kos K O' H vs ds
 | _,_,_,.nil=>.nil
 | _,_,n,.cons e rv r t=>by
   simp only[ak,aq,Bool.and_eq_true]at n
   exact .cons e rv (cZ h n.1.2.1 r) (zV h n.2 t)
theorem LQ{K:PySem.W.Frag}{O O':Own}{H:Hp}{a:Addr}(h:∀a,¬O.has a->¬O'.has a)(n:ak ds=true)(b:DOb K O H a ds):DOb K O' H a ds:=by
 cases b with
 | t kvs e r=>exact .t kvs e (yW h n r)
 | c ys z e r=>exact .c ys z e (zP h n r)
 | o ys z e r=>exact .o ys z e (zV h n r)
noncomputable def flat(S:Store):Prop:=∀l∈S,ak l=true
theorem qY{A:List (Addr×Bool)}{n:Nat}{a:Addr}(h:a∈adr (A.take n)):a∈adr A:=by
 obtain⟨x,hx,rfl⟩:=ZO.mp h
 exact ZO.mpr ⟨x,List.mem_of_mem_take hx,rfl⟩
theorem gG{K:PySem.W.Frag}{O O':Own}{H H':Hp}{S':Store}{J:List (List D)}(st:Step O O' H H')(ok:StOk K O' H' (S'++J))(hl:O.A.length≤S'.length)(hS:flat S'):
 Step O ⟨O'.A.take S'.length,O'.B⟩ H H'/\StOk K ⟨O'.A.take S'.length,O'.B⟩ H' S'/\(∀b,¬O'.has b->¬(⟨O'.A.take S'.length,O'.B⟩:Own).has b)/\∀j a,S'.length≤j->∀{q:Bool},O'.A[j]? =some (a,q)->¬(⟨O'.A.take S'.length,O'.B⟩:Own).has a:=by
 obtain⟨N,eA,fN⟩:=st.ext
 have len:O'.A.length=S'.length+J.length:=by have:=ok.len;simpa using this
 have sub:∀b,¬O'.has b->¬(⟨O'.A.take S'.length,O'.B⟩:Own).has b:=λ b hb z=>hb (z.imp qY id)
 have nd:(adr (O'.A.take S'.length)).Nodup:=by
  show(List.map _ (List.take _ _)).Nodup
  rw[List.map_take]
  exact ok.nd.sublist (List.take_sublist _ _)
 refine⟨⟨st.kept,st.dom,⟨N.take (S'.length-O.A.length),by
  show O'.A.take S'.length=_
  rw[eA,List.take_append,List.take_of_length_le (by omega)],λ b hb=>fN b (qY hb)⟩,st.hid⟩,⟨nd,by simp[len],λ k b es e1 e2=>?_,λ k b es e1 e2=>?_,λ b hb=>ok.apart b (qY hb),ok.hidden⟩,sub,λ j a hj q ha z=>?_⟩
 . have hk:k<S'.length:=(y3.mp e2).1
   have e1':(O'.A.take S'.length)[k]? =some (b,false):=e1
   rw[List.getElem?_take,if_pos hk]at e1'
   obtain⟨ys,hy,r'⟩:=ok.obj k b es e1' (by rw[w9 hk];exact e2)
   exact⟨ys,hy,cU sub (hS es (y6 e2)) r'⟩
 . have hk:k<S'.length:=(y3.mp e2).1
   have e1':(O'.A.take S'.length)[k]? =some (b,true):=e1
   rw[List.getElem?_take,if_pos hk]at e1'
   exact LQ sub (hS es (y6 e2)) (ok.dob k b es e1' (by rw[w9 hk];exact e2))
 . rcases z with z | z
   . obtain⟨⟨a',q'⟩,hm,rfl⟩:=ZO.mp z
     obtain⟨i,hi⟩:=ZR hm
     rw[List.getElem?_take]at hi
     split at hi
     . rename_i hlt
       exact sS ok.nd hi ha (by omega) rfl
     . cases hi
   . exact ok.apart a (bW ha) z
noncomputable def Frz(n:Nat)(W:WD):WD:=λ d S1=>W d S1∨∃ds S',d=.loc S'.length/\S1=S'++[ds]/\n≤S'.length/\ak ds=true/\flat S'/\W (.lst ds) S'
theorem QG.frz{K:PySem.W.Frag}{O:Own}{H H':Hp}{v:V}{n:Nat}(hn:O.A.length=n)(q:QG K O H (Frz n W) v H'):QG K O H W v H':=by
 obtain⟨O',d,S1,w,st,ok,r⟩:=q
 rcases w with w | ⟨ds,S',rfl,rfl,hl,hd,hS,w⟩
 . exact⟨O',d,S1,w,st,ok,r⟩
 . obtain⟨st2,ok2,sub,na⟩:=gG st ok (by omega) hS
   cases r with
   | @loc a _ ha=>
     obtain⟨xs,hx,q1⟩:=ok.obj S'.length a ds ha (by simp)
     exact⟨_,.lst ds,S',w,st2,ok2,.lst (.inl ⟨na _ a (x4 _) ha,.inl hx⟩) (cU sub hd q1)⟩
theorem OD{X:Cx}{sts:List Stmt}{W:DL.Fin}(h:Rns X Γ S sts {W with rt:=Frz S.length W.rt}):Rns X Γ S sts W:=λ pins s σ H O I env ok=>
 thn (h pins s σ H O I env ok) λ f s' q=>by
  cases f with
  | next=>exact q
  | brk=>exact q
  | cont=>exact q
  | ret u=>obtain⟨v,σ',H',I',r,q⟩:=q;exact⟨v,σ',H',I',r,QG.frz ok.len q⟩
variable {Ω : Wd}
noncomputable def Bl.frz(b:Bl Ω):Bl Ω where
 lev:=b.lev
 chk:=b.chk
 wp Γ S W:=b.wp Γ S {W with rt:=Frz S.length W.rt}
 sound:=by
  intro X r top N nm sts Γ S W A hl hc hw
  exact OD (b.sound A hl hc hw)
noncomputable def hand(W:WD)(ds:List D)(S:Store):Prop:=W (.lst ds) S∨W (.loc S.length) (S++[ds])
theorem zx(h:hand W ds S)(hd:ak ds=true)(hS:flat S):Frz S.length W (.loc S.length) (S++[ds]):=by
 rcases h with h | h
 . exact .inr ⟨ds,S,rfl,rfl,x4 _,hd,hS,h⟩
 . exact .inl h
theorem vI{X:Cx}{o e:Expr}{apos cpos:Pos}(h:Ev X Γ S o λ x S1=>∃k,x=.loc k/\Ev X Γ S1 e λ d S2=>∃ds,S2[k]? =some ds/\ds.length<1000000/\W .non (S2.set k (ds++[d])))
 (hbase:attributeBase o "append" X.env (eval o X.env)=eval o X.env)(hs:starEach [e] X.env=[(false,eval e X.env)])(hline:(apos.endLine==cpos.line)=true):Ev X Γ S (.Call (.Attribute o "append" apos) [e] [] cpos) W:=by
 intro pins s σ H O I env st
 have hty:∀(O1:Own)(x:D)(v:V)(H1:Hp)(S1:Store),(∃k,x=.loc k)->StOk X.K O1 H1 S1->Rep X.K O1 H1 v x->tyV X.K "list" v H1:=by
  rintro O1 x v H1 S1 ⟨k,rfl⟩ ok r
  cases r with
  | @loc a _ ha=>
    have hl:k<S1.length:=by rw[←ok.len];exact(y3.mp ha).1
    obtain⟨xs,hx,_⟩:=ok.obj k a S1[k] ha (y4 hl)
    exact .inl ⟨rfl,xs,SqL.of hx⟩
 have hA:PA X [e] (λ σ H Q=>∃O Γ S W',EnvOk X.K O H σ Γ/\StOk X.K O H S/\Ev X Γ S e W'/\∀v H',QG X.K O H W' v H'->Q [v] H'):=by
  rintro pos pins s σ H Q I ⟨O,Γ,S,W',env,st,he,k⟩
  rw[hs]
  show wpAny _ _ (spliced ((false,eval e X.env)::backTo pos (starEach [] X.env))) _ _ s
  refine Calls.spliced_cons (thn (he pins s σ H O I env st) λ u s1 hq_=>?_)
  obtain⟨v,H1,I1,r1,q⟩:=hq_
  exact Calls.spliced_nil ⟨[v],H1,I1,.cons r1 .nil,k v H1 q⟩
 refine Oa (T:="list") PySem.F.plainAttrs_list PySem.F.slot_list_append PySem.F.type_list_append uZ (h.pe) hA hbase (by rw[hs];rfl) hline hs rfl pins s σ H _ I ⟨O,env,st,λ v H' q=>?_⟩
 obtain⟨O1,x,S1,⟨k,rfl,he⟩,st1,ok1,rep1⟩:=q
 refine⟨hty O1 _ v H' S1 ⟨k,rfl⟩ ok1 rep1,O1,Γ,S1,_,env.mono st1,ok1,he,λ v2 H2 q2=>?_⟩
 obtain⟨O2,d,S2,⟨ds,hk,hz,w⟩,st2,ok2,rep2⟩:=q2
 have r:=rep1.mono st2
 cases r with
 | @loc a _ ha=>
   obtain⟨xs,hx,q1⟩:=ok2.obj k a ds ha hk
   exact⟨a,xs,v2,rfl,rfl,hx,by rw[q1.length];exact ZM hz (by decide),O2,.non,_,w,(st1.trans st2).trans (Step.put (bW ha) _),ok2.put ha (q1.append (.cons rep2 .nil)),.non⟩
noncomputable def nameE:Expr->Bool
 | .Name .. =>true
 | _=>false
noncomputable def Ex.m_append(o a:Ex Ω):Ex Ω where
 lev:=max o.lev a.lev
 chk top N nm e:=match e with | .Call (.Attribute x m p) [y] [] q=>(m==("append":Str))&&(nameE x&&((p.endLine==q.line)&&(okE y&&(o.chk top N nm x&&a.chk top N nm y)))) | _=>false
 wp Γ S W:=o.wp Γ S λ x S1=>match x with | .loc k=>a.wp Γ S1 λ d S2=>∃ds,S2[k]? =some ds/\ds.length<1000000/\W .non (S2.set k (ds++[d])) | _=>False
 sound:=by
  intro X r top N nm e Γ S W A hl hc hw
  obtain⟨l1,l2⟩:=lv2 hl
  split at hc
  . rename_i x m p y q
    obtain⟨h1,g⟩:=aa hc
    obtain⟨h2,g⟩:=aa g
    obtain⟨h3,g⟩:=aa g
    obtain⟨h4,g⟩:=aa g
    obtain⟨h5,h6⟩:=aa g
    have e:=ZI h1
    subst e
    refine vI ((o.sound A l1 h5 hw).mono λ x S1 q=>?_) ?_ (aB h4 [] _) h3
    . cases x<;>first | exact q.elim | exact⟨_,rfl,a.sound A l2 h6 q⟩
    . cases x<;>first | rfl | exact ff h2
  . exact ff hc
theorem QW{X:Cx}{c:Expr}{body:List Stmt}{pos:Pos}{W:DL.Fin}(h:∃(Pv:Nat->Gam->Store->Prop) (m0:Nat),Pv m0 Γ S/\∀m Γ' S',Pv m Γ' S'->
 Ts X Γ' S' c λ k S1=>(k=true->Rns X Γ' S1 body {W with nx:=λ G T=>∃m',m'<m/\Pv m' G T,ct:=λ G T=>∃m',m'<m/\Pv m' G T,bk:=W.nx})/\(k=false->W.nx Γ' S1))
 (hp:PassesOwn (model X.prog X.w) X.A X.env X.xe):Rn X Γ S (.While c body [] pos) W:=by
 intro pins s σ H O I env ok
 obtain⟨Pv,m0,p0,turn⟩:=h
 refine wpAny_While (codeAny_whileLoop (λ n s'=>∃σ' H' O' Γ' S',Inv X pins σ' H' s'/\Pv n Γ' S'/\Step O O' H H'/\StOk X.K O' H' S'/\EnvOk X.K O' H' σ' Γ') ?_ m0 ⟨σ,H,O,Γ,S,I,p0,Step.refl _ _,ok,env⟩)
 rintro n s1 ⟨σ1,H1,O1,Γ1,S1,I1,p1,st1,ok1,env1⟩
 refine wpAny_passesOwn hp (thn (turn n Γ1 S1 p1 pins s1 σ1 H1 O1 I1 env1 ok1) λ b s2 hq_=>?_)
 obtain⟨H2,I2,O2,S2,w2,st2,ok2⟩:=hq_
 cases b with
 | true=>
   rw[if_pos rfl]
   refine wpAny_passesOwn hp (thn (w2.1 rfl pins s2 σ1 H2 O2 I2 (env1.mono st2) ok2) λ f s3 q3=>?_)
   cases f with
   | next=>
     obtain⟨σ3,H3,I3,O3,Γ3,S3,⟨m',hm,p3⟩,st3,ok3,env3⟩:=q3
     exact⟨m',hm,σ3,H3,O3,Γ3,S3,I3,p3,(st1.trans st2).trans st3,ok3,env3⟩
   | cont=>
     obtain⟨σ3,H3,I3,O3,Γ3,S3,⟨m',hm,p3⟩,st3,ok3,env3⟩:=q3
     exact⟨m',hm,σ3,H3,O3,Γ3,S3,I3,p3,(st1.trans st2).trans st3,ok3,env3⟩
   | brk=>
     obtain⟨σ3,H3,I3,q⟩:=q3
     exact⟨σ3,H3,I3,QN.pre (st1.trans st2) q⟩
   | ret v=>
     obtain⟨x,σ3,H3,I3,r3,q⟩:=q3
     exact⟨x,σ3,H3,I3,r3,QG.pre (st1.trans st2) q⟩
 | false=>
   rw[if_neg y7]
   exact wpAny_execs_nil ⟨σ1,H2,I2,O2,Γ1,S2,w2.2 rfl,st1.trans st2,ok2,env1.mono st2⟩
@[irreducible] noncomputable def sZ(c:Te Ω)(body:Bl Ω)(Γ:Gam)(S:Store)(W:DL.Fin):Prop:=∃(Pv:Nat->Gam->Store->Prop) (m0:Nat),Pv m0 Γ S/\∀m Γ' S',Pv m Γ' S'->
 c.wp Γ' S' λ k S1=>(k=true->body.wp Γ' S1 {W with nx:=λ G T=>∃m',m'<m/\Pv m' G T,ct:=λ G T=>∃m',m'<m/\Pv m' G T,bk:=W.nx})/\(k=false->W.nx Γ' S1)
theorem Mi{c:Te Ω}{body:Bl Ω}{W:DL.Fin}(h:∃(Pv:Nat->Gam->Store->Prop) (m0:Nat),Pv m0 Γ S/\∀m Γ' S',Pv m Γ' S'->
 c.wp Γ' S' λ k S1=>(k=true->body.wp Γ' S1 {W with nx:=λ G T=>∃m',m'<m/\Pv m' G T,ct:=λ G T=>∃m',m'<m/\Pv m' G T,bk:=W.nx})/\(k=false->W.nx Γ' S1)):sZ c body Γ S W:=by unfold sZ;exact h
noncomputable def Sm.while(c:Te Ω)(body:Bl Ω):Sm Ω where
 lev:=max c.lev body.lev
 chk top N nm st:=match st with | .While t b [] _=>c.chk top N nm t&&body.chk top N nm b | _=>false
 wp Γ S W:=sZ c body Γ S W
 sound:=by
  intro X r top N nm st Γ S W A hl hc hw
  obtain⟨l1,l2⟩:=lv2 hl
  split at hc
  . obtain⟨h1,h2⟩:=aa hc
    unfold sZ at hw
    obtain⟨Pv,m0,p0,turn⟩:=hw
    exact QW ⟨Pv,m0,p0,λ m Γ' S' p=>Ts.mono (c.sound A l1 h1 (turn m Γ' S' p)) λ k S1 q=>⟨λ hk=>body.sound A l2 h2 (q.1 hk),q.2⟩⟩ (by rw[A.xe];exact PassesOwn.never)
  . exact ff hc
noncomputable def Sm.never:Sm Ω where
 lev:=0
 chk _ _ _ st:=match st with | .Raise _ _ _=>true | _=>false
 wp _ _ _:=False
 sound:=λ _ _ _ h=>h.elim
theorem bM(S:Store)(x:List D):(S++[x])[S.length]? =some x:=by simp
theorem bu(S:Store)(x y:List D):(S++[x]).set S.length y=S++[y]:=by simp
theorem bH{α β:Type}{xs:List α}{f:α->β}{i:Nat}{e:β}(h:(xs.map f)[i]? =some e):∃x,xs[i]? =some x/\e=f x:=by
 rw[y9]at h
 cases e1:xs[i]? with
 | none=>rw[e1]at h;cases h
 | some x=>rw[e1]at h;cases h;exact⟨x,rfl,rfl⟩
theorem Pu{α β:Type}{xs:List α}{f:Nat->α->β}{i:Nat}{e:β}(h:(xs.mapIdx f)[i]? =some e):∃x,xs[i]? =some x/\e=f i x:=by
 rw[List.getElem?_mapIdx]at h
 cases e1:xs[i]? with
 | none=>rw[e1]at h;cases h
 | some x=>rw[e1]at h;cases h;exact⟨x,rfl,rfl⟩
theorem rA{cap:List (Option Nat)}{elt:Ex Ω}{tg:Tg}{S1:Store}{α:Type}{xs:List α}{enc:α->D}(f:α->D)(hz:xs.length≤1000000)(h:∀(i:Nat)(x:α),xs[i]? =some x->∀Q:WD,Q (f x) S1->tg.wp (enc x) (capt cap Γ) λ Γ2=>elt.wp Γ2 S1 Q)
 (w:W (.lst (xs.map f)) S1):iU cap Γ elt tg (Cd.no (Ω:=Ω)) W (xs.map enc) S1:=by
 refine fD ⟨by rw[y8];exact hz,λ i acc S'=>acc=(xs.take i).map f/\S'=S1,⟨rfl,rfl⟩,?_,?_⟩
 . rintro i d acc S' hd ⟨rfl,rfl⟩
   obtain⟨x,hx,rfl⟩:=bH hd
   refine Tg.mono (h i x hx (λ y S4=>(xs.take i).map f++[y]=(xs.take (i+1)).map f/\S4=S') ⟨?_,rfl⟩) λ G q=>⟨λ _=>q,λ z=>tf z⟩
   rw[aD hx,List.map_append];rfl
 . rintro acc S' ⟨rfl,rfl⟩
   rw[y8,List.take_length];exact w
theorem wM1{j:Int}{P:Prop}(h:L2.CMul i j)(p:P):L2.CMul i j/\P:=⟨h,p⟩
theorem wM2{j:Int}{P:Prop}(h:L2.CPow i j)(p:P):L2.CPow i j/\P:=⟨h,p⟩
theorem wM3{j:Int}{P:Prop}(h:0<i/\i<j)(p:P):(0<i/\i<j)/\P:=⟨h,p⟩
theorem wM4{P:Prop}(h:0<i)(p:P):0<i/\P:=⟨h,p⟩
theorem wM5{α:Type}{l:List α}{P:Prop}(h:l.length≤1000000)(p:P):l.length≤1000000/\P:=⟨h,p⟩
theorem wM6{α β:Type}{l:List α}{k:List β}{P:Prop}(h:l.length+k.length≤1000000)(p:P):l.length+k.length≤1000000/\P:=⟨h,p⟩
theorem wM7{k j:Nat}{n:Int}{Q:List D->Nat->Prop}(h:S[k]? =some ds)(g:L2.ixN ds.length n=some j)(q:Q ds j):∃ds j,S[k]? =some ds/\L2.ixN ds.length n=some j/\Q ds j:=⟨ds,j,h,g,q⟩
theorem wM8{k:Nat}{n:Int}{d:D}{Q:List D->D->Prop}(h:S[k]? =some ds)(g:L2.atI ds n=some d)(q:Q ds d):∃ds d,S[k]? =some ds/\L2.atI ds n=some d/\Q ds d:=⟨ds,d,h,g,q⟩
theorem wM9{n:Int}{d:D}{Q:D->Prop}(g:L2.atI ds n=some d)(q:Q d):∃d,L2.atI ds n=some d/\Q d:=⟨d,g,q⟩
end RF
namespace RF
open PySem PySem.Spec L2 DL
open PyProof.Rows
section
variable {prog : Program} {w : World} {A : Around} {E : Value -> Shared -> Prop} {s : Shared}
noncomputable def ltF(fin:Bool):List Int->List Int->Bool
 | x::xs,y::ys=>if x=y then ltF fin xs ys else decide (x<y)
 | _,_=>fin
noncomputable def ltI(xs ys:List Int):Bool:=ltF (decide (xs.length<ys.length)) xs ys
theorem PJ{flag:Bool}{a b:Int}{t u:Tok}{Q:Bool->Shared->Prop}(h:Q (decide (a<b)) s):wpAny (model prog w) A (oneLt' flag (.int a t) (.int b u)) Q E s:=by
 cases flag with
 | true=>exact oneLt_int h
 | false=>exact PySem.W.kat_one _ _ (wpAny_lt_int h)
noncomputable def eO(h:Heap)(v:Value)(ns:List Int):Prop:=∃b o xs k,v=.ref b/\h.get? b=some o/\o.cls=.type "tuple"/\o.data=.seq xs k/\IntsAre xs.toList ns
end
noncomputable def jw(k:Nat)(ds:List D):Option D->Option D
 | some (.loc j)=>if j=k then some (.lst ds)else some (.loc j)
 | o=>o
noncomputable def atTop(Γ:Gam):Prop:=∀(i:Nat)(d:D),Γ[i]? =some (some d)->aq d=true∨∃j,d=.loc j
noncomputable def T9(n:Nat)(W:Gam->Store->Prop):Gam->Store->Prop:=λ Γ S1=>W Γ S1∨∃ds S',S1=S'++[ds]/\n≤S'.length/\ak ds=true/\flat S'/\atTop Γ/\W (Γ.map (jw S'.length ds)) S'
theorem QN.frz {K:PySem.W.Frag}{O:Own}{H H':Hp}{W:Gam->Store->Prop}{σ:DL.St}{n:Nat}(hn:O.A.length=n)(q:QN K O H (T9 n W) σ H'):QN K O H W σ H':=by
 obtain⟨O',Γ,S1,w,st,ok,r⟩:=q
 rcases w with w | ⟨ds,S',rfl,hl,hd,hS,ht,w⟩
 . exact⟨O',Γ,S1,w,st,ok,r⟩
 . obtain ⟨st2,ok2,sub,na⟩:=gG st ok (by omega) hS
   have len:O'.A.length=S'.length+1:=by have:=ok.len;simpa using this
   refine⟨⟨O'.A.take S'.length,O'.B⟩,_,S',w,st2,ok2,⟨by rw[y8];exact r.len,λ i d e=>?_⟩⟩
   . rw [y9] at e
     cases e1:Γ[i]? with
     | none=>rw[e1]at e;cases e
     | some o=>
       rw[e1]at e
       cases o with
       | none=>cases e
       | some d0=>
         obtain⟨v,hv,rv⟩:=r.at_ i d0 e1
         rcases ht i d0 e1 with nl | ⟨j,rfl⟩
         . have e2:d0=d:=by
            cases d0 with
            | loc j=>simp[aq]at nl
            | _=>simpa[jw]using e
           subst e2
           exact⟨v,hv,cZ sub nl rv⟩
         . cases rv with
           | @loc a _ ha=>
             by_cases hj:j=S'.length
             . subst hj
               have e2:d=.lst ds:=by simpa[jw]using e.symm
               subst e2
               obtain⟨xs,hx,q1⟩:=ok.obj S'.length a ds ha (by simp)
               exact⟨_,hv,.lst (.inl ⟨na _ a (x4 _) ha,.inl hx⟩) (cU sub hd q1)⟩
             . have e2:d=.loc j:=by simpa[jw,hj]using e.symm
               subst e2
               refine⟨_,hv,.loc ?_⟩
               have:j<O'.A.length:=(y3.mp ha).1
               show(O'.A.take S'.length)[j]? =some (a,false)
               rw[List.getElem?_take,if_pos (by omega)];exact ha
section
variable {Ω : Wd}
noncomputable def Bl.fzl(b:Bl Ω):Bl Ω where
 lev:=b.lev
 chk:=b.chk
 wp Γ S W:=b.wp Γ S {W with nx:=T9 S.length W.nx}
 sound:=by
  intro X r top N nm sts Γ S W A hl hc hw pins s σ H O I env ok
  refine thn (b.sound A hl hc hw pins s σ H O I env ok) λ f s' q=>?_
  cases f with
  | next=>obtain⟨σ,H',I,q⟩:=q;exact⟨σ,H',I,QN.frz ok.len q⟩
  | brk=>exact q
  | cont=>exact q
  | ret u=>exact q
end
end RF
namespace RF
open PySem PySem.Spec L2 DL
open PyProof.Rows
variable {Γ : Gam}
theorem Hk{K:PySem.W.Frag}{O:Own}{H:Hp}{a:Addr}{k:Nat}{ds:List D}(h:O.A[k]? =some (a,false)):tW K (Itl K a) O H (λ S=>S[k]? =some ds) ds:=by
 intro O' H' S' st ok hS i
 have h':O'.A[k]? =some (a,false):=st.lc k _ h
 obtain⟨xs,hx,r⟩:=ok.obj k a ds h' hS
 have hq:SqL K H' a xs:=SqL.of hx
 refine⟨λ d hd=>?_,λ hi=>⟨xs,hq,by rw[r.length];exact Nat.le_of_eq hi.symm⟩⟩
 obtain⟨v,hv,rv⟩:=r.get hd
 refine⟨⟨xs,v,hq,hv⟩,λ x H'' y=>?_⟩
 obtain⟨e,y⟩:=y
 subst e
 have e:=y xs hq
 rw[hv]at e
 cases e
 exact⟨dD.refl _,rv⟩
noncomputable abbrev itC(W:List D->(Store->Prop)->Store->Prop):WD:=λ d S1=>match d with
 | .lst ds=>W ds (λ _=>True) S1
 | .tup ds=>W ds (λ _=>True) S1
 | .loc k=>∃ds,S1[k]? =some ds/\W ds (λ S=>S[k]? =some ds) S1
 | _=>False
theorem Kl{X:Cx}{S:Store}{tg e:Expr}{W:List D->(Store->Prop)->Store->Prop}(h:Ev X Γ S e (itC W)):ItC X Γ S tg e W:=by
 intro pins s σ H O I env st
 refine thn (h pins s σ H O I env st) λ u s1 hq_=>?_
 obtain⟨v,H1,I1,r1,O1,d,S1,w,st1,ok1,rep⟩:=hq_
 cases rep with
 | @lst a xs ds h1 q1=>
   cases r1
   obtain⟨its,rv,p,hz⟩:=I1.list h1.sq
   refine wpAny_pyIter_list p.isList ?_
   refine⟨s1.heap.objs.size,[s1.heap.objs.size],_,_,H1,rfl,I1.kept (t':=s1.toks) λ b o e=>ZC _ e,mL a _,⟨_,ZD _ rfl,rfl,rfl⟩,λ b hb=>?_,O1,ds,_,S1,w,st1,ok1,qw (pQ h1 q1)⟩
   have e:b=s1.heap.objs.size:=by simpa using hb
   subst e
   exact I1.fpOk (x4 _) (I1.hok.fresh (x4 _))
 | @tup a xs ds h1 q1=>
   cases r1
   obtain⟨its,rv,p,hz⟩:=I1.tuple h1.sq
   refine wpAny_pyIter_tuple (show s1.heap.IsTuple a its.toArray from p) ?_
   refine⟨s1.heap.objs.size,[s1.heap.objs.size],_,_,H1,rfl,I1.kept (t':=s1.toks) λ b o e=>ZC _ e,sU a _,⟨_,ZD _ rfl,rfl,rfl⟩,λ b hb=>?_,O1,ds,_,S1,w,st1,ok1,qw (rP h1 q1)⟩
   have e:b=s1.heap.objs.size:=by simpa using hb
   subst e
   exact I1.fpOk (x4 _) (I1.hok.fresh (x4 _))
 | @loc a k h1=>
   cases r1
   obtain⟨ds,hk,w⟩:=w
   obtain⟨xs,hx,q1⟩:=ok1.obj k a ds h1 hk
   obtain⟨its,rv,p,hz⟩:=I1.list (SqL.of hx)
   refine wpAny_pyIter_list p.isList ?_
   refine⟨s1.heap.objs.size,[s1.heap.objs.size],_,_,H1,rfl,I1.kept (t':=s1.toks) λ b o e=>ZC _ e,mL a _,⟨_,ZD _ rfl,rfl,rfl⟩,λ b hb=>?_,O1,ds,_,S1,w,st1,ok1,Hk h1⟩
   have e:b=s1.heap.objs.size:=by simpa using hb
   subst e
   exact I1.fpOk (x4 _) (I1.hok.fresh (x4 _))
 | _=>exact w.elim
theorem TV{X:Cx}{S:Store}{W:DL.Fin}{pos:Pos}{tg iter:Expr}{body:List Stmt}(h:ItC X Γ S tg iter λ ds C S1=>∃Pv:Nat->Gam->Store->Prop,Pv 0 Γ S1/\(∀i Γ' S',Pv i Γ' S'->C S')/\
 (∀i d Γ' S',ds[i]? =some d->Pv i Γ' S'->BdW X tg d Γ' S' λ Γ2 S2=>Rns X Γ2 S2 body {W with nx:=Pv (i+1),ct:=Pv (i+1),bk:=W.nx})/\(∀Γ' S',Pv ds.length Γ' S'->W.nx Γ' S'))
 (hp:PassesOwn (model X.prog X.w) X.A X.env X.xe)(hc:X.calm=true)(hs:∀x,foldedSetIterable iter X.env x=pure x):Rn X Γ S (.For tg iter body [] pos) W:=by
 intro pins s σ H O I env ok
 let WI:List D->(Store->Prop)->Store->Prop:=λ ds C S1=>∃Pv:Nat->Gam->Store->Prop,Pv 0 Γ S1/\(∀i Γ' S',Pv i Γ' S'->C S')/\
     (∀i d Γ' S',ds[i]? =some d->Pv i Γ' S'->BdW X tg d Γ' S' λ Γ2 S2=>Rns X Γ2 S2 body {W with nx:=Pv (i+1),ct:=Pv (i+1),bk:=W.nx})/\(∀Γ' S',Pv ds.length Γ' S'->W.nx Γ' S')
 have hI:PI X tg iter (λ σ H R=>∃O,EnvOk X.K O H σ Γ/\StOk X.K O H S/\∀J H',QIc X.K O H WI J H'->R J H'):=λ pins s σ H R I hh=>by
  obtain⟨O,env,st,k⟩:=hh
  refine thn (h pins s σ H O I env st) λ _ _ q=>thn q λ _ _ q2=>?_
  obtain⟨it,fp,tn,J,H',e1,e2,e3,e4,e5,e6⟩:=q2
  exact⟨it,fp,tn,J,H',e1,e2,e3,e4,e5,k J H' e6⟩
 have hG:PG X tg (λ v σ H Q=>∃O d Γ S W',EnvOk X.K O H σ Γ/\StOk X.K O H S/\Rep X.K O H v d/\BdW X tg d Γ S W'/\∀σ' H',QN X.K O H W' σ' H'->Q σ' H'):=λ pins s σ H v u Q I ru hh=>by
  obtain⟨O,d,Γ,S,W',env,st,r,b,k⟩:=hh
  refine thn (b pins s σ H O v u I env st r ru) λ _ _ q2=>?_
  obtain⟨σ',H',I',q⟩:=q2
  exact⟨σ',H',I',k σ' H' q⟩
 have hB:PSs X body (λ D σ H=>∃O Γ S W',EnvOk X.K O H σ Γ/\StOk X.K O H S/\Rns X Γ S body W'/\(∀σ' H',QN X.K O H W'.nx σ' H'->D.nx σ' H')/\(∀v H',QG X.K O H W'.rt v H'->D.rt v H')/\(∀σ' H',QN X.K O H W'.bk σ' H'->D.bk σ' H')/\∀σ' H',QN X.K O H W'.ct σ' H'->D.ct σ' H'):=
  λ pins s σ H D I hh=>by
   obtain⟨O,Γ,S,W',env,st,b,k1,k2,k3,k4⟩:=hh
   refine thn (b pins s σ H O I env st) λ f s' q=>?_
   cases f with
   | next=>obtain⟨σ',H',I',q⟩:=q;exact⟨σ',H',I',k1 σ' H' q⟩
   | brk=>obtain⟨σ',H',I',q⟩:=q;exact⟨σ',H',I',k3 σ' H' q⟩
   | cont=>obtain⟨σ',H',I',q⟩:=q;exact⟨σ',H',I',k4 σ' H' q⟩
   | ret u=>obtain⟨v,σ',H',I',r,q⟩:=q;exact⟨v,σ',H',I',r,k2 v H' q⟩
 refine JF hp hc hI hG hB hs pins s σ H _ I ⟨O,env,ok,λ J H1 q=>?_⟩
 obtain⟨O1,ds,C,S1,⟨Pv,p0,pC,pt,pe⟩,st1,ok1,yl⟩:=q
 refine⟨λ i m σ' H'=>m=ds.length-i/\i≤ds.length/\∃O' Γ' S',Pv i Γ' S'/\Step O1 O' H1 H'/\StOk X.K O' H' S'/\EnvOk X.K O' H' σ' Γ',⟨ds.length,by simp,Nat.zero_le _,O1,Γ,S1,p0,Step.refl _ _,ok1,env.mono st1⟩,?_⟩
 rintro i m σ2 H2 ⟨rfl,hi,O2,Γ2,S2,p2,st2,ok2,env2⟩
 obtain⟨y1,y2⟩:=yl O2 H2 S2 st2.conv ok2 (pC _ _ _ p2) i
 by_cases hlt:i<ds.length
 . obtain⟨go,yy⟩:=y1 ds[i] (y4 hlt)
   refine .inr ⟨go,λ σ' H'=>i+1≤ds.length/\∃O' Γ' S',Pv (i+1) Γ' S'/\Step O1 O' H1 H'/\StOk X.K O' H' S'/\EnvOk X.K O' H' σ' Γ',λ σ' H' q=>⟨ds.length-(i+1),by omega,rfl,q.1,q.2⟩,λ x H3 y=>?_⟩
   obtain⟨sm,rx⟩:=yy x H3 y
   have st3:=Step.same (O:=O2) sm
   refine⟨O2,ds[i],Γ2,S2,_,env2.mono st3,ok2.same sm,rx,pt i ds[i] Γ2 S2 (y4 hlt) p2,λ σ4 H4 q4=>?_⟩
   obtain⟨O4,Γ4,S4,w4,st4,ok4,env4⟩:=q4
   have stA:=(st2.trans st3).trans st4
   refine⟨O4,Γ4,S4,_,env4,ok4,w4,?_,?_,?_,?_⟩
   . rintro σ5 H5 ⟨O5,Γ5,S5,w5,st5,ok5,env5⟩
     exact⟨hlt,O5,Γ5,S5,w5,stA.trans st5,ok5,env5⟩
   . exact λ v H' q=>QG.pre (st1.trans stA) q
   . exact λ σ' H' q=>QN.pre (st1.trans stA) q
   . rintro σ5 H5 ⟨O5,Γ5,S5,w5,st5,ok5,env5⟩
     exact⟨hlt,O5,Γ5,S5,w5,stA.trans st5,ok5,env5⟩
 . have e:i=ds.length:=by omega
   subst e
   exact .inl ⟨y2 rfl,O2,Γ2,S2,pe Γ2 S2 p2,st1.trans st2,ok2,env2⟩
section
variable {Ω : Wd}
@[irreducible] noncomputable def FJ(Γ:Gam)(tg:Tg)(body:Bl Ω)(W:DL.Fin)(k:Nat)(ds:List D)(S1:Store):Prop:=
  ∃Pv:Nat->Gam->Store->Prop,Pv 0 Γ S1/\(∀i Γ' S',Pv i Γ' S'->S'[k]? =some ds)/\(∀i d Γ' S',ds[i]? =some d->Pv i Γ' S'->tg.wp d Γ' λ Γ2=>body.wp Γ2 S' {W with nx:=Pv (i+1),ct:=Pv (i+1),bk:=W.nx})/\(∀Γ' S',Pv ds.length Γ' S'->W.nx Γ' S')
theorem Dn{tg:Tg}{body:Bl Ω}{W:DL.Fin}{k:Nat}{ds:List D}{S1:Store}(h:∃Pv:Nat->Gam->Store->Prop,Pv 0 Γ S1/\(∀i Γ' S',Pv i Γ' S'->S'[k]? =some ds)/\(∀i d Γ' S',ds[i]? =some d->Pv i Γ' S'->tg.wp d Γ' λ Γ2=>body.wp Γ2 S' {W with nx:=Pv (i+1),ct:=Pv (i+1),bk:=W.nx})/\(∀Γ' S',Pv ds.length Γ' S'->W.nx Γ' S')):FJ Γ tg body W k ds S1:=by unfold FJ;exact h
noncomputable def Sm.forL(tg:Tg)(it:Ex Ω)(body:Bl Ω):Sm Ω where
 lev:=max it.lev body.lev
 chk top N nm st:=match st with | .For t i b [] _=>okE i&&(tg.chk top N nm t&&(it.chk top N nm i&&body.chk top N nm b)) | _=>false
 wp Γ S W:=it.wp Γ S λ d S1=>match d with
  | .lst ds=>jq Γ tg body W ds S1
  | .tup ds=>jq Γ tg body W ds S1
  | .loc k=>∃ds,S1[k]? =some ds/\FJ Γ tg body W k ds S1
  | _=>False
 sound:=by
  intro X r top N nm st Γ S W A hl hc hw
  obtain⟨l1,l2⟩:=lv2 hl
  split at hc
  . rename_i t i b pos
    obtain⟨h1,hc⟩:=aa hc
    obtain⟨h2,hc⟩:=aa hc
    obtain⟨h3,h4⟩:=aa hc
    have step:∀(Pv:Nat->Gam->Store->Prop)(ds:List D),(∀i d Γ' S',ds[i]? =some d->Pv i Γ' S'->tg.wp d Γ' λ Γ2=>body.wp Γ2 S' {W with nx:=Pv (i+1),ct:=Pv (i+1),bk:=W.nx})->∀i d Γ' S',ds[i]? =some d->Pv i Γ' S'->BdW X t d Γ' S' λ Γ2 S2=>Rns X Γ2 S2 b {W with nx:=Pv (i+1),ct:=Pv (i+1),bk:=W.nx}:=
     λ Pv ds pt i d Γ' S' hd hp=>BdW.mono (Tg.sound A (W:=λ Γ2 S2=>body.wp Γ2 S2 {W with nx:=Pv (i+1),ct:=Pv (i+1),bk:=W.nx}) h2 (pt i d Γ' S' hd hp)) λ Γ2 S2 q=>body.sound A l2 h4 q
    refine TV (Kl (Ev.mono (it.sound A l1 h3 hw) λ d S1 q=>?_)) (by rw[A.xe];exact PassesOwn.never) A.calm (jL h1 _)
    cases d with
    | lst ds=>
      have q:jq Γ tg body W ds S1:=q
      unfold jq at q
      obtain⟨Pv,p0,pt,pe⟩:=q
      exact⟨Pv,p0,λ _ _ _ _=>trivial,step Pv ds pt,pe⟩
    | tup ds=>
      have q:jq Γ tg body W ds S1:=q
      unfold jq at q
      obtain⟨Pv,p0,pt,pe⟩:=q
      exact⟨Pv,p0,λ _ _ _ _=>trivial,step Pv ds pt,pe⟩
    | loc k=>
      obtain⟨ds,hk,q⟩:=q
      unfold FJ at q
      obtain⟨Pv,p0,pC,pt,pe⟩:=q
      exact⟨ds,hk,Pv,p0,pC,step Pv ds pt,pe⟩
    | _=>exact(show False from q).elim
  . exact fE hc
noncomputable def Ex.compL(N':List Str)(cap:List (Option Nat))(elt:Ex Ω)(tg:Tg)(a:Ex Ω)(cd:Cd Ω):Ex Ω where
 lev:=max elt.lev (max a.lev cd.lev)
 chk top N nm e:=gD N' cap elt tg (Itb.seq a) cd top N nm e
 wp Γ S W:=a.wp Γ S λ d S1=>match d with
  | .lst ds=>iU cap Γ elt tg cd W ds S1
  | .tup ds=>iU cap Γ elt tg cd W ds S1
  | .loc k=>∃ds,S1[k]? =some ds/\jc cap Γ elt tg cd W ds (λ S=>S[k]? =some ds) S1
  | _=>False
 sound:=by
  intro X r top N nm e Γ S W A hl hc hw
  obtain⟨l1,l2⟩:=lv2 hl
  obtain⟨l2,l3⟩:=lv2 l2
  unfold gD at hc
  split at hc
  . rename_i x t i cs sc pos
    obtain⟨h1,hc⟩:=aa hc
    obtain⟨h2,hc⟩:=aa hc
    obtain⟨h3,hc⟩:=aa hc
    obtain⟨h4,hc⟩:=aa hc
    obtain⟨h5,hc⟩:=aa hc
    obtain⟨h6,hc⟩:=aa hc
    obtain⟨h7,hc⟩:=aa hc
    obtain⟨h8,hc⟩:=aa hc
    obtain⟨h9,hc⟩:=aa hc
    obtain⟨h10,hc⟩:=aa hc
    obtain⟨h11,h12⟩:=aa hc
    have hk:sc.kind=.function:=ZI h1
    refine Dy N' cap (Kl (Ev.mono (a.sound A l2 h9 hw) λ d S1 q=>?_)) A.xe A.calm hk h2 (mW A h3) (λ y hy e=>?_) (iI A h5) (jL h6 _)
    . have go:∀{ds:List D}{C0:Store->Prop},jc cap Γ elt tg cd W ds C0 S1->rC X sc N' cap Γ x t cs W ds C0 S1:=λ q=>kZ A l1 l3 hk (ZF h8) h7 h10 h11 h12 q
      cases d with
      | lst ds=>exact go q
      | tup ds=>exact go q
      | loc k=>obtain⟨ds,hk,q⟩:=q;exact⟨ds,hk,go q⟩
      | _=>exact(show False from q).elim
    . have:=List.all_eq_true.mp h4 y hy
      simpa[e]using this
  . exact fE hc
end
theorem ur{Ω:Wd}{cap:List (Option Nat)}{elt:Ex Ω}{tg:Tg}{W:WD}{S1:Store}{C0:Store->Prop}{α:Type}{xs:List α}{enc:α->D}(f:α->D)(hz:xs.length≤1000000)(hC:C0 S1)(h:∀(i:Nat)(x:α),xs[i]? =some x->∀Q:WD,Q (f x) S1->tg.wp (enc x) (capt cap Γ) λ Γ2=>elt.wp Γ2 S1 Q)
 (w:W (.lst (xs.map f)) S1∨W (.loc S1.length) (S1++[xs.map f])):jc cap Γ elt tg (Cd.no (Ω:=Ω)) W (xs.map enc) C0 S1:=by
 refine cB ⟨by rw[y8];exact hz,λ i acc S'=>acc=(xs.take i).map f/\S'=S1,⟨rfl,rfl⟩,λ i acc S' q=>by rw[q.2];exact hC,?_,?_⟩
 . rintro i d acc S' hd ⟨rfl,rfl⟩
   obtain⟨x,hx,rfl⟩:=bH hd
   refine Tg.mono (h i x hx (λ y S4=>(xs.take i).map f++[y]=(xs.take (i+1)).map f/\S4=S') ⟨?_,rfl⟩) λ G q=>⟨λ _=>q,λ z=>tf z⟩
   rw[aD hx,List.map_append];rfl
 . rintro acc S' ⟨rfl,rfl⟩
   rw[y8,List.take_length];exact w
end RF
namespace RF
open PySem PySem.Spec L2 DL
open PyProof.Rows
variable {ds : List D}
noncomputable def dR(S:Store):D->Option (List D)
 | .lst ds=>some ds
 | .loc k=>S[k]?
 | _=>none
noncomputable def putL(own:Bool)(W:WD)(ds:List D)(S:Store):Prop:=match own with
 | true=>W (.loc S.length) (S++[ds])
 | false=>W (.lst ds) S
section
variable {X : Cx} {S : Store} {W : WD}
theorem oK{pins:Pins}{s:Shared}{σ:DL.St}{H:Hp}{O:Own}{v:V}{d:D}(st:StOk X.K O H S)(r:Rep X.K O H v d)(h:dR S d=some ds):∃a xs,v=.ref a/\SqL X.K H a xs/\Reps X.K O H xs ds:=by
 cases r with
 | @lst a xs _ h1 q1=>cases h;exact⟨a,xs,rfl,h1.sq,q1⟩
 | @loc a k h1=>
   obtain⟨xs,hx,q1⟩:=st.obj k a ds h1 h
   exact⟨a,xs,rfl,SqL.of hx,q1⟩
 | _=>cases h
theorem Iu{own:Bool}{K:PySem.W.Frag}{O:Own}{H:Hp}{p:Addr}{xs:List V}(w:putL own W ds S)(st:StOk K O H S)(h:H p=none)(r:Reps K O H xs ds):QG K O H W (.ref p) (upd H p (.lst xs)):=by
 cases own with
 | true=>exact jQ w st h r
 | false=>exact eF w st h r
theorem Tu{own:Bool}{x y:D}{es:List D}(hx:dR S x=some ds)(hy:dR S y=some es)(hz:ds.length+es.length≤1000000)(w:putL own W (ds++es) S):dM X .Add x y S W:=by
 intro pins s σ H O v w' u u' I st r1 r2 r3 r4
 obtain⟨a,xs,rfl,h1,q1⟩:=oK (pins:=pins) (s:=s) (σ:=σ) st r1 hx
 obtain⟨b,ys,rfl,h2,q2⟩:=oK (pins:=pins) (s:=s) (σ:=σ) st r2 hy
 cases r3
 cases r4
 obtain⟨its,v1,p1,_⟩:=I.list h1
 obtain⟨its2,v2,p2,_⟩:=I.list h2
 obtain⟨⟨cls,dd,data,sl⟩,n,ho,hc,hdd,hd⟩:=id p1
 obtain⟨⟨cls2,dd2,data2,sl2⟩,n2,ho2,hc2,hdd2,hd2⟩:=id p2
 simp only at hc hd hc2 hd2
 subst hc hd hc2 hd2
 have z:its.length+its2.length≤sizeLine:=by rw[←v1.length,←v2.length,q1.length,q2.length];exact small hz
 refine concat_meets ⟨_,ho,rfl⟩ ⟨_,ho2,rfl⟩ noFill_list_add seq_list_add PySem.F.slot_list_add PySem.F.entry_list_add (PySem.F.args_list_add_2 _ _)
  (list_addW a b its.toArray its2.toArray n n2 dd dd2 sl sl2 (by simpa using z)) ⟨ho,ho2,?_⟩
 have ea:its.toArray++its2.toArray=(its++its2).toArray:=by simp
 rw[ea]
 exact⟨.ref s.heap.objs.size,_,I.lnew (t':=s.toks) (v1.append v2) (by rw[x9,q1.length,q2.length];exact small hz),rfl,Iu w st I.fresh (q1.append q2)⟩
theorem Ua{own:Bool}{x:D}{k:Int}(hx:dR S x=some ds)(hk: -(2 ^ 63)≤k/\k<2 ^ 63)(hz:ds.length*k.toNat≤1000000)(w:putL own W (List.replicate k.toNat ds).flatten S):dM X .Mult x (.int k) S W:=by
 intro pins s σ H O v w' u u' I st r1 r2 r3 r4
 obtain⟨a,xs,rfl,h1,q1⟩:=oK (pins:=pins) (s:=s) (σ:=σ) st r1 hx
 cases r2
 cases r3
 obtain⟨t,rfl⟩:=r4
 obtain⟨its,v1,p1,_⟩:=I.list h1
 obtain⟨⟨cls,dd,data,sl⟩,n,ho,hc,hdd,hd⟩:=id p1
 simp only at hc hd
 subst hc hd
 have l1:its.length=ds.length:=by rw[←v1.length,q1.length]
 have big:its.length*k.toNat≤1000000:=by rw[l1];exact hz
 have sz:(1000000:Nat)≤sizeLine:=by decide
 refine PySem.wpAny_binaryOp_repeat_ref (T:="list") (U:="int") (by decide) ⟨_,ho,rfl⟩ (λ s'=>typeIs_int s' k t) PySem.noFill_list_mul F.fills_int_mul F.slot_int_rmul PySem.repeat_list F.slot_int_index.lookup
  (call_meets F.slot_int_rmul (typeIs_int s k t) F.entry_int_rmul (F.args_int_rmul_2 _ _) (PySem.lm_int_rmul_list_any k t a its.toArray n dd sl) ⟨ho,rfl,⟨_,ho,rfl⟩,?_⟩)
 refine call_meets F.slot_list_mul ⟨_,ho,rfl⟩ F.entry_list_mul (F.args_list_mul_2 _ _) (PySem.lm_list_mul_any a its.toArray n dd sl k t ?_ ?_ ?_) ⟨ho,?_⟩
 . have c1:Builtin.List.listFitsIndex k=true:=by
    unfold Builtin.List.listFitsIndex
    rw[ZG (by omega),ZG (by omega)];rfl
   rw[c1];decide
 . rw[x6];omega
 . rw[x6]
   unfold Builtin.List.listTooLong
   rw[decide_eq_true_eq];omega
 . have ez:(List.replicate (if its.toArray.isEmpty=true then 0 else k.toNat) its.toArray).foldl (λ x1 x2=>x1++x2) #[]=(List.replicate k.toNat its).flatten.toArray:=by
    have fz:∀m:Nat,(List.replicate m its.toArray).foldl (λ x1 x2=>x1++x2) #[]=(List.replicate m its).flatten.toArray:=λ m=>by
     have:=foldl_rep its m []
     rw[List.nil_append]at this
     exact this
    rw[fz]
    by_cases e:its=[]
    . subst e;simp
    . have:its.toArray.isEmpty=false:=by simpa using e
      rw[this];rfl
   rw[ez]
   exact⟨.ref s.heap.objs.size,_,I.lnew (t':=s.toks) (v1.rep _) (by rw[len_rep,q1.length,Nat.mul_comm];exact small hz),rfl,Iu w st I.fresh (Reps.rep q1 _)⟩
theorem Rz{ns:List Int}(w:W (.int ns.sum) S)(hc:X.calm=true):cG X (.builtin "sum") [.tup (ns.map .int)] S W:=by
 intro pins s σ H O vs us I st r ru
 obtain⟨v,rfl,r'⟩:=b8 r
 obtain⟨u,rfl,ru'⟩:=vals1 ru
 cases r' with
 | @tup a xs _ h1 q1=>
   cases ru'
   obtain⟨its,rv,pl,hz⟩:=I.tuple h1.sq
   have ex:=q1.ints
   subst ex
   have hi:IntsAre its ns:=intsAre_of rv
   obtain⟨zs,ez⟩:=hi.allInts.items
   have hT:s.heap.IsTuple a its.toArray:=pl
   rw[ez]at hT
   have hlt:a<s.heap.objs.size:=by obtain⟨_,e,_⟩:=hT;exact ZE e
   refine call_sum_walkG (wpAny_pyIter_tuple hT ?_)
   refine⟨_,_,_,_,_,_,numAt zs,rfl,Walks.tuple (A:=X.A.in1) (I.ok.hd hc) _ a (ZN hlt) (intItems zs),⟨⟨_,ZD _ rfl,rfl,rfl⟩,hT.push _⟩,(λ b hb=>?_),(λ _ _=>intItems_at),λ h' tk t' hk=>?_⟩
   . show b<(s.heap.push _).objs.size
     rw[Heap.size_push]
     rcases ZJ.mp hb with rfl | hb
     . exact Nat.lt_succ_self _
     . rcases ZJ.mp hb with rfl | hb
       . exact Nat.lt_succ_of_lt hlt
       . cases hb
   . have e:preSum (numAt zs) (intItems zs).size=ns.sum:=by
      rw[show(intItems zs).size=zs.size by simp[intItems],preSum_eq,List.take_of_length_le (by simp),←nums_intItems,←ez]
      exact congrArg List.sum hi.numsOf
     rw[e]
     refine⟨.int _,H,I.kept (λ b o q=>hk b o (λ z=>?_) (ZC _ q)),⟨_,rfl⟩,QG.here w st (.int _)⟩
     have z':b=s.heap.objs.size:=by simpa using z
     exact absurd (ZE q) (by rw[z'];exact Nat.lt_irrefl _)
end
noncomputable def Gx:Bf where
 x:="sum"
 id:="sum"
 boot:=by decide+kernel
 wp ds S W:=match ds with
  | [.lst ds]=>∃ns:List Int,ds=ns.map .int/\W (.int ns.sum) S
  | [.tup ds]=>∃ns:List Int,ds=ns.map .int/\W (.int ns.sum) S
  | _=>False
 sound:=by
  intro X ds S W hc hr h
  split at h
  . obtain⟨bs,rfl,h⟩:=h;exact Uq h hc
  . obtain⟨bs,rfl,h⟩:=h;exact Rz h hc
  . exact h.elim
noncomputable def zU(own:Bool)(op:Operator)(x y:D)(S:Store)(W:WD):Prop:=match op with
 | .Add=>∃ds es,dR S x=some ds/\dR S y=some es/\ds.length+es.length≤1000000/\putL own W (ds++es) S
 | .Mult=>∃ds k,dR S x=some ds/\y=.int k/\(-(2 ^ 63)≤k/\k<2 ^ 63)/\ds.length*k.toNat≤1000000/\putL own W (List.replicate k.toNat ds).flatten S
 | _=>False
theorem Jo{X:Cx}{own:Bool}{op:Operator}{x y:D}{S:Store}{W:WD}(h:zU own op x y S W):dM X op x y S W:=by
 unfold zU at h
 split at h
 . obtain⟨ds,es,h1,h2,h3,h4⟩:=h;exact Tu h1 h2 h3 h4
 . obtain⟨ds,k,h1,rfl,h3,h4,h5⟩:=h;exact Ua h1 h3 h4 h5
 . exact h.elim
section
variable {Ω : Wd}
noncomputable def Ex.binL(own:Bool)(op:Operator)(a b:Ex Ω):Ex Ω where
 lev:=max a.lev b.lev
 chk top N nm e:=match e with | .BinOp l o r _=>(o==op)&&(a.chk top N nm l&&b.chk top N nm r) | _=>false
 wp Γ S W:=a.wp Γ S λ x S1=>b.wp Γ S1 λ y S2=>zU own op x y S2 W
 sound:=by
  intro X r top N nm e Γ S W A hl hc hw
  obtain⟨l1,l2⟩:=lv2 hl
  cases e with
  | BinOp l o r' pos=>
    obtain⟨h1,h2⟩:=aa hc
    obtain⟨h2,h3⟩:=aa h2
    have e:o=op:=ZI h1
    subst e
    exact zq ((a.sound A l1 h2 hw).mono λ x S1 q=>(b.sound A l2 h3 q).mono λ y S2 q=>Jo q)
  | _=>exact fE hc
noncomputable def Ex.fdiv(a b:Ex Ω):Ex Ω where
 lev:=max a.lev b.lev
 chk top N nm e:=match e with | .BinOp l o r _=>(o==.FloorDiv)&&(a.chk top N nm l&&b.chk top N nm r) | _=>false
 wp Γ S W:=a.wp Γ S λ x S1=>b.wp Γ S1 λ y S2=>match x,y with
  | .int i,.int j=>(0<j/\j<1000000000000000000000000000000000000000000000000000000000000)/\W (.int (i/j)) S2
  | _,_=>False
 sound:=by
  intro X r top N nm e Γ S W A hl hc hw
  obtain⟨l1,l2⟩:=lv2 hl
  cases e with
  | BinOp l o r' pos=>
    obtain⟨h1,h2⟩:=aa hc
    obtain⟨h2,h3⟩:=aa h2
    have e:o=.FloorDiv:=ZI h1
    subst e
    refine zq ((a.sound A l1 h2 hw).mono λ x S1 q=>(b.sound A l2 h3 q).mono λ y S2 q=>?_)
    split at q
    . rename_i i j
      refine jP (C:=λ _ j=>0<j/\j<1000000000000000000000000000000000000000000000000000000000000) (g:=λ i j=>i/j) (opI λ i j _ _ _ _ _ hc q=>?_) q.1 q.2
      have h1:(0:Int)<j:=hc.1
      have h2:j<1000000000000000000000000000000000000000000000000000000000000:=hc.2
      refine floordiv_int (by omega) (by rw[Int.fdiv_eq_ediv_of_nonneg i (by omega)];exact q) (.inl (PyProof.noPylong_of_log2 ?_))
      have h3:j.natAbs<2 ^ 200:=by omega
      have:j.natAbs.log2<200:=(Nat.log2_lt (by omega)).mpr h3
      omega
    . exact q.elim
  | _=>exact fE hc
end
end RF
namespace RF
open PySem PySem.Spec L2 DL
open PyProof.Rows
noncomputable def Drp(n:Nat)(W:WD):WD:=λ d S1=>W d S1∨∃J S',S1=S'++J/\n≤S'.length/\aq d=true/\flat S'/\W d S'
theorem QG.drp{K:PySem.W.Frag}{O:Own}{H H':Hp}{W:WD}{v:V}{n:Nat}(hn:O.A.length=n)(q:QG K O H (Drp n W) v H'):QG K O H W v H':=by
 obtain⟨O',d,S1,w,st,ok,r⟩:=q
 rcases w with w | ⟨J,S',rfl,hl,hd,hS,w⟩
 . exact⟨O',d,S1,w,st,ok,r⟩
 . obtain⟨st2,ok2,sub,na⟩:=gG st ok (by omega) hS
   exact⟨_,d,S',w,st2,ok2,cZ sub hd r⟩
section
variable {Ω : Wd}
noncomputable def Bl.drp(b:Bl Ω):Bl Ω where
 lev:=b.lev
 chk:=b.chk
 wp Γ S W:=b.wp Γ S {W with rt:=Drp S.length W.rt}
 sound:=by
  intro X r top N nm sts Γ S W A hl hc hw pins s σ H O I env ok
  refine thn (b.sound A hl hc hw pins s σ H O I env ok) λ f s' q=>?_
  cases f with
  | next=>exact q
  | brk=>exact q
  | cont=>exact q
  | ret u=>obtain⟨v,σ',H',I',r,q⟩:=q;exact⟨v,σ',H',I',r,QG.drp ok.len q⟩
end
end RF
namespace RF
open PySem PySem.Spec L2 DL
open PyProof.Rows
variable {v : Value} {c : Int × List Int} {b : Addr} {ns : List Int} {n : Nat} {Q : Bool -> Shared -> Prop}
noncomputable def aZ(h:Heap)(v:Value)(c:Int×List Int):Prop:=
 ∃b o k tk u,v=.ref b/\h.get? b=some o/\o.cls=.type "tuple"/\o.data=.seq #[.int c.1 tk,u] k/\eO h u c.2
theorem aZ.keep{h h':Heap}(k:∀b o,h.get? b=some o->o.cls=.type "tuple"->h'.get? b=some o)(hc:aZ h v c):aZ h' v c:=by
 obtain⟨b,o,n,tk,u,e1,e2,e3,e4,b',o',xs,n',e5,e6,e7,e8,e9⟩:=hc
 exact⟨b,o,n,tk,u,e1,k _ _ e2 e3,e3,e4,b',o',xs,n',e5,k _ _ e6 e7,e7,e8,e9⟩
section
variable {prog : Program} {w : World} {A : Around} {E : Value -> Shared -> Prop} {s : Shared}
theorem lK:∀{vs:List Value}{ns:List Int},IntsAre vs ns->ItemsAre (intKind prog w) ns vs
 | _,_,.nil=>.nil
 | _,_,.cons n t r=>.cons (intKind_is _ _ _ _) (lK r)
theorem Am{h:Heap}(ht:eO h (.ref b) ns):IsTupleKey (intKind prog w) h ns b:=by
 obtain⟨b',o,xs,k,e,e1,e2,e3,e4⟩:=ht
 cases e
 exact⟨o,xs,k,e1,e2,e3,lK e4⟩
theorem pX:∀{vs:List Value}{ns ms:List Int},IntsAre vs ns->IntsAre vs ms->ns=ms
 | _,_,_,.nil,.nil=>rfl
 | _,_,_,.cons _ _ r,.cons _ _ r'=>by rw[pX r r']
theorem LK{h:Heap}{ms:List Int}(x:eO h v ns)(y:eO h v ms):ns=ms:=by
 obtain⟨b,o,xs,k,rfl,e1,e2,e3,e4⟩:=x
 obtain⟨b',o',xs',k',e,e1',e2',e3',e4'⟩:=y
 cases e
 obtain rfl:o=o':=Option.some.inj (e1.symm.trans e1')
 have e5:=e3.symm.trans e3'
 injection e5 with e5 _
 subst e5
 exact pX e4 e4'
noncomputable def hC(prog:Program)(w:World)(c:Int×List Int):Int:=reduceHash (Builtin.Tuple.tupleHashOf [(intKind prog w).hash c.1,tupleKeyHash (intKind prog w) c.2])
theorem Kg{Q:Int->Shared->Prop}(hu:A.units+5<cLine)(hc:aZ s.heap v c)(h:Q (hC prog w c) {s with toks:=s.toks+(c.2.length+3)}):wpAny (model prog w) A (pyHash v) Q E s:=by
 obtain⟨a,o,n,tk,u,rfl,ho,hcl,hd,hu'⟩:=hc
 have hT:s.TypeIs (.ref a) "tuple":=⟨o,ho,hcl⟩
 have hk:∀b,u=.ref b->IsTupleKey (intKind prog w) s.heap c.2 b:=λ b e=>Am (e▸hu')
 obtain⟨b,_,_,_,rfl,_⟩:=id hu'
 have hk:=hk b rfl
 unfold pyHash
 first | unfold pyHashByItsType | skip
 first | refine ZA (wpAny_cRoomFor_or (.inr (by omega)) ?_) | skip
 refine ZA (wpAny_specialOf hT F.slot_tuple_hash.lookup ?_)
 show wpAny _ _ (if(some (Value.builtin "tuple.__hash__")==some Value.none)=true then _ else _) Q E s
 rw[if_neg (by rw[beq_builtin_none];exact y7)]
 refine ZA (wpAny_specialOf hT F.slot_tuple_hash.lookup ?_)
 show wpAny _ _ (callSpecialIfBoundUnlessNone? (.ref a) "__hash__" _>>=_) Q E s
 refine ZA (wpAny_callSpecialIfBoundUnlessNone?_slot hT F.slot_tuple_hash (ZP F.slot_tuple_hash hT F.entry_tuple_hash ?_ (F.args_tuple_hash_1 _)))
 show wpAny _ _ (Builtin.Tuple.tupleItemsOf (.ref a)>>=_) _ _ s
 refine ZA (wpAny_tupleItemsOf ho hd ?_)
 refine ZA ?_
 rw[←Array.forIn_toList]
 refine wpAny_forIn_list _
  (λ rest (b':Array Int) s'=>∃n,s'={s with toks:=s.toks+n}/\((rest=[.int c.1 tk,.ref b]/\b'=#[]/\n=0)∨(rest=[.ref b]/\b'=#[(intKind prog w).hash c.1]/\n=1)∨(rest=[]/\n=c.2.length+2/\b'=#[(intKind prog w).hash c.1,tupleKeyHash (intKind prog w) c.2])))
  _ ?_ ?_ _ _ ⟨0,rfl,.inl ⟨rfl,rfl,rfl⟩⟩
 . rintro x rest b' s' ⟨n,rfl,⟨e,rfl,rfl⟩ | ⟨e,rfl,rfl⟩ | ⟨e,rfl,rfl⟩⟩
   . cases e
     refine ZA ((intKind prog w).pyHash (intKind_is _ _ _ _) ?_)
     first
      | exact ZB ⟨1,rfl,.inr (.inl ⟨rfl,rfl,rfl⟩)⟩
      | exact ZA (ZB (ZB ⟨1,rfl,.inr (.inl ⟨rfl,rfl,rfl⟩)⟩))
   . cases e
     refine ZA (wpAny_pyHash_tuple (knd:=intKind prog w) ?_ hk ?_)
     . show A.units+1<cLine
       omega
     . first
       | exact ZB ⟨1+(c.2.length+1),by simp[Nat.add_assoc],.inr (.inr ⟨rfl,by omega,rfl⟩)⟩
       | exact ZA (ZB (ZB ⟨1+(c.2.length+1),by simp[Nat.add_assoc],.inr (.inr ⟨rfl,by omega,rfl⟩)⟩))
   . cases e
 . rintro b' s' ⟨n,rfl,⟨e,rfl,rfl⟩ | ⟨e,rfl,rfl⟩ | ⟨e,rfl,rfl⟩⟩
   . cases e
   . cases e
   show wpAny _ _ (retInt (Builtin.Tuple.tupleHashOf [(intKind prog w).hash c.1,tupleKeyHash (intKind prog w) c.2])) _ _ _
   refine wpAny_ret_mkInt ?_
   show wpAny _ _ (if(decide (-(2:Int) ^ 63≤Builtin.Tuple.tupleHashOf _)&&decide (Builtin.Tuple.tupleHashOf _<2 ^ 63))=true then _ else _) Q E _
   unfold hC reduceHash at h
   split
   . rename_i hr
     rw[if_pos hr]at h
     exact ZB h
   . rename_i hr
     rw[if_neg hr]at h
     exact ZA (wpAny_rule (ZB h))
theorem xO{Q:Int->Shared->Prop}(hu:A.units+5<cLine)(hc:aZ s.heap v c)(h:∀n,Q (hC prog w c) {s with toks:=s.toks+n}):wpAny (model prog w) A (pyHash v) Q E s:=Kg hu hc (h _)
theorem mJ{h:Heap}(ht:eO h (.ref b) ns):∃o xs k,h.get? b=some o/\o.cls=.type "tuple"/\o.data=.seq xs k/\∀v∈xs.toList,∃i t,v=Value.int i t:=by
 obtain⟨b',o,xs,k,e,e1,e2,e3,e4⟩:=ht
 cases e
 refine⟨o,xs,k,e1,e2,e3,λ v hv=>?_⟩
 obtain⟨i,hi⟩:=ZR hv
 obtain⟨t,e⟩:=IntsAre.int_at e4 i v hi
 exact⟨_,t,e⟩
theorem IW(ht:eO s.heap (.ref b) ns)(h:Q true s):wpAny (model prog w) A (eqIsQuiet (n+1) (.ref b)) Q E s:=by
 obtain⟨o,xs,k,ho,hc,hd,hi⟩:=mJ ht
 have hT:s.TypeIs (.ref b) "tuple":=⟨o,ho,hc⟩
 unfold eqIsQuiet
 refine ZA (wpAny_specialOf hT F.slot_tuple_eq.lookup ?_)
 show wpAny _ _ (isInstance (.ref b) (.type "tuple")>>=_) _ _ s
 refine ZA (wpAny_isInstance hT isSubtype_tuple_tuple ?_)
 simp only[Bool.not_true,Bool.false_eq_true,if_false]
 refine ZA (wpAny_seqItems ho hd ?_)
 refine ZA ?_
 show wpAny _ _ (forIn xs _ _) _ _ s
 rw[←Array.forIn_toList]
 refine wpAny_forIn_list _ (λ rest r s'=>r.1=none/\s'=s/\∀v∈rest,∃i t,v=Value.int i t) _ ?_ ?_ _ _ ⟨rfl,rfl,hi⟩
 . rintro v rest r s' ⟨hr,rfl,hall⟩
   obtain⟨i,t,rfl⟩:=hall v x8
   rw[eqIsQuiet_byValue _ (by rfl)]
   refine ZA (ZB ?_)
   simp only[Bool.not_true,Bool.false_eq_true,if_false]
   exact ZB ⟨rfl,rfl,λ u hu'=>hall u (x5 _ hu')⟩
 . rintro⟨r1,r2⟩ s' ⟨hr,rfl,_⟩
   simp only at hr
   subst hr
   exact ZB h
theorem vJ(ht:aZ s.heap (.ref b) c)(h:Q true s):wpAny (model prog w) A (eqIsQuiet (n+2) (.ref b)) Q E s:=by
 obtain⟨a,o,k,tk,u,e,ho,hc,hd,hu'⟩:=ht
 cases e
 obtain⟨b',_,_,_,rfl,_⟩:=id hu'
 have hT:s.TypeIs (.ref b) "tuple":=⟨o,ho,hc⟩
 unfold eqIsQuiet
 refine ZA (wpAny_specialOf hT F.slot_tuple_eq.lookup ?_)
 show wpAny _ _ (isInstance (.ref b) (.type "tuple")>>=_) _ _ s
 refine ZA (wpAny_isInstance hT isSubtype_tuple_tuple ?_)
 simp only[Bool.not_true,Bool.false_eq_true,if_false]
 refine ZA (wpAny_seqItems ho hd ?_)
 refine ZA ?_
 show wpAny _ _ (forIn #[Value.int c.1 tk,.ref b'] _ _) _ _ s
 rw[←Array.forIn_toList]
 refine wpAny_forIn_list _ (λ rest r s'=>r.1=none/\s'=s/\∀v∈rest,v=Value.int c.1 tk∨v=.ref b') _ ?_ ?_ _ _ ⟨rfl,rfl,by simp⟩
 . rintro v rest r s' ⟨hr,rfl,hall⟩
   rcases hall v x8 with rfl | rfl
   . rw[eqIsQuiet_byValue _ (by rfl)]
     refine ZA (ZB ?_)
     simp only[Bool.not_true,Bool.false_eq_true,if_false]
     exact ZB ⟨rfl,rfl,λ u hu'=>hall u (x5 _ hu')⟩
   . refine ZA (IW hu' ?_)
     simp only[Bool.not_true,Bool.false_eq_true,if_false]
     exact ZB ⟨rfl,rfl,λ u hu'=>hall u (x5 _ hu')⟩
 . rintro⟨r1,r2⟩ s' ⟨hr,rfl,_⟩
   simp only at hr
   subst hr
   exact ZB h
theorem Fd(n:Nat)(i:Int)(t:Tok):hashByValue n (.int i t)=pure true:=by cases n<;>rfl
theorem Qq(ht:eO s.heap (.ref b) ns)(h:Q true s):wpAny (model prog w) A (hashByValue (n+1) (.ref b)) Q E s:=by
 obtain⟨o,xs,k,ho,hc,hd,hi⟩:=mJ ht
 have hT:s.TypeIs (.ref b) "tuple":=⟨o,ho,hc⟩
 unfold hashByValue
 refine ZA (wpAny_specialOf hT F.slot_tuple_hash.lookup ?_)
 show wpAny _ _ (seqItems? (.ref b)>>=_) _ _ s
 refine ZA (wpAny_seqItems ho hd ?_)
 refine ZA ?_
 show wpAny _ _ (forIn xs _ _) _ _ s
 rw[←Array.forIn_toList]
 refine wpAny_forIn_list _ (λ rest r s'=>r.1=none/\s'=s/\∀v∈rest,∃i t,v=Value.int i t) _ ?_ ?_ _ _ ⟨rfl,rfl,hi⟩
 . rintro v rest r s' ⟨hr,rfl,hall⟩
   obtain⟨i,t,rfl⟩:=hall v x8
   rw[Fd]
   refine ZA (ZB ?_)
   simp only[Bool.not_true,Bool.false_eq_true,if_false]
   exact ZB ⟨rfl,rfl,λ u hu'=>hall u (x5 _ hu')⟩
 . rintro⟨r1,r2⟩ s' ⟨hr,rfl,_⟩
   simp only at hr
   subst hr
   exact ZB h
theorem uH(ht:aZ s.heap (.ref b) c)(h:Q true s):wpAny (model prog w) A (hashByValue (n+2) (.ref b)) Q E s:=by
 obtain⟨a,o,k,tk,u,e,ho,hc,hd,hu'⟩:=ht
 cases e
 obtain⟨b',_,_,_,rfl,_⟩:=id hu'
 have hT:s.TypeIs (.ref b) "tuple":=⟨o,ho,hc⟩
 unfold hashByValue
 refine ZA (wpAny_specialOf hT F.slot_tuple_hash.lookup ?_)
 show wpAny _ _ (seqItems? (.ref b)>>=_) _ _ s
 refine ZA (wpAny_seqItems ho hd ?_)
 refine ZA ?_
 show wpAny _ _ (forIn #[Value.int c.1 tk,.ref b'] _ _) _ _ s
 rw[←Array.forIn_toList]
 refine wpAny_forIn_list _ (λ rest r s'=>r.1=none/\s'=s/\∀v∈rest,v=Value.int c.1 tk∨v=.ref b') _ ?_ ?_ _ _ ⟨rfl,rfl,by simp⟩
 . rintro v rest r s' ⟨hr,rfl,hall⟩
   rcases hall v x8 with rfl | rfl
   . rw[Fd]
     refine ZA (ZB ?_)
     simp only[Bool.not_true,Bool.false_eq_true,if_false]
     exact ZB ⟨rfl,rfl,λ u hu'=>hall u (x5 _ hu')⟩
   . refine ZA (Qq hu' ?_)
     simp only[Bool.not_true,Bool.false_eq_true,if_false]
     exact ZB ⟨rfl,rfl,λ u hu'=>hall u (x5 _ hu')⟩
 . rintro⟨r1,r2⟩ s' ⟨hr,rfl,_⟩
   simp only at hr
   subst hr
   exact ZB h
theorem Eg(n:Nat)(i:Int)(t:Tok):ofAClassStatement n (.int i t)=pure false:=by cases n<;>rfl
theorem PN(ht:eO s.heap (.ref b) ns)(h:Q false s):wpAny (model prog w) A (ofAClassStatement (n+1) (.ref b)) Q E s:=by
 obtain⟨o,xs,k,ho,hc,hd,hi⟩:=mJ ht
 have hT:s.TypeIs (.ref b) "tuple":=⟨o,ho,hc⟩
 unfold ofAClassStatement
 refine ZA (wpAny_typeOf hT ?_)
 show wpAny _ _ ((pure true:Sem Bool)>>=_) _ _ s
 refine ZA (ZB ?_)
 simp only[Bool.not_true,Bool.false_eq_true,if_false]
 refine ZA (wpAny_seqItems ho hd ?_)
 refine ZA ?_
 show wpAny _ _ (forIn xs _ _) _ _ s
 rw[←Array.forIn_toList]
 refine wpAny_forIn_list _ (λ rest r s'=>r.1=none/\s'=s/\∀v∈rest,∃i t,v=Value.int i t) _ ?_ ?_ _ _ ⟨rfl,rfl,hi⟩
 . rintro v rest r s' ⟨hr,rfl,hall⟩
   obtain⟨i,t,rfl⟩:=hall v x8
   rw[Eg]
   refine ZA (ZB ?_)
   simp only[Bool.false_eq_true,if_false]
   exact ZB ⟨rfl,rfl,λ u hu'=>hall u (x5 _ hu')⟩
 . rintro⟨r1,r2⟩ s' ⟨hr,rfl,_⟩
   simp only at hr
   subst hr
   exact ZB h
theorem Ew(ht:aZ s.heap (.ref b) c)(h:Q false s):wpAny (model prog w) A (ofAClassStatement (n+2) (.ref b)) Q E s:=by
 obtain⟨a,o,k,tk,u,e,ho,hc,hd,hu'⟩:=ht
 cases e
 obtain⟨b',_,_,_,rfl,_⟩:=id hu'
 have hT:s.TypeIs (.ref b) "tuple":=⟨o,ho,hc⟩
 unfold ofAClassStatement
 refine ZA (wpAny_typeOf hT ?_)
 show wpAny _ _ ((pure true:Sem Bool)>>=_) _ _ s
 refine ZA (ZB ?_)
 simp only[Bool.not_true,Bool.false_eq_true,if_false]
 refine ZA (wpAny_seqItems ho hd ?_)
 refine ZA ?_
 show wpAny _ _ (forIn #[Value.int c.1 tk,.ref b'] _ _) _ _ s
 rw[←Array.forIn_toList]
 refine wpAny_forIn_list _ (λ rest r s'=>r.1=none/\s'=s/\∀v∈rest,v=Value.int c.1 tk∨v=.ref b') _ ?_ ?_ _ _ ⟨rfl,rfl,by simp⟩
 . rintro v rest r s' ⟨hr,rfl,hall⟩
   rcases hall v x8 with rfl | rfl
   . rw[Eg]
     refine ZA (ZB ?_)
     simp only[Bool.false_eq_true,if_false]
     exact ZB ⟨rfl,rfl,λ u hu'=>hall u (x5 _ hu')⟩
   . refine ZA (PN hu' ?_)
     simp only[Bool.false_eq_true,if_false]
     exact ZB ⟨rfl,rfl,λ u hu'=>hall u (x5 _ hu')⟩
 . rintro⟨r1,r2⟩ s' ⟨hr,rfl,_⟩
   simp only at hr
   subst hr
   exact ZB h
theorem K8{x:Value}{ys:List Value}(hx:aZ s.heap x c)(hy:∀y∈ys,∃d,aZ s.heap y d)(h:Q false s):wpAny (model prog w) A (searchCouldBeSeen x ys) Q E s:=by
 have hx0:=hx
 obtain⟨a,_,_,_,_,rfl,_⟩:=hx
 unfold searchCouldBeSeen
 refine ZA ?_
 refine wpAny_forIn_list _ (λ rest r s'=>r.1=none/\s'=s/\∀v∈rest,∃d,aZ s.heap v d) _ ?_ ?_ _ _ ⟨rfl,rfl,hy⟩
 . rintro v rest r s' ⟨hr,rfl,hall⟩
   obtain⟨d,hd⟩:=hall v x8
   have hd0:=hd
   obtain⟨b,_,_,_,_,rfl,_⟩:=hd
   have tl:∀v∈rest,∃d,aZ s'.heap v d:=λ u hu'=>hall u (x5 _ hu')
   dsimp only
   split
   . exact ZB ⟨rfl,rfl,tl⟩
   . refine ZA (vJ hx0 ?_)
     simp only[Bool.not_true,Bool.false_eq_true,if_false]
     refine ZA (vJ hd0 ?_)
     simp only[Bool.not_true,Bool.false_eq_true,if_false]
     refine ZA (Ew hx0 ?_)
     simp only[Bool.false_eq_true,if_false]
     refine ZA (Ew hd0 ?_)
     simp only[Bool.false_eq_true,if_false]
     exact ZB ⟨rfl,rfl,tl⟩
 . rintro⟨r1,r2⟩ s' ⟨hr,rfl,_⟩
   simp only at hr
   subst hr
   exact ZB h
theorem yX{u:Value}{ms:List Int}(hu:A.units<cLine)(hx:eO s.heap u ns)(hy:eO s.heap v ms):SeqAt.EqAt A s u v (decide (ns=ms)):=by
 intro prog w E Q h
 obtain⟨a,_,_,_,rfl,_⟩:=id hx
 obtain⟨b,_,_,_,rfl,_⟩:=id hy
 exact wpAny_eqBool_tuple (knd:=intKind prog w) hu (Am hx) (Am hy) h
theorem Ms{u:Value}{d:Int×List Int}(hu:A.units+2<cLine)(hx:aZ s.heap u c)(hy:aZ s.heap v d):SeqAt.EqAt A s u v (decide (c=d)):=by
 obtain⟨a,o,k,tk,u,rfl,ho,hc,hd,hu'⟩:=hx
 obtain⟨a2,o2,k2,tk2,u2,rfl,ho2,hc2,hd2,hu2⟩:=hy
 by_cases e:a=a2
 . subst e
   obtain rfl:o=o2:=Option.some.inj (ho.symm.trans ho2)
   have e1:=hd.symm.trans hd2
   injection e1 with e1 _
   have e2:[Value.int c.1 tk,u]=[Value.int d.1 tk2,u2]:=congrArg Array.toList e1
   injection e2 with e3 e4
   injection e3 with e3 _
   injection e4 with e4 _
   subst e4
   obtain⟨b,_,_,_,rfl,_⟩:=id hu'
   have e5:c.2=d.2:=LK hu' hu2
   have e6:c=d:=Prod.ext e3 e5
   rw[ZG e6]
   exact SeqAt.EqAt.same _
 . have key:=SeqAt.RcAt.tuples (A:=A) (s:=s) (e:=λ j=>if j=0 then decide (c.1=d.1)else decide (c.2=d.2)) ⟨o,ho,hc,k,hd⟩ ⟨o2,ho2,hc2,k2,hd2⟩ (by omega) (λ j h1 h2=>by
    match j,h1,h2 with
    | 0,_,_=>
      have:=SeqAt.EqAt.int_int (A:=A.in1) (s:=s) c.1 tk d.1 tk2
      rw[show(c.1==d.1)=decide (c.1=d.1)from by rw[Bool.eq_iff_iff];simp]at this
      exact this
    | 1,_,_=>exact yX (by show A.units+1<_;omega) hu' hu2
    | j+2,h1,_=>exact absurd h1 (by simp))
   have e2:((List.range (min #[Value.int c.1 tk,u].size #[Value.int d.1 tk2,u2].size)).all (λ j=>if j=0 then decide (c.1=d.1)else decide (c.2=d.2))&&#[Value.int c.1 tk,u].size==#[Value.int d.1 tk2,u2].size)=decide (c=d):=by
    rw[Bool.eq_iff_iff]
    simp[List.range_succ,Prod.ext_iff]
   rw[e2]at key
   exact SeqAt.EqAt.of_refs e key
end
end RF
namespace RF
open PySem PySem.Spec L2 DL
open PyProof.Rows
variable {ps : List Nat} {j0 ep : Nat} {h : Int} {a : Addr} {v v0 : Value} {c c0 : Int × List Int}
noncomputable abbrev tbl(led:Bool)(ps:List Nat):SetTable:={mask:=7,place:=ps.toArray,dummies:=#[],finger:=0,led:=led,moves:=0,plain:=true}
noncomputable abbrev bL(led:Bool)(es:List (Int×Value))(ps:List Nat)(ep:Nat):Obj:={cls:=.type "set",dict:=none,data:=.set es.toArray ep (tbl led ps),slots:=#[]}
theorem rE(j0 j:Nat):SetTable.below #[j0] j=if j0<j then 1 else 0:=by
 simp[SetTable.below,SetTable.below.go]
theorem qG(led:Bool)(j0 j:Nat):(tbl led [j0]).slot j=if j=j0 then .live 0 else .empty:=by
 unfold SetTable.slot
 show(if(#[j0][SetTable.below #[j0] j]? ==some j)=true then SetTable.Slot.live (SetTable.below #[j0] j)else if SetTable.has #[] j=true then .dummy else .empty)=_
 rw[rE]
 by_cases h:j=j0
 . subst h
   rw[if_neg (Nat.lt_irrefl _),if_pos rfl,if_pos (by simp)]
 . rw[if_neg h]
   have hd:SetTable.has #[] j=false:=rfl
   rw[hd]
   by_cases h2:j0<j
   . rw[if_pos h2];simp
   . rw[if_neg h2]
     have:¬j0=j:=λ e=>h e.symm
     simp[this]
structure Std(p:SetTable.Probe)(k:Nat):Prop where
 ji:p.j=p.i
 lt:p.i<8
 more:p.more=0
 dummy:p.dummy=none
 small:p.perturb<32 ^ k
theorem Lf(i:Nat):SetTable.runEnd 7 i=i:=by unfold SetTable.runEnd;rw[if_neg (by omega)]
theorem vh(led:Bool)(ps:List Nat)(h:Int):Std ((tbl led ps).probeStart h) 13:=by
 have hb:SetTable.bits h<2 ^ 64:=by
  unfold SetTable.bits
  have h1:=Int.emod_nonneg h (b:=2 ^ 64) (by decide)
  have h2:=Int.emod_lt_of_pos h (b:=2 ^ 64) (by decide)
  omega
 refine⟨rfl,Nat.mod_lt _ (Nat.succ_pos _),?_,rfl,?_⟩
 . show SetTable.runEnd 7 _-_=0
   rw[Lf];omega
 . show SetTable.bits h<32 ^ 13
   exact ZM hb (by decide)
theorem yf{led:Bool}{p:SetTable.Probe}{k:Nat}(s:Std p (k+1)):Std ((tbl led ps).advance p) k:=by
 unfold SetTable.advance
 rw[if_neg (by rw[s.more];exact Nat.lt_irrefl _)]
 refine⟨rfl,Nat.mod_lt _ (Nat.succ_pos _),?_,s.dummy,?_⟩
 . show SetTable.runEnd 7 _-_=0
   rw[Lf];omega
 . show p.perturb/32<32 ^ k
   have:=s.small
   rw[Nat.pow_succ]at this
   exact Nat.div_lt_of_lt_mul (by omega)
theorem zf{led:Bool}{p:SetTable.Probe}(s:Std p 0):Std ((tbl led ps).advance p) 0/\((tbl led ps).advance p).j≠p.j:=by
 have hp:p.perturb=0:=by have:=s.small;simpa using this
 unfold SetTable.advance
 rw[if_neg (by rw[s.more];exact Nat.lt_irrefl _)]
 refine⟨⟨rfl,Nat.mod_lt _ (Nat.succ_pos _),?_,s.dummy,?_⟩,?_⟩
 . show SetTable.runEnd 7 _-_=0
   rw[Lf];omega
 . show p.perturb/32<32 ^ 0
   rw[hp];decide
 . show(p.i*5+1+p.perturb/32) % (7+1)≠p.j
   rw[s.ji,hp]
   have:=s.lt
   omega
theorem jR{led:Bool}{n:Nat}{hs:Nat->Int}{p:SetTable.Probe}(hj:p.j≠j0):SetTable.probe.go (tbl led [j0]) hs h (n+1) p=some (.empty p.j p.dummy):=by
 unfold SetTable.probe.go
 rw[qG,if_neg hj]
theorem jO{led:Bool}{n:Nat}{hs:Nat->Int}{p:SetTable.Probe}(hj:p.j=j0):SetTable.probe.go (tbl led [j0]) hs h (n+1) p=if hs 0==h then some (.candidate p.j 0 ((tbl led [j0]).advance p))else SetTable.probe.go (tbl led [j0]) hs h n ((tbl led [j0]).advance p):=by
 conv=>lhs;unfold SetTable.probe.go
 rw[qG,if_pos hj]
theorem zK{led:Bool}{j0:Nat}{hs:Nat->Int}{h:Int}(hne:(hs 0==h)=false):∀(k n:Nat)(p:SetTable.Probe),Std p k->k+2≤n->∃j,j≠j0/\j<8/\SetTable.probe.go (tbl led [j0]) hs h n p=some (.empty j none)
 | k,0,p,s,hn=>by omega
 | 0,n+1,p,s,hn=>by
   by_cases hj:p.j=j0
   . obtain⟨s1,ne⟩:=zf (led:=led) (ps:=[j0]) s
     obtain⟨m,rfl⟩:∃m,n=m+1:=⟨n-1,by omega⟩
     refine⟨((tbl led [j0]).advance p).j,by rw[←hj];exact ne,by rw[s1.ji];exact s1.lt,?_⟩
     rw[jO hj,hne]
     show SetTable.probe.go _ _ _ _ _=_
     rw[jR (by rw[←hj];exact ne),s1.dummy]
   . exact⟨p.j,hj,by rw[s.ji];exact s.lt,by rw[jR hj,s.dummy]⟩
 | k +1,n+1,p,s,hn=>by
   by_cases hj:p.j=j0
   . obtain⟨j,h1,h2,h3⟩:=zK hne k n _ (yf (led:=led) (ps:=[j0]) s) (by omega)
     refine⟨j,h1,h2,?_⟩
     rw[jO hj,hne]
     exact h3
   . exact⟨p.j,hj,by rw[s.ji];exact s.lt,by rw[jR hj,s.dummy]⟩
theorem Ln{led:Bool}{hs:Nat->Int}{n:Nat}{p:SetTable.Probe}(hne:(hs 0==h)=false):SetTable.probe.go (tbl led [j0]) hs h n p=SetTable.probe.go (tbl led [j0]) (λ _=>h+1) h n p:=by
 induction n generalizing p with
 | zero=>rfl
 | succ n ih=>
   by_cases hj:p.j=j0
   . have h1:(h+1==h)=false:=by simp;omega
     rw[jO hj,jO hj,hne,h1]
     exact ih
   . rw[jR hj,jR hj]
section
variable {prog : Program} {w : World} {A : Around} {E : Value -> Shared -> Prop} {s : Shared}
theorem gU{led:Bool}{es:List (Int×Value)}(h:ps.length=es.length)(h7:ps.length≤7):(tbl led ps).fits es.toArray.size=true:=by
 unfold SetTable.fits SetTable.fill
 simp[h]
 omega
theorem bK{led:Bool}{es:List (Int×Value)}{Q:(Array (Int×Value)×Nat×SetTable)->Shared->Prop}(ho:s.heap.get? a=some (bL led es ps ep))(h:ps.length=es.length)(h7:ps.length≤7)(hq:Q (es.toArray,ep,tbl led ps) s):
 wpAny (model prog w) A (setState a) Q E s:=wpAny_setState_of ho rfl (gU h h7) hq
theorem xK{M:Model}{b:Addr}{Q:Bool->Shared->Prop}(h:Q true s):wpAny M A (isSame (.ref b) (.ref b)) Q E s:=by
 unfold isSame
 dsimp only
 rw[if_pos (beq_self_eq_true b)]
 exact ZB h
theorem jx{led:Bool}{m:Nat}{st:Option SetTable.Probe}{Q:SetFound->Shared->Prop}(hu:A.units+2<cLine)(ho:s.heap.get? a=some (bL led [(h,v0)] [j0] ep))(hv:aZ s.heap v c)(hv0:aZ s.heap v0 c0)
 (hd:(st.getD ((tbl led [j0]).probeStart h)).dummy=none)
 (h0:(st.getD ((tbl led [j0]).probeStart h)).j≠j0->Q (.free (st.getD ((tbl led [j0]).probeStart h)).j false) s)
 (h1:c=c0->Q (.there none) s)
 (h2:c≠c0->(st.getD ((tbl led [j0]).probeStart h)).j=j0->wpAny (model prog w) A (setSearchFrom a v h true m (some ((tbl led [j0]).advance (st.getD ((tbl led [j0]).probeStart h))))) Q E s):
 wpAny (model prog w) A (setSearchFrom a v h true (m+1) st) Q E s:=by
 have hv1:=hv0
 obtain⟨b0,_,_,_,_,rfl,_⟩:=hv1
 have state:∀{Q:(Array (Int×Value)×Nat×SetTable)->Shared->Prop},Q ([(h,Value.ref b0)].toArray,ep,tbl led [j0]) s->wpAny (model prog w) A (setState a) Q E s:=λ hq=>bK ho rfl (Nat.le_of_ble_eq_true rfl) hq
 unfold setSearchFrom
 refine ZA (state ?_)
 dsimp only
 rw[if_neg (show ¬(SetTable.gaveWay (tbl led [j0])=true)from by simp[SetTable.gaveWay])]
 unfold SetTable.probe
 rw[show 10*SetTable.turns (tbl led [j0]).mask=219+1 from rfl]
 by_cases hj:(st.getD ((tbl led [j0]).probeStart h)).j=j0
 . rw [jO hj,if_pos (by show(h==h)=true;exact beq_self_eq_true h)]
   dsimp only
   have hs:∀y∈List.map (λ x:Int×Value=>x.2) (Array.filter (λ x=>x.fst==h) #[(h,Value.ref b0)]).toList,∃d,aZ s.heap y d:=by
    intro y hy
    rw[List.mem_map]at hy
    obtain⟨e,he,rfl⟩:=hy
    have:e∈#[(h,Value.ref b0)]:=(Array.mem_filter.mp (Array.mem_toList_iff.mp he)).1
    have:e=(h,Value.ref b0):=by simpa using this
    subst this
    exact⟨c0,hv0⟩
   have eqq:SeqAt.EqAt A s (Value.ref b0) v (decide (c0=c)):=Ms hu hv0 hv
   have slq:(tbl led [j0]).slot (st.getD ((tbl led [j0]).probeStart h)).j=.live 0:=by rw[qG,if_pos hj]
   cases led
   . rw[if_pos (show(!false)=true from rfl)]
     refine ZA (K8 hv hs ?_)
     rw[if_neg y7]
     have e0:#[(h,Value.ref b0)][0]? =some (h,Value.ref b0):=rfl
     rw[e0]
     dsimp only
     refine ZA (ZQ (eqq prog w E _ ?_))
     refine ZA (state ?_)
     by_cases ec:c0=c
     . rw[ZG ec]
       exact ZB (h1 ec.symm)
     . rw[ZH ec]
       dsimp only
       rw[if_neg (show ¬((true&&false)=true)from y7)]
       have e1:SetTable.sameMemory (tbl false [j0]) 0 7=some true:=rfl
       rw[e1]
       dsimp only
       rw[if_pos rfl,slq]
       dsimp only
       rw[e0]
       dsimp only
       refine ZA (xK ?_)
       refine ZA (ZB ?_)
       exact h2 (λ e=>ec e.symm) hj
   . rw[if_neg (show ¬(!true)=true from y7)]
     have e0:#[(h,Value.ref b0)][0]? =some (h,Value.ref b0):=rfl
     rw[e0]
     dsimp only
     refine ZA (ZQ (eqq prog w E _ ?_))
     refine ZA (state ?_)
     by_cases ec:c0=c
     . rw[ZG ec]
       exact ZB (h1 ec.symm)
     . rw[ZH ec]
       dsimp only
       rw[if_neg (show ¬((true&&false)=true)from y7)]
       have e1:SetTable.sameMemory (tbl true [j0]) 0 7=some true:=rfl
       rw[e1]
       dsimp only
       rw[if_pos rfl,slq]
       dsimp only
       rw[e0]
       dsimp only
       refine ZA (xK ?_)
       refine ZA (ZB ?_)
       exact h2 (λ e=>ec e.symm) hj
 . rw[jR hj,hd]
   dsimp only
   exact ZB (h0 hj)
theorem Dj{led:Bool}{Q:SetFound->Shared->Prop}(hu:A.units+2<cLine)(ho:s.heap.get? a=some (bL led [(h,v0)] [j0] ep))(hv:aZ s.heap v c)(hv0:aZ s.heap v0 c0)
 (h1:c=c0->Q (.there none) s)(h2:c≠c0->∀j,j≠j0->j<8->Q (.free j false) s)(ne:c=c0->((tbl led [j0]).probeStart h).j=j0):
 ∀(k fuel:Nat)(st:Option SetTable.Probe),Std (st.getD ((tbl led [j0]).probeStart h)) k->(st.isSome=true->c≠c0)->k+2≤fuel->wpAny (model prog w) A (setSearchFrom a v h true fuel st) Q E s:=by
 intro k
 induction k with
 | zero=>
   intro fuel st sd hst hf
   obtain⟨m,rfl⟩:∃m,fuel=m+1+1:=⟨fuel-2,by omega⟩
   refine jx hu ho hv hv0 sd.dummy (λ hj=>?_) h1 λ nc hj=>?_
   . by_cases ec:c=c0
     . cases st with
       | none=>exact absurd (ne ec) hj
       | some p=>exact absurd ec (hst rfl)
     . exact h2 ec _ hj (by rw[sd.ji];exact sd.lt)
   . obtain⟨s1,ne⟩:=zf (led:=led) (ps:=[j0]) sd
     rw[hj]at ne
     exact jx hu ho hv hv0 s1.dummy (λ hj=>h2 nc _ hj (by rw[Option.getD_some,s1.ji];exact s1.lt)) h1 λ _ hj=>absurd hj ne
 | succ k ih=>
   intro fuel st sd hst hf
   obtain⟨m,rfl⟩:∃m,fuel=m+1:=⟨fuel-1,by omega⟩
   refine jx hu ho hv hv0 sd.dummy (λ hj=>?_) h1 λ nc hj=>?_
   . by_cases ec:c=c0
     . cases st with
       | none=>exact absurd (ne ec) hj
       | some p=>exact absurd ec (hst rfl)
     . exact h2 ec _ hj (by rw[sd.ji];exact sd.lt)
   . exact ih m _ (yf sd) (λ _=>nc) (by omega)
theorem Br{led:Bool}{h0:Int}{Q:SetFound->Shared->Prop}(hu:A.units+2<cLine)(hj0:j0=SetTable.bits h0 % 8)(hh:c=c0->h0=h)(ho:s.heap.get? a=some (bL led [(h0,v0)] [j0] ep))(hv:aZ s.heap v c)(hv0:aZ s.heap v0 c0)
 (h1:c=c0->Q (.there none) s)(h2:c≠c0->∀j,j≠j0->j<8->Q (.free j false) s):wpAny (model prog w) A (setSearch a v h true) Q E s:=by
 unfold setSearch
 generalize hf:(100000:Nat)=fuel
 by_cases he:h0=h
 . subst he
   exact Dj hu ho hv hv0 h1 h2 (λ _=>hj0.symm) 13 fuel none (vh _ _ _) (λ h=>nomatch h) (by omega)
 . have nc:c≠c0:=λ e=>he (hh e)
   obtain⟨m,rfl⟩:∃m,fuel=m+1:=⟨fuel-1,by omega⟩
   unfold setSearchFrom
   refine ZA (bK ho rfl (Nat.le_of_ble_eq_true rfl) ?_)
   dsimp only
   rw[if_neg (show ¬(SetTable.gaveWay (tbl led [j0])=true)from by simp[SetTable.gaveWay])]
   unfold SetTable.probe
   rw[Ln (by show(h0==h)=false;simpa using he)]
   obtain⟨j,h3,h4,h5⟩:=zK (led:=led) (j0:=j0) (hs:=λ _=>h+1) (h:=h) (by simp;omega) 13 (10*SetTable.turns (tbl led [j0]).mask) _ (vh led [j0] h) (by show 15≤220;decide)
   simp only[Option.getD_none]
   rw[h5]
   exact ZB (h2 nc j h3 h4)
theorem Hb{led:Bool}{Q:SetFound->Shared->Prop}(ho:s.heap.get? a=some (bL led [] [] ep))
 (h1:Q (.free (SetTable.bits h % 8) false) s):wpAny (model prog w) A (setSearch a v h true) Q E s:=by
 unfold setSearch
 generalize hf:(100000:Nat)=fuel
 obtain⟨m,rfl⟩:∃m,fuel=m+1:=⟨fuel-1,by omega⟩
 unfold setSearchFrom
 refine ZA (bK ho rfl (Nat.zero_le _) ?_)
 dsimp only
 rw[if_neg (show ¬(SetTable.gaveWay (tbl led [])=true)from by simp[SetTable.gaveWay])]
 exact ZB h1
theorem ni{led:Bool}{es:List (Int×Value)}{es':List (Int×Value)}{ps':List Nat}{Q:Unit->Shared->Prop}(ho:s.heap.get? a=some (bL led es ps ep))(hz:es'.length≤7)
 (h:∀h',Heap.SameBut a s.heap h'->h'.get? a=some (bL led es' ps' (ep+1))->Q () {s with heap:=h'}):wpAny (model prog w) A (storeSet a es'.toArray (tbl led ps')) Q E s:=by
 refine wpAny_storeSet_of ho rfl (h _ (Heap.SameBut.update s.heap a _) ?_) (Nat.le_trans (by rw[x6];exact hz) (by decide:7≤sizeLine))
 have:=Heap.get?_update_self (Obj.putSet es'.toArray (tbl led ps')) ho (by rw[putSet_of _ _ rfl];rfl)
 rw[putSet_of _ _ rfl]at this
 exact this
theorem Oi{led:Bool}{Q:Bool->Shared->Prop}(hu:A.units+5<cLine)(ho:s.heap.get? a=some (bL led [] [] ep))(hv:aZ s.heap v c)
 (h:∀h' tk b,Heap.SameBut a s.heap h'->h'.get? a=some (bL led [(hC prog w c,v)] [SetTable.bits (hC prog w c) % 8] (ep+1))->Q b {s with heap:=h',toks:=s.toks+tk}):
 wpAny (model prog w) A (setAdd a v) Q E s:=by
 unfold setAdd
 refine ZQ (ZA (xO hu hv λ n=>?_))
 unfold setAddHashed
 refine ZQ ?_
 generalize hf:(100000:Nat)=fuel
 obtain⟨m,rfl⟩:∃m,fuel=m+1:=⟨fuel-1,by omega⟩
 unfold setAddHashedIn
 refine ZA (bK (s:={s with toks:=s.toks+n}) ho rfl (Nat.zero_le _) ?_)
 have hv1:=hv
 obtain⟨b0,_,_,_,_,rfl,_⟩:=hv1
 dsimp only
 rw[if_neg (show ¬(byScan (.ref b0) _=true)from y7)]
 refine ZA (Hb (s:={s with toks:=s.toks+n}) ho ?_)
 dsimp only
 refine ZA (bK (s:={s with toks:=s.toks+n}) ho rfl (Nat.zero_le _) ?_)
 have e1:(tbl led []).put (SetTable.bits (hC prog w c) % 8)=(tbl led [SetTable.bits (hC prog w c) % 8],0):=rfl
 rw[e1]
 dsimp only
 rw[if_pos rfl]
 refine ZA (uH (s:={s with toks:=s.toks+n}) (n:=6) hv ?_)
 rw[if_pos rfl]
 refine ZA (ni (s:={s with toks:=s.toks+n}) (es':=[(hC prog w c,Value.ref b0)]) ho (by simp) λ h' k1 k2=>?_)
 rw[if_neg (by simp[SetTable.tooFull,SetTable.fill])]
 exact ZB (h h' n true k1 k2)
theorem Px(led:Bool)(j0 j:Nat)(hj:j≠j0):(tbl led [j0]).put j=if j0<j then(tbl led [j0,j],1)else(tbl led [j,j0],0):=by
 unfold SetTable.put
 show((⟨7,SetTable.insertAt #[j0] (SetTable.below #[j0] j) j,if SetTable.has #[] j=true then _ else #[],0,led,0,true⟩:SetTable),SetTable.below #[j0] j)=_
 rw[if_neg (show ¬SetTable.has #[] j=true from y7),rE]
 by_cases h:j0<j
 . rw[if_pos h,if_pos h];rfl
 . rw[if_neg h,if_neg h];rfl
theorem PQ{led:Bool}{Q:Bool->Shared->Prop}(hu:A.units+5<cLine)(ho:s.heap.get? a=some (bL led [(hC prog w c0,v0)] [SetTable.bits (hC prog w c0) % 8] ep))(hv:aZ s.heap v c)(hv0:aZ s.heap v0 c0)
 (h1:c=c0->∀tk b,Q b {s with toks:=s.toks+tk})
 (h2:c≠c0->∀h' tk b es ps,Heap.SameBut a s.heap h'->h'.get? a=some (bL led es ps (ep+1))->(∃e1 e2 v1 v2 j1 j2,es=[(e1,v1),(e2,v2)]/\ps=[j1,j2]/\j1<j2/\j2<8/\(v1=v0/\v2=v∨v1=v/\v2=v0))->Q b {s with heap:=h',toks:=s.toks+tk}):
 wpAny (model prog w) A (setAdd a v) Q E s:=by
 unfold setAdd
 refine ZQ (ZA (xO hu hv λ n=>?_))
 unfold setAddHashed
 refine ZQ ?_
 generalize hf:(100000:Nat)=fuel
 obtain⟨m,rfl⟩:∃m,fuel=m+1:=⟨fuel-1,by omega⟩
 have hh:c=c0->hC prog w c0=hC prog w c:=λ e=>by rw[e]
 generalize hC prog w c=h at hh ⊢
 generalize hC prog w c0=h0 at hh ho ⊢
 unfold setAddHashedIn
 refine ZA (bK (s:={s with toks:=s.toks+n}) ho rfl (Nat.le_of_ble_eq_true rfl) ?_)
 have hv1:=hv
 obtain⟨b0,_,_,_,_,rfl,_⟩:=hv1
 dsimp only
 rw[if_neg (show ¬(byScan (.ref b0) _=true)from y7)]
 refine ZA (Br (s:={s with toks:=s.toks+n}) (by omega) rfl hh ho hv hv0 (λ e=>?_) λ nc j hj h8=>?_)
 . exact ZB (h1 e n false)
 dsimp only
 refine ZA (bK (s:={s with toks:=s.toks+n}) ho rfl (Nat.le_of_ble_eq_true rfl) ?_)
 have hb0:SetTable.bits h0 % 8<8:=Nat.mod_lt _ (by decide)
 generalize SetTable.bits h0 % 8=j0 at ho hj hb0 ⊢
 dsimp only
 rw[Px led j0 j hj]
 by_cases hlt:j0<j
 . rw[if_pos hlt]
   dsimp only
   rw[if_pos rfl]
   refine ZA (uH (s:={s with toks:=s.toks+n}) (n:=6) hv ?_)
   rw[if_pos rfl]
   refine ZA (ni (s:={s with toks:=s.toks+n}) (es':=[(h0,v0),(h,Value.ref b0)]) ho (by simp) λ h' k1 k2=>?_)
   rw[if_neg (by simp[SetTable.tooFull,SetTable.fill])]
   exact ZB (h2 nc h' n true _ _ k1 k2 ⟨_,_,_,_,_,_,rfl,rfl,hlt,h8,.inl ⟨rfl,rfl⟩⟩)
 . rw[if_neg hlt]
   dsimp only
   rw[if_pos rfl]
   refine ZA (uH (s:={s with toks:=s.toks+n}) (n:=6) hv ?_)
   rw[if_pos rfl]
   refine ZA (ni (s:={s with toks:=s.toks+n}) (es':=[(h,Value.ref b0),(h0,v0)]) ho (by simp) λ h' k1 k2=>?_)
   rw[if_neg (by simp[SetTable.tooFull,SetTable.fill])]
   exact ZB (h2 nc h' n true _ _ k1 k2 ⟨_,_,_,_,_,_,rfl,rfl,by omega,hb0,.inr ⟨rfl,rfl⟩⟩)
end
end RF
namespace RF
open PySem PySem.Spec L2 DL
open PyProof.Rows
section
variable {prog : Program} {w : World} {A : Around} {R : Result -> Shared -> Prop} {I : Addr} {fp wr : List Addr} {G : Array GenState -> Array GenState -> Prop} {n : Nat} {P : Nat -> Value -> Prop} {St : Nat -> Shared -> Prop}
theorem My(W:WalksS prog w A.in1 I fp wr G n P St)(S:Addr)(hSf:S∉fp)(SS:Nat->Heap->Prop)
 (hframe:∀i h h',SS i h->(∀b o,b∉wr->h.get? b=some o->h'.get? b=some o)->SS i h')
 (hadd:∀i v(s:Shared)(Q:Bool->Shared->Prop)(E:Value->Shared->Prop),i<n->P i v->SS i s.heap->(∀b h' tk,Heap.SameBut S s.heap h'->SS (i+1) h'->Q b {s with heap:=h',toks:=s.toks+tk})->wpAny (model prog w) A.in1 (setAdd S v) Q E s):
 ∀ (k i:Nat)(s:Shared),n-i=k->i≤n->St i s->SS i s.heap->
   (∀s',Moved (S::wr) G s s'->SS n s'.heap->R (.ok (.ret .none)) s')->
   codeAny (model prog w) A (.builtin "set.update.loop" ⟨[.ref S,.ref I],[]⟩) R s:=by
 have hSw:S∉wr:=λ h=>hSf (W.sub _ h)
 have hsub:∀b∈wr,b∈S::wr:=λ b hb=>x5 _ hb
 intro k
 induction k with
 | zero=>
   intro i s hk hi hst hS hR
   have hin:i=n:=by omega
   subst hin
   refine codeAny_builtin F.entry_set_update_loop ?_
   rw[Around.under_plainId F.plain_set_update_loop _]
   show wpAny _ A.in1 (pyNext (.ref I)>>=_) _ _ s
   refine ZA (W.done s _ _ hst λ s' hm=>?_)
   show wpAny _ A.in1 (ret Value.none) _ _ s'
   exact ZB (hR s' (hm.mono hsub) (hframe _ _ _ hS hm.heap))
 | succ k ih=>
   intro i s hk hi hst hS hR
   have hlt:i<n:=by omega
   refine codeAny_builtin F.entry_set_update_loop ?_
   rw[Around.under_plainId F.plain_set_update_loop _]
   show wpAny _ A.in1 (pyNext (.ref I)>>=_) _ _ s
   refine ZA (W.item i s _ _ hlt hst λ v s' hP hst' hm=>?_)
   have hS':=hframe _ _ _ hS hm.heap
   show wpAny _ A.in1 (holding [v] (setAdd S v)>>=_) _ _ s'
   refine ZA (ZQ (hadd i v s' _ _ hlt hP hS' λ b h' tk hsb hS2=>?_))
   refine ZB ⟨plainId_quiet F.plain_set_update_loop _,ih (i+1) _ (by omega) hlt (W.frame _ s' _ _ hst' (Nat.le_add_right _ _) λ b hb o e=>?_) hS2 λ s'' hm'' hS''=>?_⟩
   . rw[hsb.2 b (λ h:b=S=>hSf (by rw[←h];exact hb))];exact e
   . refine hR s'' (Moved.trans W.gtrans ((hm.mono hsub).then_heap (Nat.le_add_right _ _) λ b o hb e=>?_) hm'') hS''
     rw[hsb.2 b (λ h:b=S=>hb (by rw[h];exact x8))];exact e
end
noncomputable def Lies(prog:Program)(w:World)(its:List Value)(cs:List (Int×List Int))(i:Nat)(es:List (Int×Value))(ps:List Nat):Prop:=
 match i with
 | 0=>es=[]/\ps=[]
 | 1=>∃v c,its[0]? =some v/\cs[0]? =some c/\es=[(hC prog w c,v)]/\ps=[SetTable.bits (hC prog w c) % 8]
 | _ =>∃v0 v c0 c,its=[v0,v]/\cs=[c0,c]/\((c=c0/\es=[(hC prog w c0,v0)]/\ps=[SetTable.bits (hC prog w c0) % 8])∨
     (c≠c0/\∃e1 e2 v1 v2 j1 j2,es=[(e1,v1),(e2,v2)]/\ps=[j1,j2]/\j1<j2/\j2<8/\(v1=v0/\v2=v∨v1=v/\v2=v0)))
section
variable {prog : Program} {w : World} {A : Around} {E : Value -> Shared -> Prop} {s : Shared}
noncomputable abbrev dX(w:World):Bool:=!(w.params.followText "set-order")
theorem yp(a:Value){Q₁:Value->Shared->Prop}
 (h:Q₁ (.ref s.heap.objs.size) {s with heap:=s.heap.push {cls:=.type "set",dict:=none,data:=.set #[] 0 (.fresh 0 0 (dX w))}}):
 codeAny (model prog w) A (.call (.builtin "set.__new__") ⟨[.type "set",a],[]⟩) (wants Q₁ E) s:=by
 refine codeAny_of_tree ?_
 show wpAny _ A.in1 (do checkBuiltinCall "set.__new__" ⟨[.type "set",a],[]⟩;again (.builtin "set.__new__" ⟨[.type "set",a],[]⟩)) _ _ s
 refine ZA (wpAny_of_eq (F.newCall_set_1 a) (ZB ⟨plainId_quiet F.plain_set_new _,codeAny_builtin F.entry_set_new ?_⟩))
 rw[Around.under_plainId F.plain_set_new _]
 unfold Builtin.«set.__new__» Builtin.Frozenset.newClass
 have hsub:=sub_set_self
 obtain⟨hp,g,d,tk,os⟩:=s
 dsimp only
 wp_walk
 refine wpAny_askSetting (ZB ?_)
 dsimp only
 simp only[newObj]
 refine ZA (wpAny_alloc (ZB ?_))
 exact ZB h
set_option maxHeartbeats 8000000 in
theorem zF {l:Addr}{its:List Value}{cs:List (Int×List Int)}{Q:Value->Shared->Prop}
 (hh:A.handled=none)(hu:A.units+12<cLine)(hl:s.heap.IsList l its.toArray)(hlen:its.length=cs.length)(hc:∀(i:Nat)(v:Value)(c:Int×List Int),its[i]? =some v->cs[i]? =some c->aZ s.heap v c)(hb:its.length≤2)
 (h:∀(h':Heap)(tk:Nat)(es:List (Int×Value))(ps:List Nat)(ep:Nat),h'.get? s.heap.objs.size=some (bL (dX w) es ps ep)->Lies prog w its cs its.length es ps->
  (∀b o,b<s.heap.objs.size->s.heap.get? b=some o->h'.get? b=some o)->Q (.ref s.heap.objs.size) {s with heap:=h',toks:=tk}):
 wpAny (model prog w) A (call (.type "set") [.ref l]) Q E s:=by
 obtain⟨c,tl,hmro⟩:=F.called_set.mro
 have hmade:=F.called_set.made
 have hsub:=F.called_set.sub
 refine wpAny_call (codeAny_of_tree ?_)
 show wpAny _ _ (callAny (.type "set") _) _ _ _
 refine ZB ⟨Code.quiet_builtin _ (by decide+kernel),codeAny_builtin F.entry_type_call ?_⟩
 rw[Around.under_plain (weight_type_call_type "set" [.ref l] []) rfl]
 have h1:=F.called_set.notType
 have h2:=F.called_set.canCreate
 have hct:=F.typeCall_set_1 (.ref l)
 repeat(any_goals (first | assumption | wp_step))
 refine codeAny_mono (yp (.ref l) (E:=E) (Q₁:=λ obj s₁=>∃led:Bool,led=dX w/\obj=.ref s.heap.objs.size/\s₁={s with heap:=s.heap.push {cls:=.type "set",dict:=none,data:=.set #[] 0 (.fresh 0 0 led)}}) ⟨_,rfl,rfl,rfl⟩) λ r s₁ hr=>?_
 cases r with
 | error e=>exact hr
 | ok fl =>
   cases fl with
   | next=>exact hr.elim
   | brk=>exact hr.elim
   | cont=>exact hr.elim
   | ret obj=>
     obtain⟨led,hled,rfl,rfl⟩:=hr
     have hS:(s.heap.push {cls:=.type "set",dict:=none,data:=.set #[] 0 (.fresh 0 0 led)}).get? s.heap.objs.size=some {cls:=.type "set",dict:=none,data:=.set #[] 0 (.fresh 0 0 led)}:=ZD _ rfl
     have hT:Shared.TypeIs {s with heap:=s.heap.push {cls:=.type "set",dict:=none,data:=.set #[] 0 (.fresh 0 0 led)}} (.ref s.heap.objs.size) "set":=⟨_,hS,rfl⟩
     have hli:=F.called_set.init.lookup
     have hbi:=F.called_set.init.bind (.ref s.heap.objs.size)
     repeat(any_goals (first | assumption | wp_step))
     refine codeAny_mono (codeAny_call_builtin (R:=wants (λ r s₂=>r=.none/\∃h' tk es ps ep,s₂={s with heap:=h',toks:=tk}/\
      h'.get? s.heap.objs.size=some (bL led es ps ep)/\Lies prog w its cs its.length es ps/\
      (∀b o,b<s.heap.objs.size->s.heap.get? b=some o->h'.get? b=some o)) E) F.called_set.init.plain F.entry_set_init (check_set_init_1 hT ?_)) λ r₂ s₂ hr₂=>?_
     . obtain⟨ol,hol,hcl,nl,hdl⟩:=hl
       obtain⟨ocls,odict,odata,oslots⟩:=ol
       simp only at hcl hdl
       subst hcl;subst hdl
       have hol':(s.heap.push {cls:=.type "set",dict:=none,data:=.set #[] 0 (.fresh 0 0 led)}).get? l=some {cls:=.type "list",dict:=odict,data:=.seq its.toArray nl,slots:=oslots}:=ZC _ hol
       have hsls:=F.sub_list_set
       have hslf:=F.sub_list_frozenset
       have hne:(Value.type "list"==Value.type "dict")=false:=by decide
       have hl1:(s.heap.push {cls:=.type "set",dict:=none,data:=.set #[] 0 (.fresh 0 0 led)}).IsList l its.toArray:=⟨_,hol',rfl,nl,rfl⟩
       unfold Builtin.«set.__init__» noKeywords Builtin.Frozenset.updateFrom
       generalize hPI:pyIter=PI
       wp_walk
       subst hPI
       refine wpAny_pyIter_list hl1 ?_
       refine ZA (wpAny_runValue ?_)
       have hlS:l<s.heap.objs.size:=ZE hol
       have hh3:A.in1.in1.in1.handled=none:=by simp[hh]
       have hneI:l≠(s.heap.push {cls:=.type "set",dict:=none,data:=.set #[] 0 (.fresh 0 0 led)}).objs.size:=by
        rw[Heap.size_push];exact ZN (Nat.lt_succ_of_lt hlS)
       have hSf:s.heap.objs.size∉[(s.heap.push {cls:=.type "set",dict:=none,data:=.set #[] 0 (.fresh 0 0 led)}).objs.size,l]:=by
        rw[Heap.size_push];simp only[List.mem_cons,List.mem_singleton,List.not_mem_nil,or_false,not_or]
        exact⟨ZN (Nat.lt_succ_self _),Nat.ne_of_gt hlS⟩
       have hI:(s.heap.push {cls:=.type "set",dict:=none,data:=.set #[] 0 (.fresh 0 0 led)}).objs.size=s.heap.objs.size+1:=by rw[Heap.size_push]
       refine My ((Walks.list hh3 _ l hneI its.toArray).toS) s.heap.objs.size hSf
        (λ i h'=>(∀b o,b<s.heap.objs.size->s.heap.get? b=some o->h'.get? b=some o)/\∃es ps ep,h'.get? s.heap.objs.size=some (bL led es ps ep)/\Lies prog w its cs i es ps)
        ?hfr ?hadd (its.toArray.size-0) 0 _ (by omega) (Nat.zero_le _)
        ⟨⟨_,ZD _ rfl,rfl,rfl⟩,(hl1.push _)⟩ ?hS0 ?hR
       case hfr=>
        rintro i h1 h2 ⟨k1,es,ps,ep,k2,k3⟩ k
        refine⟨λ b o hb e=>k b o ?_ (k1 b o hb e),es,ps,ep,k _ _ ?_ k2,k3⟩
        . intro z;have:=ZL.mp z;rw[hI]at this;exact absurd this (ZN (Nat.lt_succ_of_lt hb))
        . intro z;have:=ZL.mp z;rw[hI]at this;exact absurd this (ZN (Nat.lt_succ_self _))
       case hadd=>
        rintro i v s1 Q1 E1 hi hv ⟨k1,es,ps,ep,k2,k3⟩ hq
        have hi':i<its.length:=by simpa using hi
        have hv':its[i]? =some v:=by simpa using hv
        obtain⟨c,hci⟩:∃c,cs[i]? =some c:=⟨_,y4 (by omega)⟩
        have cel:∀(i:Nat)(v:Value)(c:Int×List Int),its[i]? =some v->cs[i]? =some c->aZ s1.heap v c:=λ i v c e1 e2=>(hc i v c e1 e2).keep λ b o e _=>k1 b o (ZE e) e
        have hu1:A.in1.in1.in1.in1.units+5<cLine:=by show A.units+1+1+1+1+5<cLine;omega
        match i,hi',k3 with
        | 0,_,k3=>
          obtain⟨rfl,rfl⟩:=k3
          refine Oi (by first | exact hu1 | (show A.units+1+1+1+5<cLine;omega)) k2 (cel 0 v c hv' hci) λ h' tk b sb g=>hq b h' tk sb ⟨λ b' o' hb' e'=>?_,_,_,_,g,v,c,hv',hci,rfl,rfl⟩
          rw[sb.2 b' (ZN hb')];exact k1 b' o' hb' e'
        | 1,hi',k3=>
          obtain⟨v0,c0,e1,e2,rfl,rfl⟩:=k3
          have e3:its=[v0,v]:=by
           match its,hb,e1,hv' with
           | [x,y],_,e1,e2=>simp at e1 e2;rw[e1,e2]
           | [x],_,_,e2=>simp at e2
           | _::_::_::_,hb,_,_=>simp at hb
          have e4:cs=[c0,c]:=by
           have:cs.length=2:=by rw[←hlen,e3];rfl
           match cs,this,e2,hci with
           | [x,y],_,e1,e2=>simp at e1 e2;rw[e1,e2]
          refine PQ (by first | exact hu1 | (show A.units+1+1+1+5<cLine;omega)) k2 (cel 1 v c hv' hci) (cel 0 v0 c0 e1 e2) (λ ec tk b=>?_) λ nc h' tk b es ps sb g z=>?_
          . exact hq b s1.heap tk (Heap.SameBut.refl _ _) ⟨k1,_,_,_,k2,v0,v,c0,c,e3,e4,.inl ⟨ec,rfl,rfl⟩⟩
          . refine hq b h' tk sb ⟨λ b' o' hb' e'=>?_,_,_,_,g,v0,v,c0,c,e3,e4,.inr ⟨nc,z⟩⟩
            rw[sb.2 b' (ZN hb')];exact k1 b' o' hb' e'
        | i+2,hi',_=>omega
       case hS0=>
        refine⟨λ b o hb e=>ZC _ (ZC _ e),[],[],0,ZC _ hS,rfl,rfl⟩
       case hR=>
        intro s' hm hS'
        obtain⟨h',g',d',tk',os'⟩:=s'
        have eg:g'=s.gens:=hm.gens
        have ed:d'=s.drawn:=hm.drawn
        have eo:os'=s.os:=hm.os
        subst eg;subst ed;subst eo
        obtain⟨k1,es,ps,ep,k2,k3⟩:=hS'
        show wpAny _ _ _ _ _ _
        refine ZB ?_
        show wpAny _ _ (ret Value.none) _ _ _
        refine ZB ⟨rfl,h',tk',es,ps,ep,rfl,k2,by simpa using k3,k1⟩
     . cases r₂ with
       | error e=>exact hr₂
       | ok fl₂=>
         cases fl₂ with
         | next=>exact hr₂.elim
         | brk=>exact hr₂.elim
         | cont=>exact hr₂.elim
         | ret r=>
           obtain⟨rfl,h',tk,es,ps,ep,rfl,k2,k3,k1⟩:=hr₂
           repeat(any_goals (first | assumption | wp_step))
           exact h _ _ _ _ _ (hled▸k2) k3 k1
end
end RF
namespace RF
open PySem PySem.Spec L2 DL
open PyProof.Rows
variable {es : List (Int × Value)} {ps : List Nat} {S I : Addr} {ep : Nat}
theorem tU:entryFor table "set.__iter__"=some Builtin.«frozenset.__iter__»:=
 entryFor_alias (id':="frozenset.__iter__") (by kernel_rfl) rfl (by decide+kernel) (by kernel_rfl)
theorem aW:Slot "set_iterator" "__next__" "set_iterator.__next__":=
 .of (owner:="set_iterator") (n:="__next__") (by rw[typeLookup_type,builtinLookup_eq_fast];kernel_rfl) (by decide+kernel) (by decide+kernel) (by decide+kernel)
  (by first | exact .inl (by decide+kernel) | exact .inr (by decide+kernel)) (by rw[isSubtype_type];kernel_rfl)
theorem dB:entryFor table "set_iterator.__next__"=some Builtin.«set_iterator.__next__»:=entryFor_of_tree (by kernel_rfl)
theorem fU:Manifest.owners.lookup (String.ofList ['r','o','t','a','r','e','t','i','_','t','e','s'].reverse)=some Manifest.sig_set_iterator:=by kernel_rfl
theorem dh(a:Value):argsOk "set_iterator.__next__" ⟨[a],[]⟩:=by
 unfold argsOk;rw[signature?_of (id:="set_iterator.__next__") (n:=['_','_','t','x','e','n','_','_']) (o:=['r','o','t','a','r','e','t','i','_','t','e','s']) (by kernel_rfl) fU];kernel_rfl
theorem dO:Slot "set_iterator" "__iter__" "set_iterator.__iter__":=
 .of (owner:="set_iterator") (n:="__iter__") (by rw[typeLookup_type,builtinLookup_eq_fast];kernel_rfl) (by decide+kernel) (by decide+kernel) (by decide+kernel)
  (by first | exact .inl (by decide+kernel) | exact .inr (by decide+kernel)) (by rw[isSubtype_type];kernel_rfl)
theorem iM:entryFor table "set_iterator.__iter__"=some Builtin.«dict_keyiterator.__iter__»:=
 entryFor_alias (id':="dict_keyiterator.__iter__") (by kernel_rfl) rfl (by decide+kernel) (by kernel_rfl)
theorem gR(a:Value):argsOk "set_iterator.__iter__" ⟨[a],[]⟩:=by
 unfold argsOk;rw[signature?_of (id:="set_iterator.__iter__") (n:=['_','_','r','e','t','i','_','_']) (o:=['r','o','t','a','r','e','t','i','_','t','e','s']) (by kernel_rfl) fU];kernel_rfl
noncomputable def slotAt(ps:List Nat):Nat->Nat
 | 0=>0
 | i+1=>ps.getD i 0+1
theorem Gv:∀(ps:List Nat)(i:Nat),(ps=[]∨(∃j,ps=[j])∨∃j k,ps=[j,k]/\j<k)->i≤ps.length->SetTable.below ps.toArray (slotAt ps i)=i:=by
 rintro ps i (rfl | ⟨j,rfl⟩ | ⟨j,k,rfl,hjk⟩) hi
 . have:i=0:=by simpa using hi
   subst this
   rfl
 . match i,hi with
   | 0,_=>rw[show([j].toArray:Array Nat)=#[j]from rfl,rE];simp[slotAt]
   | 1,_=>rw[show([j].toArray:Array Nat)=#[j]from rfl,rE];simp[slotAt]
   | i+2,h=>simp at h
 . match i,hi with
   | 0,_=>simp[slotAt,SetTable.below,SetTable.below.go]
   | 1,_=>
     have h1:¬k<j+1:=by omega
     simp[slotAt,SetTable.below,SetTable.below.go,h1]
   | 2,_=>simp[slotAt,SetTable.below,SetTable.below.go]
   | i+3,h=>simp at h
noncomputable def bB(w:World)(a:Addr)(ep:Nat)(es:List (Int×Value)):Array (Int×Value):=
 if w.params.followText "set-order"=true then pickOrder (w.params.setOrder a ep) es.toArray else es.toArray
noncomputable abbrev cg(w:World)(ps:List Nat)(S:Addr)(n ep i:Nat):Obj:={cls:=.type "set_iterator",dict:=none,data:=.fields #[rawInt (if w.params.followText "set-order"=true then 0 else slotAt ps i:Nat),rawInt (i:Nat),.ref S,rawInt (n:Nat),rawInt (ep:Nat)],slots:=#[]}
structure Rise(es:List (Int×Value))(ps:List Nat):Prop where
 len:ps.length=es.length
 sh:ps=[]∨(∃j,ps=[j])∨∃j k,ps=[j,k]/\j<k
theorem Rise.seven(r:Rise es ps):ps.length≤7:=by
 rcases r.sh with rfl | ⟨j,rfl⟩ | ⟨j,k,rfl,_⟩<;>simp
section
variable {prog : Program} {w : World} {A : Around} {E : Value -> Shared -> Prop} {s : Shared}
theorem zT{i:Nat}{Q:Option (Value×Nat)->Shared->Prop}(r:Rise es ps)(hi:i≤es.length)(ho:s.heap.get? S=some (bL (dX w) es ps ep))
 (h:Q (((bB w S ep es)[i]?).map λ e=>(e.2,if w.params.followText "set-order"=true then 0 else slotAt ps (i+1))) s):
 wpAny (model prog w) A (setNext S (if w.params.followText "set-order"=true then 0 else slotAt ps i) i ep) Q E s:=by
 unfold setNext
 refine ZA (bK ho r.len r.seven ?_)
 unfold setsByText
 dsimp only
 refine ZA (ZA (wpAny_askSetting (ZB ?_)))
 show wpAny _ _ (if w.params.followText "set-order"=true then _ else _) _ _ _
 unfold bB at h
 by_cases bt:w.params.followText "set-order"=true
 . rw[if_pos bt]
   rw[if_pos bt]at h
   simp only[if_pos bt]at h
   rw[if_neg (by simp)]
   unfold setWalk
   refine ZA (ZA (bK ho r.len r.seven ?_))
   unfold setsByText
   dsimp only
   refine ZA (ZA (wpAny_askSetting (ZB ?_)))
   show wpAny _ _ (if w.params.followText "set-order"=true then _ else _) _ _ _
   rw[if_pos bt]
   refine ZA (wpAny_askSetting (ZB (ZB ?_)))
   simp only[if_pos bt]
   exact h
 . rw [if_neg bt]
   rw[if_neg bt]at h
   simp only[if_neg bt]at h ⊢
   have hled:dX w=true:=by simp[dX,bt]
   split
   . exact absurd (by assumption) y7
   . refine ZA ?_
     show wpAny _ _ (if(!(dX w)&& !(es.toArray.isEmpty))=true then _ else pure PUnit.unit) _ _ _
     rw[hled,if_neg (show ¬((!true&& !(es.toArray.isEmpty))=true)from y7)]
     refine ZB ?_
     rw[Gv ps i r.sh (by rw[r.len];exact hi)]
     refine ZB ?_
     have e2:slotAt ps (i+1)=ps.getD i 0+1:=rfl
     rw[e2]at h
     rw[List.getElem?_toArray]at h
     rw[List.getElem?_toArray,List.getElem?_toArray]
     cases he:es[i]? with
     | none=>rw[he]at h;exact h
     | some e=>
       rw[he]at h
       have hlt:i<ps.length:=by rw[r.len];exact(y3.mp he).1
       rw[y4 hlt]
       rw[List.getD_eq_getElem?_getD,y4 hlt]at h
       exact h
theorem lF{n i:Nat}(ho:s.heap.get? I=some (cg w ps S n ep i)):s.TypeIs (.ref I) "set_iterator":=⟨_,ho,rfl⟩
theorem j9{h:Heap}{vs:Array Value}{k:Nat}{x:Value}(ho:h.get? I=some {cls:=.type "set_iterator",dict:=none,data:=.fields vs,slots:=#[]}):
 (h.update I (Obj.mapFields (·.setIfInBounds k x))).get? I=some {cls:=.type "set_iterator",dict:=none,data:=.fields (vs.setIfInBounds k x),slots:=#[]}:=Heap.get?_update_self _ ho rfl
theorem JK{i:Nat}{e:Int×Value}{Q:Option Value->Shared->Prop}(hne:S≠I)(r:Rise es ps)(hi:i<es.length)(hI:s.heap.get? I=some (cg w ps S es.length ep i))(ho:s.heap.get? S=some (bL (dX w) es ps ep))
 (he:(bB w S ep es)[i]? =some e)(h:∀h',Heap.SameBut I s.heap h'->h'.get? I=some (cg w ps S es.length ep (i+1))->Q (some e.2) {s with heap:=h'}):
 wpAny (model prog w) A (pyNext (.ref I)) Q E s:=by
 have hT:=lF hI
 unfold pyNext
 refine ZA (wpAny_attempt (wpAny_callSpecial?_slot (name:=Str.ofString "__next__") hT aW
  (ZP aW hT dB ?_ (dh _))))
 unfold Builtin.«set_iterator.__next__»
 refine ZA (ZB ?_)
 refine ZA (wpAny_fieldsOf hI rfl ?_)
 dsimp only
 refine ZA (wpAny_setEntries_of ho rfl (gU r.len r.seven) ?_)
 rw[if_neg (by simp)]
 refine ZA ?_
 simp only[rawInt,Int.toNat_natCast]
 refine zT r (Nat.le_of_lt hi) ho ?_
 rw[he]
 dsimp only[Option.map]
 refine ZA (wpAny_setField hI rfl (by simp) ?_)
 refine ZA (wpAny_setField (s:={s with heap:=_}) (j9 hI) rfl (by simp) ?_)
 exact ZB ⟨_,rfl,ZB (h _ ((Heap.SameBut.update ..).trans (Heap.SameBut.update ..)) (by
  have:=j9 (k:=1) (x:=rawInt (i+1)) (j9 (k:=0) (x:=rawInt (if w.params.followText "set-order"=true then 0 else slotAt ps (i+1):Nat)) hI)
  exact this))⟩
theorem JX{Q:Option Value->Shared->Prop}(hh:A.handled=none)(hne:S≠I)(r:Rise es ps)(hI:s.heap.get? I=some (cg w ps S es.length ep es.length))(ho:s.heap.get? S=some (bL (dX w) es ps ep))
 (he:(bB w S ep es)[es.length]? =none)(h:∀h',Heap.ExtBut I s.heap h'->Q none {s with heap:=h'}):
 wpAny (model prog w) A (pyNext (.ref I)) Q E s:=by
 have hT:=lF hI
 unfold pyNext
 refine ZA (wpAny_attempt (wpAny_callSpecial?_slot (name:=Str.ofString "__next__") hT aW
  (ZP aW hT dB ?_ (dh _))))
 unfold Builtin.«set_iterator.__next__»
 refine ZA (ZB ?_)
 refine ZA (wpAny_fieldsOf hI rfl ?_)
 dsimp only
 refine ZA (wpAny_setEntries_of ho rfl (gU r.len r.seven) ?_)
 rw[if_neg (by simp)]
 refine ZA ?_
 simp only[rawInt,Int.toNat_natCast]
 refine zT r (x4 _) ho ?_
 rw[he]
 dsimp only[Option.map]
 refine ZA (wpAny_setField hI rfl (by simp) ?_)
 show wpAny _ _ (newExc (.type "StopIteration") []>>=_) _ _ _
 refine ZA ?_
 simp only[newExc,newTuple]
 refine ZA (wpAny_newObj_type ?_ (by size_fits))
 refine ZA (m:=firstArgMember _ _) (wpAny_of_eq (a:=Value.none) (by first | rfl | (simp only[firstArgMember];rfl)) ?_)
 refine wpAny_newObj_type ?_ (by size_fits)
 simp only[raiseNew]
 refine ZA (wpAny_handled ?_)
 rw[show A.in1.handled=none from hh]
 refine ZA (ZB (wpAny_throw ?_))
 refine ZA (wpAny_isInstance (T:="StopIteration") (b:=true) ⟨_,ZD _ rfl,rfl⟩ isSubtype_stop ?_)
 exact ZB (h _ (((Heap.SameBut.update ..).extBut.push _).push _))
theorem fX(w:World)(S:Addr)(ep:Nat){es:List (Int×Value)}{ps:List Nat}(r:Rise es ps):
 (es=[]/\bB w S ep es=#[])∨(∃e,es=[e]/\bB w S ep es=#[e])∨∃e1 e2,es=[e1,e2]/\(bB w S ep es=#[e1,e2]∨bB w S ep es=#[e2,e1]):=by
 have hl:=r.len
 unfold bB
 rcases r.sh with rfl | ⟨j,rfl⟩ | ⟨j,k,rfl,_⟩
 . have:es=[]:=List.length_eq_zero_iff.mp hl.symm
   subst this
   exact .inl ⟨rfl,by split<;>rfl⟩
 . obtain⟨e,rfl⟩:∃e,es=[e]:=List.length_eq_one_iff.mp hl.symm
   refine .inr (.inl ⟨e,rfl,?_⟩)
   split
   . simp[pickOrder,pickOrder.go,Nat.mod_one]
   . rfl
 . obtain⟨e1,e2,rfl⟩:∃e1 e2,es=[e1,e2]:=by
    match es,hl with
    | [e1,e2],_=>exact⟨_,_,rfl⟩
   refine .inr (.inr ⟨e1,e2,rfl,?_⟩)
   split
   . rcases Nat.mod_two_eq_zero_or_one (w.params.setOrder S ep 0)with h | h
     . left;simp[pickOrder,pickOrder.go,h,Nat.mod_one]
     . right;simp[pickOrder,pickOrder.go,h,Nat.mod_one]
   . exact .inl rfl
theorem lr(w:World)(S:Addr)(ep:Nat){es:List (Int×Value)}{ps:List Nat}(r:Rise es ps):(bB w S ep es).size=es.length:=by
 rcases fX w S ep r with⟨h1,h2⟩ | ⟨e,h1,h2⟩ | ⟨e1,e2,h1,h2 | h2⟩<;>rw[h2,h1]<;>rfl
theorem Ka(hh:A.handled=none)(I S:Addr)(hne:S≠I)(es:List (Int×Value))(ps:List Nat)(ep:Nat)(r:Rise es ps):
 Walks prog w A I [I,S] [I] es.length (λ i v=>∃e,(bB w S ep es)[i]? =some e/\e.2=v) (λ i h=>h.get? I=some (cg w ps S es.length ep i)/\h.get? S=some (bL (dX w) es ps ep)) where
 sub:=λ b hb=>by simp at hb;simp[hb]
 frame:=λ _ _ _ st hk=>⟨hk I (by simp) _ st.1,hk S (by simp) _ st.2⟩
 item:=λ i s Q E hi st hQ=>by
  obtain⟨e,he⟩:∃e,(bB w S ep es)[i]? =some e:=⟨_,Array.getElem?_eq_getElem (by rw[lr w S ep r];exact hi)⟩
  refine JK hne r hi st.1 st.2 he λ h' sb g=>hQ e.2 h' s.toks ⟨e,he,rfl⟩ ⟨g,?_⟩ λ b o hb e=>sb.extBut b o (λ h=>hb (by simp[h])) e
  rw[sb.2 S hne];exact st.2
 done:=λ s Q E st hQ=>JX hh hne r st.1 st.2 (Array.getElem?_eq_none (by rw[lr w S ep r];exact x4 _)) λ h' he'=>hQ h' s.toks λ b o hb e=>he' b o (λ h=>hb (by simp[h])) e
 self:=λ _ s Q E st hQ=>by
  have hT:=lF (s:=s) st.1
  refine wpAny_pyIter_slot hT dO (ZP dO hT iM ?_ (gR _))
  show wpAny _ _ (ret (.ref I)) _ _ s
  exact ZB ⟨_,rfl,"set_iterator",_,hT,aW.lookup,hQ⟩
theorem K6{Q:Value->Shared->Prop}(r:Rise es ps)(ho:s.heap.get? S=some (bL (dX w) es ps ep))
 (h:Q (.ref s.heap.objs.size) {s with heap:=s.heap.push (cg w ps S es.length ep 0)}):wpAny (model prog w) A (pyIter (.ref S)) Q E s:=by
 have hT:s.TypeIs (.ref S) "set":=⟨_,ho,rfl⟩
 refine wpAny_pyIter_slot hT F.slot_set_iter (ZP F.slot_set_iter hT tU ?_ (F.args_set_iter_1 _))
 unfold Builtin.«frozenset.__iter__» Builtin.Frozenset.slot0 Builtin.Frozenset.sizeOf setDrawn
 refine ZA (ZA (ZB (ZB ?_)))
 refine ZA (ZA (wpAny_setEntries_of ho rfl (gU r.len r.seven) (ZB ?_)))
 refine ZA (ZA (bK ho r.len r.seven ?_))
 unfold setsByText
 dsimp only
 refine ZA (ZA (wpAny_askSetting (ZB (ZB ?_))))
 split
 . rename_i hx
   rw[Bool.and_eq_true]at hx
   exact absurd hx.2 y7
 . refine ZA (ZB ?_)
   refine ZA (wpAny_setEpoch_of ho rfl (gU r.len r.seven) ?_)
   refine ZA (wpAny_newObj_type ?_ (by size_fits))
   have hz:es.toArray.size=es.length:=x6
   have e1:((if w.params.followText "set-order"=true then 0 else slotAt ps 0:Nat))=0:=by split<;>rfl
   have key:cg w ps S es.length ep 0={cls:=.type "set_iterator",dict:=none,data:=.fields [rawInt 0,rawInt 0,.ref S,rawInt (es.toArray.size:Nat),rawInt (ep:Nat)].toArray,slots:=#[]}:=by
    unfold cg
    rw[e1,hz]
    rfl
   rw[key]at h
   exact ZB ⟨_,rfl,"set_iterator",_,⟨_,ZD _ rfl,rfl⟩,aW.lookup,h⟩
theorem Dg{Q:List Value->Shared->Prop}(hh:A.handled=none)(r:Rise es ps)(ho:s.heap.get? S=some (bL (dX w) es ps ep))
 (h:∀h' tk,(∀b o,b<s.heap.objs.size->s.heap.get? b=some o->h'.get? b=some o)->s.heap.objs.size≤h'.objs.size->Q ((bB w S ep es).toList.map (·.2)) {s with heap:=h',toks:=tk}):wpAny (model prog w) A (collect (.ref S)) Q E s:=by
 have hS:S<s.heap.objs.size:=ZE ho
 have hSL:s.heap.objs.size≠S:=Nat.ne_of_gt hS
 unfold collect
 refine ZA (wpAny_runValue (codeAny_builtin F.entry_proto_collect ?_))
 rw[Around.under_plainId F.plain_proto_collect _]
 show wpAny _ A.in1 (newList []>>=λ l=>again (.builtin "list.__iadd__" ⟨[l,.ref S],[]⟩)) _ _ s
 refine ZA (wpAny_newObj_type ?_)
 refine ZB ⟨plainId_quiet F.plain_list_iadd _,codeAny_builtin F.entry_list_iadd ?_⟩
 rw[Around.under_plainId F.plain_list_iadd _]
 have ho1:(s.heap.push {cls:=.type "list",data:=.seq ([]:List Value).toArray}).get? S=some (bL (dX w) es ps ep):=ZC _ ho
 have hT1:Shared.TypeIs {s with heap:=s.heap.push {cls:=.type "list",data:=.seq ([]:List Value).toArray}} (.ref S) "set":=⟨_,ho1,rfl⟩
 show wpAny _ A.in1 (Builtin.List.listExtendWith (.ref s.heap.objs.size) (.ref S) (.ref s.heap.objs.size)) _ _ _
 unfold Builtin.List.listExtendWith
 refine ZA (wpAny_typeOf hT1 ?_)
 have h1:Builtin.List.listSameRef (.ref s.heap.objs.size) (.ref S)=false:=by simp[Builtin.List.listSameRef,hSL]
 have h2:(Value.type "set"==Value.type "list")=false:=by decide
 have h3:(Value.type "set"==Value.type "tuple")=false:=by decide
 simp only[h1,h2,h3,Bool.or_false,Bool.false_eq_true,if_false]
 refine ZA (K6 (s:={s with heap:=s.heap.push {cls:=.type "list",data:=.seq ([]:List Value).toArray}}) r ho1 ?_)
 refine ZA (ZQ ?_)
 have sz1:(s.heap.push {cls:=.type "list",data:=.seq ([]:List Value).toArray}).objs.size=s.heap.objs.size+1:=size_push' _ _
 have ho2:((s.heap.push {cls:=.type "list",data:=.seq ([]:List Value).toArray}).push (cg w ps S es.length ep 0)).get? S=some (bL (dX w) es ps ep):=ZC _ ho1
 have hI2:((s.heap.push {cls:=.type "list",data:=.seq ([]:List Value).toArray}).push (cg w ps S es.length ep 0)).get? (s.heap.objs.size+1)=some (cg w ps S es.length ep 0):=by
  rw[←sz1];exact ZD _ rfl
 have hT2:Shared.TypeIs {s with heap:=(s.heap.push {cls:=.type "list",data:=.seq ([]:List Value).toArray}).push (cg w ps S es.length ep 0)} (.ref S) "set":=⟨_,ho2,rfl⟩
 have hS₁:((s.heap.push {cls:=.type "list",data:=.seq ([]:List Value).toArray}).push (cg w ps S es.length ep 0)).get? s.heap.objs.size=some {cls:=.type "list",data:=.seq ([]:List Value).toArray}:=ZC _ (ZD _ rfl)
 show wpAny (model prog w) A.in1 (Builtin.List.listLengthHint (.ref S)) _ _ {s with heap:=(s.heap.push {cls:=.type "list",data:=.seq ([]:List Value).toArray}).push (cg w ps S es.length ep 0)}
 unfold Builtin.List.listLengthHint
 refine ZA (wpAny_specialOf hT2 F.slot_set_len.lookup ?_)
 have hsp:splitId "set.__len__"=some ("set","__len__"):=by kernel_rfl
 dsimp only
 rw[hsp]
 dsimp only
 refine ZA (wpAny_isInstance hT2 sub_set_self ?_)
 rw[if_neg (show ¬((!true)=true)from y7)]
 rw[if_pos]
 . refine ZA (wpAny_typeOf hT2 ?_)
   dsimp only
   refine ZB ?_
   rw[if_pos]
   . refine ZA (wpAny_rule ?_)
     refine ZA ?_
     show wpAny _ A.in1 (updateSeq s.heap.objs.size (·.push .none)>>=λ _=>updateSeq s.heap.objs.size (·.pop)) _ _ _
     refine ZA (wpAny_updateSeq hS₁ rfl ?_)
     have hS₂:=Heap.get?_update_self (Obj.mapSeq (·.push Value.none)) hS₁ rfl
     refine wpAny_updateSeq hS₂ rfl ?_
     have hS₃:=Heap.get?_update_self (Obj.mapSeq (·.pop)) hS₂ rfl
     have oth:∀b o,b≠s.heap.objs.size->((s.heap.push {cls:=.type "list",data:=.seq ([]:List Value).toArray}).push (cg w ps S es.length ep 0)).get? b=some o->
      ((((s.heap.push {cls:=.type "list",data:=.seq ([]:List Value).toArray}).push (cg w ps S es.length ep 0)).update s.heap.objs.size (Obj.mapSeq (·.push Value.none))).update s.heap.objs.size (Obj.mapSeq (·.pop))).get? b=some o:=
      λ b o hb e=>(Heap.get?_update_other _ _ (Ne.symm hb)).trans ((Heap.get?_update_other _ _ (Ne.symm hb)).trans e)
     have hSI:S≠s.heap.objs.size+1:=ZN (Nat.lt_succ_of_lt hS)
     have hLf:s.heap.objs.size∉[s.heap.objs.size+1,S]:=by
      intro z
      rcases ZJ.mp z with z | z
      . exact absurd z (ZN (Nat.lt_succ_self _))
      . exact hSL (ZL.mp z)
     have hn:es.length≤sizeLine:=by rw[←r.len];exact Nat.le_trans r.seven (by decide)
     rw[sz1]
     refine ZB ⟨plainId_quiet F.plain_extend_loop _,codeAny_extend_loopS (Ka (prog:=prog) (A:=A.in1) (by simpa using hh) (s.heap.objs.size+1) S hSI es ps ep r).toS hn _ hLf _ es.length 0 _ _ _ rfl (Nat.zero_le _)
      ⟨oth _ _ (Nat.ne_of_gt (Nat.lt_succ_self _)) hI2,oth _ _ hSL.symm ho2⟩ hS₃ (ItemsOf.nil _) λ s' acc' c' hm hS' hacc=>?_⟩
     show wpAny _ A (load s.heap.objs.size>>=_) _ _ s'
     refine ZA (wpAny_load hS' ?_)
     obtain⟨h',g',d',tk',os'⟩:=s'
     have eg:g'=s.gens:=hm.gens
     have ed:d'=s.drawn:=hm.drawn
     have eo:os'=s.os:=hm.os
     subst eg;subst ed;subst eo
     have eacc:acc'.toList=(bB w S ep es).toList.map (·.2):=by
      apply List.ext_getElem?
      intro j
      rw[y9,Array.getElem?_toList,Array.getElem?_toList]
      by_cases hj:j<es.length
      . have hj1:j<acc'.size:=by rw[hacc.1];exact hj
        obtain⟨e,he,hv⟩:=hacc.2 j acc'[j] (Array.getElem?_eq_getElem hj1)
        rw[Array.getElem?_eq_getElem hj1,he,←hv];rfl
      . rw[Array.getElem?_eq_none (by rw[hacc.1];omega),Array.getElem?_eq_none (by rw[lr w S ep r];omega)];rfl
     refine ZB ?_
     show Q acc'.toList _
     rw[eacc]
     refine h h' tk' (λ b o hb e=>?_) ?_
     . refine hm.heap b o ?_ (oth b o (ZN hb) (ZC _ (ZC _ e)))
       intro z
       rcases ZJ.mp z with z | z
       . exact absurd z (ZN hb)
       . exact absurd (ZL.mp z) (ZN (Nat.lt_succ_of_lt hb))
     . exact Nat.le_of_lt (ZE hS')
   . decide
 . decide
end
end RF
namespace RF
open PySem PySem.Spec L2 DL
open PyProof.Rows
theorem yK(fin:Bool):∀ns:List Int,ltF fin ns ns=fin
 | []=>rfl
 | n::ns=>by unfold ltF;rw[if_pos rfl];exact yK fin ns
theorem MN(ns:List Int):ltI ns ns=false:=by unfold ltI;rw[yK];simp
noncomputable def ltC(c d:Int×List Int):Bool:=if c.1=d.1 then ltI c.2 d.2 else decide (c.1<d.1)
section
variable {prog : Program} {w : World} {A : Around} {E : Value -> Shared -> Prop} {s : Shared}
theorem Qw{a b:Addr}{ns ms:List Int}{P:PySem.Fin->Shared->Prop}(hx:eO s.heap (.ref a) ns)(hy:eO s.heap (.ref b) ms)(h:P (.done (.ret (.bool (ltI ns ms)))) s):
 wpAny (model prog w) A (Builtin.«tuple.__lt__» ⟨[.ref a,.ref b],[]⟩) P E s:=by
 obtain⟨a',oa,xs,na,e,hoa,hca,hda,hia⟩:=hx
 cases e
 obtain⟨b',ob,ys,nb,e,hob,hcb,hdb,hib⟩:=hy
 cases e
 have hTb:s.TypeIs (.ref b) "tuple":=⟨ob,hob,hcb⟩
 show wpAny _ _ (isInstance (.ref b) (.type "tuple")>>=_) _ _ s
 refine ZA (wpAny_isInstance hTb isSubtype_tuple_tuple ?_)
 simp only[Bool.not_true,Bool.false_eq_true,if_false]
 refine ZA (wpAny_tupleItemsOf hoa hda ?_)
 refine ZA (wpAny_tupleItemsOf hob hdb ?_)
 refine ZA ?_
 have l1:xs.size=ns.length:=by rw[←Array.length_toList];exact hia.length
 have l2:ys.size=ms.length:=by rw[←Array.length_toList];exact hib.length
 refine wpAny_forIn_list _
  (λ rest r s'=>r.1=none/\s'=s/\∃ns' ms' xs' ys',rest=List.zip xs' ys'/\IntsAre xs' ns'/\IntsAre ys' ms'/\ltF (decide (ns.length<ms.length)) ns' ms'=ltI ns ms)
  _ ?_ ?_ _ _ ⟨rfl,rfl,ns,ms,xs.toList,ys.toList,rfl,hia,hib,rfl⟩
 . rintro⟨u,v⟩ rest r s' ⟨hr,rfl,ns',ms',xs',ys',hz,hx',hy',hdec⟩
   cases hx' with
   | nil=>simp at hz
   | @cons k1 t1 xs'' ns'' hx''=>
     cases hy' with
     | nil=>simp at hz
     | @cons k2 t2 ys'' ms'' hy''=>
       simp only[List.zip_cons_cons,List.cons.injEq,Prod.mk.injEq]at hz
       obtain⟨⟨rfl,rfl⟩,rfl⟩:=hz
       refine ZA (wpAny_eqBool_int ?_)
       unfold ltF at hdec
       by_cases hk:k1=k2
       . subst hk
         rw[beq_self_eq_true]
         simp only[Bool.not_true,Bool.false_eq_true,if_false]
         rw[if_pos rfl]at hdec
         exact ZB ⟨rfl,rfl,_,_,_,_,rfl,hx'',hy'',hdec⟩
       . rw[if_neg hk]at hdec
         rw[show(k1==k2)=false from by simpa using hk]
         simp only[Bool.not_false,if_true]
         rw[←hdec]at h
         refine ZA (wpAny_rule ?_)
         refine ZA (show wpAny _ _ (compareOp .Lt _ _) _ _ _ from wpAny_lt_int ?_)
         exact ZA (ZB (ZB (ZB h)))
 . rintro⟨r1,r2⟩ s' ⟨hr,rfl,ns',ms',xs',ys',hz,hx',hy',hdec⟩
   simp only at hr
   subst hr
   refine ZB ?_
   have hfin:decide (xs.size<ys.size)=ltI ns ms:=by
    rw[←hdec,l1,l2]
    cases hx' with
    | nil=>rfl
    | cons _ _ _=>
      cases hy' with
      | nil=>rfl
      | cons _ _ _=>simp at hz
   show P (.done (.ret (.bool (decide (xs.size<ys.size))))) s'
   rw[hfin];exact h
theorem Hj{u v:Value}{ns ms:List Int}{Q:Value->Shared->Prop}(hu:A.units<cLine)(hx:eO s.heap u ns)(hy:eO s.heap v ms)(h:Q (.bool (ltI ns ms)) s):wpAny (model prog w) A (compareOp .Lt u v) Q E s:=by
 obtain⟨a,oa,_,_,rfl,hoa,hca,_⟩:=id hx
 obtain⟨b,ob,_,_,rfl,hob,hcb,_⟩:=id hy
 exact wpAny_richCompare_same_room (op:=.Lt) ⟨oa,hoa,hca⟩ ⟨ob,hob,hcb⟩ F.slot_tuple_lt
  (ZP F.slot_tuple_lt ⟨oa,hoa,hca⟩ F.entry_tuple_lt (Qw hx hy ⟨_,rfl,(λ e=>nomatch e),h⟩) (F.args_tuple_lt_2 _ _)) hu
theorem TF{b:Bool}{v u:Value}{c d:Int×List Int}{Q:Bool->Shared->Prop}(hu:A.units+2<cLine)(hv:aZ s.heap v c)(hw:aZ s.heap u d)(h:Q (ltC c d) s):wpAny (model prog w) A (keyLt' (tuples' b) v u) Q E s:=by
 obtain⟨a,o,k,tk,x,rfl,ho,hc,hd,hx⟩:=hv
 obtain⟨a2,o2,k2,tk2,x2,rfl,ho2,hc2,hd2,hx2⟩:=hw
 refine PySem.W.kat_lt ho hd ho2 hd2 ?_
 show PySem.W.KatLex prog w A b _ Q [(Value.int c.1 tk,Value.int d.1 tk2),(x,x2)] 0 s
 refine PySem.W.kat_cons (wpAny_eqBool_int ?_)
 unfold ltC at h
 by_cases e:c.1=d.1
 . rw[e,beq_self_eq_true]
   rw[if_pos e]at h
   refine PySem.W.kat_yes (PySem.W.kat_cons (yX (by omega) hx hx2 prog w _ _ ?_))
   by_cases e2:c.2=d.2
   . rw[ZG e2]
     refine PySem.W.kat_yes (PySem.W.kat_nil ?_)
     rw[e2,MN]at h
     exact h
   . rw[ZH e2]
     refine PySem.W.kat_no ?_
     rw[show(b&&0+1==0)=false from by cases b<;>rfl]
     exact PySem.W.kat_one _ _ (Hj (by omega) hx hx2 h)
 . rw[show(c.1==d.1)=false from by simpa using e]
   rw[if_neg e]at h
   exact PySem.W.kat_no (PJ h)
noncomputable def jm:List Value->List (Int×List Int)->List Value
 | [v1,v2],[c1,c2]=>if ltC c2 c1=true then[v2,v1]else[v1,v2]
 | vs,_=>vs
theorem vU{a:Addr}{vs:List Value}{n:Nat}{cs:List (Int×List Int)}{P:PySem.Fin->Shared->Prop}(hu:A.units+2<cLine)(ho:s.heap.get? a=some (seqObj "list" vs.toArray n))
 (hl:vs.length=cs.length)(hr:∀(i:Nat)(v:Value)(c:Int×List Int),vs[i]? =some v->cs[i]? =some c->aZ s.heap v c)(hsm:vs.length≤2)
 (h:P (.done (.ret .none)) {s with heap:=sortedHeap s.heap a vs (jm vs cs).toArray}):
 wpAny (model prog w) A (Builtin.«list.sort» ⟨[.ref a],[]⟩) P E s:=by
 rw[list_sort_plain]
 have hla:a<s.heap.objs.size:=ZE ho
 have hsl:vs.length≤sizeLine:=Nat.le_trans hsm (by decide)
 refine ZA (listItems_at ho rfl ?_)
 refine ZA (listUpdate_at ho rfl ?_ (by rw[x6];exact hsl) (Nat.zero_le _))
 obtain⟨e1,ho1⟩:∃e1,(s.heap.update a (Obj.mapSeq λ _=>#[])).get? a=some (seqObj "list" #[] e1):=⟨_,get?_update_seq ho (λ _=>#[])⟩
 refine ZA (seqEpoch_at ho1 rfl ?_)
 refine ZA (wpAny_newTuple ?_ (by show vs.length≤_;exact hsl))
 refine ZA (wpAny_newList ?_ (Nat.zero_le _))
 refine ZQ ?_
 have ho6:(((s.heap.update a (Obj.mapSeq λ _=>#[])).push (seqObj "tuple" vs.toArray 0)).push (seqObj "list" #[] 0)).get? a=some (seqObj "list" #[] e1):=by
  rw[Heap.get?_push_ne _ _ _ (by rw[size_push',Heap.size_update];exact ZN (Nat.lt_succ_of_lt hla)),Heap.get?_push_ne _ _ _ (by rw[Heap.size_update];exact ZN hla)]
  exact ho1
 show wpAny (model prog w) A _ P E {s with heap:=((s.heap.update a (Obj.mapSeq λ _=>#[])).push (seqObj "tuple" vs.toArray 0)).push (seqObj "list" #[] 0)}
 dsimp only
 have hout:(vs.toArray.zip vs.toArray).map (·.2)=vs.toArray:=by
  apply Array.toList_inj.mp
  simp[List.map_snd_zip]
 have hr':∀(i:Nat)(v:Value)(c:Int×List Int),vs[i]? =some v->cs[i]? =some c->aZ (((s.heap.update a (Obj.mapSeq λ _=>#[])).push (seqObj "tuple" vs.toArray 0)).push (seqObj "list" #[] 0)) v c:=λ i v c q1 q2=>(hr i v c q1 q2).keep λ b o e c=>by
  have hba:b≠a:=by
   rintro rfl
   rw[ho]at e;cases e
   exact absurd (show Value.type "list"=Value.type "tuple" from c) (by decide)
  have hlb:b<s.heap.objs.size:=ZE e
  rw[Heap.get?_push_ne _ _ _ (by rw[size_push',Heap.size_update];exact ZN (Nat.lt_succ_of_lt hlb)),Heap.get?_push_ne _ _ _ (by rw[Heap.size_update];exact ZN hlb),Heap.get?_update_ne _ _ _ _ hba]
  exact e
 by_cases h2:vs.toArray.size<2
 . rw[if_pos h2,if_pos h2]
   refine ZA (ZB ?_)
   rw[StateT.run_pure]
   refine ZA (ZB ?_)
   dsimp only
   refine ZA (seqEpoch_at ho6 rfl ?_)
   rw[show arrOf (SortSt.mk' general' (vs.toArray.zip vs.toArray) #[] 7 none)=vs.toArray.zip vs.toArray from rfl,hout]
   refine ZA (listUpdate_at ho6 rfl ?_ (Nat.zero_le _) (by rw[x6];omega))
   simp only[bne_self_eq_false,Bool.false_eq_true,if_false]
   have es:jm vs cs=vs:=by
    match vs,cs,h2 with
    | [],_,_=>unfold jm;simp
    | [v],_,_=>unfold jm;simp
    | _::_::_,_,h2=>simp at h2;omega
   rw[es]at h
   exact ZB h
 . rw [if_neg h2,if_neg h2]
   obtain⟨v1,v2,c1,c2,rfl,rfl⟩:∃v1 v2 c1 c2,vs=[v1,v2]/\cs=[c1,c2]:=by
    match vs,cs,hl,hsm,h2 with
    | [v1,v2],[c1,c2],_,_,_=>exact⟨_,_,_,_,rfl,rfl⟩
    | [],_,_,_,h2=>simp at h2
    | [_],_,_,_,h2=>simp at h2
    | _::_::_::_,_,_,h,_=>simp at h
   have q1:=hr' 0 v1 c1 rfl rfl
   have q2:=hr' 1 v2 c2 rfl rfl
   have q1':=q1
   have q2':=q2
   obtain⟨b1,o1,k1,tk1,u1,rfl,g1,g2,g3,g4⟩:=q1'
   obtain⟨b2,o2,k2,tk2,u2,rfl,f1,f2,f3,f4⟩:=q2'
   refine ZA (PySem.W.kat_kind (T:=.type "int") (PySem.W.KatTups.cons (f:=.int c1.1 tk1) g1 g2 g3 rfl (PySem.W.KatTups.cons (f:=.int c2.1 tk2) f1 f2 f3 rfl PySem.W.KatTups.nil)) (Nat.succ_pos _) (λ v hv=>?_) (by decide) ?_)
   . rcases ZJ.mp hv with rfl | hv
     . exact .now
     . rcases ZJ.mp hv with rfl | hv
       . exact .now
       . cases hv
   have hw:(PySem.W.kas_sort 2).kasWp (PySem.W.kas_ask prog w A (tuples' (Value.type "int" !=Value.type "tuple")) [Value.ref b1,Value.ref b2]) (λ p s'=>s'={s with heap:=((s.heap.update a (Obj.mapSeq λ _=>#[])).push (seqObj "tuple" [Value.ref b1,Value.ref b2].toArray 0)).push (seqObj "list" #[] 0)}/\p=if ltC c2 c1=true then #[1,0]else #[0,1]) {s with heap:=((s.heap.update a (Obj.mapSeq λ _=>#[])).push (seqObj "tuple" [Value.ref b1,Value.ref b2].toArray 0)).push (seqObj "list" #[] 0)}:=by
    show PySem.W.kas_ask prog w A _ [Value.ref b1,Value.ref b2] 1 0 _ _
    unfold PySem.W.kas_ask
    refine TF (s:={s with heap:=((s.heap.update a (Obj.mapSeq λ _=>#[])).push (seqObj "tuple" [Value.ref b1,Value.ref b2].toArray 0)).push (seqObj "list" #[] 0)}) hu q2 q1 ?_
    cases hlt:ltC c2 c1 with
    | true=>exact⟨rfl,rfl⟩
    | false=>exact⟨rfl,rfl⟩
   refine ZA (wpAny_mono (PySem.W.kat_run (Q:=λ st' s'=>s'={s with heap:=((s.heap.update a (Obj.mapSeq λ _=>#[])).push (seqObj "tuple" [Value.ref b1,Value.ref b2].toArray 0)).push (seqObj "list" #[] 0)}/\failedOf st'=none/\(arrOf st').map (·.2)=(jm [Value.ref b1,Value.ref b2] [c1,c2]).toArray) rfl (x4 2) (by show 2<64;decide) (λ p st' s' a1 a2 a3 a4=>⟨a4.1,a3,?_⟩) hw) ?_ λ _ _ e=>e)
   . rw[PySem.W.kat_snds rfl a2,a4.2]
     show _=(if ltC c2 c1=true then[Value.ref b2,Value.ref b1]else[Value.ref b1,Value.ref b2]).toArray
     by_cases hlt:ltC c2 c1=true
     . rw[if_pos hlt,if_pos hlt];rfl
     . rw[if_neg hlt,if_neg hlt];rfl
   . rintro⟨⟨⟩,st'⟩ s' ⟨rfl,hf,hp⟩
     dsimp only
     refine ZA (seqEpoch_at ho6 rfl ?_)
     rw[hp]
     have hz:(jm [Value.ref b1,Value.ref b2] [c1,c2]).length=2:=by
      show(if ltC c2 c1=true then[Value.ref b2,Value.ref b1]else[Value.ref b1,Value.ref b2]).length=2
      split<;>rfl
     refine ZA (listUpdate_at ho6 rfl ?_ (Nat.zero_le _) (by rw[x6,hz];exact Nat.le_succ_of_le hsl))
     rw[hf]
     simp only[bne_self_eq_false,Bool.false_eq_true,if_false]
     exact ZB h
end
end RF
namespace RF
open PySem PySem.Spec L2 DL
open PyProof.Rows
theorem vz{f g:Bool}(hfg:f=true->g=false):∀{ns ms:List Int},ltF f ns ms=true->ltF g ms ns=false
 | [],[],h=>by unfold ltF at h ⊢;exact hfg h
 | [],_::_,h=>by unfold ltF at h ⊢;exact hfg h
 | _::_,[],h=>by unfold ltF at h ⊢;exact hfg h
 | n ::ns,m::ms,h=>by
   unfold ltF at h ⊢
   by_cases e:n=m
   . rw[if_pos e]at h;rw[if_pos e.symm];exact vz hfg h
   . rw[if_neg e]at h;rw[if_neg (λ z=>e z.symm)]
     have:=ZF h
     exact ZH (by omega)
theorem HR{ns ms:List Int}(h:ltI ns ms=true):ltI ms ns=false:=by
 unfold ltI at h ⊢
 exact vz (λ h1=>ZH (by have:=ZF h1;omega)) h
theorem vd{f g:Bool}:∀{ns ms:List Int},(ns.length<ms.length->f=true)->(ms.length<ns.length->g=true)->ltF f ns ms=false->ltF g ms ns=false->ns=ms
 | [],[],_,_,_,_=>rfl
 | [],_::_,hf,_,h,_=>by unfold ltF at h;rw[hf (by simp)]at h;cases h
 | _::_,[],_,hg,_,h=>by unfold ltF at h;rw[hg (by simp)]at h;cases h
 | n ::ns,m::ms,hf,hg,h1,h2=>by
   unfold ltF at h1 h2
   by_cases e:n=m
   . rw[if_pos e]at h1;rw[if_pos e.symm]at h2
     rw[e,vd (λ z=>hf (by simpa using z)) (λ z=>hg (by simpa using z)) h1 h2]
   . rw[if_neg e]at h1;rw[if_neg (λ z=>e z.symm)]at h2
     have a:=of_decide_eq_false h1
     have b:=of_decide_eq_false h2
     omega
theorem HX{ns ms:List Int}(h1:ltI ns ms=false)(h2:ltI ms ns=false):ns=ms:=by
 unfold ltI at h1 h2
 exact vd (λ h=>ZG h) (λ h=>ZG h) h1 h2
theorem Ht{c d:Int×List Int}(h:ltC c d=true):ltC d c=false:=by
 unfold ltC at h ⊢
 by_cases e:c.1=d.1
 . rw[if_pos e]at h;rw[if_pos e.symm];exact HR h
 . rw[if_neg e]at h;rw[if_neg (λ z=>e z.symm)]
   have:=ZF h
   exact ZH (by omega)
theorem Kp{c d:Int×List Int}(h1:ltC c d=false)(h2:ltC d c=false):c=d:=by
 unfold ltC at h1 h2
 by_cases e:c.1=d.1
 . rw[if_pos e]at h1;rw[if_pos e.symm]at h2
   exact Prod.ext e (HX h1 h2)
 . rw[if_neg e]at h1;rw[if_neg (λ z=>e z.symm)]at h2
   have a:=of_decide_eq_false h1
   have b:=of_decide_eq_false h2
   exact absurd (by omega) e
noncomputable def sset{α:Type}(f:α->Int×List Int):List α->List α
 | [x,y]=>if f y=f x then[x]else if ltC (f y) (f x)=true then[y,x]else[x,y]
 | xs=>xs
section
variable {prog : Program} {w : World} {A : Around} {E : Value -> Shared -> Prop} {s : Shared}
theorem Dc{S:Addr}{ep:Nat}{its:List Value}{cs:List (Int×List Int)}{es:List (Int×Value)}{ps:List Nat}(hl:its.length=cs.length)(h2:its.length≤2)(h:Lies prog w its cs its.length es ps):
 Rise es ps/\∃ds:List (Int×List Int),((bB w S ep es).toList.map (·.2)).length=ds.length/\(∀(i:Nat)(v:Value)(c:Int×List Int),((bB w S ep es).toList.map (·.2))[i]? =some v->ds[i]? =some c->(v,c)∈its.zip cs)/\
  jm ((bB w S ep es).toList.map (·.2)) ds=(sset (·.2) (its.zip cs)).map (·.1):=by
 match its,cs,hl,h2,h with
 | [],[],_,_,h=>
   obtain⟨rfl,rfl⟩:=h
   have r:Rise [] []:=⟨rfl,.inl rfl⟩
   refine⟨r,[],?_⟩
   rcases fX w S ep r with⟨_,h2⟩ | ⟨e,h1,_⟩ | ⟨e1,e2,h1,_⟩
   . rw[h2];exact⟨rfl,λ i v c e=>by simp at e,rfl⟩
   . cases h1
   . cases h1
 | [v],[c],_,_,h=>
   obtain⟨v',c',e1,e2,rfl,rfl⟩:=h
   cases e1;cases e2
   have r:Rise [(hC prog w c,v)] [SetTable.bits (hC prog w c) % 8]:=⟨rfl,.inr (.inl ⟨_,rfl⟩)⟩
   refine⟨r,[c],?_⟩
   rcases fX w S ep r with⟨h1,_⟩ | ⟨e,h1,h2⟩ | ⟨e1,e2,h1,_⟩
   . cases h1
   . cases h1
     rw[h2]
     refine⟨rfl,λ i v' c' e1 e2=>?_,rfl⟩
     match i with
     | 0=>simp at e1 e2;simp[e1,e2]
     | i+1=>simp at e1
   . cases h1
 | [v0, v], [c0,c],_,_,h=>
   obtain⟨v0',v',c0',c',e1,e2,h⟩:=h
   cases e1;cases e2
   rcases h with⟨rfl,rfl,rfl⟩ | ⟨nc,e1,e2,v1,v2,j1,j2,rfl,rfl,hj,h8,hv⟩
   . have r:Rise [(hC prog w c,v0)] [SetTable.bits (hC prog w c) % 8]:=⟨rfl,.inr (.inl ⟨_,rfl⟩)⟩
     refine⟨r,[c],?_⟩
     rcases fX w S ep r with⟨h1,_⟩ | ⟨e,h1,h2⟩ | ⟨e1,e2,h1,_⟩
     . cases h1
     . cases h1
       rw[h2]
       refine⟨rfl,λ i v' c' e1 e2=>?_,?_⟩
       . match i with
         | 0=>simp at e1 e2;simp[e1,e2]
         | i+1=>simp at e1
       . show[v0]=_
         simp[sset]
     . cases h1
   . have r :Rise [(e1,v1),(e2,v2)] [j1,j2]:=⟨rfl,.inr (.inr ⟨_,_,rfl,hj⟩)⟩
     refine⟨r,?_⟩
     have key:∀(x y:Value)(p q:Int×List Int),(bB w S ep [(e1,v1),(e2,v2)]).toList.map (·.2)=[x,y]->((x,p)=(v0,c0)/\(y,q)=(v,c)∨(x,p)=(v,c)/\(y,q)=(v0,c0))->
      ∃ ds:List (Int×List Int),((bB w S ep [(e1,v1),(e2,v2)]).toList.map (·.2)).length=ds.length/\(∀(i:Nat)(v':Value)(c':Int×List Int),((bB w S ep [(e1,v1),(e2,v2)]).toList.map (·.2))[i]? =some v'->ds[i]? =some c'->(v',c')∈[v0,v].zip [c0,c])/\
        jm ((bB w S ep [(e1,v1),(e2,v2)]).toList.map (·.2)) ds=(sset (·.2) ([v0,v].zip [c0,c])).map (·.1):=by
      intro x y p q hm hxy
      rw[hm]
      refine⟨[p,q],rfl,λ i v' c' g1 g2=>?_,?_⟩
      . match i with
        | 0=>
          simp at g1 g2;subst g1 g2
          rcases hxy with⟨a,b⟩ | ⟨a,b⟩<;>(rw[a];simp)
        | 1=>
          simp at g1 g2;subst g1 g2
          rcases hxy with⟨a,b⟩ | ⟨a,b⟩<;>(rw[b];simp)
        | i+2=>simp at g1
      . show(if ltC q p=true then[y,x]else[x,y])=(if c=c0 then[(v0,c0)]else if ltC c c0=true then[(v,c),(v0,c0)]else[(v0,c0),(v,c)]).map (·.1)
        rw[if_neg nc]
        rcases hxy with⟨a,b⟩ | ⟨a,b⟩
        . cases a;cases b
          split<;>rfl
        . cases a;cases b
          cases h1:ltC c0 c with
          | true=>rw[Ht h1];rfl
          | false=>
            cases h2:ltC c c0 with
            | true=>rfl
            | false=>exact absurd (Kp h2 h1) nc
     rcases fX w S ep r with⟨h1,_⟩ | ⟨e,h1,_⟩ | ⟨f1,f2,h1,h2⟩
     . cases h1
     . cases h1
     . cases h1
       rcases hv with⟨rfl,rfl⟩ | ⟨rfl,rfl⟩
       . rcases h2 with h2 | h2
         . exact key v1 v2 c0 c (by rw[h2];rfl) (.inl ⟨rfl,rfl⟩)
         . exact key v2 v1 c c0 (by rw[h2];rfl) (.inr ⟨rfl,rfl⟩)
       . rcases h2 with h2 | h2
         . exact key v1 v2 c c0 (by rw[h2];rfl) (.inr ⟨rfl,rfl⟩)
         . exact key v2 v1 c0 c (by rw[h2];rfl) (.inl ⟨rfl,rfl⟩)
 | _::_::_::_,_,_,h2,_=>simp at h2
theorem Gu{S:Addr}{vs:List Value}{cs:List (Int×List Int)}{es:List (Int×Value)}{ps:List Nat}{ep:Nat}{Q:Value->Shared->Prop}(hh:A.handled=none)(hu:A.units+8<cLine)(r:Rise es ps)(ho:s.heap.get? S=some (bL (dX w) es ps ep))
 (hvs:vs=(bB w S ep es).toList.map (·.2))(hl:vs.length=cs.length)(h2:vs.length≤2)(hc:∀(i:Nat)(v:Value)(c:Int×List Int),vs[i]? =some v->cs[i]? =some c->aZ s.heap v c)
 (h:∀h' tk a e,(∀b o,b<s.heap.objs.size->s.heap.get? b=some o->h'.get? b=some o)->s.heap.objs.size≤a->h'.get? a=some (seqObj "list" (jm vs cs).toArray e)->Q (.ref a) {s with heap:=h',toks:=tk}):
 wpAny (model prog w) A (call (.builtin "sorted") [.ref S]) Q E s:=by
 refine Calls.call_function_entry kind_sorted plain_sorted entry_sorted (args_sorted1 _) ?_
 unfold Builtin.«sorted»
 refine ZA (m:=checkCount "sorted" 1 1 _) (ZB ?_)
 refine ZA (Dg (by simpa using hh) r ho λ h' tk k1 k2=>?_)
 rw[←hvs]
 have hsl:vs.length≤sizeLine:=Nat.le_trans h2 (by decide)
 refine ZA (wpAny_newList ?_ hsl)
 have hoL:(h'.push (seqObj "list" vs.toArray 0)).get? h'.objs.size=some (seqObj "list" vs.toArray 0):=ZD _ rfl
 have keep:∀b o,s.heap.get? b=some o->(h'.push (seqObj "list" vs.toArray 0)).get? b=some o:=λ b o q=>ZC _ (k1 b o (ZE q) q)
 show wpAny _ _ _ _ _ {s with heap:=h'.push (seqObj "list" vs.toArray 0),toks:=tk}
 refine ZA (ZQ (ZP slot_list_sort ⟨_,hoL,rfl⟩ entry_list_sort (vU ?_ hoL hl (λ i v c e1 e2=>(hc i v c e1 e2).keep λ b o e _=>keep b o e) h2 ⟨_,rfl,?_⟩) (args_list_sort _)))
 . show A.units+1+1+2<cLine
   omega
 . obtain⟨e,he⟩:=sortedHeap_at (out:=(jm vs cs).toArray) hoL
   refine ZB ⟨_,rfl,h _ tk _ e (λ b o hb q=>?_) k2 he⟩
   have hlt:b<h'.objs.size:=ZM hb k2
   rw[sortedHeap_old (ZN hlt) (by rw[size_push'];exact Nat.lt_succ_of_lt hlt)]
   exact keep b o q
end
end RF
namespace RF
open PySem PySem.Spec L2 DL
open PyProof.Rows
noncomputable def cD(c:Int×List Int):D:=.tup [.int c.1,.tup (c.2.map .int)]
section
variable {X : Cx}
theorem Rg {pins:List (Addr×Obj)}{σ:DL.St}{H:Hp}{s:Shared}{O:Own}(I:Inv X pins σ H s){y:V}{u:Value}{c:Int×List Int}(r:Rep X.K O H y (cD c))(ru:RelV y u):aZ s.heap u c:=by
 unfold cD at r
 cases r with
 | @tup a xs _ h1 q1=>
   cases ru
   obtain⟨js,rv,⟨o,p1,p2,n,p3⟩,hz⟩:=I.tuple h1.sq
   cases q1 with
   | cons r1 t1=>
     cases t1 with
     | cons r2 t2=>
       cases t2
       cases rv with
       | cons a1 b1=>
         cases b1 with
         | cons a2 b2=>
           cases b2
           cases r1
           obtain⟨tk,rfl⟩:=a1
           cases r2 with
           | @tup a' xs' _ h1' q1'=>
             cases a2
             obtain⟨js',rv',⟨o',p1',p2',n',p3'⟩,hz'⟩:=I.tuple h1'.sq
             have ex:=q1'.ints
             subst ex
             exact⟨a,o,n,tk,_,rfl,p1,p2,p3,_,o',_,n',rfl,p1',p2',p3',intsAre_of rv'⟩
theorem JG {K :PySem.W.Frag}{O:Own}{H:Hp}{cs:List (Int×List Int)}{its:List Value}{xs:List V}(h2:cs.length≤2)(rv:Vals xs its)(hq:Reps K O H xs (cs.map cD)):
 ∃ys,Vals ys ((sset (·.2) (its.zip cs)).map (·.1))/\Reps K O H ys ((sset id cs).map cD)/\ys.length≤2:=by
 rcases cs with _ | ⟨c0,_ | ⟨c,_ | ⟨c',cs⟩⟩⟩
 . cases hq;cases rv;exact⟨[],.nil,.nil,Nat.zero_le _⟩
 . cases hq with
   | cons b1 t=>
     cases t
     cases rv with
     | cons a1 t=>
       cases t
       exact⟨[_],.cons a1 .nil,.cons b1 .nil,Nat.le_succ _⟩
 . cases hq with
   | cons b1 t=>
     cases t with
     | cons b2 t=>
       cases t
       cases rv with
       | cons a1 t=>
         cases t with
         | cons a2 t=>
           cases t
           rename_i y0 y x0 x
           have key:∃ys,Vals ys ((if c=c0 then[(x0,c0)]else if ltC c c0=true then[(x,c),(x0,c0)]else[(x0,c0),(x,c)]).map (·.1))/\Reps K O H ys ((if c=c0 then[c0]else if ltC c c0=true then[c,c0]else[c0,c]).map cD)/\ys.length≤2:=by
            by_cases e1:c=c0
            . rw[if_pos e1,if_pos e1];exact⟨[y0],.cons a1 .nil,.cons b1 .nil,Nat.le_succ _⟩
            . rw[if_neg e1,if_neg e1]
              by_cases e2:ltC c c0=true
              . rw[if_pos e2,if_pos e2];exact⟨[y,y0],.cons a2 (.cons a1 .nil),.cons b2 (.cons b1 .nil),x4 _⟩
              . rw[if_neg e2,if_neg e2];exact⟨[y0,y],.cons a1 (.cons a2 .nil),.cons b1 (.cons b2 .nil),x4 _⟩
           exact key
 . simp at h2
theorem CP{cs:List (Int×List Int)}{S:Store}{W:WD}{d:D}(hc:X.calm=true)(hu:X.A.units+60<cLine)(h2:cs.length≤2)(hd:d=.lst (cs.map cD)∨∃k,d=.loc k/\S[k]? =some (cs.map cD))
 (w:∀(O:Own)(H:Hp)(p:Addr)(ys:List V),StOk X.K O H S->H p=none->Reps X.K O H ys ((sset id cs).map cD)->QG X.K O H W (.ref p) (upd H p (.lst ys)))
 {pins:Pins}{s:Shared}{σ:DL.St}{H:Hp}{O:Own}{v:V}{u:Value}(I:Inv X pins σ H s)(st:StOk X.K O H S)(r':Rep X.K O H v d)(ru':RelV v u):
 wpAny (model X.prog X.w) X.A (call (.type "set") [u]) (λ u1 s1=>wpAny (model X.prog X.w) X.A (call (.builtin "sorted") [u1]) (EP X pins σ (QG X.K O H W)) X.xe s1) X.xe s:=by
 have main:∀(a:Addr)(xs:List V),v=.ref a->SqL X.K H a xs->Reps X.K O H xs (cs.map cD)->wpAny (model X.prog X.w) X.A (call (.type "set") [u]) (λ u1 s1=>wpAny (model X.prog X.w) X.A (call (.builtin "sorted") [u1]) (EP X pins σ (QG X.K O H W)) X.xe s1) X.xe s:=by
  rintro a xs rfl hs hq
  cases ru'
  obtain⟨its,rv,pl,hz⟩:=I.list hs
  have l1:xs.length=cs.length:=by rw[hq.length,y8]
  have l2:its.length=cs.length:=by rw[←rv.length,l1]
  have cel:∀(i:Nat)(x:Value)(c:Int×List Int),its[i]? =some x->cs[i]? =some c->aZ s.heap x c:=by
   intro i x c e1 e2
   have e3:(cs.map cD)[i]? =some (cD c):=by rw[y9,e2];rfl
   obtain⟨y,hy,ry⟩:=hq.get e3
   obtain⟨x',hx',rx⟩:=rn rv hy
   rw[e1]at hx';cases hx'
   exact Rg I ry rx
  refine zF (I.ok.hd hc) (by omega) pl.isList l2 cel (by omega) λ h1 tk es ps ep g1 lies k1=>?_
  obtain⟨rise,ds,m1,m2,m3⟩:=Dc (S:=s.heap.objs.size) (ep:=ep) l2 (by omega) lies
  have hlt:∀b o,s.heap.get? b=some o->h1.get? b=some o:=λ b o e=>k1 b o (ZE e) e
  have sz1:s.heap.objs.size≤h1.objs.size:=Nat.le_of_lt (ZE g1)
  have m4:((bB X.w s.heap.objs.size ep es).toList.map (·.2)).length≤2:=by
   rw[y8,Array.length_toList,lr _ _ _ rise]
   rcases rise.sh with e | ⟨j,e⟩ | ⟨j,k,e,_⟩<;>(have:=rise.len;rw[e]at this;simp at this;omega)
  refine Gu (s:={s with heap:=h1,toks:=tk}) (I.ok.hd hc) (by omega) rise g1 rfl m1 m4 (λ i x c e1 e2=>?_) λ h2' tk2 p e k2 hp he=>?_
  . have hm:=m2 i x c e1 e2
    obtain⟨j,hj⟩:=ZR hm
    rw[List.getElem?_zip_eq_some]at hj
    exact(cel j x c hj.1 hj.2).keep λ b o e _=>hlt b o e
  . rw[m3]at he
    have hp':s.heap.objs.size≤p:=Nat.le_trans sz1 hp
    have hpn:H p=none:=I.hok.fresh hp'
    obtain⟨ys,vy,ry,ly⟩:=JG h2 rv hq
    have hys:ys.length≤sizeLine:=Nat.le_trans ly (by decide)
    refine⟨.ref p,_,I.laid (t':=tk2) (λ b o q=>k2 b o (ZM (ZE q) sz1) (hlt b o q)) hp' (show bh X.prog X.w _ _ _ (.lst ys)from⟨hys,_,e,vy,he⟩),rfl,w O H p ys st hpn ry⟩
 rcases hd with rfl | ⟨k,rfl,hk⟩
 . cases r' with
   | @lst a xs _ h1 q1=>exact main a xs rfl h1.sq q1
 . cases r' with
   | @loc p _ h1=>
     obtain⟨xs,hx,q1⟩:=st.obj k p _ h1 hk
     exact main p xs rfl (SqL.of hx) q1
end
end RF
namespace RF
open PySem PySem.Spec L2 DL
open PyProof.Rows
section
variable {Ω : Wd}
noncomputable def Te.lval(a:Ex Ω):Te Ω where
 lev:=a.lev
 chk top N nm e:=Ml e&&a.chk top N nm e
 wp Γ S W:=a.wp Γ S λ d S1=>∃ds,vw S1 d=.lst ds/\(d=.lst ds∨∃k,d=.loc k/\S1[k]? =some ds)/\ds.length≤1000000/\W (!ds.isEmpty) S1
 sound:=by
  intro X r top N nm e Γ S W A hl hc hw
  obtain⟨h1,h2⟩:=aa hc
  intro pins s σ H O I env st
  refine isTrue_plain (thn (a.sound A hl h2 hw pins s σ H O I env st) λ u s3 hq_=>?_) (Hx h1 _ _)
  obtain⟨z,H3,I3,r3,O3,d,S3,⟨ds,_,hd,hz,wc⟩,st3,ok3,rep3⟩:=hq_
  have main:∀(p:Addr)(xs:List V),z=.ref p->SqL X.K H3 p xs->xs.length=ds.length->wpAny (model X.prog X.w) X.A (truthy u) (TP X pins σ (QT X.K O H W)) X.xe s3:=by
   rintro p xs rfl hs hlen
   cases r3
   obtain⟨its,rv,pl,hzz⟩:=I3.list hs
   have hl2:its.length=ds.length:=by rw[←rv.length,hlen]
   refine wpAny_truthy_list pl.isList (by rw[x6];omega) ?_
   have e:(!its.toArray.isEmpty)= !ds.isEmpty:=by
    cases its with
    | nil=>cases ds with
      | nil=>rfl
      | cons _ _=>simp at hl2
    | cons _ _=>cases ds with
      | nil=>simp at hl2
      | cons _ _=>rfl
   rw[e]
   exact⟨H3,I3.tok _,O3,S3,wc,st3,ok3⟩
  rcases hd with rfl | ⟨k,rfl,hk⟩
  . cases rep3 with
    | @lst p xs _ g1 q1=>exact main p xs rfl g1.sq q1.length
  . cases rep3 with
    | @loc p _ g1=>
      obtain⟨xs,hx,q1⟩:=ok3.obj k p _ g1 hk
      exact main p xs rfl (SqL.of hx) q1.length
end
section
variable {Ω : Wd}
noncomputable def Ex.ssetO(hm:Ω.mg "sorted"=none)(hm2:Ω.mg "set"=none)(a:Ex Ω):Ex Ω where
 lev:=a.lev
 chk top N nm e:=match e with
  | .Call (.Name y _) [.Call (.Name z _) [b] [] _] [] _=>(y=="sorted")&&((z=="set")&&(glb nm "sorted"&&(glb nm "set"&&(okE b&&a.chk top N nm b))))
  | _=>false
 wp Γ S W:=a.wp Γ S λ d S1=>∃cs:List (Int×List Int),cs.length≤2/\(d=.lst (cs.map cD)∨∃k,d=.loc k/\S1[k]? =some (cs.map cD))/\W (.loc S1.length) (S1++[(RF.sset id cs).map cD])
 sound:=by
  intro X r top N nm e Γ S W A hl hc hw
  split at hc
  . rename_i y p z p' b pos' pos
    obtain⟨h1,hc⟩:=aa hc
    obtain⟨h2,hc⟩:=aa hc
    obtain⟨h3,hc⟩:=aa hc
    obtain⟨h4,hc⟩:=aa hc
    obtain⟨h5,h6⟩:=aa hc
    have e1:=ZI h1
    have e2:=ZI h2
    subst e1 e2
    intro pins s σ H O I env st
    refine wpAny_Call_Name_kw (bJ I (A.glb h3) (by rw[A.g];exact hm) (show bootBuiltins "sorted"=some (.builtin "sorted")from by decide+kernel) ?_ (by decide) (by decide))
    refine PyProof.Rows.callWith_builtin1 ?_ rfl rfl
    show wpAny _ _ (spliced ((false,eval _ X.env)::backTo pos (starEach [] X.env))) _ _ s
    refine Calls.spliced_cons ?_
    refine wpAny_Call_Name_kw (bJ I (A.glb h4) (by rw[A.g];exact hm2) (show bootBuiltins "set"=some (.type "set")from by decide+kernel) ?_ (by decide) (by decide))
    refine PyProof.Rows.callWith_type1 ?_ (aB h5 _ _) rfl
    rw[aB h5 [] X.env]
    show wpAny _ _ (spliced ((false,eval b X.env)::backTo pos' (starEach [] X.env))) _ _ s
    refine Calls.spliced_cons (thn (a.sound A hl h6 hw pins s σ H O I env st) λ u s1 hq_=>?_)
    obtain⟨v,H1,I1,r1,O1,x,S1,hb,st1,ok1,rep1⟩:=hq_
    obtain⟨cs,c1,c2,c3⟩:=hb
    refine Calls.spliced_nil ?_
    refine thn (CP (W:=W) A.calm A.hu c1 c2 (λ O H p ys st hp r=>jQ c3 st hp r) I1 ok1 rep1 r1) λ u2 s2 q=>?_
    refine Calls.spliced_nil ?_
    exact thn q λ _ _ q=>cH st1 q
  . exact fE hc
end
mutual
noncomputable def vwD(S:Store):D->D
 | .loc k=>match S[k]? with | some ds=>.lst ds | none=>.loc k
 | .tup ds=>.tup (fL S ds)
 | .lst ds=>.lst (fL S ds)
 | d=>d
noncomputable def fL(S:Store):List D->List D
 | []=>[]
 | d::ds=>vwD S d::fL S ds
end
noncomputable def vwT(S:Store):D->D
 | .loc k=>match S[k]? with | some ds=>.lst (fL S ds) | none=>.loc k
 | d=>vwD S d
mutual
theorem eU{K:PySem.W.Frag}{O:Own}{H:Hp}{S:Store}(st:StOk K O H S):∀{v:V}{x:D},Rep K O H v x->okD (vwD S x)=true->Sn K H v (vwD S x)
 | _,_,.non,_=>by simp only[vwD];exact .non
 | _,_,.bl b,_=>by simp only[vwD];exact .bl b
 | _,_,.int i,_=>by simp only[vwD];exact .int i
 | _,_,.str i,_=>by simp only[vwD];exact .str i
 | _,_,.tup h1 q1,h=>by simp only[vwD,okD]at h ⊢;exact .tup h1.sq (oV st q1 h)
 | _,_,.lst h1 q1,h=>by simp only[vwD,okD]at h ⊢;exact .lst h1.sq (oV st q1 h)
 | _,_,.loc (a:=a) (k:=k) hk,h=>by
   have hl:k<S.length:=by rw[←st.len];exact(y3.mp hk).1
   obtain⟨xs,hx,q⟩:=st.obj k a S[k] hk (y4 hl)
   have e:vwD S (.loc k)=.lst S[k]:=by simp only[vwD];rw[y4 hl]
   rw[e]at h ⊢
   exact .lst (SqL.of hx) (jC (by simpa[okD]using h) q)
 | _,_,.dic h1 e1,h=>by simp[vwD,okD]at h
 | _,_,.dlo h1,h=>by simp[vwD,okD]at h
theorem oV{K:PySem.W.Frag}{O:Own}{H:Hp}{S:Store}(st:StOk K O H S):∀{vs:List V}{xs:List D},Reps K O H vs xs->bN (fL S xs)=true->Sns K H vs (fL S xs)
 | _,_,.nil,_=>by simp only[fL];exact .nil
 | _,_,.cons r t,h=>by
   simp only[fL,bN,Bool.and_eq_true]at h ⊢
   exact .cons (eU st r h.1) (oV st t h.2)
end
theorem Jz{K:PySem.W.Frag}{O:Own}{H:Hp}{S:Store}{v:V}{x:D}(st:StOk K O H S)(r:Rep K O H v x)(h:okD (vwT S x)=true):Sn K H v (vwT S x):=by
 cases r with
 | @loc a k hk=>
   have hl:k<S.length:=by rw[←st.len];exact(y3.mp hk).1
   obtain⟨xs,hx,q⟩:=st.obj k a S[k] hk (y4 hl)
   have e:vwT S (.loc k)=.lst (fL S S[k]):=by simp only[vwT];rw[y4 hl]
   rw[e]at h ⊢
   exact .lst (SqL.of hx) (oV st q (by simpa[okD]using h))
 | non=>exact eU st .non h
 | bl b=>exact eU st (.bl b) h
 | int i=>exact eU st (.int i) h
 | str i=>exact eU st (.str i) h
 | tup h1 q1=>exact eU st (.tup h1 q1) h
 | lst h1 q1=>exact eU st (.lst h1 q1) h
 | dic h1 e1=>exact eU st (.dic h1 e1) h
 | dlo h1=>exact eU st (.dlo h1) h
end RF
namespace RF
open PySem PySem.Spec L2 DL
open PyProof.Rows
section
variable {X : Cx}
theorem Jy{Γ:Gam}{S:Store}{o e:Expr}{es:List Expr}{name:Str}{id:String}{r:V->List V->Hp->VK->Prop}{apos cpos:Pos}{W:WD}(slot:Slot "list" name id)(hty:typeOf (.builtin id)=pure (.type "method_descriptor"))(hm:MtM X id r)(hmo:∀{x:V}{vs:List V}{H:Hp}{Q Q':VK},r x vs H Q->(∀v H',Q v H'->Q' v H')->r x vs H Q')
 (h:Ev X Γ S o λ x S1=>∃k,x=.loc k/\EvA X Γ S1 (e::es) λ ds S2=>∃ds0,S2[k]? =some ds0/\∀(O:Own)(H:Hp)(a:Addr)(xs vs:List V),O.A[k]? =some (a,false)->H a=some (.lst xs)->Reps X.K O H xs ds0->Reps X.K O H vs ds->StOk X.K O H S2->r (.ref a) vs H (QG X.K O H W))
 (hbase:attributeBase o name X.env (eval o X.env)=eval o X.env)
 (hfew:((backTo cpos (starEach (e::es) X.env)).all (λ x=>!x.1)&&(backToKw cpos (keywordEach [] X.env)).all (λ x=>x.1.isSome)
  &&decide ((e::es).length+([]:List Keyword).length+(if([]:List Keyword).isEmpty then 0 else 1)<30))=true)
 (hline:(apos.endLine==cpos.line)=true)(hs:starEach (e::es) X.env=(false,eval e X.env)::starEach es X.env)(hplain:(backTo cpos (starEach es X.env)).any (·.1)=false):Ev X Γ S (.Call (.Attribute o name apos) (e::es) [] cpos) W:=by
 intro pins s σ H O I env st
 have hty':∀(O1:Own)(x:D)(v:V)(H1:Hp)(S1:Store),(∃k,x=.loc k)->StOk X.K O1 H1 S1->Rep X.K O1 H1 v x->tyV X.K "list" v H1:=by
  rintro O1 x v H1 S1 ⟨k,rfl⟩ ok r
  cases r with
  | @loc a _ ha=>
    have hl:k<S1.length:=by rw[←ok.len];exact(y3.mp ha).1
    obtain⟨xs,hx,_⟩:=ok.obj k a S1[k] ha (y4 hl)
    exact .inl ⟨rfl,xs,SqL.of hx⟩
 have hA:PA X (e::es) (λ σ H Q=>∃O Γ S W',EnvOk X.K O H σ Γ/\StOk X.K O H S/\EvA X Γ S (e::es) W'/\∀vs H',QA X.K O H W' vs H'->Q vs H'):=by
  rintro pos pins s σ H Q I ⟨O,Γ,S,W',env,st,he,k⟩
  exact thn (he pos pins s σ H O I env st) λ us s1 ⟨vs,H1,I1,r1,q⟩=>⟨vs,H1,I1,r1,k vs H1 q⟩
 refine Oa (T:="list") PySem.F.plainAttrs_list slot hty hm (h.pe) hA hbase hfew hline hs hplain pins s σ H _ I ⟨O,env,st,λ v H' q=>?_⟩
 obtain⟨O1,x,S1,⟨k,rfl,he⟩,st1,ok1,rep1⟩:=q
 refine⟨hty' O1 _ v H' S1 ⟨k,rfl⟩ ok1 rep1,O1,Γ,S1,_,env.mono st1,ok1,he,λ vs H2 q2=>?_⟩
 obtain⟨O2,ds,S2,⟨ds0,hk,w⟩,st2,ok2,rep2⟩:=q2
 have r':=rep1.mono st2
 cases r' with
 | @loc a _ ha=>
   obtain⟨xs,hx,q1⟩:=ok2.obj k a ds0 ha hk
   exact hmo (w O2 H2 a xs vs ha hx q1 rep2 ok2) λ v' H3 q3=>q3.pre (st1.trans st2)
end
section
variable {Ω : Wd}
theorem Tc{e:Expr}{env:Env}{cpos:Pos}(h:okE e=true):((backTo cpos (starEach [e] env)).all (λ x=>!x.1)&&(backToKw cpos (keywordEach [] env)).all (λ x=>x.1.isSome)
 &&decide ([e].length+([]:List Keyword).length+(if([]:List Keyword).isEmpty then 0 else 1)<30))=true:=by
 rw[aB h [] env];rfl
end
end RF
namespace RF
open PySem PySem.Spec L2 DL
open PyProof.Rows
theorem yE(l:Addr)(items:Array Value)(n:Nat)(b:Addr)(items2:Array Value)(n2:Nat)(dd2:Option Addr)(sl2:Array (Option Value))(hc0:¬(!items.isEmpty&&Builtin.List.listTooLong (items.size+items2.size))=true)(hc1:items.size≤sizeLine)(hs2:items.size+items2.size≤sizeLine+1):
 Meets (Builtin.«list.extend» ⟨[.ref l,.ref b],[]⟩) (λ _ R s=>s.heap.get? l=some {cls:=.type "list",dict:=none,data:=.seq items n,slots:=#[]}/\s.heap.get? b=some {cls:=.type "list",dict:=dd2,data:=.seq items2 n2,slots:=sl2}/\R (.ok (.ret Value.none)) {s with heap:=s.heap.update l (Obj.mapSeq λ x=>x++items2),toks:=s.toks}):=
 .of_wp λ prog w A R s h=>by
  obtain⟨hp,g,d,tk,os⟩:=s;obtain⟨hl,hb,h⟩:=h;have f1:=AutoSeq1.idx_int;have f2:=AutoSeq1.sub_tuple_tuple;have f3:=AutoSeq1.sub_list_list;have f4:=AutoSeq1.sub_tuple_list;have f5:=AutoSeq1.sub_list_tuple;
  have hz':(items++items2).size≤sizeLine+1:=by rw[Array.size_append];exact hs2
  wp_walk using(wpAny_updateSeq hl rfl (hz:=hc1) (_hz':=hz')),AutoSeq1.wpAny_loadPart' hl,AutoSeq1.wpAny_loadPart' hb;exact⟨_,rfl,h⟩
noncomputable def FN(K:PySem.W.Frag):V->List V->Hp->VK->Prop:=λ x vs H Q=>∃l b xs zs,x=.ref l/\vs=[.ref b]/\H l=some (.lst xs)/\SqL K H b zs/\xs.length+zs.length≤sizeLine/\Q .non (upd H l (.lst (xs++zs)))
theorem Gn{K:PySem.W.Frag}{x:V}{vs:List V}{H:Hp}{Q Q':VK}(h:FN K x vs H Q)(k:∀v H',Q v H'->Q' v H'):FN K x vs H Q':=by
 obtain⟨l,b,xs,zs,e1,e2,e3,e4,e5,q⟩:=h
 exact⟨l,b,xs,zs,e1,e2,e3,e4,e5,k _ _ q⟩
section
variable {X : Cx}
theorem Ha:MtM X "list.extend" (FN X.K):=by
 intro pins s σ H x vs v us Q I rx rv h
 obtain⟨l,b,xs,zs,rfl,rfl,hH,hB,hz,q⟩:=h
 cases rx
 obtain⟨u,rfl,ru⟩:=rv.one
 cases ru
 obtain⟨z,its,n,r,hl,e⟩:=I.lstM hH
 obtain⟨its2,r2,p2,z2⟩:=I.list hB
 obtain⟨⟨cls2,dd2,data2,sl2⟩,n2,ho2,hc2,hdd2,hd2⟩:=id p2
 simp only at hc2 hd2
 subst hc2 hd2
 have l1:=r.length
 have l2:=r2.length
 have hsz:its.toArray.size+its2.toArray.size≤sizeLine:=by rw[x6,x6];omega
 have hlong:¬(!its.toArray.isEmpty&&Builtin.List.listTooLong (its.toArray.size+its2.toArray.size))=true:=by
  rw[M9 hsz,Bool.and_false]
  exact y7
 refine call_meets F.slot_list_extend ⟨_,e,rfl⟩ F.entry_list_extend (F.args_list_extend_2 _ _)
  (yE l its.toArray n b its2.toArray n2 dd2 sl2 hlong (by rw[x6];omega) (by omega)) ⟨e,ho2,?_⟩
 refine⟨.non,_,I.lset (its':=its++its2) hH e (by simp) (r.append r2) ?_,rfl,q⟩
 rw[x9]
 omega
end
section
variable {Ω : Wd}
noncomputable def Ex.m_extend(o a:Ex Ω):Ex Ω where
 lev:=max o.lev a.lev
 chk top N nm e:=match e with | .Call (.Attribute x m p) [y] [] q=>(m==("extend":Str))&&(nameE x&&((p.endLine==q.line)&&(okE y&&(o.chk top N nm x&&a.chk top N nm y)))) | _=>false
 wp Γ S W:=o.wp Γ S λ x S1=>match x with | .loc k=>a.wp Γ S1 λ d S2=>∃ds es,S2[k]? =some ds/\dR S2 d=some es/\ds.length+es.length≤1000000/\W .non (S2.set k (ds++es)) | _=>False
 sound:=by
  intro X r top N nm e Γ S W A hl hc hw
  obtain⟨l1,l2⟩:=lv2 hl
  split at hc
  . rename_i x m p y q
    obtain⟨h1,g⟩:=aa hc
    obtain⟨h2,g⟩:=aa g
    obtain⟨h3,g⟩:=aa g
    obtain⟨h4,g⟩:=aa g
    obtain⟨h5,h6⟩:=aa g
    have e:=ZI h1
    subst e
    refine Jy F.slot_list_extend F.type_list_extend Ha Gn ((o.sound A l1 h5 hw).mono λ x S1 q=>?_) ?_ (Tc h4) h3 (aB h4 _ _) rfl
    . cases x<;>first | exact q.elim | skip
      refine⟨_,rfl,bI ((a.sound A l2 h6 q).mono λ d S2 q=>d8 ?_) (aB h4 _ _)⟩
      obtain⟨ds,es,hk,he,hz,w⟩:=q
      refine⟨ds,hk,λ O H a xs vs ha hx rx rv st=>?_⟩
      cases rv with
      | cons r1 t=>
        cases t
        have key:∀v,Rep X.K O H v d->∃b zs,v=.ref b/\SqL X.K H b zs/\Reps X.K O H zs es:=by
         intro v r1
         cases r1 with
         | @lst b zs _ g1 q1=>cases he;exact⟨b,zs,rfl,g1.sq,q1⟩
         | @loc b j g1=>
           obtain⟨zs,hz',q1⟩:=st.obj j b es g1 he
           exact⟨b,zs,rfl,SqL.of hz',q1⟩
         | _=>cases he
        obtain⟨b,zs,rfl,hb,rz⟩:=key _ r1
        refine⟨a,b,xs,zs,rfl,rfl,hx,hb,by rw[rx.length,rz.length];exact small hz,O,.non,_,w,Step.put (bW ha) _,?_,.non⟩
        exact st.put ha (rx.append rz)
    . cases x<;>first | rfl | exact ff h2
  . exact ff hc
end
theorem uV{zs:Array (Int×Tok)}{its:List Value}{ns:List Int}(ez:its.toArray=intItems zs)(hi:IntsAre its ns){j:Nat}(hj:j<zs.size):ns.length=zs.size/\ns[j]? =some (numAt zs j):=by
 have e1:its=(intItems zs).toList:=by rw[←ez]
 have e2:ns=zs.toList.map (·.1):=by rw[←nums_intItems,←e1];exact hi.numsOf.symm
 refine⟨by rw[e2];simp,?_⟩
 rw[e2,y9]
 unfold numAt
 simp[hj]
section
variable {X : Cx} {S : Store} {W : WD}
theorem Rk{ns:List Int}{d:D}(hne:ns≠[])(hd:dR S d=some (ns.map .int))(w:∀M∈ns,(∀x∈ns,M≤x)->W (.int M) S)(hc:X.calm=true):cG X (.builtin "min") [d] S W:=by
 intro pins s σ H O vs us I st r ru
 obtain⟨v,rfl,r'⟩:=b8 r
 obtain⟨u,rfl,ru'⟩:=vals1 ru
 obtain⟨a,xs,rfl,hs,hq⟩:=oK (pins:=pins) (s:=s) (σ:=σ) st r' hd
 cases ru'
 obtain⟨its,rv,pl,hz⟩:=I.list hs
 have ex:=hq.ints
 subst ex
 have hi:IntsAre its ns:=intsAre_of rv
 obtain⟨zs,ez⟩:=hi.allInts.items
 have hL:=pl.isList
 rw[ez]at hL
 have hpos:0<zs.size:=by
  rcases Nat.eq_zero_or_pos zs.size with h0 | h0
  . exfalso
    have e2:ns=zs.toList.map (·.1):=by rw[←nums_intItems,←ez];exact hi.numsOf.symm
    have:zs=#[]:=Array.eq_empty_of_size_eq_zero h0
    subst this
    exact hne (by simpa using e2)
  . exact h0
 refine min_intList (I.ok.hd hc) hL hpos λ v h' tk hv hk=>?_
 obtain⟨t,rfl⟩:=intItems_at hv
 have hb:=argBest_lt (numAt zs) (zs.size-1)
 have g:=uV ez hi (j:=argBest (λ i j=>decide (numAt zs i<numAt zs j)) (zs.size-1)) (by omega)
 refine⟨.int _,H,I.kept hk,⟨_,rfl⟩,QG.here (w _ (y6 g.2) λ x hx=>?_) st (.int _)⟩
 obtain⟨j,hj⟩:=ZR hx
 have hjl:j<zs.size:=by rw[←g.1];exact(y3.mp hj).1
 have g2:=(uV ez hi hjl).2
 rw[hj]at g2
 cases g2
 exact hb.2 j (by omega)
end
noncomputable def UJ:Bf where
 x:="min"
 id:="min"
 boot:=by decide+kernel
 wp ds S W:=∃(ns:List Int) (d:D),ds=[d]/\ns≠[]/\dR S d=some (ns.map .int)/\∀M∈ns,(∀x∈ns,M≤x)->W (.int M) S
 sound:=by
  rintro X ds S W hc hr ⟨ns,d,rfl,h1,h2,h3⟩
  exact Rk h1 h2 h3 hc
end RF
namespace RF
open PySem PySem.Spec L2 DL
open PyProof.Rows
section
variable {prog : Program} {w : World} {A : Around} {E : Value -> Shared -> Prop} {s : Shared}
theorem QD(n:Nat):Builtin.Slice.sliceAdjust none none (-1) (n:Int)=((n:Int)-1,-1):=by
 unfold Builtin.Slice.sliceAdjust
 simp
theorem G7(n:Nat):Builtin.Slice.slicePlaces ((n:Int)-1) (-1) (-1)=n:=by
 unfold Builtin.Slice.slicePlaces
 simp
 omega
theorem qz{sl:Addr}{t:Tok}{n:Nat}{Q:Int×Int×Nat->Shared->Prop}(hs:s.heap.IsSliceOf sl .none .none (.int (-1) t))
 (h:Q ((n:Int)-1,-1,n) s):wpAny (model prog w) A (Builtin.Slice.sliceApplied (.ref sl) (pure (n:Int))) Q E s:=by
 obtain⟨os,hos,hcs,hds⟩:=id hs
 unfold Builtin.Slice.sliceApplied Builtin.Slice.sliceFields
 refine ZA (ZA (wpAny_field hos hds (x:=.none) rfl (ZA (wpAny_field hos hds (x:=.none) rfl (ZA (wpAny_field hos hds (x:=.int (-1) t) rfl (ZB ?_)))))))
 refine ZA (slicePart_int ?_)
 show wpAny _ _ (if((-1:Int)==0)=true then _ else _) _ _ s
 rw[if_neg (by decide)]
 refine ZA (slicePart_none (ZA (slicePart_none (ZA (ZB ?_)))))
 show wpAny _ _ (match Builtin.Slice.sliceAdjust none none (-1) (n:Int)with | (lo,hi)=>pure (lo,(-1:Int),Builtin.Slice.slicePlaces lo hi (-1))) _ _ s
 rw[QD n]
 show wpAny _ _ (pure ((n:Int)-1,(-1:Int),Builtin.Slice.slicePlaces ((n:Int)-1) (-1) (-1))) _ _ s
 rw[G7]
 exact ZB h
theorem z9(xs:Array Value):((List.range xs.size).filterMap λ(m:Nat)=>xs[(((xs.size:Int)-1)+(m:Int)*(-1)).toNat]?).toArray=xs.toList.reverse.toArray:=by
 congr 1
 refine List.ext_getElem? λ i=>?_
 have e:∀(l:List Nat),(∀m∈l,m<xs.size)->l.filterMap (λ(m:Nat)=>xs[(((xs.size:Int)-1)+(m:Int)*(-1)).toNat]?)=l.map λ m=>xs.toList[xs.size-1-m]! :=by
  intro l
  induction l with
  | nil=>intro _;rfl
  | cons m l ih=>
    intro h
    have hm:=h m x8
    have e1:(((xs.size:Int)-1)+(m:Int)*(-1)).toNat=xs.size-1-m:=by omega
    have e2:xs[xs.size-1-m]? =some xs.toList[xs.size-1-m]! :=by
     have hl:xs.size-1-m<xs.size:=by omega
     rw[Array.getElem?_eq_getElem hl]
     simp[hl]
    rw[List.filterMap_cons,e1,e2,List.map_cons,ih λ k hk=>h k (x5 _ hk)]
 rw[e _ λ m hm=>List.mem_range.mp hm,y9]
 by_cases hi:i<xs.size
 . have hl:xs.size-1-i<xs.size:=by omega
   rw[List.getElem?_range hi,List.getElem?_reverse (by simpa using hi)]
   simp[hl]
 . rw[List.getElem?_eq_none (by simpa using hi),List.getElem?_eq_none (by simpa using hi)]
   rfl
theorem pK{t sl:Addr}{items:Array Value}{tk:Tok}{Q:Value->Shared->Prop}(ht:IsTup s.heap t items)(hs:s.heap.IsSliceOf sl .none .none (.int (-1) tk))(hsz:items.size≤sizeLine)
 (h:Q (.ref s.heap.objs.size) {s with heap:=s.heap.push {cls:=.type "tuple",data:=.seq items.toList.reverse.toArray}}):wpAny (model prog w) A (getItem (.ref t) (.ref sl)) Q E s:=by
 have htake:sizeOk (.seq items.toList.reverse.toArray):=by
  show items.toList.reverse.toArray.size≤sizeLine
  simpa using hsz
 obtain⟨os,hos,hcs,hds⟩:=id hs
 have isS:s.TypeIs (.ref sl) "slice":=⟨os,hos,hcs⟩
 unfold getItem
 try with_reducible refine ZQ ?_
 first | refine ZA (ZB ?_) | skip
 refine ZA (wpAny_sequenceKey ht.typeIs (by decide) ?_)
 refine ZA (wpAny_callSpecial?_slot (name:=Str.ofString "__getitem__") ht.typeIs PyProof.Rows.slot_tuple_getitem
  (ZP PyProof.Rows.slot_tuple_getitem ht.typeIs entry_tuple_getitem ?_ (args_tuple_getitem _ _)))
 show wpAny _ _ (Builtin.Tuple.tupleItemsOf (.ref t)>>=_) _ _ s
 refine ZA (tupleItemsOf_ ht (ZA (wpAny_typeOf isS ?_)))
 rw[if_pos (by decide)]
 refine ZA (qz hs ?_)
 show wpAny _ _ (if(((items.size:Int)-1)==0&&(-1:Int)==1&&items.size==items.size)=true then _ else _) _ _ s
 rw[if_neg (by simp),z9]
 first
  | exact ZA (m:=Builtin.Tuple.tupleExact _) (wpAny_newObj_type (ZB ⟨_,rfl,ZB h⟩) htake)
  | exact ZA (m:=Builtin.Tuple.tupleExact _) (wpAny_newObj_type (ZA (ZB (ZB ⟨_,rfl,ZB h⟩))) htake)
  | exact ZA (ZA (m:=Builtin.Tuple.tupleExact _) (wpAny_newObj_type (ZB (ZB ⟨_,rfl,ZB h⟩)) htake))
  | exact ZA (ZA (m:=Builtin.Tuple.tupleExact _) (wpAny_newObj_type (ZB ⟨_,rfl,ZB h⟩) htake))
end
theorem wy(items:Array Value):slicePick items none none (some (-1))=items.toList.reverse.toArray:=by
 rw[←z9]
 unfold slicePick
 have e:sliceBounds none none (some (-1)) items.size=((items.size:Int)-1,-1,-1):=by
  simp[sliceBounds]
 rw[e]
 unfold sliceRange
 have e2:(if(-1:Int)>0 then(if((items.size:Int)-1)<(-1)then((-1)-((items.size:Int)-1)+(-1)-1)/(-1)else 0)else(if((items.size:Int)-1)>(-1)then(((items.size:Int)-1)-(-1)-(-1)-1)/(-(-1))else 0))=(items.size:Int):=by
  rw[if_neg (by decide)]
  split
  . rw[show(-(-1):Int)=1 from rfl,Int.ediv_one];omega
  . omega
 simp only[e2,Int.toNat_natCast]
 rw[List.filterMap_map]
 congr 2
 funext m
 show items[((items.size:Int)-1+(-1)*(m:Int)).toNat]? =items[((items.size:Int)-1+(m:Int)*(-1)).toNat]?
 rw[Int.mul_comm]
section
variable {X : Cx}
theorem Reps.rev{K:PySem.W.Frag}{O:Own}{H:Hp}:∀{vs:List V}{ds:List D},Reps K O H vs ds->Reps K O H vs.reverse ds.reverse
 | _,_,.nil=>.nil
 | _,_,.cons r t=>by rw[List.reverse_cons,List.reverse_cons];exact(Reps.rev t).append (.cons r .nil)
noncomputable def SN(x:D)(S:Store)(W:WD):Prop:=match x with
 | .tup ds=>W (.tup ds.reverse) S
 | .lst ds=>W (.lst ds.reverse) S
 | .loc k=>∃ds,S[k]? =some ds/\W (.lst ds.reverse) S
 | _=>False
theorem Ot{x:D}{S:Store}{W:WD}(w:SN x S W){pins:Pins}{s:Shared}{σ:DL.St}{H:Hp}{O:Own}{v:V}{u:Value}{sl:Addr}{tk:Tok}(I:Inv X pins σ H s)(st:StOk X.K O H S)(r1:Rep X.K O H v x)(r3:RelV v u)(hs:s.heap.IsSliceOf sl .none .none (.int (-1) tk)):
 ∃T id,typeLookup (.type T) "__getitem__"=pure (some (.builtin id))/\s.TypeIs u T/\wpAny (model X.prog X.w) X.A (getItem u (.ref sl)) (EP X pins σ (QG X.K O H W)) X.xe s:=by
 have ls:∀(p:Addr)(xs:List V)(ds:List D),v=.ref p->SqL X.K H p xs->Reps X.K O H xs ds->W (.lst ds.reverse) S->∃T id,typeLookup (.type T) "__getitem__"=pure (some (.builtin id))/\s.TypeIs u T/\wpAny (model X.prog X.w) X.A (getItem u (.ref sl)) (EP X pins σ (QG X.K O H W)) X.xe s:=by
  rintro p xs ds rfl h1 q1 w
  cases r3
  obtain⟨its,r,ht,hz⟩:=I.list h1
  have hlen:=r.length
  refine⟨"list",_,slot_list_getitem.lookup,ht.isList.typeIs,?_⟩
  refine wpAny_getItem_list_slice ht.isList hs .none .none (.int (-1) tk) (by simp) ?_ (by rw[x6]<;>omega)
  rw[wy]
  refine⟨.ref s.heap.objs.size,_,I.laid (t':=s.toks) (o:=.lst xs.reverse) (λ b ob q=>ZC _ q) (x4 _) ?_,rfl,eF w st (I.hok.fresh (x4 _)) (Reps.rev q1)⟩
  exact⟨by simpa using hz,its.reverse,0,by simpa using r.reverse,by simpa using ZD s.heap (o:={cls:=.type "list",data:=.seq its.reverse.toArray}) rfl⟩
 cases r1 with
 | @tup p xs ds h1 q1=>
   cases r3
   obtain⟨its,r,ht,hz⟩:=I.tuple h1.sq
   have hlen:=r.length
   refine⟨"tuple",_,PyProof.Rows.slot_tuple_getitem.lookup,ht.typeIs,pK ht hs (by rw[x6];omega) ?_⟩
   refine⟨.ref s.heap.objs.size,_,I.laid (t':=s.toks) (o:=.tup xs.reverse) (λ b ob q=>ZC _ q) (x4 _) ?_,rfl,g8 w st (I.hok.fresh (x4 _)) (Reps.rev q1)⟩
   exact⟨by simpa using hz,its.reverse,r.reverse,by simpa using IsTup.new _ _⟩
 | @lst p xs ds h1 q1=>exact ls p xs ds rfl h1.sq q1 w
 | @loc p k h1=>
   obtain⟨ds,hk,w⟩:=w
   obtain⟨xs,hx,q1⟩:=st.obj k p ds h1 hk
   exact ls p xs ds rfl (SqL.of hx) q1 w
 | _=>exact(show False from w).elim
end
section
variable {Ω : Wd}
noncomputable def Ex.rev(a:Ex Ω):Ex Ω where
 lev:=a.lev
 chk top N nm e:=match e with | .Subscript l (.Slice none none (some (.UnaryOp .USub (.Constant (.int 1) _ _) _)) _) _=>a.chk top N nm l | _=>false
 wp Γ S W:=a.wp Γ S λ x S1=>SN x S1 W
 sound:=by
  intro X r top N nm e Γ S W A hl hc hw
  split at hc
  . rename_i l j p1 p2 p3 p4
    intro pins s σ H O I env st
    refine Subscript_ (thn (a.sound A hl hc hw pins s σ H O I env st) λ v s1 hq_=>?_)
    obtain⟨y,H1,I1,r1,O1,x,S1,hb,st1,ok1,rep1⟩:=hq_
    refine wpAny_Slice ?_
    refine wpAny_evalPart_none (wpAny_evalPart_none (wpAny_evalPart_some ?_))
    have hn:Ev X Γ S1 (.UnaryOp .USub (.Constant (.int 1) j p1) p2) λ d S'=>d=.int (-1)/\S'=S1:=HH (JP ⟨1,rfl,rfl,rfl⟩)
    refine thn (hn pins s1 σ H1 O1 I1 (env.mono st1) ok1) λ vs s3 hq_=>?_
    obtain⟨z,H3,I3,r3,O3,d,S3,⟨rfl,rfl⟩,st3,ok3,rep3⟩:=hq_
    cases rep3
    obtain⟨tk,rfl⟩:=r3
    have I4:Inv X pins σ H3 {s3 with heap:=s3.heap.push {cls:=.type "slice",data:=.fields #[.none,.none,.int (-1) tk]}}:=I3.kept (t':=s3.toks) λ b ob q=>ZC _ q
    obtain⟨T,id,hT,ht,hg⟩:=Ot hb I4 ok3 (rep1.mono st3) r1 (Heap.IsSliceOf.new ..)
    exact tail_any (ops:=[v,.ref s3.heap.objs.size]) ht hT (thn hg λ _ _ q=>cH (st1.trans st3) q) (by with_unfolding_all rfl)
  . exact fE hc
noncomputable def Ex.m_appendS(o a:Ex Ω):Ex Ω where
 lev:=max o.lev a.lev
 chk top N nm e:=match e with | .Call (.Attribute (.Subscript x1 x2 x3) m p) [y] [] q=>(m==("append":Str))&&((p.endLine==q.line)&&(okE y&&(o.chk top N nm (.Subscript x1 x2 x3)&&a.chk top N nm y))) | _=>false
 wp Γ S W:=o.wp Γ S λ x S1=>match x with | .loc k=>a.wp Γ S1 λ d S2=>∃ds,S2[k]? =some ds/\ds.length<1000000/\W .non (S2.set k (ds++[d])) | _=>False
 sound:=by
  intro X r top N nm e Γ S W A hl hc hw
  obtain⟨l1,l2⟩:=lv2 hl
  split at hc
  . rename_i x1 x2 x3 m p y q
    obtain⟨h1,g⟩:=aa hc
    obtain⟨h3,g⟩:=aa g
    obtain⟨h4,g⟩:=aa g
    obtain⟨h5,h6⟩:=aa g
    have e:=ZI h1
    subst e
    refine vI ((o.sound A l1 h5 hw).mono λ x S1 q=>?_) rfl (aB h4 [] _) h3
    cases x<;>first | exact q.elim | exact⟨_,rfl,a.sound A l2 h6 q⟩
  . exact ff hc
theorem U0{X:Cx}{x y:D}{S:Store}{W:WD}(hu:X.A.units+60<cLine)(h1:okD (vwT S x)=true)(h2:okD (vwT S y)=true)(h3:deep (vwT S x)≤50)(w:W (.bl (eqD (vwT S x) (vwT S y))) S):bz X .Eq x y S W:=by
 intro pins s σ H O v w' u u' I st r1 r2 r3 r4
 have:=(oU (n:=50) (A:=X.A) (Fo 50) (vwT S x) (vwT S y) (by omega) I (Jz st r1 h1) (Jz st r2 h2) r3 r4 (by omega)).1
 exact this _ _ _ _ ⟨.bl _,H,I,rfl,QG.here w st (.bl _)⟩
end
end RF
namespace RF
open PySem PySem.Spec L2 DL
open PyProof.Rows
theorem En{K:PySem.W.Frag}{O:Own}{H:Hp}:∀{vs:List V}{ds:List D},vs.length=ds.length->(∀(i:Nat)(v:V)(d:D),vs[i]? =some v->ds[i]? =some d->Rep K O H v d)->Reps K O H vs ds
 | [],[],_,_=>.nil
 | v::vs,d::ds,hl,h=>.cons (h 0 v d rfl rfl) (En (by simpa using hl) λ i v' d' e1 e2=>h (i+1) v' d' (by simpa using e1) (by simpa using e2))
 | [],_::_,hl,_=>by simp at hl
 | _::_,[],hl,_=>by simp at hl
end RF
namespace XE
open PySem PySem.Spec L2 DL RF
open PyProof.Rows
noncomputable abbrev WX:=Str->Store->Prop
end XE
namespace XE
open PySem PySem.Spec L2 DL RF
open PyProof.Rows
variable {Ω : Wd}
end XE
set_option maxHeartbeats 400000
set_option maxHeartbeats 1000000
namespace XE
open PySem PySem.Spec L2 DL RF
open PyProof.Rows
variable {Ω : Wd}
end XE
namespace RF
open PySem PySem.Spec L2 DL
open PyProof.Rows
section
variable {Ω : Wd}
noncomputable def unl(ns:List Int):Nat:=(firstMet (λ i=>ns.getD i 0) ns.length).length
theorem Ah{X:Cx}{ns:List Int}{S:Store}{W:WD}{d:D}(hc:X.calm=true)(hb:ns.length+1<scanBound)(hd:dR S d=some (ns.map .int))(w:W (.int (unl ns)) S)
 {pins:Pins}{s:Shared}{σ:DL.St}{H:Hp}{O:Own}{v:V}{u:Value}(I:Inv X pins σ H s)(st:StOk X.K O H S)(r':Rep X.K O H v d)(ru':RelV v u):
 wpAny (model X.prog X.w) X.A (call (.type "set") [u]) (λ u1 s1=>wpAny (model X.prog X.w) X.A (call (.builtin "len") [u1]) (EP X pins σ (QG X.K O H W)) X.xe s1) X.xe s:=by
 obtain⟨a,xs,rfl,hs,hq⟩:=oK (pins:=pins) (s:=s) (σ:=σ) (X:=X) st r' hd
 cases ru'
 obtain⟨its,rv,pl,hz⟩:=I.list hs
 have ex:xs=ns.map V.int:=hq.ints
 have hi:IntsAre its ns:=by
  rw[ex]at rv
  clear pl hz hs hq ex w hb hd
  induction ns generalizing its with
  | nil=>cases rv;exact .nil
  | cons n ns ih=>
    cases rv with
    | cons r1 r2=>obtain⟨t,rfl⟩:=r1;constructor;exact ih _ r2
 have hl:its.length=ns.length:=IntsAre.length hi
 refine call_set_list (items:=its.toArray) (ns:=ns) (I.ok.hd hc) pl.isList (by simpa using hi) (by rw[x6,hl];exact hb) λ h' tk hS hk=>?_
 have ez:its.toArray.size=ns.length:=by rw[x6,hl]
 rw[ez]at hS
 obtain⟨o,es,ep,t,ho,hex,hd',_,_,hsz,hf,hn⟩:=hS
 have I1:Inv X pins σ H {s with heap:=h',toks:=tk}:=I.kept (t':=tk) λ b o e=>hk b o (ZE e) e
 refine call_len_set (s:={s with heap:=h',toks:=tk}) ho hex hd' hf (by unfold scanBound at hsz;omega) ?_
 rw[hn]
 exact⟨.int _,H,I1.tok _,⟨_,rfl⟩,QG.here w st (.int _)⟩
noncomputable def Ex.lset(hm:Ω.mg "len"=none)(hm2:Ω.mg "set"=none)(a:Ex Ω):Ex Ω where
 lev:=a.lev
 chk top N nm e:=match e with
  | .Call (.Name y _) [.Call (.Name z _) [b] [] _] [] _=>(y=="len")&&((z=="set")&&(glb nm "len"&&(glb nm "set"&&(okE b&&a.chk top N nm b))))
  | _=>false
 wp Γ S W:=a.wp Γ S λ d S1=>∃ns:List Int,dR S1 d=some (ns.map .int)/\ns.length+1<scanBound/\W (.int (unl ns)) S1
 sound:=by
  intro X r top N nm e Γ S W A hl hc hw
  split at hc
  . rename_i y p z p' b pos' pos
    obtain⟨h1,hc⟩:=aa hc
    obtain⟨h2,hc⟩:=aa hc
    obtain⟨h3,hc⟩:=aa hc
    obtain⟨h4,hc⟩:=aa hc
    obtain⟨h5,h6⟩:=aa hc
    have e1:=ZI h1
    have e2:=ZI h2
    subst e1 e2
    intro pins s σ H O I env st
    refine wpAny_Call_Name_kw (bJ I (A.glb h3) (by rw[A.g];exact hm) (show bootBuiltins "len"=some (.builtin "len")from by decide+kernel) ?_ (by decide) (by decide))
    refine PyProof.Rows.callWith_builtin1 ?_ rfl rfl
    show wpAny _ _ (spliced ((false,eval _ X.env)::backTo pos (starEach [] X.env))) _ _ s
    refine Calls.spliced_cons ?_
    refine wpAny_Call_Name_kw (bJ I (A.glb h4) (by rw[A.g];exact hm2) (show bootBuiltins "set"=some (.type "set")from by decide+kernel) ?_ (by decide) (by decide))
    refine PyProof.Rows.callWith_type1 ?_ (aB h5 _ _) rfl
    rw[aB h5 [] X.env]
    show wpAny _ _ (spliced ((false,eval b X.env)::backTo pos' (starEach [] X.env))) _ _ s
    refine Calls.spliced_cons (thn (a.sound A hl h6 hw pins s σ H O I env st) λ u s1 hq_=>?_)
    obtain⟨v,H1,I1,r1,O1,x,S1,hb,st1,ok1,rep1⟩:=hq_
    obtain⟨ns,c1,c2,c3⟩:=hb
    refine Calls.spliced_nil ?_
    refine thn (Ah A.calm c2 c1 c3 I1 ok1 rep1 r1) λ u2 s2 q=>?_
    refine Calls.spliced_nil ?_
    exact thn q λ _ _ q=>cH st1 q
  . exact fE hc
end
end RF
namespace XE
open PySem PySem.Spec L2 DL RF
open PyProof.Rows
variable {Ω : Wd}
end XE
namespace RF
open PySem PySem.Spec L2 DL
open PyProof.Rows
variable {Ω : Wd}
end RF
namespace RF
open PySem PySem.Spec L2 DL
open PyProof.Rows
variable {Ω : Wd}
theorem Qz{X:Cx}{S:Store}{W:WD}{ds:List D}(w:W (.loc S.length) (S++[ds])):cG X (.type "list") [.tup ds] S W:=bR eE λ O H vs st r=>by
 obtain⟨v,rfl,r'⟩:=b8 r
 cases r' with
 | @tup p xs _ h1 q1=>exact⟨p,xs,rfl,.inr h1.sq,λ l hl=>jQ w st hl q1⟩
theorem QJ{X:Cx}{S:Store}{W:WD}{ds:List D}(w:W (.loc S.length) (S++[ds])):cG X (.type "list") [.lst ds] S W:=bR eE λ O H vs st r=>by
 obtain⟨v,rfl,r'⟩:=b8 r
 cases r' with
 | @lst p xs _ h1 q1=>exact⟨p,xs,rfl,.inl h1.sq,λ l hl=>jQ w st hl q1⟩
noncomputable def JM:Bc where
 x:="list"
 id:="list"
 boot:=by decide+kernel
 wp ds S W:=match ds with
  | [.tup ds]=>W (.loc S.length) (S++[ds])
  | [.lst ds]=>W (.loc S.length) (S++[ds])
  | _=>False
 sound:=by
  intro X ds S W hc hr h
  split at h
  . exact Qz h
  . exact QJ h
  . exact h.elim
end RF
namespace RF
open PySem PySem.Spec L2 DL
open PyProof.Rows
variable {Ω : Wd}
end RF
namespace RF
open PySem PySem.Spec L2 DL
open PyProof.Rows
variable {Ω : Wd}
end RF
namespace RF
open PySem PySem.Spec L2 DL
open PyProof.Rows
noncomputable def bx{α:Type}[DecidableEq α](kvs:List (α×D))(ns:α):Option D:=(kvs.find? λ kv=>decide (kv.1=ns)).map (·.2)
noncomputable def putD{α:Type}[DecidableEq α](kvs:List (α×D))(ns:α)(d:D):List (α×D):=if(kvs.any λ kv=>decide (kv.1=ns))=true then kvs.map λ kv=>if kv.1=ns then(kv.1,d)else kv else kvs++[(ns,d)]
section
variable {X : Cx} {Γ : Gam} {S : Store} {W : WD} {pos : Pos}
theorem Qx(h:W (.dlo S.length) (S++[[]])):Ev X Γ S (.Dict [] [] pos) W:=by
 intro pins s σ H O I env st
 refine K7 pins s σ H _ I λ p hp=>?_
 exact⟨O.more p true,.dlo S.length,S++[[]],h,Step.own hp _ true,st.ownD hp .nil,.dlo (by show(O.A++[(p,true)])[S.length]? =some (p,true);rw[←st.len];simp)⟩
end
section
variable {Ω : Wd}
noncomputable def Ex.dnew:Ex Ω where
 lev:=0
 chk top N nm e:=match e with | .Dict [] [] _=>true | _=>false
 wp Γ S W:=W (.dlo S.length) (S++[[]])
 sound:=by
  intro X r top N nm e Γ S W A hl hc hw
  cases e with
  | Dict ks vs pos=>
    match ks,vs,hc with
    | [],[],_=>exact Qx hw
    | [],_::_,hc=>exact fE hc
    | _::_,_,hc=>exact fE hc
  | _=>exact fE hc
end
end RF
namespace RF
open PySem PySem.Spec L2 DL
open PyProof.Rows
section
variable {Ω : Wd}
theorem vO{K:PySem.W.Frag}{O:Own}{H:Hp}:∀{vs:List V}{ds:List D},Reps K O H vs ds->Reps K O H vs.dropLast ds.dropLast
 | _,_,.nil=>.nil
 | _,_,.cons r .nil=>.nil
 | _,_,.cons r (.cons r' t)=>.cons r (vO (.cons r' t))
noncomputable def Ex.m_pop0(o:Ex Ω):Ex Ω where
 lev:=o.lev
 chk top N nm e:=match e with | .Call (.Attribute x m p) [] [] q=>(m==("pop":Str))&&(nameE x&&((p.endLine==q.line)&&o.chk top N nm x)) | _=>false
 wp Γ S W:=o.wp Γ S λ x S1=>match x with | .loc k=>∃ds y,S1[k]? =some ds/\ds[ds.length-1]? =some y/\W y (S1.set k ds.dropLast) | _=>False
 sound:=by
  intro X r top N nm e Γ S W A hl hc hw
  split at hc
  . rename_i x m p q
    obtain⟨h1,g⟩:=aa hc
    obtain⟨h2,g⟩:=aa g
    obtain⟨h3,h5⟩:=aa g
    have e:=ZI h1
    subst e
    intro pins s σ H O I env st
    have h:Ev X Γ S x λ x S1=>∃k,x=.loc k/\∃ds y,S1[k]? =some ds/\ds[ds.length-1]? =some y/\W y (S1.set k ds.dropLast):=(o.sound A hl h5 hw).mono λ x S1 q=>by
     cases x<;>first | exact q.elim | exact⟨_,rfl,q⟩
    refine HJ (T:="list") PySem.F.plainAttrs_list PySem.F.slot_list_pop PySem.F.type_list_pop RT (h.pe) (by cases x<;>first | rfl | exact ff h2) h3 pins s σ H _ I ⟨O,env,st,λ v H' q=>?_⟩
    obtain⟨O1,x,S1,⟨k,rfl,ds,y,hk,hy,w⟩,st1,ok1,rep1⟩:=q
    cases rep1 with
    | @loc a _ ha=>
      obtain⟨xs,hx,q1⟩:=ok1.obj k a ds ha hk
      obtain⟨v,hv,rv⟩:=q1.get hy
      rw[←q1.length]at hv
      exact⟨.inl ⟨rfl,xs,SqL.of hx⟩,a,xs,v,rfl,rfl,hx,hv,O1,y,_,w,st1.trans (Step.put (bW ha) _),ok1.put ha (vO q1),rv.mono (Step.put (bW ha) _)⟩
  . exact ff hc
end
end RF
namespace RF
open PySem PySem.Spec L2 DL
open PyProof.Rows
section
variable {K : PySem.W.Frag} {O : Own} {H : Hp}
theorem za{α:Type}[DecidableEq α](kcs:List (α×D))(c:α):(kcs.any λ kv=>decide (kv.1=c))=(bx kcs c).isSome:=by
 induction kcs with
 | nil=>rfl
 | cons a l ih=>
   unfold bx at ih ⊢
   rw[List.any_cons,List.find?_cons,ih]
   cases decide (a.1=c)<;>rfl
end
end RF
namespace RF
open PySem PySem.Spec L2 DL
open PyProof.Rows
noncomputable def mZ(hi:Int)(n:Nat):List D:=(List.range n).map λ(k:Nat)=>D.int (hi-(k:Int))
theorem pW(hi:Int)(n:Nat):(mZ hi n).length=n:=by simp[mZ]
theorem qU{hi:Int}{n i:Nat}{d:D}(h:(mZ hi n)[i]? =some d):i<n/\d=.int (hi-i):=by
 unfold mZ at h
 rw[y9]at h
 cases e:(List.range n)[i]? with
 | none=>rw[e]at h;cases h
 | some k=>
   rw[e]at h
   obtain⟨hl,hk⟩:=y3.mp e
   simp at hl hk
   subst hk
   cases h
   exact⟨hl,rfl⟩
noncomputable def ItD(hi:Int)(n:Nat):It:=⟨λ i _=>i<n,λ i H x H'=>H'=H/\x=.int (hi-i),λ i _=>n≤i⟩
theorem Kd{P:Program}{w:World}{K:PySem.W.Frag}{tg:Expr}(it:Addr)(hi:Int)(n:Nat):Turn P w K tg (ItD hi n) [it] it (λ i h=>IsRangeIter h it (hi+(i:Nat)*(-1)) ((n:Int)-(i:Nat)) (-1)) where
 mem:=by simp
 obj:=λ i h st b hb=>by
  have e:b=it:=by simpa using hb
  subst e
  exact⟨_,st,λ v z=>by
   have z':Data.fields _=Data.cell v:=z
   cases z'⟩
 keep:=λ i h h' st k=>k it (by simp) _ st
 item:=by
  intro X hP hw hK hc i pins s σ H E I hf st hg
  subst hP hw hK
  obtain⟨f0,f1,f2,f3,f4,f5⟩:=hf it (by simp)
  have W:=Walks.range (prog:=X.prog) (w:=X.w) (I.ok.hd hc) it hi (-1) n
  refine W.item i s _ _ hg st λ v h' tk hv st' kk=>?_
  obtain⟨t,rfl⟩:=hv
  have I1:Inv X pins σ H {s with heap:=h',toks:=tk}:=I.turned (λ b o hb e=>kk b o (by simpa using hb) e) f0 f1 f3 f4 f5
  refine⟨_,rfl,wX (s:={s with heap:=h',toks:=tk}) (n:="range_iterator") st' rfl rfl (by decide) ⟨.int (hi-i),H,I1,⟨t,?_⟩,⟨rfl,rfl⟩,st',λ b hb=>(hf b hb).1⟩⟩
  rw[show hi+(i:Int)*(-1)=hi-i from by omega]
 done:=by
  intro X hP hw hK hc i pins s σ H E I hf st hg
  subst hP hw hK
  obtain⟨f0,f1,f2,f3,f4,f5⟩:=hf it (by simp)
  exact wpAny_pyNext_range_end (I.ok.hd hc) st (by have:n≤i:=hg;omega) λ h' eb=>⟨rfl,I.turned (t':=s.toks) (λ b o hb e=>eb b o hb e) f0 f1 f3 f4 f5⟩
 self:=λ _ _ _ _ _ st h=>wpAny_pyIter_rangeiter st h
theorem CQ{K:PySem.W.Frag}{O:Own}{H:Hp}(hi:Int)(n:Nat):fV K (ItD hi n) O H (mZ hi n):=by
 intro O' H' st _ i
 refine⟨λ d hd=>?_,λ hi=>by rw[pW]at hi;exact Nat.le_of_eq hi.symm⟩
 obtain⟨hi,ed⟩:=qU hd
 subst ed
 refine⟨hi,λ x H'' y=>?_⟩
 obtain⟨e,ex⟩:=y
 subst e
 subst ex
 exact⟨dD.refl _,.int _⟩
noncomputable abbrev rIt(a n c:Int):Obj:={cls:=.type "range_iterator",data:=.fields #[rawInt a,rawInt n,rawInt c]}
section
variable {prog : Program} {w : World} {A : Around} {E : Value -> Shared -> Prop} {s : Shared}
theorem zc(a b:Int):Builtin.Range.rangeSize a b (-1)=((a-b).toNat:Nat):=by
 unfold Builtin.Range.rangeSize
 rw[if_neg (by decide),show(-(-1:Int))=1 from rfl,Int.ediv_one]
 split<;>omega
theorem Jl{a b:Int}(ha: -(2 ^ 62)≤a)(ha':a<2 ^ 62)(hb: -(2 ^ 62)≤b)(hb':b<2 ^ 62):Builtin.Range.small a b (-1)=true:=by
 unfold Builtin.Range.small
 rw[zc]
 simp only[Builtin.Range.rangeFitsLong,Bool.and_eq_true,Bool.or_eq_true,decide_eq_true_eq,beq_iff_eq,show ¬((-1:Int)>0) by decide,if_false]
 omega
end
section
variable {X : Cx} {tg : Expr} {Γ : Gam} {S : Store} {pos : Pos}
theorem PP{pins:List (Addr×Obj)}{σ:L2.St}{H:Hp}{s:Shared}{R:It->Hp->Prop}{hi:Int}{n:Nat}(I:Inv X pins σ H s)(q:R (ItD hi n) H):PIE X pins σ tg R (.ref s.heap.objs.size) {s with heap:=s.heap.push (rIt hi n (-1))}:=by
 refine⟨s.heap.objs.size,[s.heap.objs.size],_,_,H,rfl,I.kept (t':=s.toks) λ b o e=>ZC _ e,Kd _ hi n,?_,λ b hb=>?_,q⟩
 . show IsRangeIter _ _ (hi+((0:Nat):Int)*(-1)) ((n:Int)-((0:Nat):Int)) (-1)
   rw[show hi+((0:Nat):Int)*(-1)=hi from by omega,show(n:Int)-((0:Nat):Int)=n from by omega]
   exact ZD _ rfl
 . have e:b=s.heap.objs.size:=by simpa using hb
   subst e
   exact I.fpOk (x4 _) (I.hok.fresh (x4 _))
theorem JT {a b c:Expr}{p:Pos}{W:List D->Store->Prop}(h:Ev X Γ S a λ d S1=>Ev X Γ S1 b λ d' S2=>Ev X Γ S2 c λ d'' S3=>∃i j:Int,d=.int i/\d'=.int j/\d''=.int (-1)/\(-(2 ^ 62)≤i/\i<2 ^ 62/\ -(2 ^ 62)≤j/\j<2 ^ 62)/\W (mZ i (i-j).toNat) S3)(hm:X.mg "range"=none)(hg:Gl X "range")
 (hs:starEach [a,b,c] X.env=(false,eval a X.env)::starEach [b,c] X.env)(hs2:starEach [b,c] X.env=(false,eval b X.env)::starEach [c] X.env)(hs3:starEach [c] X.env=[(false,eval c X.env)]):ItW X Γ S tg (.Call (.Name "range" p) [a,b,c] [] pos) W:=by
 intro pins s σ H O I env st
 have hA:EvA X Γ S [a,b,c] λ ds S3=>∃i j:Int,ds=[.int i,.int j,.int (-1)]/\(-(2 ^ 62)≤i/\i<2 ^ 62/\ -(2 ^ 62)≤j/\j<2 ^ 62)/\W (mZ i (i-j).toNat) S3:=
  bI (h.mono λ d S1 h1=>bI (h1.mono λ d' S2 h2=>bI (h2.mono λ d'' S3 ⟨i,j,e1,e2,e3,hb,w⟩=>d8 ⟨i,j,by rw[e1,e2,e3],hb,w⟩) hs3) hs2) hs
 refine Call_ (bJ I hg hm boot_range (PyProof.Rows.callWith_type1 (thn (hA pos pins s σ H O I env st) λ us s1 hq_=>?_) hs (by rw[hs2,hs3];rfl)))
 obtain⟨vs,H1,I1,r1,q1⟩:=hq_
 obtain⟨O1,ds,S1,⟨i,j,rfl,⟨b1,b2,b3,b4⟩,w⟩,st1,ok1,rep⟩:=q1
 cases rep with
 | cons ra rb=>
   cases rb with
   | cons rb rc=>
     cases rc with
     | cons rc rd=>
       cases rd
       cases ra
       cases rb
       cases rc
       cases r1 with
       | cons r rr=>
         cases rr with
         | cons r' rr=>
           cases rr with
           | cons r'' rr=>
             cases rr
             obtain⟨t,rfl⟩:=r
             obtain⟨t',rfl⟩:=r'
             obtain⟨t'',rfl⟩:=r''
             refine call_range_3 (by decide) ?_ (.inl (PyProof.noPylong_small (by decide)))
             refine wpAny_pyIter_range (IsRange.new ..) (Jl b1 b2 b3 b4) ?_
             rw[zc]
             exact PP (s:={s1 with heap:=s1.heap.push {cls:=.type "range",data:=.fields #[.int i t,.int j t',.int (-1) t'']},toks:=s1.toks}) (I1.kept λ b o e=>ZC _ e) ⟨O1,_,S1,w,st1,ok1,CQ _ _⟩
end
section
variable {Ω : Wd}
noncomputable def Itb.rngD(hm:Ω.mg "range"=none)(a b c:Ex Ω):Itb Ω where
 lev:=max a.lev (max b.lev c.lev)
 chk top N nm _ e:=match e with | .Call (.Name y _) [l,r,q] [] _=>(y==("range":Str))&&(glb nm "range"&&((okE l&&(okE r&&okE q))&&(a.chk top N nm l&&(b.chk top N nm r&&c.chk top N nm q)))) | _=>false
 wp Γ S W:=a.wp Γ S λ d S1=>b.wp Γ S1 λ d' S2=>c.wp Γ S2 λ d'' S3=>d''=.int (-1)/\match d,d' with | .int i,.int j=>(-(2 ^ 62)≤i/\i<2 ^ 62/\ -(2 ^ 62)≤j/\j<2 ^ 62)/\W (mZ i (i-j).toNat) S3 | _,_=>False
 sound:=by
  intro X r top N nm tg e Γ S W A hl hc hw
  obtain⟨l1,l2⟩:=lv2 hl
  obtain⟨l2,l3⟩:=lv2 l2
  split at hc
  . rename_i y p l r' q' pos
    obtain⟨h1,g2⟩:=aa hc
    obtain⟨h2,g3⟩:=aa g2
    obtain⟨h3,h4⟩:=aa g3
    obtain⟨h5,h6⟩:=aa h3
    obtain⟨h6,h6'⟩:=aa h6
    obtain⟨h7,h8⟩:=aa h4
    obtain⟨h8,h9⟩:=aa h8
    have e:y="range":=ZI h1
    subst e
    refine JT ((a.sound A l1 h7 hw).mono λ d S1 q=>(b.sound A l2 h8 q).mono λ d' S2 q=>(c.sound A l3 h9 q).mono λ d'' S3 q=>?_) (by rw[A.g];exact hm) (A.glb h2) (aB h5 _ _) (aB h6 _ _) (aB h6' [] _)
    obtain⟨e3,q⟩:=q
    cases d<;>first | exact q.elim | (cases d'<;>first | exact⟨_,_,rfl,rfl,e3,q.1,q.2⟩ | exact q.elim)
  . exact fE hc
end
end RF
namespace RF
open PySem PySem.Spec L2 DL
open PyProof.Rows
theorem fW:∀{vs:List Value}{ns:List Int},IntsAre vs ns->Vals (ns.map V.int) vs
 | _,_,.nil=>.nil
 | _,_,.cons n t r=>.cons ⟨t,rfl⟩ (fW r)
end RF
namespace RF
open PySem PySem.Spec L2 DL
open PyProof.Rows
noncomputable abbrev Ko:=List (Option Int×D)
noncomputable def aX(kv:Option Int×D):D:=.tup [oD kv.1,kv.2]
theorem Rq{a b:Option Int}(h:oD a=oD b):a=b:=by
 cases a<;>cases b
 . rfl
 . exact nomatch h
 . exact nomatch h
 . exact congrArg some (D.int.inj h)
theorem cX{k:Option Int}{v:Value}(h:isO k v=true):(∃i t,k=some i/\v=.int i t)∨(k=none/\v=.none):=by
 unfold isO at h
 split at h
 . exact .inl ⟨_,_,by rw[ZF h],rfl⟩
 . exact .inr ⟨rfl,rfl⟩
 . exact nomatch h
section
variable {prog : Program} {w : World} {A : Around} {E : Value -> Shared -> Prop} {s : Shared}
theorem Hv{Q:Int->Shared->Prop}(h:Q 4238894112 {s with toks:=s.toks+1}):wpAny (model prog w) A (pyHash .none) Q E s:=by
 have nb:∀x:String,¬(some (Value.builtin x)==some Value.none)=true:=λ x=>by rw[beq_builtin_none];exact y7
 show wpAny _ _ (pyHashByItsType .none) Q E s
 unfold pyHashByItsType
 refine ZA ?_
 rw[cRoomFor,if_neg (by decide)]
 refine ZB (ZA (wpAny_specialOf (typeIs_none s) F.slot_NoneType_hash.lookup ?_))
 dsimp only
 rw[if_neg (nb _)]
 refine ZA (wpAny_specialOf (typeIs_none s) F.slot_NoneType_hash.lookup ?_)
 refine(show wpAny _ _ (callSpecialIfBoundUnlessNone? .none "__hash__" _>>=_) Q E s from ZA (wpAny_callSpecialIfBoundUnlessNone?_slot (typeIs_none s) F.slot_NoneType_hash ?_))
 refine ZP F.slot_NoneType_hash (typeIs_none s) F.entry_NoneType_hash ?_ (F.args_NoneType_hash_1 _)
 refine(show wpAny _ _ (do ret (←mkInt 4238894112)) _ _ s from wpAny_ret_mkInt ?_)
 show wpAny _ _ (if(decide (-(2:Int) ^ 63≤4238894112)&&decide ((4238894112:Int)<2 ^ 63))=true then _ else _) Q E _
 rw[if_pos (by decide)]
 exact ZB h
end
noncomputable def dz(prog:Program)(w:World):PySem.KeyKind prog w (Option Int) where
 is:=isO
 hash:=hO0
 inj v a b ha hb:=by
  rcases cX ha with⟨i,t,rfl,rfl⟩ | ⟨rfl,rfl⟩<;>rcases cX hb with⟨j,u,rfl,e⟩ | ⟨rfl,e⟩
  . injection e with e;rw[e]
  . exact nomatch e
  . exact nomatch e
  . rfl
 byValue k v h:=by rcases cX h with⟨i,t,rfl,rfl⟩ | ⟨rfl,rfl⟩<;>rfl
 pyHash hv h:=by
  rcases cX hv with⟨i,t,rfl,rfl⟩ | ⟨rfl,rfl⟩
  . exact wpAny_pyHash_int h
  . exact Hv h
 eqBool hu hv h:=by
  rcases cX hu with⟨i,t,rfl,rfl⟩ | ⟨rfl,rfl⟩<;>rcases cX hv with⟨j,u,rfl,rfl⟩ | ⟨rfl,rfl⟩
  . refine wpAny_eqBool_int ?_
    have e:decide (some i=some j)=(i==j):=by by_cases q:i=j<;>simp[q]
    rw[e]at h;exact h
  . exact SeqAt.EqAt.int_none i t _ _ _ _ h
  . exact SeqAt.EqAt.none_int j u _ _ _ _ h
  . exact SeqAt.EqAt.same _ _ _ _ _ h
 «strs» k x t v h:=by rcases cX h with⟨i,u,_,e⟩ | ⟨_,e⟩<;>exact nomatch e
theorem mK{P:Program}{w:World}:∀{es:List DictEntry}{ys:Oy},OEs es ys->Pairs (dz P w) es ys/\∀e∈es,∃k,(dz P w).is k e.key=true/\e.hash=(dz P w).hash k
 | _,_,.nil=>⟨.nil,λ e h=>nomatch h⟩
 | _,_,.cons i h q t=>⟨.cons i q (mK t).1,λ e he=>by
   rcases ZJ.mp he with rfl | he
   . exact⟨_,i,h⟩
   . exact(mK t).2 e he⟩
theorem Ip{P:Program}{w:World}:∀{es:List DictEntry}{ys:Oy},Pairs (dz P w) es ys->(∀e∈es,∃k,(dz P w).is k e.key=true/\e.hash=(dz P w).hash k)->OEs es ys
 | _,_,.nil,_=>.nil
 | _,_,.cons (e:=e) (kv:=kv) i q t,h=>by
   obtain⟨k,h1,h2⟩:=h e x8
   have ek:=(dz P w).inj _ _ _ h1 i
   subst ek
   exact .cons i h2 q (Ip t λ e he=>h e (x5 _ he))
section
variable {K : PySem.W.Frag} {O : Own} {H : Hp}
theorem _root_.DL.Kos.inv{ys:Oy}{kv:Option Int×D}{kos:Ko}(r:Kos K O H ys ((kv::kos).map aX)):∃u v ys',ys=(kv.1,u)::ys'/\RelV v u/\Rep K O H v kv.2/\Kos K O H ys' (kos.map aX):=by
 have r:Kos K O H ys (.tup [oD kv.1,kv.2]::kos.map aX):=r
 generalize hx:oD kv.1=x at r
 cases r with
 | @cons c u v _ _ ys' _ e rv rd t=>
   rw[←hx]at e
   have e:=Rq e
   rw[e]
   exact⟨u,v,ys',rfl,rv,rd,t⟩
theorem _root_.DL.Kos.length{ys:Oy}{kos:Ko}(r:Kos K O H ys (kos.map aX)):ys.length=kos.length:=by
 induction kos generalizing ys with
 | nil=>cases r;rfl
 | cons kv kos ih=>
   obtain⟨u,v,ys',rfl,_,_,t⟩:=r.inv
   rw[List.length_cons,List.length_cons,ih t]
theorem _root_.DL.Kos.look{ys:Oy}{kos:Ko}(r:Kos K O H ys (kos.map aX))(c:Option Int):(valueAt ys c).isSome=(bx kos c).isSome:=by
 induction kos generalizing ys with
 | nil=>cases r;rfl
 | cons kv kos ih=>
   obtain⟨u,v,ys',rfl,rv,rd,t⟩:=r.inv
   by_cases e:kv.1=c
   . simp[bx,valueAt,e]
   . have e1:bx (kv::kos) c=bx kos c:=by simp[bx,List.find?_cons,e]
     have e2:valueAt ((kv.1,u)::ys') c=valueAt ys' c:=by simp[valueAt,List.find?_cons,e]
     rw[e1,e2]
     exact ih t
theorem _root_.DL.Kos.any{ys:Oy}{kos:Ko}(r:Kos K O H ys (kos.map aX))(c:Option Int):(ys.any λ kv=>decide (kv.1=c))=kos.any λ kv=>decide (kv.1=c):=by
 induction kos generalizing ys with
 | nil=>cases r;rfl
 | cons kv kos ih=>
   obtain⟨u,v,ys',rfl,rv,rd,t⟩:=r.inv
   rw[List.any_cons,List.any_cons,ih t]
theorem _root_.DL.Kos.put{ys:Oy}{kos:Ko}(r:Kos K O H ys (kos.map aX)){c:Option Int}{u:Value}{v:V}{d:D}(rv:RelV v u)(rd:Rep K O H v d):Kos K O H (stored ys c u) ((putD kos c d).map aX):=by
 unfold putD stored
 rw[r.any c]
 split
 . rename_i hz
   clear hz
   induction kos generalizing ys with
   | nil=>cases r;exact .nil
   | cons kv kos ih=>
     obtain⟨u',v',ys',rfl,rv',rd',t⟩:=r.inv
     rw[List.map_cons,List.map_cons,List.map_cons]
     by_cases e:kv.1=c
     . rw[if_pos e,if_pos e]
       exact .cons rfl rv rd (ih t)
     . rw[if_neg e,if_neg e]
       exact .cons rfl rv' rd' (ih t)
 . rename_i hz
   clear hz
   induction kos generalizing ys with
   | nil=>cases r;exact .cons rfl rv rd .nil
   | cons kv kos ih=>
     obtain⟨u',v',ys',rfl,rv',rd',t⟩:=r.inv
     exact .cons rfl rv' rd' (ih t)
theorem J2{ys:Oy}{c:Option Int}{u:Value}:stored ys c u≠[]:=by
 unfold stored
 split
 . rename_i h
   cases ys with
   | nil=>cases h
   | cons y ys=>exact λ z=>nomatch z
 . exact λ z=>by have:=congrArg List.length z;simp at this
theorem jX{X:Cx}{pins:Pins}{σ:DL.St}{s:Shared}(I:Inv X pins σ H s){a:Addr}{kos:Ko}(b:DOb X.K O H a (kos.map aX)):
 (a==sysModules)=false/\Mut (H a)/\∃ys,Kos X.K O H ys (kos.map aX)/\s.heap.DictOf (dz X.prog X.w) a ys/\ys.length≤sizeLine:=by
 cases b with
 | t kvs e r=>
   have hn:kos=[]/\kvs=[]:=by
    cases kos with
    | nil=>cases r;exact⟨rfl,rfl⟩
    | cons kv kos=>
      have r:Kps X.K O H kvs (.tup [oD kv.1,kv.2]::kos.map aX):=r
      generalize hx:oD kv.1=x at r
      cases r with
      | cons r t=>rcases kv with⟨_ | _,_⟩<;>exact nomatch hx
   obtain⟨rfl,rfl⟩:=hn
   obtain⟨z,hd,xs,rel,o,es,ep,h1,h2,h3,h4,h5⟩:=(show bh X.prog X.w H s.heap a (.dT [])from I.hok a _ e)
   cases rel
   have h4:es.toList=[]:=h4
   have he:es=#[]:=Array.toList_eq_nil_iff.mp h4
   subst he
   exact⟨hd,by rw[e];trivial,[],.nil,⟨o,#[],ep,h1,h2,h3,(λ e he=>by simp at he),.nil,List.nodup_nil⟩,Nat.zero_le _⟩
 | c ys n e r=>
   cases kos with
   | nil=>cases r;exact absurd rfl n
   | cons kv kos=>
     have r:Kcs X.K O H ys (.tup [oD kv.1,kv.2]::kos.map aX):=r
     generalize hx:oD kv.1=x at r
     cases r with
     | cons e1 rk rv r t=>rw[←hx]at e1;rcases kv with⟨_ | _,_⟩<;>exact nomatch e1
 | o ys n e r=>
   obtain⟨⟨hz,hd,hn,o,es,ep,h1,h2,h3,h4⟩,_,_⟩:=(show bh X.prog X.w H s.heap a (.ext (kO a ys))from I.hok a _ e)
   have pk:=mK (P:=X.prog) (w:=X.w) h4
   exact⟨hd,by rw[e];trivial,ys,r,⟨o,es,ep,h1,h2,h3,λ e he=>pk.2 e (by simpa using he),pk.1,hn⟩,hz⟩
theorem Qj{P:Program}{w:World}{h:Heap}{a:Addr}{ys:Oy}(d:h.DictOf (dz P w) a ys)(hz:ys.length≤sizeLine)(hd:(a==sysModules)=false):kO a ys h:=by
 obtain⟨o,es,ep,h1,h2,h3,h4,h5,h6⟩:=d
 exact⟨hz,hd,h6,o,es,ep,h1,h2,h3,Ip h5 λ e he=>h4 e (by simpa using he)⟩
theorem Q8{P:Program}{w:World}{H:Hp}{h:Heap}{a:Addr}{ys:Oy}(d:kO a ys h):bh P w H h a (.ext (kO a ys)):=by
 refine⟨d,?_,λ h1 h2 q k=>?_⟩
 . obtain⟨_,_,_,o,_,_,e,_⟩:=d;exact⟨o,e⟩
 . obtain⟨z,y,n,o,es,ep,e,r⟩:=q
   exact⟨z,y,n,o,es,ep,k o e,r⟩
theorem uN{v:V}{c:Option Int}{u:Value}(r:Rep K O H v (oD c))(ru:RelV v u):isO c u=true:=by
 cases c with
 | none=>cases r;cases ru;rfl
 | some i=>cases r;obtain⟨t,rfl⟩:=ru;simp[isO]
end
section
variable {X : Cx} {Γ : Gam} {S : Store} {W : WD} {pos : Pos}
theorem Uv{k:Nat}{c:Option Int}{kvs:Ko}{W:Bool->Store->Prop}(hk:S[k]? =some (kvs.map aX))(w:W (bx kvs c).isSome S):bz X .In (oD c) (.dlo k) S (asB W):=by
 intro pins s σ H O v w' u u' I st r1 r2 r3 r4
 cases r2 with
 | @dlo a _ ha=>
   cases r4
   obtain⟨hd,mu,ys,kc,dd,hz⟩:=jX I (st.dob k a _ ha hk)
   refine wpAny_in_of (uN r1 r3) hd dd.mapOf ⟨.bl _,H,I.tok _,rfl,QG.here ⟨_,rfl,?_⟩ st (.bl _)⟩
   rw[kc.look c]
   exact w
theorem Ru{o i e:Expr}{tpos:Pos}{W:DL.Fin}(hs:swapsWith e (some (.Subscript o i tpos)) pos.line X.env=pure false)
 (h:Ev X Γ S e λ d S1=>Ev X Γ S1 o λ x S2=>Ev X Γ S2 i λ y S3=>∃k c kvs,x=.dlo k/\y=oD c/\S3[k]? =some (List.map aX kvs)/\kvs.length<1000000/\W.nx Γ (S3.set k ((putD kvs c d).map aX))):Rn X Γ S (.Assign [.Subscript o i tpos] e pos) W:=by
 intro pins s σ H O I env st
 refine wpAny_Assign_Subscript (thn (h pins s σ H O I env st) λ r s1 hq_=>?_) hs
 obtain⟨v,H1,I1,rv,q⟩:=hq_
 obtain⟨O1,d,S1,h1,st1,ok1,rep1⟩:=q
 refine thn (h1 pins s1 σ H1 O1 I1 (env.mono st1) ok1) λ u s2 hq_=>?_
 obtain⟨x,H2,I2,rx,q⟩:=hq_
 obtain⟨O2,dx,S2,h2,st2,ok2,rep2⟩:=q
 refine thn (h2 pins s2 σ H2 O2 I2 ((env.mono st1).mono st2) ok2) λ iv s3 hq_=>?_
 obtain⟨y,H3,I3,ry,q⟩:=hq_
 obtain⟨O3,dy,S3,⟨k,c,kvs,rfl,rfl,hk,hz,w⟩,st3,ok3,rep3⟩:=q
 have rx':=rep2.mono st3
 cases rx' with
 | @dlo a _ ha=>
   obtain rfl:u=Value.ref a:=rx
   obtain⟨hd,mu,ys,kc,dd,hz'⟩:=jX I3 (ok3.dob k a _ ha hk)
   have rd:=(rep1.mono st2).mono st3
   have hl:=stored_length_le ys c r
   have hyl:=kc.length
   refine wpAny_setItem_pairs (hsz:=hz') (uN rep3 ry) dd λ h' dd' hsb=>?_
   have cd:kO a (stored ys c r) h':=Qj dd' (by rw[sizeLine_eq];omega) hd
   obtain⟨_,_,_,q,_,_,hq,_⟩:=id cd
   have sp:=Step.put (O:=O3) (H:=H3) (bW ha) (.ext (kO a (stored ys c r)))
   refine⟨σ,upd H3 a (.ext (kO a (stored ys c r))),Ow I3 mu hsb ⟨q,hq⟩ (Q8 cd),O3,Γ,_,w,((st1.trans st2).trans st3).trans sp,ok3.putO ha (.o _ J2 aU ((kc.put rv rd).conv sp.conv)),(((env.mono st1).mono st2).mono st3).mono sp⟩
end
section
variable {Ω : Wd}
noncomputable def G4(y:D)(S:Store)(k:Nat)(W:Ko->Option Int->Prop):Prop:=∃c kvs,y=oD c/\S[k]? =some (List.map aX kvs)/\W kvs c
noncomputable def Sm.oput(o i a:Ex Ω):Sm Ω where
 lev:=max a.lev (max o.lev i.lev)
 chk top N nm st:=match st with | .Assign [.Subscript x y _] e _=>noC e&&(okE y&&(a.chk top N nm e&&(o.chk top N nm x&&i.chk top N nm y))) | _=>false
 wp Γ S W:=a.wp Γ S λ d S1=>o.wp Γ S1 λ x S2=>i.wp Γ S2 λ y S3=>match x with | .dlo k=>G4 y S3 k λ kvs c=>kvs.length<1000000/\W.nx Γ (S3.set k ((putD kvs c d).map aX)) | _=>False
 sound:=by
  intro X r top N nm st Γ S W A hl hc hw
  obtain⟨l1,l2⟩:=lv2 hl
  obtain⟨l2,l3⟩:=lv2 l2
  split at hc
  . rename_i x y p e spos
    obtain⟨h1,hc⟩:=aa hc
    obtain⟨h2,hc⟩:=aa hc
    obtain⟨h3,hc⟩:=aa hc
    obtain⟨h4,h5⟩:=aa hc
    refine Ru ?_ ((a.sound A l1 h3 hw).mono λ d S1 q=>(o.sound A l2 h4 q).mono λ x S2 q=>(i.sound A l3 h5 q).mono λ y S3 q=>?_)
    . exact kj h1 _ _ _
    . cases x with
      | dlo k=>obtain⟨ns,kvs,e1,e2,e3,w⟩:=q;exact⟨k,ns,kvs,rfl,e1,e2,e3,w⟩
      | _=>exact(show False from q).elim
  . exact fE hc
noncomputable def Te.oin(a o:Ex Ω):Te Ω where
 lev:=max a.lev o.lev
 chk top N nm e:=match e with | .Compare l [p] [r] _=>(p==CmpOp.In)&&(okE r&&(a.chk top N nm l&&o.chk top N nm r)) | _=>false
 wp Γ S W:=a.wp Γ S λ y S1=>o.wp Γ S1 λ x S2=>match x with | .dlo k=>G4 y S2 k λ kvs c=>W (bx kvs c).isSome S2 | _=>False
 sound:=by
  intro X r top N nm e Γ S W A hl hc hw
  obtain⟨l1,l2⟩:=lv2 hl
  cases e with
  | Compare l os rs pos=>
    match os,rs,hc with
    | [o'],[r'],hc=>
      obtain⟨h1,h2⟩:=aa hc
      obtain⟨h0,h2⟩:=aa h2
      obtain⟨h2,h3⟩:=aa h2
      have e:=ZI h1
      subst e
      refine zu ((a.sound A l1 h2 hw).mono λ y S1 q=>(o.sound A l2 h3 q).mono λ x S2 q=>?_) (fu h0)
      cases x with
      | dlo k=>obtain⟨ns,kvs,rfl,e2,w⟩:=q;exact Uv e2 w
      | _=>exact(show False from q).elim
    | [],_,hc=>exact fE hc
    | [_],[],hc=>exact fE hc
    | [_],_::_::_,hc=>exact fE hc
    | _::_::_,_,hc=>exact fE hc
  | _=>exact fE hc
noncomputable def Ex.m_reverse(o:Ex Ω):Ex Ω where
 lev:=o.lev
 chk top N nm e:=match e with | .Call (.Attribute x m p) [] [] q=>(m==("reverse":Str))&&(nameE x&&((p.endLine==q.line)&&o.chk top N nm x)) | _=>false
 wp Γ S W:=o.wp Γ S λ x S1=>match x with | .loc k=>∃ds,S1[k]? =some ds/\W .non (S1.set k ds.reverse) | _=>False
 sound:=by
  intro X r top N nm e Γ S W A hl hc hw
  split at hc
  . rename_i x m p q
    obtain⟨h1,g⟩:=aa hc
    obtain⟨h2,g⟩:=aa g
    obtain⟨h3,h5⟩:=aa g
    have e:=ZI h1
    subst e
    intro pins s σ H O I env st
    have h:Ev X Γ S x λ x S1=>∃k,x=.loc k/\∃ds,S1[k]? =some ds/\W .non (S1.set k ds.reverse):=(o.sound A hl h5 hw).mono λ x S1 q=>by
     cases x<;>first | exact q.elim | exact⟨_,rfl,q⟩
    refine HJ (T:="list") PySem.F.plainAttrs_list PySem.F.slot_list_reverse PySem.F.type_list_reverse Fz (h.pe) (by cases x<;>first | rfl | exact ff h2) h3 pins s σ H _ I ⟨O,env,st,λ v H' q=>?_⟩
    obtain⟨O1,x,S1,⟨k,rfl,ds,hk,w⟩,st1,ok1,rep1⟩:=q
    cases rep1 with
    | @loc a _ ha=>
      obtain⟨xs,hx,q1⟩:=ok1.obj k a ds ha hk
      exact⟨.inl ⟨rfl,xs,SqL.of hx⟩,a,xs,rfl,rfl,hx,O1,.non,_,w,st1.trans (Step.put (bW ha) _),ok1.put ha (Reps.rev q1),.non⟩
  . exact ff hc
end
end RF
namespace RF
open PySem PySem.Spec L2 DL
open PyProof.Rows
theorem Dz:∀(l:List Value)(ns:List Int),l.length=ns.length->(∀(j:Nat)(v:Value),l[j]? =some v->∃(n:Int) (t:Tok),ns[j]? =some n/\v=Value.int n t)->IntsAre l ns
 | [],[],_,_=>.nil
 | [],_::_,h,_=>nomatch h
 | _::_,[],h,_=>nomatch h
 | v::l,n::ns,h,k=>by
   obtain⟨m,t,e,rfl⟩:=k 0 v rfl
   cases e
   exact .cons n t (Dz l ns (Nat.succ.inj h) λ j v e=>k (j+1) v e)
noncomputable def upI(n:Nat):List Int:=(List.range n).map λ(i:Nat)=>(0:Int)+(i:Int)
theorem Vo(n:Nat):DL.upTo 0 n=(upI n).map D.int:=by
 unfold DL.upTo upI
 rw[List.map_map];rfl
theorem vM(j:Int)(h:0≤j):Builtin.Range.rangeSize 0 j 1=(j.toNat:Nat):=by rw[rangeSize_one];split<;>omega
theorem Fw{j:Int}(h:0≤j)(h':j<1000000):Builtin.Range.small 0 j 1=true:=by
 unfold Builtin.Range.small
 rw[vM j h]
 by_cases h0:j≤0
 . have:j=0:=by omega
   subst this;rfl
 . simp only[Builtin.Range.rangeFitsLong,Bool.and_eq_true,Bool.or_eq_true,decide_eq_true_eq,beq_iff_eq,h0,if_false,show((1:Int)>0)from by decide,if_true]
   omega
section
variable {X : Cx} {Γ : Gam} {S : Store} {W : WD} {pos : Pos}
theorem Qu{a:Expr}{p p2 pos2:Pos}(hcm:X.calm=true)(h:Ev X Γ S a λ d S1=>∃j:Int,d=.int j/\0≤j/\j<1000000/\(W (.lst (DL.upTo 0 j.toNat)) S1∨W (.loc S1.length) (S1++[DL.upTo 0 j.toNat])))(hm:X.mg "range"=none)(hm2:X.mg "list"=none)(hg:Gl X "range")(hg2:Gl X "list")(hs:starEach [a] X.env=[(false,eval a X.env)])
 (hs2:starEach [.Call (.Name "range" p) [a] [] pos] X.env=[(false,eval (.Call (.Name "range" p) [a] [] pos) X.env)]):Ev X Γ S (.Call (.Name "list" p2) [.Call (.Name "range" p) [a] [] pos] [] pos2) W:=by
 intro pins s σ H O I env st
 refine Call_ (bJ I hg2 hm2 (show bootBuiltins "list"=some (.type "list")from by decide+kernel) (PyProof.Rows.callWith_type1 ?_ hs2 rfl))
 rw[show backTo pos2 (starEach [.Call (.Name "range" p) [a] [] pos] X.env)=[(false,eval (.Call (.Name "range" p) [a] [] pos) X.env)]from by rw[hs2];rfl]
 refine Calls.spliced_cons ?_
 have hA:EvA X Γ S [a] λ ds S1=>∃j:Int,ds=[.int j]/\0≤j/\j<1000000/\(W (.lst (DL.upTo 0 j.toNat)) S1∨W (.loc S1.length) (S1++[DL.upTo 0 j.toNat])):=
  bI (h.mono λ d S1 ⟨j,e,h1,h2,w⟩=>d8 ⟨j,by rw[e],h1,h2,w⟩) hs
 refine Call_ (bJ I hg hm boot_range (PyProof.Rows.callWith_type1 (thn (hA pos pins s σ H O I env st) λ us s1 hq_=>?_) hs rfl))
 obtain⟨vs,H1,I1,r1,q1⟩:=hq_
 obtain⟨O1,ds,S1,⟨j,rfl,h1,h2,w⟩,st1,ok1,rep⟩:=q1
 cases rep with
 | cons ra rb=>
   cases rb
   cases ra
   cases r1 with
   | cons r rr=>
     cases rr
     obtain⟨t,rfl⟩:=r
     refine call_range_1 (Calls.spliced_nil ?_)
     have I2:Inv X pins σ H1 {s1 with heap:=s1.heap.push {cls:=.type "range",data:=.fields #[.int 0 s1.toks,.int j t,.int 1 (s1.toks+1)]},toks:=s1.toks+1+1}:=I1.kept λ b o e=>ZC _ e
     refine call_list_range (I2.ok.hd hcm) (IsRange.new ..) (Fw h1 h2) (vM j h1) (by omega) λ h' tk acc c' kp hget its=>?_
     have hp:=I2.hok.fresh (x4 _)
     have hI:IntsAre acc.toList (upI j.toNat):=Dz _ _ (by have:=its.1;simp[upI];exact this) λ i v e=>by
      have e':acc[i]? =some v:=by simpa using e
      obtain⟨t,rfl⟩:=its.2 i v e'
      have hi:i<j.toNat:=by rw[←its.1];exact(Array.getElem?_eq_some_iff.mp e').1
      exact⟨_,t,by unfold upI;rw[y9,List.getElem?_range hi];rfl,by rw[Int.mul_one]⟩
     have zl:((upI j.toNat).map V.int).length≤sizeLine:=by simp[upI,sizeLine_eq];omega
     have I3:=I2.laid (t':=tk) (o:=.lst ((upI j.toNat).map V.int)) (λ b ob q=>kp b ob q) (x4 _) ⟨zl,acc.toList,c',fW hI,by simpa using hget⟩
     have rp:Reps X.K O1 H1 ((upI j.toNat).map V.int) (DL.upTo 0 j.toNat):=by rw[Vo];exact Reps.of_ints _
     refine cH st1 ⟨.ref _,_,I3,rfl,?_⟩
     rcases w with w | w
     . exact eF w ok1 hp rp
     . exact jQ w ok1 hp rp
end
section
variable {Ω : Wd}
noncomputable def Ex.lrng(hm:Ω.mg "range"=none)(hm2:Ω.mg "list"=none)(a:Ex Ω):Ex Ω where
 lev:=a.lev
 chk top N nm e:=match e with | .Call (.Name z _) [.Call (.Name y _) [b] [] _] [] _=>(z==("list":Str))&&((y==("range":Str))&&(glb nm "list"&&(glb nm "range"&&(okE b&&a.chk top N nm b)))) | _=>false
 wp Γ S W:=a.wp Γ S λ d S1=>match d with | .int j=>(0≤j/\j<1000000)/\(W (.lst (DL.upTo 0 j.toNat)) S1∨W (.loc S1.length) (S1++[DL.upTo 0 j.toNat])) | _=>False
 sound:=by
  intro X r top N nm e Γ S W A hl hc hw
  split at hc
  . rename_i z p2 y p b pos pos2
    obtain⟨h0,g1⟩:=aa hc
    obtain⟨h1,g2⟩:=aa g1
    obtain⟨h2',g2⟩:=aa g2
    obtain⟨h2,g3⟩:=aa g2
    obtain⟨h3,h4⟩:=aa g3
    have e:=ZI h0
    subst e
    have e':=ZI h1
    subst e'
    refine Qu A.calm ((a.sound A hl h4 hw).mono λ d S1 q=>?_) (by rw[A.g];exact hm) (by rw[A.g];exact hm2) (A.glb h2) (A.glb h2') (aB h3 [] _) rfl
    cases d<;>first | exact⟨_,rfl,q.1.1,q.1.2,q.2⟩ | exact q.elim
  . exact fE hc
end
section
variable {X : Cx} {Γ : Gam} {S : Store} {W : WD} {pos : Pos}
theorem _root_.DL.Kos.val{K:PySem.W.Frag}{O:Own}{H:Hp}{ys:Oy}{kos:Ko}(r:Kos K O H ys (kos.map aX)){c:Option Int}{d:D}(h:bx kos c=some d):∃u v,valueAt ys c=some u/\RelV v u/\Rep K O H v d:=by
 induction kos generalizing ys with
 | nil=>cases h
 | cons kv kos ih=>
   obtain⟨u,v,ys',rfl,rv,rd,t⟩:=r.inv
   by_cases e:kv.1=c
   . have e1:bx (kv::kos) c=some kv.2:=by simp[bx,e]
     rw[e1]at h
     cases h
     exact⟨u,v,by simp[valueAt,e],rv,rd⟩
   . have e1:bx (kv::kos) c=bx kos c:=by simp[bx,List.find?_cons,e]
     have e2:valueAt ((kv.1,u)::ys') c=valueAt ys' c:=by simp[valueAt,List.find?_cons,e]
     rw[e1]at h
     rw[e2]
     exact ih t h
theorem Sg{o e:Expr}(hs:Rw e)
 (h:Ev X Γ S o λ x S1=>∃k,x=.dlo k/\Ev X Γ S1 e λ y S2=>∃c kvs d,y=oD c/\S2[k]? =some (List.map aX kvs)/\bx kvs c=some d/\W d S2):Ev X Γ S (.Subscript o e pos) W:=by
 intro pins s σ H O I env st
 refine Pk PySem.F.slot_dict_getitem.lookup hs (thn (h pins s σ H O I env st) λ u s1 hq_=>?_)
 obtain⟨x,H1,I1,rx,q⟩:=hq_
 obtain⟨O1,xd,S1,⟨k,rfl,he⟩,st1,ok1,rep1⟩:=q
 cases rep1 with
 | @dlo a _ ha=>
   obtain rfl:u=Value.ref a:=rx
   refine thn (he pins s1 σ H1 O1 I1 (env.mono st1) ok1) λ iv s2 hq_=>?_
   obtain⟨y,H2,I2,ry,q2⟩:=hq_
   obtain⟨O2,yd,S2,⟨c,kvs,d,rfl,hs,hd,w⟩,st2,ok2,rep2⟩:=q2
   have ha2:O2.A[k]? =some (a,true):=st2.conv.lc k _ ha
   obtain⟨hd',mu,ys,kc,dd,hz⟩:=jX I2 (ok2.dob k a _ ha2 hs)
   obtain⟨u',v,e2,rv,rd⟩:=kc.val hd
   exact⟨dd.typeIs,wpAny_getItem_of (uN rep2 ry) dd.mapOf e2 ⟨v,H2,I2.tok _,rv,O2,_,S2,w,st1.trans st2,ok2,rd⟩⟩
end
section
variable {Ω : Wd}
noncomputable def Ex.oix(o a:Ex Ω):Ex Ω where
 lev:=max o.lev a.lev
 chk top N nm e:=match e with | .Subscript l r _=>okE r&&(o.chk top N nm l&&a.chk top N nm r) | _=>false
 wp Γ S W:=o.wp Γ S λ x S1=>match x with | .dlo k=>a.wp Γ S1 λ y S2=>G4 y S2 k λ kvs c=>∃d,bx kvs c=some d/\W d S2 | _=>False
 sound:=by
  intro X r top N nm e Γ S W A hl hc hw
  obtain⟨l1,l2⟩:=lv2 hl
  cases e with
  | Subscript l r' pos=>
    obtain⟨h1,h2⟩:=aa hc
    obtain⟨h2,h3⟩:=aa h2
    refine Sg (Av h1) ((o.sound A l1 h2 hw).mono λ x S1 q=>?_)
    cases x with
    | dlo k=>exact⟨k,rfl,(a.sound A l2 h3 q).mono λ y S2 ⟨ns,kvs,e1,e2,d,e3,w⟩=>⟨ns,kvs,d,e1,e2,e3,w⟩⟩
    | _=>exact(show False from q).elim
  | _=>exact fE hc
end
end RF
namespace RF
open PySem PySem.Spec L2 DL
open PyProof.Rows
section
variable {prog : Program} {w : World} {A : Around} {R : Result -> Shared -> Prop} {I S : Addr} {fp wr : List Addr} {n : Nat} {P : Nat -> Value -> Prop} {St : Nat -> Heap -> Prop} {g : Nat -> Int} {d : Value}
noncomputable def Bst(g:Nat->Int)(j:Nat)(old:List Value):Prop:=(j=0/\old=[])∨∃(i:Nat) (t:Tok),i<j/\(∀k,k<j->g k≤g i)/\old=[.int (g i) t,.int (g i) t]
noncomputable def Mxd(g:Nat->Int)(n:Nat)(d v:Value):Prop:=(n=0/\v=d)∨∃(i:Nat) (t:Tok),i<n/\(∀k,k<n->g k≤g i)/\v=.int (g i) t
theorem Jq(W:Walks prog w A.in1 I fp wr n P St)(hg:∀i v,P i v->∃t,v=.int (g i) t)(hSf:S∉fp):∀(k j:Nat)(s:Shared)(old:List Value)(c:Nat),n-j=k->j≤n->St j s.heap->Bst g j old->s.heap.get? S=some ⟨.type "list",none,.seq old.toArray c,#[]⟩->
 (∀v h' tk,Mxd g n d v->(∀b o,b∉wr->b≠S->s.heap.get? b=some o->h'.get? b=some o)->R (.ok (.ret v)) ⟨h',s.gens,s.drawn,tk,s.os⟩)->codeAny (model prog w) A (.builtin "max.loop" ⟨[.ref I,.none,.ref S],[("default",d)]⟩) R s:=by
 have nw:S∉wr:=λ z=>hSf (W.sub _ z)
 have nm:(toString "max"++toString ".loop":String)="max.loop":=by decide
 have cmp:=CmpOf.ints_gt (prog:=prog) (w:=w) (A:=A.in1) (P:=λ i v=>∃t,v=.int (g i) t) g λ _ _ q=>q
 intro k
 induction k with
 | zero=>
   intro j s old c hk hj st hb hS hR
   obtain rfl:j=n:=by omega
   refine codeAny_builtin F.entry_max_loop ?_
   rw[Around.under_plainId F.plain_max_loop _]
   refine ZA (m:=seqItems? (.ref S)) (wpAny_seqItems hS rfl (ZA (wpAny_tryCatch (W.done s _ _ st λ h' tk kp=>?_))))
   rcases hb with⟨rfl,rfl⟩ | ⟨i,t,hi,hm,rfl⟩
   . exact ZA (wpAny_rule (ZB (hR d h' tk (.inl ⟨rfl,rfl⟩) λ b o q _ e=>kp b o q e)))
   . refine ZA (m:=updateSeq S _) (wpAny_updateSeq (kp S _ nw hS) rfl (ZA (wpAny_letGo (ZB ?_))))
     exact hR _ _ tk (.inr ⟨i,t,hi,hm,rfl⟩) λ b o q ne e=>(Heap.get?_update_other _ _ ne.symm).trans (kp b o q e)
 | succ k ih=>
   intro j s old c hk hj st hb hS hR
   have hlt:j<n:=by omega
   refine codeAny_builtin F.entry_max_loop ?_
   rw[Around.under_plainId F.plain_max_loop _]
   refine ZA (m:=seqItems? (.ref S)) (wpAny_seqItems hS rfl (ZA (wpAny_tryCatch (W.item j s _ _ hlt st λ v h' tk hP st' kp=>?_))))
   obtain⟨t,rfl⟩:=hg j v hP
   have hS2:=kp S _ nw hS
   have put:∀(f:Array Value->Array Value),St (j+1) (h'.update S (Obj.mapSeq f)):=λ f=>W.frame _ _ _ st' λ b hb o e=>(Heap.get?_update_other _ _ (λ z:S=b=>hSf (z▸hb))).trans e
   rcases hb with⟨rfl,rfl⟩ | ⟨i,u,hi,hm,rfl⟩
   . refine ZA (m:=updateSeq S _) (wpAny_updateSeq hS2 rfl ?_)
     rw[nm]
     refine ZB ⟨plainId_quiet F.plain_max_loop _,ih 1 _ [.int (g 0) t,.int (g 0) t] _ (by omega) hlt (put _) (.inr ⟨0,t,by decide,λ k hk=>?_,rfl⟩) (Heap.get?_update_self _ hS2 rfl) λ v' h'' tk' q kp'=>?_⟩
     . rw[show k=0 from by omega];exact Int.le_refl _
     . exact hR v' h'' tk' q λ b o hw ne e=>kp' b o hw ne ((Heap.get?_update_other _ _ ne.symm).trans (kp b o hw e))
   . refine ZA (ZB (ZA (wpAny_tryCatch (ZQ (ZA (cmp j i _ _ _ _ _ ⟨t,rfl⟩ ⟨u,rfl⟩ (ZA (ZQ (wpAny_truthy_bool (ZA (wpAny_letGo (ZB ?_))))))))))))
     by_cases hc:g j>g i
     . simp only[ZG hc,if_true]
       refine ZA (m:=updateSeq S _) (wpAny_updateSeq hS2 rfl (ZA (wpAny_letGo ?_)))
       rw[nm]
       refine ZB ⟨plainId_quiet F.plain_max_loop _,ih (j+1) _ [.int (g j) t,.int (g j) t] _ (by omega) hlt (put _) (.inr ⟨j,t,by omega,λ k hk=>?_,rfl⟩) (Heap.get?_update_self _ hS2 rfl) λ v' h'' tk' q kp'=>?_⟩
       . rcases Nat.lt_or_ge k j with h | h
         . have:=hm k h;omega
         . rw[show k=j from by omega];exact Int.le_refl _
       . exact hR v' h'' tk' q λ b o hw ne e=>kp' b o hw ne ((Heap.get?_update_other _ _ ne.symm).trans (kp b o hw e))
     . simp only[ZH hc,Bool.false_eq_true,if_false]
       refine ZA (wpAny_letGo ?_)
       rw[nm]
       refine ZB ⟨plainId_quiet F.plain_max_loop _,ih (j+1) _ [.int (g i) u,.int (g i) u] c (by omega) hlt st' (.inr ⟨i,u,by omega,λ k hk=>?_,rfl⟩) hS2 λ v' h'' tk' q kp'=>?_⟩
       . rcases Nat.lt_or_ge k j with h | h
         . exact hm k h
         . rw[show k=j from by omega];omega
       . exact hR v' h'' tk' q λ b o hw ne e=>kp' b o hw ne (kp b o hw e)
theorem Jp{E:Value->Shared->Prop}{s:Shared}{l:Addr}{its:Array Value}{Q:Value->Shared->Prop}(hh:A.handled=none)(hl:s.heap.IsList l its)(hg:∀(i:Nat)(v:Value),its[i]? =some v->∃t,v=Value.int (g i) t)
 (h:∀v h' tk,Mxd g its.size d v->(∀b o,s.heap.get? b=some o->h'.get? b=some o)->Q v ⟨h',s.gens,s.drawn,tk,s.os⟩):wpAny (model prog w) A (call (.builtin "max") [.ref l] [("default",d)]) Q E s:=by
 have nm:(toString "max"++toString ".loop":String)="max.loop":=by decide
 refine wpAny_call (codeAny_call_builtin F.plain_max F.entry_max ?_)
 have ha:argsOk "max" ⟨[.ref l],[("default",d)]⟩:=by unfold argsOk;kernel_rfl
 have fin:wpAny (model prog w) A.in1 (Builtin.«max» ⟨[.ref l],[("default",d)]⟩) (λ fin s'=>match fin with
  | .done f=>(match (Except.ok f:Result)with | .ok (.ret v)=>Q v s' | .ok _=>False | .error e=>E e s')
  | .again c'=>c'.quiet=true/\codeAny (model prog w) A c' (λ r s'=>match r with | .ok (.ret v)=>Q v s' | .ok _=>False | .error e=>E e s') s') E s:=by
  refine ZA (m:=Builtin.Builtins.bindParams "max" ["key","default"] 0 ⟨[],[("default",d)]⟩) (wpAny_of_eq (show Builtin.Builtins.bindParams "max" ["key","default"] 0 ⟨[],[("default",d)]⟩=pure [none,some d]from rfl) ?_)
  refine ZA (ZB (ZA (wpAny_pyIter_list hl ?_)))
  refine ZA (wpAny_newObj_type ?_)
  rw[nm]
  have ne:l≠s.heap.objs.size:=by obtain⟨o,e,_⟩:=hl;exact ZN (ZE e)
  have hsz:(s.heap.push (.mk (.type "list_iterator") none (.fields #[.ref l,.int 0 0]) #[])).objs.size=s.heap.objs.size+1:=by simp[Heap.push]
  have kp:∀b o,s.heap.get? b=some o->(s.heap.push (.mk (.type "list_iterator") none (.fields #[.ref l,.int 0 0]) #[])).get? b=some o:=λ b o e=>ZC _ e
  refine ZB ⟨plainId_quiet F.plain_max_loop _,Jq (g:=g) (d:=d) (Walks.list (A:=A.in1) (by simpa using hh) s.heap.objs.size l ne its) (λ i v e=>hg i v e) (S:=(s.heap.push (.mk (.type "list_iterator") none (.fields #[.ref l,.int 0 0]) #[])).objs.size) ?_ its.size 0 _ [] 0 (by omega) (Nat.zero_le _) ⟨?_,?_⟩ (.inl ⟨rfl,rfl⟩) (ZD _ rfl) λ v h' tk q kq=>?_⟩
  . intro z
    rw[hsz]at z
    obtain⟨o,e,_⟩:=hl
    have z':s.heap.objs.size+1=l:=by simpa using z
    exact absurd (ZE e) (by rw[←z'];exact Nat.not_lt.mpr (Nat.le_succ _))
  . exact⟨_,ZC _ (ZD _ rfl),rfl,rfl⟩
  . exact(hl.push _).push _
  . refine h v h' tk q λ b o e=>kq b o (λ z=>?_) (λ z=>?_) (ZC _ (kp b o e))
    . have z':b=s.heap.objs.size:=by simpa using z
      exact absurd (ZE e) (by rw[z'];exact Nat.lt_irrefl _)
    . exact absurd (ZE e) (by rw[z,hsz];exact Nat.not_lt.mpr (Nat.le_succ _))
 simp only[checkBuiltinCall,F.kind_max]
 cases hsig:Manifest.signature? "max" with
 | none=>exact ZB fin
 | some sig=>
   have ha':Bind.checkArgs "max" sig ⟨[.ref l],[("default",d)]⟩=pure ():=by simpa only[argsOk,hsig]using ha
   simp only[ha']
   exact ZB fin
end
section
variable {X : Cx} {Γ : Gam} {S : Store} {W : WD} {pos : Pos}
theorem Pq{e f:Expr}{p kp:Pos}(hc:X.calm=true)(h:Ev X Γ S e λ x S1=>Ev X Γ S1 f λ y S2=>∃(ns:List Int) (d:Int),y=.int d/\dR S2 x=some (ns.map .int)/\(ns=[]->W (.int d) S2)/\∀M∈ns,(∀z∈ns,z≤M)->W (.int M) S2)(hm:X.mg "max"=none)(hg:Gl X "max")(hs:starEach [e] X.env=[(false,eval e X.env)]):Ev X Γ S (.Call (.Name "max" p) [e] [⟨some "default",f,kp⟩] pos) W:=by
 intro pins s σ H O I env st
 have hA:EvA X Γ S [e] λ ds S1=>∃x,ds=[x]/\Ev X Γ S1 f λ y S2=>∃(ns:List Int) (d:Int),y=.int d/\dR S2 x=some (ns.map .int)/\(ns=[]->W (.int d) S2)/\∀M∈ns,(∀z∈ns,z≤M)->W (.int M) S2:=
  bI (h.mono λ x S1 q=>d8 ⟨x,rfl,q⟩) hs
 rw[show eval (.Call (.Name "max" p) [e] [⟨some "default",f,kp⟩] pos) X.env=(do callWith pos (←eval (.Name "max" p) X.env) [] (backTo pos (starEach [e] X.env)) (backToKw pos (keywordEach [⟨some "default",f,kp⟩] X.env)))from rfl]
 refine ZA (bJ I hg hm (show bootBuiltins "max"=some (.builtin "max")from by decide+kernel) ?_)
 refine callWith_kw (e:=e) (rest:=[]) (kws:=[⟨some "default",f,kp⟩]) (env:=X.env) ?_ (by rw[hs];rfl) (by rw[hs];rfl) rfl rfl
 refine thn (hA pos pins s σ H O I env st) λ us s1 hq_=>?_
 obtain⟨vs,H1,I1,r1,q1⟩:=hq_
 obtain⟨O1,ds,S1,⟨x,rfl,he⟩,st1,ok1,rep⟩:=q1
 obtain⟨v,rfl,rv⟩:=b8 rep
 obtain⟨u,rfl,ru⟩:=vals1 r1
 refine kws_cons (thn (he pins s1 σ H1 O1 I1 (env.mono st1) ok1) λ iv s2 hq_=>kws_nil ?_)
 obtain⟨y,H2,I2,ry,q2⟩:=hq_
 obtain⟨O2,yd,S2,⟨ns,d,rfl,hl,w0,w1⟩,st2,ok2,rep2⟩:=q2
 cases rep2
 obtain⟨td,rfl⟩:=ry
 obtain⟨a,xs,rfl,hsq,hq⟩:=oK (pins:=pins) (s:=s2) (σ:=σ) ok2 (rv.mono st2) hl
 cases ru
 obtain⟨its,rv2,pl,hz⟩:=I2.list hsq
 have ex:=hq.ints
 subst ex
 have hi:IntsAre its ns:=intsAre_of rv2
 have hlen:its.length=ns.length:=hi.length
 show wpAny _ X.A (call (.builtin "max") [.ref a] [("default",.int d td)]) _ _ s2
 refine Jp (g:=λ i=>ns.getD i 0) (I2.ok.hd hc) pl.isList (λ i v e=>?_) λ v h' tk q kq=>?_
 . have e:its[i]? =some v:=by simpa using e
   have hil:i<ns.length:=by rw[←hlen];exact(y3.mp e).1
   obtain⟨z,hz',rz⟩:=rv2.get (i:=i) (x:=V.int ns[i]) (by rw[y9,y4 hil];rfl)
   rw[e]at hz'
   cases hz'
   obtain⟨t,rfl⟩:=rz
   exact⟨t,by simp[List.getD,hil]⟩
 . rw[x6,hlen]at q
   rcases q with⟨h0,rfl⟩ | ⟨i,t,hi,hm,rfl⟩
   . exact cH (st1.trans st2) ⟨.int d,H2,I2.kept kq,⟨_,rfl⟩,QG.here (w0 (List.eq_nil_of_length_eq_zero h0)) ok2 (.int _)⟩
   . have e1:ns.getD i 0=ns[i]:=by simp[List.getD,hi]
     refine cH (st1.trans st2) ⟨.int _,H2,I2.kept kq,⟨t,rfl⟩,QG.here (w1 _ (by show ns.getD i 0∈ns;rw[e1];exact List.getElem_mem hi) λ z hz=>?_) ok2 (.int _)⟩
     obtain⟨k,hk⟩:=ZR hz
     obtain⟨hkl,rfl⟩:=y3.mp hk
     have:=hm k hkl
     simpa[List.getD,hkl]using this
end
section
variable {Ω : Wd}
noncomputable def G9:Expr->Option (Str×Expr×Str×Expr)
 | .Call f as ks _=>match f,as,ks with
   | .Name y _,[a],[⟨some x,b,_⟩]=>some (y,a,x,b)
   | _,_,_=>none
 | _=>none
theorem P0{E:Expr}{y x:Str}{a b:Expr}(h:G9 E=some (y,a,x,b)):∃p k q,E=.Call (.Name y p) [a] [⟨some x,b,k⟩] q:=by
 unfold G9 at h
 split at h
 . split at h
   . cases h;exact⟨_,_,_,rfl⟩
   . cases h
 . cases h
noncomputable def Ex.maxd(hm:Ω.mg "max"=none)(a b:Ex Ω):Ex Ω where
 lev:=max a.lev b.lev
 chk top N nm e:=match G9 e with | some (y,l,x,r)=>(y==("max":Str))&&((x==("default":Str))&&(glb nm "max"&&(okE l&&(a.chk top N nm l&&b.chk top N nm r)))) | none=>false
 wp Γ S W:=a.wp Γ S λ x S1=>b.wp Γ S1 λ y S2=>∃(ns:List Int) (d:Int),y=.int d/\dR S2 x=some (ns.map .int)/\(ns=[]->W (.int d) S2)/\∀M∈ns,(∀z∈ns,z≤M)->W (.int M) S2
 sound:=by
  intro X r top N nm e Γ S W A hl hc hw
  obtain⟨l1,l2⟩:=lv2 hl
  cases hv:G9 e with
  | none=>rw[hv]at hc;exact ff hc
  | some q=>
    obtain⟨y,l,x,r'⟩:=q
    rw[hv]at hc
    obtain⟨p,k,pos,rfl⟩:=P0 hv
    obtain⟨h1,g⟩:=aa hc
    obtain⟨h2,g⟩:=aa g
    obtain⟨h3,g⟩:=aa g
    obtain⟨h4,g⟩:=aa g
    obtain⟨h5,h6⟩:=aa g
    have e1:=ZI h1
    subst e1
    have e2:=ZI h2
    subst e2
    exact Pq A.calm ((a.sound A l1 h5 hw).mono λ x S1 q=>b.sound A l2 h6 q) (by rw[A.g];exact hm) (A.glb h3) (aB h4 [] _)
end
end RF
namespace RF
open PySem PySem.Spec L2 DL
open PyProof.Rows
noncomputable def FrE(n:Nat)(W:WD):WD:=λ d S1=>W d S1∨∃(J G:List (List D)) (S':Store),d=.lst ((List.range J.length).map λ i=>.loc (S'.length+i))/\S1=S'++(J++G)/\n≤S'.length/\flat J/\flat S'/\W (.lst (J.map .lst)) S'
theorem QG.fre{K:PySem.W.Frag}{O:Own}{H H':Hp}{W:WD}{v:V}{n:Nat}(hn:O.A.length=n)(q:QG K O H (FrE n W) v H'):QG K O H W v H':=by
 obtain⟨O',d,S1,w,st,ok,r⟩:=q
 rcases w with w | ⟨J,G,S',rfl,rfl,hl,hJ,hS,w⟩
 . exact⟨O',d,S1,w,st,ok,r⟩
 . obtain⟨st2,ok2,sub,na⟩:=gG st ok (by omega) hS
   refine⟨_,.lst (J.map .lst),S',w,st2,ok2,?_⟩
   cases r with
   | @lst a xs _ h1 q1=>
     refine .lst (xs:=xs) (h1.imp (λ q=>⟨sub _ q.1,q.2⟩) id) (En (by rw[q1.length];simp) λ i x d e1 e2=>?_)
     obtain⟨l,e3,rfl⟩:=bH e2
     have hi:=(y3.mp e3).1
     obtain⟨d',f1,f2⟩:=q1.get' e1
     rw[y9,List.getElem?_range hi]at f1
     cases f1
     cases f2 with
     | @loc b _ hb=>
       obtain⟨ys,hy,q2⟩:=ok.obj _ b l hb (by rw[List.getElem?_append_right (by omega),show S'.length+i-S'.length=i from by omega,w9 hi];exact e3)
       exact .lst (.inl ⟨na _ b (by omega) hb,.inl hy⟩) (cU sub (hJ l (y6 e3)) q2)
section
variable {Ω : Wd}
noncomputable def Bl.fre(b:Bl Ω):Bl Ω where
 lev:=b.lev
 chk:=b.chk
 wp Γ S W:=b.wp Γ S {W with rt:=FrE S.length W.rt}
 sound:=by
  intro X r top N nm sts Γ S W A hl hc hw pins s σ H O I env ok
  refine thn (b.sound A hl hc hw pins s σ H O I env ok) λ f s' q=>?_
  cases f with
  | next=>exact q
  | brk=>exact q
  | cont=>exact q
  | ret u=>obtain⟨v,σ',H',I',r,q⟩:=q;exact⟨v,σ',H',I',r,QG.fre ok.len q⟩
end
end RF
namespace RF
open PySem PySem.Spec L2 DL
open PyProof.Rows
noncomputable def isI(k:Int):Value->Bool
 | .int a _=>a==k
 | _=>false
noncomputable def uK:V->List V->Hp->VK->Prop:=λ x vs H Q=>∃(l:Addr) (ns:List Int) (k:Int) (j:Nat),x=.ref l/\vs=[.int k]/\H l=some (.lst (ns.map V.int))/\ns[j]? =some k/\(∀(m:Nat)(z:Int),m<j->ns[m]? =some z->z≠k)/\Q .non (upd H l (.lst ((ns.eraseIdx j).map V.int)))
section
variable {X : Cx}
theorem Uy:∀{ns:List Int}{us:List Value},Vals (ns.map V.int) us->(∀(i:Nat)(z:Int),ns[i]? =some z->∃t,us[i]? =some (.int z t))/\us.length=ns.length:=by
 intro ns us r
 refine⟨λ i z h=>?_,by rw[←r.length,y8]⟩
 obtain⟨u,hu,ru⟩:=r.get (x:=.int z) (i:=i) (by rw[y9,h];rfl)
 obtain⟨t,rfl⟩:=ru
 exact⟨t,hu⟩
theorem vL{α β:Type}(f:α->β):∀(l:List α)(j:Nat),(l.map f).eraseIdx j=(l.eraseIdx j).map f
 | [],_=>rfl
 | _::_,0=>rfl
 | a::l,j+1=>by simp only[List.map_cons,List.eraseIdx_cons_succ,vL f l j]
theorem J9:MtM X "list.remove" uK:=by
 intro pins s σ H x vs v us Q I rx rv h
 obtain⟨l,ns,k,j,rfl,rfl,hH,hj,hn,q⟩:=h
 cases rx
 obtain⟨u,rfl,ru⟩:=rv.one
 obtain⟨t,rfl⟩:=ru
 obtain⟨z,its,n,r,hl,e⟩:=I.lstM hH
 obtain⟨ri,hlen⟩:=Uy r
 have at_:∀(i:Nat)(hi:i<its.length),∃(z:Int) (t:Tok),ns[i]? =some z/\its[i]=.int z t:=λ i hi=>by
  obtain⟨t,ht⟩:=ri i ns[i] (y4 (by omega))
  exact⟨_,t,y4 (by omega),(y3.mp ht).2⟩
 have hjl:j<its.length:=by rw[hlen];exact(y3.mp hj).1
 refine call_meets PySem.F.slot_list_remove ⟨_,e,rfl⟩ PySem.F.entry_list_remove (PySem.F.args_list_remove_2 _ _)
  (MeetsSeq.list_remove l its.toArray n (.int k t) (isI k) ?_ j (by simpa using hjl) ?_ ?_ (by rw[x6];omega)) ⟨e,?_⟩
 . intro y hy
   have hy':y∈its:=by simpa using hy
   obtain⟨i,hi,rfl⟩:=List.getElem_of_mem hy'
   obtain⟨z,t',_,h2⟩:=at_ i hi
   rw[h2]
   exact MeetsSeq.EqGives.int z k t' t
 . obtain⟨z,t',h1,h2⟩:=at_ j hjl
   rw[hj]at h1
   cases h1
   show isI k its[j]=true
   rw[h2]
   exact beq_self_eq_true k
 . intro m hm hlt
   have hml:m<its.length:=by simpa using hm
   obtain⟨z,t',h1,h2⟩:=at_ m hml
   show isI k its[m]=false
   rw[h2]
   exact beq_false_of_ne (hn m z hlt h1)
 . refine⟨.non,_,I.lset (its':=its.eraseIdx j) (ys:=(ns.eraseIdx j).map V.int) hH e ?_ ?_ ?_,rfl,q⟩
   . show its.toArray.eraseIdxIfInBounds j=(its.eraseIdx j).toArray
     rw[List.eraseIdxIfInBounds_toArray]
   . rw[show(ns.eraseIdx j).map V.int=(ns.map V.int).eraseIdx j from(vL V.int ns j).symm]
     exact r.eraseIdx j
   . have:=List.length_eraseIdx_le ns j
     rw[y8]at z ⊢
     omega
end
section
variable {Ω : Wd}
theorem Hs{K:PySem.W.Frag}{O:Own}{H:Hp}:∀{xs:List V}{ns:List Int},Reps K O H xs (ns.map D.int)->xs=ns.map V.int
 | [],[],_=>rfl
 | _::_,_::_,.cons a t=>by cases a;rw[Hs t];rfl
theorem Kw{K:PySem.W.Frag}{O:Own}{H:Hp}:∀(ns:List Int),Reps K O H (ns.map V.int) (ns.map D.int)
 | []=>.nil
 | n::ns=>.cons (.int n) (Kw ns)
theorem zm{x:V}{vs:List V}{H:Hp}{Q Q':VK}:uK x vs H Q->(∀v H',Q v H'->Q' v H')->uK x vs H Q':=by
 rintro⟨l,ns,k,j,h1,h2,h3,h4,h5,q⟩ hq
 exact⟨l,ns,k,j,h1,h2,h3,h4,h5,hq _ _ q⟩
noncomputable def Ex.m_removeS(o a:Ex Ω):Ex Ω where
 lev:=max o.lev a.lev
 chk top N nm e:=match e with | .Call (.Attribute (.Subscript x1 x2 x3) m p) [y] [] q=>(m==("remove":Str))&&((p.endLine==q.line)&&(okE y&&(o.chk top N nm (.Subscript x1 x2 x3)&&a.chk top N nm y))) | _=>false
 wp Γ S W:=o.wp Γ S λ x S1=>match x with | .loc k=>a.wp Γ S1 λ d S2=>∃(i:Int) (ns:List Int) (j:Nat),d=.int i/\S2[k]? =some (ns.map D.int)/\ns[j]? =some i/\(∀(m:Nat)(z:Int),m<j->ns[m]? =some z->z≠i)/\W .non (S2.set k ((ns.eraseIdx j).map D.int)) | _=>False
 sound:=by
  intro X r top N nm e Γ S W A hl hc hw
  obtain⟨l1,l2⟩:=lv2 hl
  split at hc
  . rename_i x1 x2 x3 m p y q
    obtain⟨h1,g⟩:=aa hc
    obtain⟨h3,g⟩:=aa g
    obtain⟨h4,g⟩:=aa g
    obtain⟨h6,h7⟩:=aa g
    have e:=ZI h1
    subst e
    refine Jy F.slot_list_remove F.type_list_remove J9 zm ((o.sound A l1 h6 hw).mono λ x S1 q=>?_) rfl (Tc h4) h3 (aB h4 _ _) rfl
    cases x<;>first | exact q.elim | skip
    refine⟨_,rfl,bI ((a.sound A l2 h7 q).mono λ d S2 q=>d8 ?_) (aB h4 _ _)⟩
    obtain⟨i,ns,j,rfl,hk,hj,hn,w⟩:=q
    refine⟨_,hk,λ O H a xs vs ha hx rx rv st=>?_⟩
    cases rv with
    | cons r1 t=>
      cases t
      cases r1
      have:=Hs rx
      subst this
      exact⟨a,ns,i,j,rfl,rfl,hx,hj,hn,O,.non,_,w,Step.put (bW ha) _,st.put ha (Kw _),.non⟩
  . exact ff hc
end
theorem Qp{K:PySem.W.Frag}{O:Own}{H:Hp}{ys:List (Option Int×Value)}{es:List D}(h:Kos K O H ys es):ys.length=es.length:=by
 induction h with
 | nil=>rfl
 | cons _ _ _ _ ih=>rw[List.length_cons,List.length_cons,ih]
theorem R5{X:Cx}{S:Store}{W:WD}{k:Nat}{kvs:Ko}(hk:S[k]? =some (List.map aX kvs))(w:W (.int kvs.length) S):cG X (.builtin "len") [.dlo k] S W:=by
 intro pins s σ H O vs us I st r1 r2
 obtain⟨v,rfl,r'⟩:=b8 r1
 cases r' with
 | @dlo a _ ha=>
   obtain⟨u,rfl,ru⟩:=r2.one
   obtain rfl:u=Value.ref a:=ru
   obtain⟨hd,mu,ys,kc,dd,hz⟩:=jX I (st.dob k a _ ha hk)
   have e:=Qp kc
   rw[y8]at e
   have hz2:sizeLine<2 ^ 63-1:=by decide
   refine call_len_dict hd dd (by omega) ?_
   exact⟨.int kvs.length,H,I.tok _,⟨_,by rw[e]⟩,QG.here w st (.int _)⟩
noncomputable def U3:Bf where
 x:="len"
 id:="len"
 boot:=by decide+kernel
 wp ds S W:=match ds with
  | [.dlo k]=>∃kvs:Ko,S[k]? =some (List.map aX kvs)/\W (.int kvs.length) S
  | _=>False
 sound:=by
  intro X ds S W hc hr h
  split at h
  . obtain⟨kvs,h1,h2⟩:=h;exact R5 h1 h2
  . exact h.elim
mutual
inductive Rsv(n:Nat)(S:Store):D->D->Prop
 | ok{d:D}(h:aq d=true):Rsv n S d d
 | loc{k:Nat}{xs rs:List D}(h:n≤k)(g:S[k]? =some xs)(r:Rsvs n S xs rs):Rsv n S (.loc k) (.lst rs)
 | lst{xs rs:List D}(r:Rsvs n S xs rs):Rsv n S (.lst xs) (.lst rs)
 | tup{xs rs:List D}(r:Rsvs n S xs rs):Rsv n S (.tup xs) (.tup rs)
inductive Rsvs(n:Nat)(S:Store):List D->List D->Prop
 | nil:Rsvs n S [] []
 | cons{x r:D}{xs rs:List D}(h:Rsv n S x r)(t:Rsvs n S xs rs):Rsvs n S (x::xs) (r::rs)
end
mutual
theorem Et{K:PySem.W.Frag}{O O':Own}{H:Hp}{S:Store}{n:Nat}(sub:∀b,¬O.has b->¬O'.has b)(na:∀j a,n≤j->O.A[j]? =some (a,false)->¬O'.has a)(ok:StOk K O H S):∀{v:V}{d r:D},Rsv n S d r->Rep K O H v d->Rep K O' H v r
 | _,_,_,.ok h,q=>cZ sub h q
 | _,_,_,.loc h g r,.loc ha=>by
   obtain⟨ys,hy,q2⟩:=ok.obj _ _ _ ha g
   exact .lst (.inl ⟨na _ _ h ha,.inl hy⟩) (lH sub na ok r q2)
 | _,_,_,.lst r,.lst h q=>.lst (h.imp (λ q=>⟨sub _ q.1,q.2⟩) id) (lH sub na ok r q)
 | _,_,_,.tup r,.tup h q=>.tup ⟨sub _ h.1,h.2⟩ (lH sub na ok r q)
theorem lH{K:PySem.W.Frag}{O O':Own}{H:Hp}{S:Store}{n:Nat}(sub:∀b,¬O.has b->¬O'.has b)(na:∀j a,n≤j->O.A[j]? =some (a,false)->¬O'.has a)(ok:StOk K O H S):∀{vs:List V}{ds rs:List D},Rsvs n S ds rs->Reps K O H vs ds->Reps K O' H vs rs
 | _,_,_,.nil,.nil=>.nil
 | _,_,_,.cons h t,.cons a b=>.cons (Et sub na ok h a) (lH sub na ok t b)
end
noncomputable def FrG(n:Nat)(W:WD):WD:=λ d S1=>W d S1∨∃(r:D) (G S':Store),S1=S'++G/\n≤S'.length/\flat S'/\Rsv S'.length S1 d r/\W r S'
theorem QG.frg{K:PySem.W.Frag}{O:Own}{H H':Hp}{W:WD}{v:V}{n:Nat}(hn:O.A.length=n)(q:QG K O H (FrG n W) v H'):QG K O H W v H':=by
 obtain⟨O',d,S1,w,st,ok,r⟩:=q
 rcases w with w | ⟨e,G,S',rfl,hl,hS,hr,w⟩
 . exact⟨O',d,S1,w,st,ok,r⟩
 . obtain⟨st2,ok2,sub,na⟩:=gG st ok (by omega) hS
   exact⟨_,e,S',w,st2,ok2,Et sub (λ j a h g=>na j a h g) ok hr r⟩
section
variable {Ω : Wd}
noncomputable def Bl.frg(b:Bl Ω):Bl Ω where
 lev:=b.lev
 chk:=b.chk
 wp Γ S W:=b.wp Γ S {W with rt:=FrG S.length W.rt}
 sound:=by
  intro X r top N nm sts Γ S W A hl hc hw pins s σ H O I env ok
  refine thn (b.sound A hl hc hw pins s σ H O I env ok) λ f s' q=>?_
  cases f with
  | next=>exact q
  | brk=>exact q
  | cont=>exact q
  | ret u=>obtain⟨v,σ',H',I',r,q⟩:=q;exact⟨v,σ',H',I',r,QG.frg ok.len q⟩
end
section
variable {Ω : Wd}
noncomputable def Te.eqV(a b:Ex Ω):Te Ω where
 lev:=max a.lev b.lev
 chk top N nm e:=match e with | .Compare l [o] [r] _=>(o==CmpOp.Eq)&&(okE r&&(a.chk top N nm l&&b.chk top N nm r)) | _=>false
 wp Γ S W:=a.wp Γ S λ x S1=>b.wp Γ S1 λ y S2=>okD (vwT S2 x)=true/\okD (vwT S2 y)=true/\deep (vwT S2 x)≤50/\W (eqD (vwT S2 x) (vwT S2 y)) S2
 sound:=by
  intro X r top N nm e Γ S W A hl hc hw
  obtain⟨l1,l2⟩:=lv2 hl
  split at hc
  . rename_i l o r' pos
    obtain⟨h1,h2⟩:=aa hc
    obtain⟨h0,h2⟩:=aa h2
    obtain⟨h2,h3⟩:=aa h2
    have e:o=.Eq:=ZI h1
    subst e
    exact zu ((a.sound A l1 h2 hw).mono λ x S1 q=>(b.sound A l2 h3 q).mono λ y S2 q=>U0 A.hu q.1 q.2.1 q.2.2.1 ⟨_,rfl,q.2.2.2⟩) (fu h0)
  . exact ff hc
end
end RF
set_option maxHeartbeats 4000000
namespace K43
open PySem L2 DL RF
variable {Ω : Wd} {f : Addr} {fd : FuncData}
noncomputable def top(i:Nat):Stmt:=PySem.Challenge.pw_nestturn_k43_rounds_looked_at.main.body.getD i (.Pass ⟨0,0,0,0⟩)
structure Bi(mg:Str->Option Value):Prop where
 MOST_STEPS_:∃t,mg "MOST_STEPS"=some (.int 60 t)
 abs_:mg "abs"=none
 all_:mg "all"=none
 bool_:mg "bool"=none
 enumerate_:mg "enumerate"=none
 int_:mg "int"=none
 isinstance_:mg "isinstance"=none
 len_:mg "len"=none
 list_:mg "list"=none
 max_:mg "max"=none
 min_:mg "min"=none
 range_:mg "range"=none
 set_:mg "set"=none
 sorted_:mg "sorted"=none
 sum_:mg "sum"=none
 tuple_:mg "tuple"=none
 zip_:mg "zip"=none
section
variable {Ω : Wd}
noncomputable abbrev iD:Stmt:=top 5
noncomputable abbrev Ab:List Str:=["thing"]
noncomputable abbrev zJ:List Str:=["thing"]
noncomputable def zY(B:Bi Ω.mg):Bl Ω:=
 Bl.cons (Sm.ret (Ex.and (Bo.cons (Ex.isi B.isinstance_ (Ex.var 0) .int B.int_) (Bo.one (Ex.not (Ex.isi B.isinstance_ (Ex.var 0) .bool B.bool_)))))) Bl.nil
noncomputable abbrev eH:Stmt:=top 6
noncomputable abbrev sr:List Str:=["thing","least","most"]
noncomputable abbrev sW:List Str:=["thing","least","most"]
noncomputable def sO(B:Bi Ω.mg):Bl Ω:=
 Bl.cons (Sm.ret (Ex.and (Bo.cons (Ex.isi B.isinstance_ (Ex.var 0) .tuple B.tuple_) (Bo.one (Ex.ch2 (Ex.var 1) .LtE (Ex.blt bA B.len_ (Ar.cons (Ex.var 0) Ar.nil)) .LtE (Ex.var 2)))))) Bl.nil
noncomputable abbrev je:Stmt:=top 7
noncomputable abbrev Bm:List Str:=["thing","d"]
noncomputable abbrev Cp:List Str:=["thing","d"]
noncomputable def BZ(B:Bi Ω.mg){Fq39:Ct}(Cq39:Cal Ω "is_whole" 1 1 Fq39){Fq38:Ct}(Cq38:Cal Ω "is_tuple_of" 1 3 Fq38):Bl Ω:=
 Bl.cons (Sm.ret (Ex.and (Bo.cons (Ex.call Cq38 (Ar.cons (Ex.var 0) (Ar.cons (Ex.bin .Add (Ex.var 1) (Ex.int 1)) (Ar.cons (Ex.bin .Add (Ex.var 1) (Ex.int 1)) Ar.nil)))) (Bo.one (Ex.blt fH B.all_ (Ar.cons (Ex.comp ["number"] [none] (Ex.call Cq39 (Ar.cons (Ex.var 0) Ar.nil)) (Tg.nm 0) (Itb.seq (Ex.var 0)) Cd.no) Ar.nil)))))) Bl.nil
noncomputable abbrev ir:Stmt:=top 8
noncomputable abbrev xj:List Str:=["form","counts"]
noncomputable abbrev z6:List Str:=["form","counts"]
noncomputable def Aj(B:Bi Ω.mg):Bl Ω:=
 Bl.cons (Sm.ret (Ex.bin .Add (Ex.ix (Ex.var 0) (Ex.int 0)) (Ex.blt Gx B.sum_ (Ar.cons (Ex.comp ["number","count"] [none,none] (Ex.bin .Mult (Ex.var 0) (Ex.var 1)) (Tg.tup [0,1]) (Itb.zip B.zip_ (Ex.sl (Ex.var 0) (Po.so (Ex.int 1)) Po.no) (Ex.var 1)) Cd.no) Ar.nil)))) Bl.nil
noncomputable abbrev iB:Stmt:=top 9
noncomputable abbrev xT:List Str:=["thing","d"]
noncomputable abbrev yH:List Str:=["thing","d"]
noncomputable def uI(B:Bi Ω.mg){Fq26:Ct}(Cq26:Cal Ω "is_form" 2 2 Fq26):Bl Ω:=
 Bl.cons (Sm.ret (Ex.and (Bo.cons (Ex.ch2 (Ex.neg (Ex.int 9)) .LtE (Ex.ix (Ex.var 0) (Ex.int 0)) .LtE (Ex.int 9)) (Bo.one (Ex.blt fH B.all_ (Ar.cons (Ex.comp ["number"] [none] (Ex.ch2 (Ex.neg (Ex.int 2)) .LtE (Ex.var 0) .LtE (Ex.int 2)) (Tg.nm 0) (Itb.seq (Ex.sl (Ex.var 0) (Po.so (Ex.int 1)) Po.no)) Cd.no) Ar.nil)))))) Bl.nil
noncomputable def Bg(B:Bi Ω.mg){Fq26:Ct}(Cq26:Cal Ω "is_form" 2 2 Fq26):Bl Ω:=
 Bl.cons (Sm.ite (Te.not (Te.val (Ex.call Cq26 (Ar.cons (Ex.var 0) (Ar.cons (Ex.var 1) Ar.nil))))) (Bl.cons (Sm.ret (Ex.bl false)) Bl.nil) Bl.nil) (uI B Cq26)
noncomputable abbrev jy:Stmt:=top 10
noncomputable abbrev Cj:List Str:=["thing","d"]
noncomputable abbrev Bq:List Str:=["thing","d"]
noncomputable def Cm{Fq38:Ct}(Cq38:Cal Ω "is_tuple_of" 1 3 Fq38){Fq24:Ct}(Cq24:Cal Ω "is_bound" 3 2 Fq24):Bl Ω:=
 Bl.cons (Sm.ret (Ex.and (Bo.cons (Ex.call Cq38 (Ar.cons (Ex.var 0) (Ar.cons (Ex.int 2) (Ar.cons (Ex.int 2) Ar.nil)))) (Bo.cons (Ex.call Cq24 (Ar.cons (Ex.ix (Ex.var 0) (Ex.int 0)) (Ar.cons (Ex.var 1) Ar.nil))) (Bo.one (Ex.call Cq24 (Ar.cons (Ex.ix (Ex.var 0) (Ex.int 1)) (Ar.cons (Ex.var 1) Ar.nil)))))))) Bl.nil
noncomputable abbrev gK:Stmt:=top 11
noncomputable abbrev yO:List Str:=["thing"]
noncomputable abbrev ym:List Str:=["thing"]
noncomputable def xJ(B:Bi Ω.mg){Fq38:Ct}(Cq38:Cal Ω "is_tuple_of" 1 3 Fq38){Fq27:Ct}(Cq27:Cal Ω "is_loop" 4 2 Fq27):Bl Ω:=
 Bl.cons (Sm.ret (Ex.and (Bo.cons (Ex.call Cq38 (Ar.cons (Ex.var 0) (Ar.cons (Ex.int 1) (Ar.cons (Ex.int 3) Ar.nil)))) (Bo.one (Ex.blt fH B.all_ (Ar.cons (Ex.comp ["k","loop"] [none,none] (Ex.call Cq27 (Ar.cons (Ex.var 1) (Ar.cons (Ex.var 0) Ar.nil))) (Tg.tup [0,1]) (Itb.enm B.enumerate_ (Ex.var 0)) Cd.no) Ar.nil)))))) Bl.nil
noncomputable abbrev cN:Stmt:=top 12
noncomputable abbrev lY:List Str:=["ahead","low","high","longer","counts","count"]
noncomputable abbrev mC:List Str:=["ahead","low","high"]
section
variable (B : Bi Ω.mg) {Fq20 : Ct} (Cq20 : Cal Ω "comes_to" 1 2 Fq20)
noncomputable def jH(B:Bi Ω.mg){Fq20:Ct}(Cq20:Cal Ω "comes_to" 1 2 Fq20):Bl Ω:=
 Bl.cons (Sm.ret (Ex.var 3)) Bl.nil
noncomputable def jV:Bl Ω:=
 Bl.cons (Sm.forL (Tg.nm 4) (Ex.var 0) (Bl.cons (Sm.for (Tg.nm 5) (Itb.rng2 B.range_ (Ex.call Cq20 (Ar.cons (Ex.var 1) (Ar.cons (Ex.var 4) Ar.nil))) (Ex.call Cq20 (Ar.cons (Ex.var 2) (Ar.cons (Ex.var 4) Ar.nil)))) (Bl.cons (Sm.expr (Ex.m_append (Ex.var 3) (Ex.bin .Add (Ex.var 4) (Ex.tup (Ar.cons (Ex.var 5) Ar.nil))))) Bl.nil)) Bl.nil)) (jH B Cq20)
noncomputable def mG:Bl Ω:=
 Bl.cons (Sm.set 3 (Ex.own Ar.nil)) (jV B Cq20)
end
noncomputable abbrev gf:Stmt:=top 13
noncomputable abbrev v6:List Str:=["loops","told","low","high"]
noncomputable abbrev wK:List Str:=["loops"]
section
variable {Fq52 : Ct} (Cq52 : Cal Ω "with_next_count" 2 3 Fq52)
noncomputable def rF{Fq52:Ct}(Cq52:Cal Ω "with_next_count" 2 3 Fq52):Bl Ω:=
 Bl.cons (Sm.ret (Ex.var 1)) Bl.nil
noncomputable def rM:Bl Ω:=
 Bl.cons (Sm.forL (Tg.tup [2,3]) (Ex.var 0) (Bl.cons (Sm.set 1 (Ex.call Cq52 (Ar.cons (Ex.var 1) (Ar.cons (Ex.var 2) (Ar.cons (Ex.var 3) Ar.nil))))) Bl.nil)) (rF Cq52)
noncomputable def wM:Bl Ω:=
 Bl.cons (Sm.set 1 (Ex.lst (Ar.cons (Ex.tup Ar.nil) Ar.nil))) (rM Cq52)
end
noncomputable abbrev cO:Stmt:=top 16
noncomputable abbrev my:List Str:=["number"]
noncomputable abbrev lQ:List Str:=["number"]
noncomputable def lO(B:Bi Ω.mg):Bl Ω:=
 Bl.cons (Sm.ret (Ex.cmp .Lt (Ex.blt VN B.abs_ (Ar.cons (Ex.var 0) Ar.nil)) (Ex.bin .Pow (Ex.int 10) (Ex.int 30)))) Bl.nil
noncomputable abbrev fZ:Stmt:=top 17
noncomputable abbrev wJ:List Str:=["thing"]
noncomputable abbrev wu:List Str:=["thing"]
noncomputable def wA(B:Bi Ω.mg){Fq39:Ct}(Cq39:Cal Ω "is_whole" 1 1 Fq39){Fq38:Ct}(Cq38:Cal Ω "is_tuple_of" 1 3 Fq38):Bl Ω:=
 Bl.cons (Sm.ret (Ex.and (Bo.cons (Ex.call Cq38 (Ar.cons (Ex.var 0) (Ar.cons (Ex.int 1) (Ar.cons (Ex.int 3) Ar.nil)))) (Bo.one (Ex.blt fH B.all_ (Ar.cons (Ex.comp ["width"] [none] (Ex.and (Bo.cons (Ex.call Cq39 (Ar.cons (Ex.var 0) Ar.nil)) (Bo.one (Ex.ch2 (Ex.int 1) .LtE (Ex.var 0) .LtE (Ex.int 2))))) (Tg.nm 0) (Itb.seq (Ex.var 0)) Cd.no) Ar.nil)))))) Bl.nil
noncomputable abbrev dG:Stmt:=top 18
noncomputable abbrev pI:List Str:=["thing","d"]
noncomputable abbrev pJ:List Str:=["thing","d"]
noncomputable def pM(B:Bi Ω.mg){Fq26:Ct}(Cq26:Cal Ω "is_form" 2 2 Fq26):Bl Ω:=
 Bl.cons (Sm.ret (Ex.and (Bo.cons (Ex.call Cq26 (Ar.cons (Ex.var 0) (Ar.cons (Ex.var 1) Ar.nil))) (Bo.one (Ex.blt fH B.all_ (Ar.cons (Ex.comp ["number"] [none] (Ex.ch2 (Ex.neg (Ex.int 99)) .LtE (Ex.var 0) .LtE (Ex.int 99)) (Tg.nm 0) (Itb.seq (Ex.var 0)) Cd.no) Ar.nil)))))) Bl.nil
noncomputable abbrev gJ:Stmt:=top 19
noncomputable abbrev yI:List Str:=["thing","d"]
noncomputable abbrev yx:List Str:=["thing","d"]
noncomputable def yw(B:Bi Ω.mg){Fq26:Ct}(Cq26:Cal Ω "is_form" 2 2 Fq26){Fq23:Ct}(Cq23:Cal Ω "has_few_figures" 1 1 Fq23):Bl Ω:=
 Bl.cons (Sm.ret (Ex.and (Bo.cons (Ex.call Cq26 (Ar.cons (Ex.var 0) (Ar.cons (Ex.var 1) Ar.nil))) (Bo.one (Ex.blt fH B.all_ (Ar.cons (Ex.comp ["number"] [none] (Ex.call Cq23 (Ar.cons (Ex.var 0) Ar.nil)) (Tg.nm 0) (Itb.seq (Ex.var 0)) Cd.no) Ar.nil)))))) Bl.nil
noncomputable abbrev bO:Stmt:=top 20
noncomputable abbrev iQ:List Str:=["table","place","widths","d"]
noncomputable abbrev iK:List Str:=["table","place","widths","d"]
noncomputable def gr(B:Bi Ω.mg){Fq39:Ct}(Cq39:Cal Ω "is_whole" 1 1 Fq39){Fq38:Ct}(Cq38:Cal Ω "is_tuple_of" 1 3 Fq38){Fq32:Ct}(Cq32:Cal Ω "is_place_form" 3 2 Fq32):Bl Ω:=
 Bl.cons (Sm.ret (Ex.and (Bo.cons (Ex.call Cq38 (Ar.cons (Ex.var 1) (Ar.cons (Ex.ix (Ex.var 2) (Ex.var 0)) (Ar.cons (Ex.ix (Ex.var 2) (Ex.var 0)) Ar.nil)))) (Bo.one (Ex.blt fH B.all_ (Ar.cons (Ex.comp ["form","d"] [none,some 3] (Ex.call Cq32 (Ar.cons (Ex.var 0) (Ar.cons (Ex.var 1) Ar.nil))) (Tg.nm 0) (Itb.seq (Ex.var 1)) Cd.no) Ar.nil)))))) Bl.nil
noncomputable def iJ(B:Bi Ω.mg){Fq39:Ct}(Cq39:Cal Ω "is_whole" 1 1 Fq39){Fq38:Ct}(Cq38:Cal Ω "is_tuple_of" 1 3 Fq38){Fq32:Ct}(Cq32:Cal Ω "is_place_form" 3 2 Fq32):Bl Ω:=
 Bl.cons (Sm.ite (Te.or (Bt.cons (Te.not (Te.val (Ex.call Cq39 (Ar.cons (Ex.var 0) Ar.nil)))) (Bt.one (Te.not (Te.ch2 (Ex.int 0) .LtE (Ex.var 0) .Lt (Ex.blt bA B.len_ (Ar.cons (Ex.var 2) Ar.nil))))))) (Bl.cons (Sm.ret (Ex.bl false)) Bl.nil) Bl.nil) (gr B Cq39 Cq38 Cq32)
noncomputable abbrev jj:Stmt:=top 21
noncomputable abbrev BL:List Str:=["thing","widths","d"]
noncomputable abbrev Bs:List Str:=["thing","widths","d"]
section
variable {Fq39 : Ct} (Cq39 : Cal Ω "is_whole" 1 1 Fq39) {Fq38 : Ct} (Cq38 : Cal Ω "is_tuple_of" 1 3 Fq38) {Fq23 : Ct} (Cq23 : Cal Ω "has_few_figures" 1 1 Fq23) {Fq37 : Ct} (Cq37 : Cal Ω "is_table_with_place" 4 4 Fq37)
noncomputable def wL{Fq39:Ct}(Cq39:Cal Ω "is_whole" 1 1 Fq39){Fq38:Ct}(Cq38:Cal Ω "is_tuple_of" 1 3 Fq38){Fq23:Ct}(Cq23:Cal Ω "has_few_figures" 1 1 Fq23){Fq37:Ct}(Cq37:Cal Ω "is_table_with_place" 4 4 Fq37):Bl Ω:=
 Bl.cons (Sm.ret (Ex.call Cq37 (Ar.cons (Ex.ix (Ex.var 0) (Ex.int 1)) (Ar.cons (Ex.ix (Ex.var 0) (Ex.int 2)) (Ar.cons (Ex.var 1) (Ar.cons (Ex.var 2) Ar.nil)))))) Bl.nil
noncomputable def vQ:Bl Ω:=
 Bl.cons (Sm.ite (Te.or (Bt.cons (Te.not (Te.val (Ex.call Cq39 (Ar.cons (Ex.ix (Ex.var 0) (Ex.int 0)) Ar.nil)))) (Bt.one (Te.not (Te.val (Ex.call Cq23 (Ar.cons (Ex.ix (Ex.var 0) (Ex.int 0)) Ar.nil))))))) (Bl.cons (Sm.ret (Ex.bl false)) Bl.nil) Bl.nil) (wL Cq39 Cq38 Cq23 Cq37)
noncomputable def CT:Bl Ω:=
 Bl.cons (Sm.ite (Te.not (Te.val (Ex.call Cq38 (Ar.cons (Ex.var 0) (Ar.cons (Ex.int 3) (Ar.cons (Ex.int 3) Ar.nil)))))) (Bl.cons (Sm.ret (Ex.bl false)) Bl.nil) Bl.nil) (vQ Cq39 Cq38 Cq23 Cq37)
end
noncomputable abbrev gY:Stmt:=top 22
noncomputable abbrev xM:List Str:=["thing","widths","d"]
noncomputable abbrev Ak:List Str:=["thing","widths","d"]
noncomputable def xq(B:Bi Ω.mg){Fq38:Ct}(Cq38:Cal Ω "is_tuple_of" 1 3 Fq38){Fq33:Ct}(Cq33:Cal Ω "is_read" 5 3 Fq33):Bl Ω:=
 Bl.cons (Sm.ret (Ex.and (Bo.cons (Ex.call Cq38 (Ar.cons (Ex.var 0) (Ar.cons (Ex.int 0) (Ar.cons (Ex.int 3) Ar.nil)))) (Bo.one (Ex.blt fH B.all_ (Ar.cons (Ex.comp ["read","widths","d"] [none,some 1,some 2] (Ex.call Cq33 (Ar.cons (Ex.var 0) (Ar.cons (Ex.var 1) (Ar.cons (Ex.var 2) Ar.nil)))) (Tg.nm 0) (Itb.seq (Ex.var 0)) Cd.no) Ar.nil)))))) Bl.nil
noncomputable abbrev jo:Stmt:=top 23
noncomputable abbrev CW:List Str:=["thing","widths","d"]
noncomputable abbrev Ci:List Str:=["thing","widths","d"]
section
variable {Fq38 : Ct} (Cq38 : Cal Ω "is_tuple_of" 1 3 Fq38) {Fq36 : Ct} (Cq36 : Cal Ω "is_start" 3 2 Fq36) {Fq37 : Ct} (Cq37 : Cal Ω "is_table_with_place" 4 4 Fq37) {Fq34 : Ct} (Cq34 : Cal Ω "is_reads" 6 3 Fq34)
noncomputable def wQ{Fq38:Ct}(Cq38:Cal Ω "is_tuple_of" 1 3 Fq38){Fq36:Ct}(Cq36:Cal Ω "is_start" 3 2 Fq36){Fq37:Ct}(Cq37:Cal Ω "is_table_with_place" 4 4 Fq37){Fq34:Ct}(Cq34:Cal Ω "is_reads" 6 3 Fq34):Bl Ω:=
 Bl.cons (Sm.ret (Ex.and (Bo.cons (Ex.call Cq36 (Ar.cons (Ex.ix (Ex.var 0) (Ex.int 2)) (Ar.cons (Ex.var 2) Ar.nil))) (Bo.one (Ex.call Cq34 (Ar.cons (Ex.ix (Ex.var 0) (Ex.int 3)) (Ar.cons (Ex.var 1) (Ar.cons (Ex.var 2) Ar.nil)))))))) Bl.nil
noncomputable def wz:Bl Ω:=
 Bl.cons (Sm.ite (Te.not (Te.val (Ex.call Cq37 (Ar.cons (Ex.ix (Ex.var 0) (Ex.int 0)) (Ar.cons (Ex.ix (Ex.var 0) (Ex.int 1)) (Ar.cons (Ex.var 1) (Ar.cons (Ex.var 2) Ar.nil))))))) (Bl.cons (Sm.ret (Ex.bl false)) Bl.nil) Bl.nil) (wQ Cq38 Cq36 Cq37 Cq34)
noncomputable def BW:Bl Ω:=
 Bl.cons (Sm.ite (Te.not (Te.val (Ex.call Cq38 (Ar.cons (Ex.var 0) (Ar.cons (Ex.int 4) (Ar.cons (Ex.int 4) Ar.nil)))))) (Bl.cons (Sm.ret (Ex.bl false)) Bl.nil) Bl.nil) (wz Cq38 Cq36 Cq37 Cq34)
end
noncomputable abbrev jr:Stmt:=top 24
noncomputable abbrev Bj:List Str:=["thing","widths","d"]
noncomputable abbrev By:List Str:=["thing","widths"]
section
variable (B : Bi Ω.mg) {Fq38 : Ct} (Cq38 : Cal Ω "is_tuple_of" 1 3 Fq38) {Fq28 : Ct} (Cq28 : Cal Ω "is_loops" 5 1 Fq28) {Fq25 : Ct} (Cq25 : Cal Ω "is_deed" 7 3 Fq25)
noncomputable def v4(B:Bi Ω.mg){Fq38:Ct}(Cq38:Cal Ω "is_tuple_of" 1 3 Fq38){Fq28:Ct}(Cq28:Cal Ω "is_loops" 5 1 Fq28){Fq25:Ct}(Cq25:Cal Ω "is_deed" 7 3 Fq25):Bl Ω:=
 Bl.cons (Sm.ret (Ex.and (Bo.cons (Ex.call Cq38 (Ar.cons (Ex.ix (Ex.var 0) (Ex.int 1)) (Ar.cons (Ex.int 1) (Ar.cons (Ex.int 4) Ar.nil)))) (Bo.one (Ex.blt fH B.all_ (Ar.cons (Ex.comp ["deed","widths","d"] [none,some 1,some 2] (Ex.call Cq25 (Ar.cons (Ex.var 0) (Ar.cons (Ex.var 1) (Ar.cons (Ex.var 2) Ar.nil)))) (Tg.nm 0) (Itb.seq (Ex.ix (Ex.var 0) (Ex.int 1))) Cd.no) Ar.nil)))))) Bl.nil
noncomputable def wk:Bl Ω:=
 Bl.cons (Sm.set 2 (Ex.blt bA B.len_ (Ar.cons (Ex.ix (Ex.var 0) (Ex.int 0)) Ar.nil))) (v4 B Cq38 Cq28 Cq25)
noncomputable def Cw:Bl Ω:=
 Bl.cons (Sm.ite (Te.or (Bt.cons (Te.not (Te.val (Ex.call Cq38 (Ar.cons (Ex.var 0) (Ar.cons (Ex.int 2) (Ar.cons (Ex.int 2) Ar.nil)))))) (Bt.one (Te.not (Te.val (Ex.call Cq28 (Ar.cons (Ex.ix (Ex.var 0) (Ex.int 0)) Ar.nil))))))) (Bl.cons (Sm.ret (Ex.bl false)) Bl.nil) Bl.nil) (wk B Cq38 Cq28 Cq25)
end
noncomputable abbrev il:Stmt:=top 25
noncomputable abbrev xY:List Str:=["thing","widths"]
noncomputable abbrev Aa:List Str:=["thing","widths"]
noncomputable def Bb(B:Bi Ω.mg){Fq38:Ct}(Cq38:Cal Ω "is_tuple_of" 1 3 Fq38){Fq29:Ct}(Cq29:Cal Ω "is_nest" 8 2 Fq29):Bl Ω:=
 Bl.cons (Sm.ret (Ex.and (Bo.cons (Ex.call Cq38 (Ar.cons (Ex.var 0) (Ar.cons (Ex.int 1) (Ar.cons (Ex.int 3) Ar.nil)))) (Bo.one (Ex.blt fH B.all_ (Ar.cons (Ex.comp ["nest","widths"] [none,some 1] (Ex.call Cq29 (Ar.cons (Ex.var 0) (Ar.cons (Ex.var 1) Ar.nil))) (Tg.nm 0) (Itb.seq (Ex.var 0)) Cd.no) Ar.nil)))))) Bl.nil
noncomputable abbrev cQ:Stmt:=top 26
noncomputable abbrev lZ:List Str:=["nests"]
noncomputable abbrev mz:List Str:=["nests"]
noncomputable def mD(B:Bi Ω.mg){Fq21:Ct}(Cq21:Cal Ω "counts_of" 3 1 Fq21):Bl Ω:=
 Bl.cons (Sm.ret (Ex.blt Gx B.sum_ (Ar.cons (Ex.comp ["loops","deeds"] [none,none] (Ex.bin .Mult (Ex.blt bA B.len_ (Ar.cons (Ex.call Cq21 (Ar.cons (Ex.var 0) Ar.nil)) Ar.nil)) (Ex.blt bA B.len_ (Ar.cons (Ex.var 1) Ar.nil))) (Tg.tup [0,1]) (Itb.seq (Ex.var 0)) Cd.no) Ar.nil))) Bl.nil
noncomputable abbrev fJ:Stmt:=top 27
noncomputable abbrev uL:List Str:=["widths","nests"]
noncomputable abbrev uv:List Str:=["widths","nests"]
section
variable (B : Bi Ω.mg) {Fq40 : Ct} (Cq40 : Cal Ω "is_widths" 2 1 Fq40) {Fq30 : Ct} (Cq30 : Cal Ω "is_nests" 9 2 Fq30) {Fq41 : Ct} (Cq41 : Cal Ω "number_of_steps" 4 1 Fq41)
noncomputable def qT(B:Bi Ω.mg){Fq40:Ct}(Cq40:Cal Ω "is_widths" 2 1 Fq40){Fq30:Ct}(Cq30:Cal Ω "is_nests" 9 2 Fq30){Fq41:Ct}(Cq41:Cal Ω "number_of_steps" 4 1 Fq41):Bl Ω:=
 Bl.cons (Sm.ret (Ex.tup (Ar.cons (Ex.var 0) (Ar.cons (Ex.var 1) Ar.nil)))) Bl.nil
noncomputable def qp:Bl Ω:=
 Bl.cons (Sm.ite (Te.cmp .Gt (Ex.call Cq41 (Ar.cons (Ex.var 1) Ar.nil)) (Ex.gint B.MOST_STEPS_)) (Bl.cons Sm.never Bl.nil) Bl.nil) (qT B Cq40 Cq30 Cq41)
noncomputable def qR:Bl Ω:=
 Bl.cons (Sm.ite (Te.not (Te.val (Ex.call Cq30 (Ar.cons (Ex.var 1) (Ar.cons (Ex.var 0) Ar.nil))))) (Bl.cons Sm.never Bl.nil) Bl.nil) (qp B Cq40 Cq30 Cq41)
noncomputable def ut:Bl Ω:=
 Bl.cons (Sm.ite (Te.not (Te.val (Ex.call Cq40 (Ar.cons (Ex.var 0) Ar.nil)))) (Bl.cons Sm.never Bl.nil) Bl.nil) (qR B Cq40 Cq30 Cq41)
end
noncomputable abbrev gW:Stmt:=top 28
noncomputable abbrev zG:List Str:=["program","steps","nest","loops_and_deeds","counts","deed"]
noncomputable abbrev yg:List Str:=["program"]
section
variable (B : Bi Ω.mg) {Fq21 : Ct} (Cq21 : Cal Ω "counts_of" 3 1 Fq21)
noncomputable def tM(B:Bi Ω.mg){Fq21:Ct}(Cq21:Cal Ω "counts_of" 3 1 Fq21):Bl Ω:=
 Bl.cons (Sm.ret (Ex.var 1)) Bl.nil
noncomputable def ud:Bl Ω:=
 Bl.cons (Sm.for (Tg.tup [2,3]) (Itb.enm B.enumerate_ (Ex.ix (Ex.var 0) (Ex.int 1))) (Bl.cons (Sm.forL (Tg.nm 4) (Ex.call Cq21 (Ar.cons (Ex.ix (Ex.var 3) (Ex.int 0)) Ar.nil)) (Bl.cons (Sm.for (Tg.nm 5) (Itb.rng1 B.range_ (Ex.blt bA B.len_ (Ar.cons (Ex.ix (Ex.var 3) (Ex.int 1)) Ar.nil))) (Bl.cons (Sm.expr (Ex.m_append (Ex.var 1) (Ex.tup (Ar.cons (Ex.var 2) (Ar.cons (Ex.var 4) (Ar.cons (Ex.var 5) Ar.nil)))))) Bl.nil)) Bl.nil)) Bl.nil)) (tM B Cq21)
noncomputable def Ao:Bl Ω:=
 Bl.cons (Sm.set 1 (Ex.own Ar.nil)) (ud B Cq21)
end
noncomputable abbrev ju:Stmt:=top 29
noncomputable abbrev CG:List Str:=["program","step"]
noncomputable abbrev Cr:List Str:=["program","step"]
noncomputable def Cq:Bl Ω:=
 Bl.cons (Sm.ret (Ex.ix (Ex.ix (Ex.ix (Ex.ix (Ex.var 0) (Ex.int 1)) (Ex.ix (Ex.var 1) (Ex.int 0))) (Ex.int 1)) (Ex.ix (Ex.var 1) (Ex.int 2)))) Bl.nil
noncomputable abbrev jf:Stmt:=top 30
noncomputable abbrev Cg:List Str:=["table","place","counts"]
noncomputable abbrev Bu:List Str:=["table","place","counts"]
noncomputable def Di(B:Bi Ω.mg){Fq20:Ct}(Cq20:Cal Ω "comes_to" 1 2 Fq20):Bl Ω:=
 Bl.cons (Sm.ret (Ex.tup (Ar.cons (Ex.var 0) (Ar.cons (Ex.typ dg B.tuple_ (Ar.cons (Ex.comp ["form","counts"] [none,some 2] (Ex.call Cq20 (Ar.cons (Ex.var 0) (Ar.cons (Ex.var 1) Ar.nil))) (Tg.nm 0) (Itb.seq (Ex.var 1)) Cd.no) Ar.nil)) Ar.nil)))) Bl.nil
noncomputable abbrev dI:Stmt:=top 31
noncomputable abbrev ph:List Str:=["program","step","counts","deed","reads"]
noncomputable abbrev pA:List Str:=["program","step"]
section
variable {Fq22 : Ct} (Cq22 : Cal Ω "deed_of" 1 2 Fq22) {Fq16 : Ct} (Cq16 : Cal Ω "cell_at" 2 3 Fq16)
noncomputable def mF{Fq22:Ct}(Cq22:Cal Ω "deed_of" 1 2 Fq22){Fq16:Ct}(Cq16:Cal Ω "cell_at" 2 3 Fq16):Bl Ω:=
 Bl.cons (Sm.ret (Ex.tup (Ar.cons (Ex.call Cq16 (Ar.cons (Ex.ix (Ex.var 3) (Ex.int 0)) (Ar.cons (Ex.ix (Ex.var 3) (Ex.int 1)) (Ar.cons (Ex.var 2) Ar.nil)))) (Ar.cons (Ex.var 4) Ar.nil)))) Bl.nil
noncomputable def mj:Bl Ω:=
 Bl.cons (Sm.setC 4 ["factor","table","place","counts"] [none,none,none,some 2] (Ex.call Cq16 (Ar.cons (Ex.var 1) (Ar.cons (Ex.var 2) (Ar.cons (Ex.var 3) Ar.nil)))) (Tg.tup [0,1,2]) (Itb.seq (Ex.ix (Ex.var 3) (Ex.int 3))) Cd.no) (mF Cq22 Cq16)
noncomputable def mq:Bl Ω:=
 Bl.cons (Sm.set 3 (Ex.call Cq22 (Ar.cons (Ex.var 0) (Ar.cons (Ex.var 1) Ar.nil)))) (mj Cq22 Cq16)
noncomputable def pF:Bl Ω:=
 Bl.cons (Sm.set 2 (Ex.ix (Ex.var 1) (Ex.int 1))) (mq Cq22 Cq16)
end
noncomputable abbrev ie:Stmt:=top 32
noncomputable abbrev zX:List Str:=["program"]
noncomputable abbrev yD:List Str:=["program"]
noncomputable def xr{Fq48:Ct}(Cq48:Cal Ω "steps_of" 4 1 Fq48){Fq18:Ct}(Cq18:Cal Ω "cells_of_step" 3 2 Fq18):Bl Ω:=
 Bl.cons (Sm.ret (Ex.comp ["step","program"] [none,some 0] (Ex.call Cq18 (Ar.cons (Ex.var 1) (Ar.cons (Ex.var 0) Ar.nil))) (Tg.nm 0) (Itb.seq (Ex.call Cq48 (Ar.cons (Ex.var 0) Ar.nil))) Cd.no)) Bl.nil
noncomputable abbrev nF:Stmt:=top 34
noncomputable abbrev Jm:List Str:=["program"]
noncomputable abbrev Il:List Str:=["program"]
noncomputable def J6(B:Bi Ω.mg){Fq41:Ct}(Cq41:Cal Ω "number_of_steps" 4 1 Fq41):Bl Ω:=
 Bl.cons (Sm.ret (Ex.lrng B.range_ B.list_ (Ex.call Cq41 (Ar.cons (Ex.ix (Ex.var 0) (Ex.int 1)) Ar.nil)))) Bl.nil
noncomputable abbrev kY:Stmt:=top 35
noncomputable abbrev Gy:List Str:=["program","thing","number"]
noncomputable abbrev Gz:List Str:=["program","thing"]
section
variable (B : Bi Ω.mg) {Fq39 : Ct} (Cq39 : Cal Ω "is_whole" 1 1 Fq39) {Fq41 : Ct} (Cq41 : Cal Ω "number_of_steps" 4 1 Fq41)
noncomputable def z7(B:Bi Ω.mg){Fq39:Ct}(Cq39:Cal Ω "is_whole" 1 1 Fq39){Fq41:Ct}(Cq41:Cal Ω "number_of_steps" 4 1 Fq41):Bl Ω:=
 Bl.cons (Sm.ret (Ex.cmp .Eq (Ex.lset B.len_ B.set_ (Ex.var 1)) (Ex.blt bA B.len_ (Ar.cons (Ex.var 1) Ar.nil)))) Bl.nil
noncomputable def zB:Bl Ω:=
 Bl.cons (Sm.ite (Te.not (Te.val (Ex.blt fH B.all_ (Ar.cons (Ex.comp ["step","number"] [none,some 2] (Ex.and (Bo.cons (Ex.call Cq39 (Ar.cons (Ex.var 0) Ar.nil)) (Bo.one (Ex.ch2 (Ex.int 0) .LtE (Ex.var 0) .Lt (Ex.var 1))))) (Tg.nm 0) (Itb.seq (Ex.var 1)) Cd.no) Ar.nil)))) (Bl.cons (Sm.ret (Ex.bl false)) Bl.nil) Bl.nil) (z7 B Cq39 Cq41)
noncomputable def Af:Bl Ω:=
 Bl.cons (Sm.set 2 (Ex.call Cq41 (Ar.cons (Ex.ix (Ex.var 0) (Ex.int 1)) Ar.nil))) (zB B Cq39 Cq41)
noncomputable def Gd:Bl Ω:=
 Bl.cons (Sm.ite (Te.not (Te.val (Ex.isi B.isinstance_ (Ex.var 1) .list B.list_))) (Bl.cons (Sm.ret (Ex.bl false)) Bl.nil) Bl.nil) (Af B Cq39 Cq41)
end
noncomputable abbrev dH:Stmt:=top 37
noncomputable abbrev pH:List Str:=["one","other","told"]
noncomputable abbrev pg:List Str:=["one","other"]
section
variable (B : Bi Ω.mg)
noncomputable def eZ(B:Bi Ω.mg):Bl Ω:=
 Bl.cons (Sm.ret (Ex.ssetO B.sorted_ B.set_ (Ex.var 2))) Bl.nil
noncomputable def fc:Bl Ω:=
 Bl.cons (Sm.ite (Te.cmp .In (Ex.ix (Ex.var 1) (Ex.int 0)) (Ex.ix (Ex.var 0) (Ex.int 1))) (Bl.cons (Sm.expr (Ex.m_append (Ex.var 2) (Ex.ix (Ex.var 1) (Ex.int 0)))) Bl.nil) Bl.nil) (eZ B)
noncomputable def lV:Bl Ω:=
 Bl.cons (Sm.ite (Te.or (Bt.cons (Te.cmp .Eq (Ex.ix (Ex.var 0) (Ex.int 0)) (Ex.ix (Ex.var 1) (Ex.int 0))) (Bt.one (Te.cmp .In (Ex.ix (Ex.var 0) (Ex.int 0)) (Ex.ix (Ex.var 1) (Ex.int 1)))))) (Bl.cons (Sm.expr (Ex.m_append (Ex.var 2) (Ex.ix (Ex.var 0) (Ex.int 0)))) Bl.nil) Bl.nil) (fc B)
noncomputable def pD:Bl Ω:=
 Bl.cons (Sm.set 2 (Ex.own Ar.nil)) (lV B)
end
noncomputable abbrev ou:Stmt:=top 38
noncomputable abbrev Jw:List Str:=["program","cells","told","i","j","touched"]
noncomputable abbrev J1:List Str:=["program"]
section
variable (B : Bi Ω.mg) {Fq17 : Ct} (Cq17 : Cal Ω "cells_of" 5 1 Fq17) {Fq51 : Ct} (Cq51 : Cal Ω "touched_cells" 1 2 Fq51)
noncomputable def uD(B:Bi Ω.mg){Fq17:Ct}(Cq17:Cal Ω "cells_of" 5 1 Fq17){Fq51:Ct}(Cq51:Cal Ω "touched_cells" 1 2 Fq51):Bl Ω:=
 Bl.cons (Sm.ite (Te.lval (Ex.var 5)) (Bl.cons (Sm.expr (Ex.m_append (Ex.var 2) (Ex.tup (Ar.cons (Ex.var 3) (Ar.cons (Ex.var 4) (Ar.cons (Ex.var 5) Ar.nil)))))) Bl.nil) Bl.nil) Bl.nil
noncomputable def xm:Bl Ω:=
 Bl.cons (Sm.set 5 (Ex.call Cq51 (Ar.cons (Ex.ix (Ex.var 1) (Ex.var 3)) (Ar.cons (Ex.ix (Ex.var 1) (Ex.var 4)) Ar.nil)))) (uD B Cq17 Cq51)
noncomputable def Dh(B:Bi Ω.mg){Fq17:Ct}(Cq17:Cal Ω "cells_of" 5 1 Fq17){Fq51:Ct}(Cq51:Cal Ω "touched_cells" 1 2 Fq51):Bl Ω:=
 Bl.cons (Sm.ret (Ex.var 2)) Bl.nil
noncomputable def De:Bl Ω:=
 Bl.cons (Sm.for (Tg.nm 3) (Itb.rng1 B.range_ (Ex.blt bA B.len_ (Ar.cons (Ex.var 1) Ar.nil))) (Bl.cons (Sm.for (Tg.nm 4) (Itb.rng2 B.range_ (Ex.bin .Add (Ex.var 3) (Ex.int 1)) (Ex.blt bA B.len_ (Ar.cons (Ex.var 1) Ar.nil))) (xm B Cq17 Cq51)) Bl.nil)) (Dh B Cq17 Cq51)
noncomputable def Bk:Bl Ω:=
 Bl.cons (Sm.set 2 (Ex.own Ar.nil)) (De B Cq17 Cq51)
noncomputable def JS:Bl Ω:=
 Bl.cons (Sm.set 1 (Ex.call Cq17 (Ar.cons (Ex.var 0) Ar.nil))) (Bk B Cq17 Cq51)
end
noncomputable abbrev gV:Stmt:=top 40
noncomputable abbrev Ad:List Str:=["program","thing"]
noncomputable abbrev yz:List Str:=["program","thing"]
noncomputable def zz(B:Bi Ω.mg){Fq41:Ct}(Cq41:Cal Ω "number_of_steps" 4 1 Fq41){Fq35:Ct}(Cq35:Cal Ω "is_row" 5 2 Fq35):Bl Ω:=
 Bl.cons (Sm.ret (Ex.and (Bo.cons (Ex.call Cq35 (Ar.cons (Ex.var 0) (Ar.cons (Ex.var 1) Ar.nil))) (Bo.one (Ex.cmp .Eq (Ex.blt bA B.len_ (Ar.cons (Ex.var 1) Ar.nil)) (Ex.call Cq41 (Ar.cons (Ex.ix (Ex.var 0) (Ex.int 1)) Ar.nil))))))) Bl.nil
noncomputable abbrev dJ:Stmt:=top 42
noncomputable abbrev pG:List Str:=["program","ahead","i","j","cells"]
noncomputable abbrev pL:List Str:=["program"]
section
variable {Fq44 : Ct} (Cq44 : Cal Ω "plain" 5 1 Fq44) {Fq43 : Ct} (Cq43 : Cal Ω "pairs" 6 1 Fq43)
noncomputable def lW{Fq44:Ct}(Cq44:Cal Ω "plain" 5 1 Fq44){Fq43:Ct}(Cq43:Cal Ω "pairs" 6 1 Fq43):Bl Ω:=
 Bl.cons (Sm.ret (Ex.var 1)) Bl.nil
noncomputable def lR:Bl Ω:=
 Bl.cons (Sm.forL (Tg.tup [2,3,4]) (Ex.call Cq43 (Ar.cons (Ex.var 0) Ar.nil)) (Bl.cons (Sm.expr (Ex.m_appendS (Ex.ix (Ex.var 1) (Ex.var 3)) (Ex.var 2))) Bl.nil)) (lW Cq44 Cq43)
noncomputable def pq:Bl Ω:=
 Bl.cons (Sm.setC 1 ["step"] [none] (Ex.own Ar.nil) (Tg.nm 0) (Itb.seq (Ex.call Cq44 (Ar.cons (Ex.var 0) Ar.nil))) Cd.no) (lR Cq44 Cq43)
end
noncomputable abbrev cP:Stmt:=top 43
noncomputable abbrev lN:List Str:=["ahead","numbers","touched"]
noncomputable abbrev mH:List Str:=["ahead"]
section
variable (B : Bi Ω.mg)
noncomputable def jN(B:Bi Ω.mg):Bl Ω:=
 Bl.cons (Sm.ret (Ex.var 1)) Bl.nil
noncomputable def jB:Bl Ω:=
 Bl.cons (Sm.forL (Tg.nm 2) (Ex.var 0) (Bl.cons (Sm.expr (Ex.m_append (Ex.var 1) (Ex.bin .Add (Ex.int 1) (Ex.maxd B.max_ (Ex.comp ["step","numbers"] [none,some 1] (Ex.ix (Ex.var 1) (Ex.var 0)) (Tg.nm 0) (Itb.seq (Ex.var 2)) Cd.no) (Ex.neg (Ex.int 1)))))) Bl.nil)) (jN B)
noncomputable def lU:Bl Ω:=
 Bl.cons (Sm.set 1 (Ex.own Ar.nil)) (jB B)
end
noncomputable abbrev dq:Stmt:=top 44
noncomputable abbrev nZ:List Str:=["numbers","number"]
noncomputable abbrev mX:List Str:=["numbers","number"]
noncomputable def m5(B:Bi Ω.mg):Bl Ω:=
 Bl.cons (Sm.ret (Ex.comp ["step","found","number"] [none,none,some 1] (Ex.var 0) (Tg.tup [0,1]) (Itb.enm B.enumerate_ (Ex.var 0)) (Cd.so (Te.cmp .Eq (Ex.var 1) (Ex.var 2))))) Bl.nil
noncomputable abbrev gQ:Stmt:=top 45
noncomputable abbrev zA:List Str:=["ahead","numbers","chain","choice","number","step"]
noncomputable abbrev zg:List Str:=["ahead","numbers"]
section
variable (B : Bi Ω.mg)
noncomputable def pB(B:Bi Ω.mg):Bl Ω:=
 Bl.cons (Sm.set 3 (Ex.ix (Ex.var 0) (Ex.var 5))) Bl.nil
noncomputable def o9:Bl Ω:=
 Bl.cons (Sm.expr (Ex.m_append (Ex.var 2) (Ex.var 5))) (pB B)
noncomputable def rH:Bl Ω:=
 Bl.cons (Sm.set 5 (Ex.blt UJ B.min_ (Ar.cons (Ex.compL ["found","numbers","number"] [none,some 1,some 4] (Ex.var 0) (Tg.nm 0) (Ex.var 3) (Cd.so (Te.cmp .Eq (Ex.ix (Ex.var 1) (Ex.var 0)) (Ex.var 2)))) Ar.nil))) (o9 B)
noncomputable def ug(B:Bi Ω.mg):Bl Ω:=
 Bl.cons (Sm.ret (Ex.var 2)) Bl.nil
noncomputable def tL:Bl Ω:=
 Bl.cons (Sm.expr (Ex.m_reverse (Ex.var 2))) (ug B)
noncomputable def uP:Bl Ω:=
 Bl.cons (Sm.for (Tg.nm 4) (Itb.rngD B.range_ (Ex.maxd B.max_ (Ex.var 1) (Ex.neg (Ex.int 1))) (Ex.neg (Ex.int 1)) (Ex.neg (Ex.int 1))) (rH B)) (tL B)
noncomputable def uE:Bl Ω:=
 Bl.cons (Sm.set 3 (Ex.lrng B.range_ B.list_ (Ex.blt bA B.len_ (Ar.cons (Ex.var 1) Ar.nil)))) (uP B)
noncomputable def Aw:Bl Ω:=
 Bl.cons (Sm.set 2 (Ex.own Ar.nil)) (uE B)
end
noncomputable abbrev lE:Stmt:=top 46
noncomputable abbrev FZ:List Str:=["program","ahead","numbers","listed"]
noncomputable abbrev GP:List Str:=["program"]
section
variable (B : Bi Ω.mg) {Fq50 : Ct} (Cq50 : Cal Ω "touched_ahead" 7 1 Fq50) {Fq47 : Ct} (Cq47 : Cal Ω "rounds_of_steps" 1 1 Fq47) {Fq49 : Ct} (Cq49 : Cal Ω "steps_of_round" 1 2 Fq49) {Fq19 : Ct} (Cq19 : Cal Ω "chain_of" 1 2 Fq19)
noncomputable def yV(B:Bi Ω.mg){Fq50:Ct}(Cq50:Cal Ω "touched_ahead" 7 1 Fq50){Fq47:Ct}(Cq47:Cal Ω "rounds_of_steps" 1 1 Fq47){Fq49:Ct}(Cq49:Cal Ω "steps_of_round" 1 2 Fq49){Fq19:Ct}(Cq19:Cal Ω "chain_of" 1 2 Fq19):Bl Ω:=
 Bl.cons (Sm.ret (Ex.tup (Ar.cons (Ex.var 3) (Ar.cons (Ex.call Cq19 (Ar.cons (Ex.var 1) (Ar.cons (Ex.var 2) Ar.nil))) Ar.nil)))) Bl.nil
noncomputable def xX:Bl Ω:=
 Bl.cons (Sm.setC 3 ["number","numbers"] [none,some 2] (Ex.call Cq49 (Ar.cons (Ex.var 1) (Ar.cons (Ex.var 0) Ar.nil))) (Tg.nm 0) (Itb.rng1 B.range_ (Ex.bin .Add (Ex.maxd B.max_ (Ex.var 2) (Ex.neg (Ex.int 1))) (Ex.int 1))) Cd.no) (yV B Cq50 Cq47 Cq49 Cq19)
noncomputable def yQ:Bl Ω:=
 Bl.cons (Sm.set 2 (Ex.call Cq47 (Ar.cons (Ex.var 1) Ar.nil))) (xX B Cq50 Cq47 Cq49 Cq19)
noncomputable def Fj:Bl Ω:=
 Bl.cons (Sm.set 1 (Ex.call Cq50 (Ar.cons (Ex.var 0) Ar.nil))) (yQ B Cq50 Cq47 Cq49 Cq19)
end
noncomputable abbrev f9:Stmt:=top 47
noncomputable abbrev vR:List Str:=["lists","steps","listed"]
noncomputable abbrev wH:List Str:=["lists"]
noncomputable def rB:Bl Ω:=
 Bl.cons (Sm.ret (Ex.var 1)) Bl.nil
noncomputable def rO:Bl Ω:=
 Bl.cons (Sm.forL (Tg.nm 2) (Ex.var 0) (Bl.cons (Sm.expr (Ex.m_extend (Ex.var 1) (Ex.var 2))) Bl.nil)) (rB)
noncomputable def vP:Bl Ω:=
 Bl.cons (Sm.set 1 (Ex.own Ar.nil)) (rO)
noncomputable abbrev cI:Stmt:=top 48
noncomputable abbrev lw:List Str:=["lists","numbers","number","listed","step"]
noncomputable abbrev j6:List Str:=["lists"]
section
variable (B : Bi Ω.mg)
noncomputable def jg(B:Bi Ω.mg):Bl Ω:=
 Bl.cons (Sm.ret (Ex.var 1)) Bl.nil
noncomputable def jl:Bl Ω:=
 Bl.cons (Sm.for (Tg.tup [2,3]) (Itb.enm B.enumerate_ (Ex.var 0)) (Bl.cons (Sm.forL (Tg.nm 4) (Ex.var 3) (Bl.cons (Sm.oput (Ex.var 1) (Ex.var 4) (Ex.var 2)) Bl.nil)) Bl.nil)) (jg B)
noncomputable def kE:Bl Ω:=
 Bl.cons (Sm.set 1 Ex.dnew) (jl B)
end
noncomputable abbrev fG:Stmt:=top 49
noncomputable abbrev tH:List Str:=["program","lists","numbers"]
noncomputable abbrev tZ:List Str:=["program","lists"]
section
variable (B : Bi Ω.mg) {Fq43 : Ct} (Cq43 : Cal Ω "pairs" 6 1 Fq43) {Fq31 : Ct} (Cq31 : Cal Ω "is_order" 6 2 Fq31) {Fq14 : Ct} (Cq14 : Cal Ω "all_steps" 1 1 Fq14) {Fq42 : Ct} (Cq42 : Cal Ω "numbers_of_lists" 1 1 Fq42)
noncomputable def qy(B:Bi Ω.mg){Fq43:Ct}(Cq43:Cal Ω "pairs" 6 1 Fq43){Fq31:Ct}(Cq31:Cal Ω "is_order" 6 2 Fq31){Fq14:Ct}(Cq14:Cal Ω "all_steps" 1 1 Fq14){Fq42:Ct}(Cq42:Cal Ω "numbers_of_lists" 1 1 Fq42):Bl Ω:=
 Bl.cons (Sm.ret (Ex.blt fH B.all_ (Ar.cons (Ex.compL ["i","j","cells","numbers"] [none,none,none,some 2] (Ex.cmp .Lt (Ex.oix (Ex.var 3) (Ex.var 0)) (Ex.oix (Ex.var 3) (Ex.var 1))) (Tg.tup [0,1,2]) (Ex.call Cq43 (Ar.cons (Ex.var 0) Ar.nil)) Cd.no) Ar.nil))) Bl.nil
noncomputable def qx:Bl Ω:=
 Bl.cons (Sm.set 2 (Ex.call Cq42 (Ar.cons (Ex.var 1) Ar.nil))) (qy B Cq43 Cq31 Cq14 Cq42)
noncomputable def tD:Bl Ω:=
 Bl.cons (Sm.ite (Te.not (Te.val (Ex.call Cq31 (Ar.cons (Ex.var 0) (Ar.cons (Ex.call Cq14 (Ar.cons (Ex.var 1) Ar.nil)) Ar.nil))))) (Bl.cons (Sm.ret (Ex.bl false)) Bl.nil) Bl.nil) (qx B Cq43 Cq31 Cq14 Cq42)
end
noncomputable abbrev qi:Stmt:=top 51
noncomputable abbrev Lz:List Str:=["_law_script","_law_k","_law_number"]
noncomputable abbrev Nr:List Str:=["_law_script","_law_k"]
section
variable (B : Bi Ω.mg)
noncomputable def rN(B:Bi Ω.mg):Bl Ω:=
 Bl.cons (Sm.ret (Ex.var 2)) Bl.nil
noncomputable def G3:Bl Ω:=
 Bl.cons (Sm.ite (Te.cmp .Gt (Ex.blt bA B.len_ (Ar.cons (Ex.var 0) Ar.nil)) (Ex.int 0)) (Bl.cons (Sm.set 2 (Ex.bin .Add (Ex.bin .Mult (Ex.ix (Ex.var 0) (Ex.bin .Mod (Ex.bin .Mult (Ex.var 1) (Ex.int 17)) (Ex.blt bA B.len_ (Ar.cons (Ex.var 0) Ar.nil)))) (Ex.int 48271)) (Ex.bin .Mult (Ex.bin .Mult (Ex.var 1) (Ex.var 1)) (Ex.int 4001)))) Bl.nil) Bl.nil) (rN B)
noncomputable def rW:Bl Ω:=
 Bl.cons (Sm.set 2 (Ex.bin .Add (Ex.bin .Mult (Ex.int 40009) (Ex.var 1)) (Ex.int 13))) (G3 B)
noncomputable def K1:Bl Ω:=
 Bl.cons (Sm.ite (Te.cmp .Lt (Ex.var 1) (Ex.blt bA B.len_ (Ar.cons (Ex.var 0) Ar.nil))) (Bl.cons (Sm.ret (Ex.ix (Ex.var 0) (Ex.var 1))) Bl.nil) Bl.nil) (rW B)
end
noncomputable abbrev qD:Stmt:=top 52
noncomputable abbrev Np:List Str:=["_law_pen_here","_law_many","_law_digit","_law_number"]
noncomputable abbrev Mv:List Str:=["_law_pen_here","_law_many"]
section
variable {Fq1 : Ct} (Cq1 : Cal Ω "_law_cell" 1 2 Fq1)
noncomputable def v7{Fq1:Ct}(Cq1:Cal Ω "_law_cell" 1 2 Fq1):Bl Ω:=
 Bl.cons (Sm.ret (Ex.var 2)) Bl.nil
noncomputable def wC:Bl Ω:=
 Bl.cons (Sm.setIx (Ex.var 0) (Ex.int 3) (Ex.fdiv (Ex.ix (Ex.var 0) (Ex.int 3)) (Ex.var 1))) (v7 Cq1)
noncomputable def Cz:Bl Ω:=
 Bl.cons (Sm.set 2 (Ex.bin .Mod (Ex.ix (Ex.var 0) (Ex.int 3)) (Ex.var 1))) (wC Cq1)
noncomputable def Gm{Fq1:Ct}(Cq1:Cal Ω "_law_cell" 1 2 Fq1):Bl Ω:=
 Bl.cons (Sm.ret (Ex.bin .Mod (Ex.fdiv (Ex.var 3) (Ex.int 16)) (Ex.var 1))) Bl.nil
noncomputable def FP:Bl Ω:=
 Bl.cons (Sm.set 3 (Ex.bin .Mod (Ex.bin .Add (Ex.bin .Mult (Ex.var 3) (Ex.var 3)) (Ex.bin .Mult (Ex.ix (Ex.var 0) (Ex.int 1)) (Ex.int 9973))) (Ex.int 2147483497))) (Gm Cq1)
noncomputable def Gq:Bl Ω:=
 Bl.cons (Sm.set 3 (Ex.bin .Mod (Ex.bin .Mult (Ex.bin .Add (Ex.bin .Mod (Ex.call Cq1 (Ar.cons (Ex.ix (Ex.var 0) (Ex.int 0)) (Ar.cons (Ex.ix (Ex.var 0) (Ex.int 1)) Ar.nil))) (Ex.int 2147483549)) (Ex.ix (Ex.var 0) (Ex.int 1))) (Ex.int 40692)) (Ex.int 2147483549))) (FP Cq1)
noncomputable def Fp:Bl Ω:=
 Bl.cons (Sm.setIx (Ex.var 0) (Ex.int 1) (Ex.bin .Add (Ex.ix (Ex.var 0) (Ex.int 1)) (Ex.int 1))) (Gq Cq1)
noncomputable def Mw:Bl Ω:=
 Bl.cons (Sm.ite (Te.cmp .Eq (Ex.bin .Mod (Ex.ix (Ex.var 0) (Ex.int 2)) (Ex.int 2)) (Ex.int 0)) (Cz Cq1) Bl.nil) (Fp Cq1)
end
noncomputable abbrev tQ:Stmt:=top 53
noncomputable abbrev Om:List Str:=["_law_script"]
noncomputable abbrev QM:List Str:=["_law_script"]
noncomputable def QK{Fq1:Ct}(Cq1:Cal Ω "_law_cell" 1 2 Fq1):Bl Ω:=
 Bl.cons (Sm.ret (Ex.own (Ar.cons (Ex.var 0) (Ar.cons (Ex.int 0) (Ar.cons (Ex.call Cq1 (Ar.cons (Ex.var 0) (Ar.cons (Ex.int 0) Ar.nil))) (Ar.cons (Ex.fdiv (Ex.call Cq1 (Ar.cons (Ex.var 0) (Ar.cons (Ex.int 0) Ar.nil))) (Ex.int 2)) Ar.nil)))))) Bl.nil
noncomputable abbrev m9:Stmt:=top 54
noncomputable abbrev Hw:List Str:=["_law_pen_here","_law_loops_here","_law_k","_law_low","_law_high","_law_j"]
noncomputable abbrev KH:List Str:=["_law_pen_here"]
section
variable (B : Bi Ω.mg) {Fq7 : Ct} (Cq7 : Cal Ω "_law_next" 2 2 Fq7)
noncomputable def t8(B:Bi Ω.mg){Fq7:Ct}(Cq7:Cal Ω "_law_next" 2 2 Fq7):Bl Ω:=
 Bl.cons (Sm.expr (Ex.m_append (Ex.var 1) (Ex.tup (Ar.cons (Ex.typ dg B.tuple_ (Ar.cons (Ex.var 3) Ar.nil)) (Ar.cons (Ex.typ dg B.tuple_ (Ar.cons (Ex.var 4) Ar.nil)) Ar.nil))))) Bl.nil
noncomputable def tX:Bl Ω:=
 Bl.cons (Sm.for (Tg.nm 5) (Itb.rng2 B.range_ (Ex.int 1) (Ex.bin .Add (Ex.var 2) (Ex.int 1))) (Bl.cons (Sm.setIx (Ex.var 4) (Ex.var 5) (Ex.blt M4 B.max_ (Ar.cons (Ex.neg (Ex.int 2)) (Ar.cons (Ex.blt VL B.min_ (Ar.cons (Ex.int 2) (Ar.cons (Ex.bin .Add (Ex.ix (Ex.var 4) (Ex.var 5)) (Ex.ix (Ex.lst (Ar.cons (Ex.int 0) (Ar.cons (Ex.int 0) (Ar.cons (Ex.int 1) (Ar.cons (Ex.neg (Ex.int 1)) (Ar.cons (Ex.int 0) (Ar.cons (Ex.int 0) Ar.nil))))))) (Ex.call Cq7 (Ar.cons (Ex.var 0) (Ar.cons (Ex.int 6) Ar.nil))))) Ar.nil))) Ar.nil)))) Bl.nil)) (t8 B Cq7)
noncomputable def ul:Bl Ω:=
 Bl.cons (Sm.setIx (Ex.var 4) (Ex.int 0) (Ex.bin .Add (Ex.ix (Ex.var 3) (Ex.int 0)) (Ex.ix (Ex.lst (Ar.cons (Ex.int 2) (Ar.cons (Ex.int 1) (Ar.cons (Ex.int 3) (Ar.cons (Ex.int 4) (Ar.cons (Ex.int 2) (Ar.cons (Ex.int 3) (Ar.cons (Ex.int 0) Ar.nil)))))))) (Ex.call Cq7 (Ar.cons (Ex.var 0) (Ar.cons (Ex.int 7) Ar.nil)))))) (tX B Cq7)
noncomputable def uJ:Bl Ω:=
 Bl.cons (Sm.set 4 (Ex.typ JM B.list_ (Ar.cons (Ex.var 3) Ar.nil))) (ul B Cq7)
noncomputable def xn:Bl Ω:=
 Bl.cons (Sm.set 3 (Ex.binL false .Add (Ex.lst (Ar.cons (Ex.bin .Sub (Ex.call Cq7 (Ar.cons (Ex.var 0) (Ar.cons (Ex.int 5) Ar.nil))) (Ex.int 2)) Ar.nil)) (Ex.comp ["_law_j","_law_pen_here"] [none,some 0] (Ex.ix (Ex.lst (Ar.cons (Ex.int 0) (Ar.cons (Ex.int 0) (Ar.cons (Ex.int 1) (Ar.cons (Ex.neg (Ex.int 1)) Ar.nil))))) (Ex.call Cq7 (Ar.cons (Ex.var 1) (Ar.cons (Ex.int 4) Ar.nil)))) (Tg.nm 0) (Itb.rng1 B.range_ (Ex.var 2)) Cd.no))) (uJ B Cq7)
noncomputable def Dl(B:Bi Ω.mg){Fq7:Ct}(Cq7:Cal Ω "_law_next" 2 2 Fq7):Bl Ω:=
 Bl.cons (Sm.ret (Ex.var 1)) Bl.nil
noncomputable def BX:Bl Ω:=
 Bl.cons (Sm.for (Tg.nm 2) (Itb.rng1 B.range_ (Ex.bin .Add (Ex.int 1) (Ex.call Cq7 (Ar.cons (Ex.var 0) (Ar.cons (Ex.int 3) Ar.nil))))) (xn B Cq7)) (Dl B Cq7)
noncomputable def JQ:Bl Ω:=
 Bl.cons (Sm.set 1 (Ex.own Ar.nil)) (BX B Cq7)
end
noncomputable abbrev mV:Stmt:=top 55
noncomputable abbrev HY:List Str:=["_law_form","_law_counts"]
noncomputable abbrev KN:List Str:=["_law_form","_law_counts"]
noncomputable def Jx(B:Bi Ω.mg):Bl Ω:=
 Bl.cons (Sm.ret (Ex.bin .Add (Ex.ix (Ex.var 0) (Ex.int 0)) (Ex.blt Gx B.sum_ (Ar.cons (Ex.comp ["_law_one","_law_other"] [none,none] (Ex.bin .Mult (Ex.var 0) (Ex.var 1)) (Tg.tup [0,1]) (Itb.zip B.zip_ (Ex.sl (Ex.var 0) (Po.so (Ex.int 1)) Po.no) (Ex.var 1)) Cd.no) Ar.nil)))) Bl.nil
noncomputable abbrev nR:Stmt:=top 56
noncomputable abbrev KC:List Str:=["_law_loops_here","_law_found","_law_low","_law_high","_law_longer","_law_counts","_law_number"]
noncomputable abbrev Kf:List Str:=["_law_loops_here"]
section
variable (B : Bi Ω.mg) {Fq13 : Ct} (Cq13 : Cal Ω "_law_value" 1 2 Fq13)
noncomputable def um(B:Bi Ω.mg){Fq13:Ct}(Cq13:Cal Ω "_law_value" 1 2 Fq13):Bl Ω:=
 Bl.cons (Sm.set 1 (Ex.var 4)) Bl.nil
noncomputable def uh:Bl Ω:=
 Bl.cons (Sm.forL (Tg.nm 5) (Ex.var 1) (Bl.cons (Sm.for (Tg.nm 6) (Itb.rng2 B.range_ (Ex.call Cq13 (Ar.cons (Ex.var 2) (Ar.cons (Ex.var 5) Ar.nil))) (Ex.call Cq13 (Ar.cons (Ex.var 3) (Ar.cons (Ex.var 5) Ar.nil)))) (Bl.cons (Sm.expr (Ex.m_append (Ex.var 4) (Ex.bin .Add (Ex.var 5) (Ex.tup (Ar.cons (Ex.var 6) Ar.nil))))) Bl.nil)) Bl.nil)) (um B Cq13)
noncomputable def nU:Bl Ω:=
 Bl.cons (Sm.set 4 (Ex.own Ar.nil)) (uh B Cq13)
noncomputable def Bp(B:Bi Ω.mg){Fq13:Ct}(Cq13:Cal Ω "_law_value" 1 2 Fq13):Bl Ω:=
 Bl.cons (Sm.ret (Ex.blt bA B.len_ (Ar.cons (Ex.var 1) Ar.nil))) Bl.nil
noncomputable def Bv:Bl Ω:=
 Bl.cons (Sm.forL (Tg.tup [2,3]) (Ex.var 0) (Bl.fzl (nU B Cq13))) (Bp B Cq13)
noncomputable def Ik:Bl Ω:=
 Bl.cons (Sm.set 1 (Ex.lst (Ar.cons (Ex.tup Ar.nil) Ar.nil))) (Bv B Cq13)
end
noncomputable abbrev nO:Stmt:=top 57
noncomputable abbrev Ir:List Str:=["_law_pen_here","_law_wide","_law_depth","_law_place_here","_law_k","_law_more"]
noncomputable abbrev Ku:List Str:=["_law_pen_here","_law_wide","_law_depth"]
section
variable (B : Bi Ω.mg) {Fq7 : Ct} (Cq7 : Cal Ω "_law_next" 2 2 Fq7)
noncomputable def tR(B:Bi Ω.mg){Fq7:Ct}(Cq7:Cal Ω "_law_next" 2 2 Fq7):Bl Ω:=
 Bl.cons (Sm.expr (Ex.m_append (Ex.var 3) (Ex.typ dg B.tuple_ (Ar.cons (Ex.binL false .Add (Ex.lst (Ar.cons (Ex.bin .Sub (Ex.call Cq7 (Ar.cons (Ex.var 0) (Ar.cons (Ex.int 5) Ar.nil))) (Ex.int 2)) Ar.nil)) (Ex.var 5)) Ar.nil)))) Bl.nil
noncomputable def zH:Bl Ω:=
 Bl.cons (Sm.setC 5 ["_law_j","_law_pen_here"] [none,some 0] (Ex.ix (Ex.lst (Ar.cons (Ex.int 0) (Ar.cons (Ex.int 1) (Ar.cons (Ex.int 0) (Ar.cons (Ex.neg (Ex.int 1)) (Ar.cons (Ex.int 1) (Ar.cons (Ex.int 2) Ar.nil))))))) (Ex.call Cq7 (Ar.cons (Ex.var 1) (Ar.cons (Ex.int 6) Ar.nil)))) (Tg.nm 0) (Itb.rng1 B.range_ (Ex.var 2)) Cd.no) (tR B Cq7)
noncomputable def BP(B:Bi Ω.mg){Fq7:Ct}(Cq7:Cal Ω "_law_next" 2 2 Fq7):Bl Ω:=
 Bl.cons (Sm.ret (Ex.typ dg B.tuple_ (Ar.cons (Ex.var 3) Ar.nil))) Bl.nil
noncomputable def Df:Bl Ω:=
 Bl.cons (Sm.for (Tg.nm 4) (Itb.rng1 B.range_ (Ex.var 1)) (zH B Cq7)) (BP B Cq7)
noncomputable def Ju:Bl Ω:=
 Bl.cons (Sm.set 3 (Ex.own Ar.nil)) (Df B Cq7)
end
noncomputable abbrev rm:Stmt:=top 58
noncomputable abbrev Ld:List Str:=["_law_pen_here","_law_widths","_law_depth","_law_table","_law_place_here","_law_start","_law_reads","_law_k","_law_other"]
noncomputable abbrev Mx:List Str:=["_law_pen_here","_law_widths","_law_depth"]
section
variable (B : Bi Ω.mg) {Fq7 : Ct} (Cq7 : Cal Ω "_law_next" 2 2 Fq7) {Fq9 : Ct} (Cq9 : Cal Ω "_law_place" 3 3 Fq9)
noncomputable def v9(B:Bi Ω.mg){Fq7:Ct}(Cq7:Cal Ω "_law_next" 2 2 Fq7){Fq9:Ct}(Cq9:Cal Ω "_law_place" 3 3 Fq9):Bl Ω:=
 Bl.cons (Sm.expr (Ex.m_append (Ex.var 6) (Ex.tup (Ar.cons (Ex.bin .Sub (Ex.call Cq7 (Ar.cons (Ex.var 0) (Ar.cons (Ex.int 5) Ar.nil))) (Ex.int 2)) (Ar.cons (Ex.var 8) (Ar.cons (Ex.call Cq9 (Ar.cons (Ex.var 0) (Ar.cons (Ex.ix (Ex.var 1) (Ex.var 8)) (Ar.cons (Ex.var 2) Ar.nil)))) Ar.nil)))))) Bl.nil
noncomputable def BJ:Bl Ω:=
 Bl.cons (Sm.set 8 (Ex.call Cq7 (Ar.cons (Ex.var 0) (Ar.cons (Ex.blt bA B.len_ (Ar.cons (Ex.var 1) Ar.nil)) Ar.nil)))) (v9 B Cq7 Cq9)
noncomputable def Ft(B:Bi Ω.mg){Fq7:Ct}(Cq7:Cal Ω "_law_next" 2 2 Fq7){Fq9:Ct}(Cq9:Cal Ω "_law_place" 3 3 Fq9):Bl Ω:=
 Bl.cons (Sm.ret (Ex.tup (Ar.cons (Ex.var 3) (Ar.cons (Ex.var 4) (Ar.cons (Ex.var 5) (Ar.cons (Ex.typ dg B.tuple_ (Ar.cons (Ex.var 6) Ar.nil)) Ar.nil)))))) Bl.nil
noncomputable def G8:Bl Ω:=
 Bl.cons (Sm.for (Tg.nm 7) (Itb.rng1 B.range_ (Ex.call Cq7 (Ar.cons (Ex.var 0) (Ar.cons (Ex.int 4) Ar.nil)))) (BJ B Cq7 Cq9)) (Ft B Cq7 Cq9)
noncomputable def Ge:Bl Ω:=
 Bl.cons (Sm.set 6 (Ex.own Ar.nil)) (G8 B Cq7 Cq9)
noncomputable def GK:Bl Ω:=
 Bl.cons (Sm.set 5 (Ex.typ dg B.tuple_ (Ar.cons (Ex.binL false .Add (Ex.lst (Ar.cons (Ex.bin .Sub (Ex.call Cq7 (Ar.cons (Ex.var 0) (Ar.cons (Ex.int 7) Ar.nil))) (Ex.int 3)) Ar.nil)) (Ex.comp ["_law_k","_law_pen_here"] [none,some 0] (Ex.bin .Sub (Ex.call Cq7 (Ar.cons (Ex.var 1) (Ar.cons (Ex.int 3) Ar.nil))) (Ex.int 1)) (Tg.nm 0) (Itb.rng1 B.range_ (Ex.var 2)) Cd.no)) Ar.nil))) (Ge B Cq7 Cq9)
noncomputable def Fl:Bl Ω:=
 Bl.cons (Sm.set 4 (Ex.call Cq9 (Ar.cons (Ex.var 0) (Ar.cons (Ex.ix (Ex.var 1) (Ex.var 3)) (Ar.cons (Ex.var 2) Ar.nil))))) (GK B Cq7 Cq9)
noncomputable def Mq:Bl Ω:=
 Bl.cons (Sm.set 3 (Ex.call Cq7 (Ar.cons (Ex.var 0) (Ar.cons (Ex.blt bA B.len_ (Ar.cons (Ex.var 1) Ar.nil)) Ar.nil)))) (Fl B Cq7 Cq9)
end
noncomputable abbrev jz:Stmt:=top 59
noncomputable abbrev Ca:List Str:=["_law_pen_here","_law_widths","_law_left","_law_nests","_law_k","_law_loops_here","_law_many","_law_deeds"]
noncomputable abbrev CV:List Str:=["_law_pen_here"]
section
variable (B : Bi Ω.mg) {Fq45 : Ct} (Cq45 : Cal Ω "program_of" 10 2 Fq45) {Fq7 : Ct} (Cq7 : Cal Ω "_law_next" 2 2 Fq7) {Fq6 : Ct} (Cq6 : Cal Ω "_law_loops" 3 1 Fq6) {Fq2 : Ct} (Cq2 : Cal Ω "_law_count" 2 1 Fq2) {Fq3 : Ct} (Cq3 : Cal Ω "_law_deed" 4 3 Fq3)
noncomputable def qt(B:Bi Ω.mg){Fq45:Ct}(Cq45:Cal Ω "program_of" 10 2 Fq45){Fq7:Ct}(Cq7:Cal Ω "_law_next" 2 2 Fq7){Fq6:Ct}(Cq6:Cal Ω "_law_loops" 3 1 Fq6){Fq2:Ct}(Cq2:Cal Ω "_law_count" 2 1 Fq2){Fq3:Ct}(Cq3:Cal Ω "_law_deed" 4 3 Fq3):Bl Ω:=
 Bl.cons (Sm.expr (Ex.m_append (Ex.var 3) (Ex.tup (Ar.cons (Ex.typ dg B.tuple_ (Ar.cons (Ex.var 5) Ar.nil)) (Ar.cons (Ex.var 7) Ar.nil))))) Bl.nil
noncomputable def qC:Bl Ω:=
 Bl.cons (Sm.set 7 (Ex.typ dg B.tuple_ (Ar.cons (Ex.comp ["_law_j","_law_pen_here","_law_widths","_law_loops_here"] [none,some 0,some 1,some 5] (Ex.call Cq3 (Ar.cons (Ex.var 1) (Ar.cons (Ex.var 2) (Ar.cons (Ex.blt bA B.len_ (Ar.cons (Ex.var 3) Ar.nil)) Ar.nil)))) (Tg.nm 0) (Itb.rng1 B.range_ (Ex.var 6)) Cd.no) Ar.nil))) (qt B Cq45 Cq7 Cq6 Cq2 Cq3)
noncomputable def iw:Bl Ω:=
 Bl.cons (Sm.set 2 (Ex.bin .Sub (Ex.var 2) (Ex.bin .Mult (Ex.call Cq2 (Ar.cons (Ex.var 5) Ar.nil)) (Ex.var 6)))) (qC B Cq45 Cq7 Cq6 Cq2 Cq3)
noncomputable def ik:Bl Ω:=
 Bl.cons (Sm.ite (Te.cmp .Gt (Ex.bin .Mult (Ex.call Cq2 (Ar.cons (Ex.var 5) Ar.nil)) (Ex.var 6)) (Ex.var 2)) (Bl.cons (Sm.set 5 (Ex.own (Ar.cons (Ex.tup (Ar.cons (Ex.tup (Ar.cons (Ex.int 0) Ar.nil)) (Ar.cons (Ex.tup (Ar.cons (Ex.int 0) Ar.nil)) Ar.nil))) Ar.nil))) Bl.nil) Bl.nil) (iw B Cq45 Cq7 Cq6 Cq2 Cq3)
noncomputable def qK:Bl Ω:=
 Bl.cons (Sm.while (Te.and (Bt.cons (Te.cmp .Gt (Ex.blt bA B.len_ (Ar.cons (Ex.var 5) Ar.nil)) (Ex.int 1)) (Bt.one (Te.cmp .Gt (Ex.bin .Mult (Ex.call Cq2 (Ar.cons (Ex.var 5) Ar.nil)) (Ex.var 6)) (Ex.var 2))))) (Bl.cons (Sm.expr (Ex.m_pop0 (Ex.var 5))) Bl.nil)) (ik B Cq45 Cq7 Cq6 Cq2 Cq3)
noncomputable def qL:Bl Ω:=
 Bl.cons (Sm.set 6 (Ex.bin .Add (Ex.int 1) (Ex.call Cq7 (Ar.cons (Ex.var 0) (Ar.cons (Ex.int 4) Ar.nil))))) (qK B Cq45 Cq7 Cq6 Cq2 Cq3)
noncomputable def jW:Bl Ω:=
 Bl.cons (Sm.set 5 (Ex.call Cq6 (Ar.cons (Ex.var 0) Ar.nil))) (qL B Cq45 Cq7 Cq6 Cq2 Cq3)
noncomputable def wg(B:Bi Ω.mg){Fq45:Ct}(Cq45:Cal Ω "program_of" 10 2 Fq45){Fq7:Ct}(Cq7:Cal Ω "_law_next" 2 2 Fq7){Fq6:Ct}(Cq6:Cal Ω "_law_loops" 3 1 Fq6){Fq2:Ct}(Cq2:Cal Ω "_law_count" 2 1 Fq2){Fq3:Ct}(Cq3:Cal Ω "_law_deed" 4 3 Fq3):Bl Ω:=
 Bl.cons (Sm.ret (Ex.call Cq45 (Ar.cons (Ex.var 1) (Ar.cons (Ex.typ dg B.tuple_ (Ar.cons (Ex.var 3) Ar.nil)) Ar.nil)))) Bl.nil
noncomputable def wN:Bl Ω:=
 Bl.cons (Sm.for (Tg.nm 4) (Itb.rng1 B.range_ (Ex.bin .Add (Ex.int 1) (Ex.call Cq7 (Ar.cons (Ex.var 0) (Ar.cons (Ex.int 3) Ar.nil))))) (jW B Cq45 Cq7 Cq6 Cq2 Cq3)) (wg B Cq45 Cq7 Cq6 Cq2 Cq3)
noncomputable def vZ:Bl Ω:=
 Bl.cons (Sm.set 3 (Ex.own Ar.nil)) (wN B Cq45 Cq7 Cq6 Cq2 Cq3)
noncomputable def wO:Bl Ω:=
 Bl.cons (Sm.set 2 (Ex.int 24)) (vZ B Cq45 Cq7 Cq6 Cq2 Cq3)
noncomputable def Dk:Bl Ω:=
 Bl.cons (Sm.set 1 (Ex.typ dg B.tuple_ (Ar.cons (Ex.comp ["_law_k","_law_pen_here"] [none,some 0] (Ex.bin .Add (Ex.int 1) (Ex.call Cq7 (Ar.cons (Ex.var 1) (Ar.cons (Ex.int 2) Ar.nil)))) (Tg.nm 0) (Itb.rng1 B.range_ (Ex.bin .Add (Ex.int 1) (Ex.call Cq7 (Ar.cons (Ex.var 0) (Ar.cons (Ex.int 3) Ar.nil))))) Cd.no) Ar.nil))) (wO B Cq45 Cq7 Cq6 Cq2 Cq3)
end
noncomputable abbrev nY:Stmt:=top 60
noncomputable abbrev JB:List Str:=["_law_one","_law_other"]
noncomputable abbrev Iz:List Str:=["_law_one","_law_other"]
noncomputable def Jt:Bl Ω:=
 Bl.cons (Sm.ret (Ex.or (Bo.cons (Ex.cmp .Eq (Ex.ix (Ex.var 0) (Ex.int 0)) (Ex.ix (Ex.var 1) (Ex.int 0))) (Bo.cons (Ex.cmp .In (Ex.ix (Ex.var 0) (Ex.int 0)) (Ex.ix (Ex.var 1) (Ex.int 1))) (Bo.one (Ex.cmp .In (Ex.ix (Ex.var 1) (Ex.int 0)) (Ex.ix (Ex.var 0) (Ex.int 1)))))))) Bl.nil
noncomputable abbrev uM:Stmt:=top 61
noncomputable abbrev PB:List Str:=["_law_cells","_law_lists","_law_where","_law_at","_law_some","_law_step","_law_j","_law_i"]
noncomputable abbrev Pn:List Str:=["_law_cells","_law_lists"]
section
variable (B : Bi Ω.mg) {Fq12 : Ct} (Cq12 : Cal Ω "_law_touch" 1 2 Fq12)
noncomputable def zE(B:Bi Ω.mg){Fq12:Ct}(Cq12:Cal Ω "_law_touch" 1 2 Fq12):Bl Ω:=
 Bl.cons (Sm.oput (Ex.var 2) (Ex.var 5) (Ex.var 3)) Bl.nil
noncomputable def GJ:Bl Ω:=
 Bl.cons (Sm.ite (Te.or (Bt.cons (Te.oin (Ex.var 5) (Ex.var 2)) (Bt.one (Te.not (Te.ch2 (Ex.int 0) .LtE (Ex.var 5) .Lt (Ex.blt bA B.len_ (Ar.cons (Ex.var 0) Ar.nil))))))) (Bl.cons (Sm.ret (Ex.bl false)) Bl.nil) Bl.nil) (zE B Cq12)
noncomputable def Ke(B:Bi Ω.mg){Fq12:Ct}(Cq12:Cal Ω "_law_touch" 1 2 Fq12):Bl Ω:=
 Bl.cons (Sm.ret (Ex.bl true)) Bl.nil
noncomputable def Kr:Bl Ω:=
 Bl.cons (Sm.for (Tg.nm 6) (Itb.rng1 B.range_ (Ex.blt bA B.len_ (Ar.cons (Ex.var 0) Ar.nil))) (Bl.cons (Sm.for (Tg.nm 7) (Itb.rng1 B.range_ (Ex.var 6)) (Bl.cons (Sm.ite (Te.and (Bt.cons (Te.cmp .GtE (Ex.oix (Ex.var 2) (Ex.var 7)) (Ex.oix (Ex.var 2) (Ex.var 6))) (Bt.one (Te.val (Ex.call Cq12 (Ar.cons (Ex.ix (Ex.var 0) (Ex.var 7)) (Ar.cons (Ex.ix (Ex.var 0) (Ex.var 6)) Ar.nil))))))) (Bl.cons (Sm.ret (Ex.bl false)) Bl.nil) Bl.nil) Bl.nil)) Bl.nil)) (Ke B Cq12)
noncomputable def Ig:Bl Ω:=
 Bl.cons (Sm.ite (Te.cmp .Lt (Ex.blt U3 B.len_ (Ar.cons (Ex.var 2) Ar.nil)) (Ex.blt bA B.len_ (Ar.cons (Ex.var 0) Ar.nil))) (Bl.cons (Sm.ret (Ex.bl false)) Bl.nil) Bl.nil) (Kr B Cq12)
noncomputable def Ie:Bl Ω:=
 Bl.cons (Sm.for (Tg.tup [3,4]) (Itb.enm B.enumerate_ (Ex.var 1)) (Bl.cons (Sm.forL (Tg.nm 5) (Ex.var 4) (GJ B Cq12)) Bl.nil)) (Ig B Cq12)
noncomputable def Qt:Bl Ω:=
 Bl.cons (Sm.set 2 Ex.dnew) (Ie B Cq12)
end
noncomputable abbrev nH:Stmt:=top 62
noncomputable abbrev JR:List Str:=["_law_pen_here","_law_many","_law_lists","_law_step"]
noncomputable abbrev HD:List Str:=["_law_pen_here","_law_many"]
section
variable (B : Bi Ω.mg) {Fq7 : Ct} (Cq7 : Cal Ω "_law_next" 2 2 Fq7)
noncomputable def CZ(B:Bi Ω.mg){Fq7:Ct}(Cq7:Cal Ω "_law_next" 2 2 Fq7):Bl Ω:=
 Bl.cons (Sm.ret (Ex.var 2)) Bl.nil
noncomputable def BV:Bl Ω:=
 Bl.cons (Sm.for (Tg.nm 3) (Itb.rng1 B.range_ (Ex.var 1)) (Bl.cons (Sm.expr (Ex.m_appendS (Ex.ix (Ex.var 2) (Ex.call Cq7 (Ar.cons (Ex.var 0) (Ar.cons (Ex.blt bA B.len_ (Ar.cons (Ex.var 2) Ar.nil)) Ar.nil)))) (Ex.var 3))) Bl.nil)) (CZ B Cq7)
noncomputable def Hr:Bl Ω:=
 Bl.cons (Sm.setC 2 ["_law_k"] [none] (Ex.own Ar.nil) (Tg.nm 0) (Itb.rng1 B.range_ (Ex.bin .Add (Ex.int 1) (Ex.call Cq7 (Ar.cons (Ex.var 0) (Ar.cons (Ex.int 6) Ar.nil))))) Cd.no) (BV B Cq7)
end
noncomputable abbrev qZ:Stmt:=top 63
noncomputable abbrev yS:List Str:=["_law_pen_here","_law_lists","_law_many","_law_way","_law_some","_law_at","_law_other","_law_step"]
noncomputable abbrev Nf:List Str:=["_law_pen_here","_law_lists","_law_many"]
section
variable (B : Bi Ω.mg) {Fq7 : Ct} (Cq7 : Cal Ω "_law_next" 2 2 Fq7) {Fq4 : Ct} (Cq4 : Cal Ω "_law_drawn" 3 2 Fq4)
noncomputable def vW(B:Bi Ω.mg){Fq7:Ct}(Cq7:Cal Ω "_law_next" 2 2 Fq7){Fq4:Ct}(Cq4:Cal Ω "_law_drawn" 3 2 Fq4):Bl Ω:=
 Bl.cons (Sm.expr (Ex.m_appendS (Ex.ix (Ex.var 4) (Ex.var 6)) (Ex.var 7))) Bl.nil
noncomputable def CN:Bl Ω:=
 Bl.cons (Sm.expr (Ex.m_removeS (Ex.ix (Ex.var 4) (Ex.var 5)) (Ex.var 7))) (vW B Cq7 Cq4)
noncomputable def Bh(B:Bi Ω.mg){Fq7:Ct}(Cq7:Cal Ω "_law_next" 2 2 Fq7){Fq4:Ct}(Cq4:Cal Ω "_law_drawn" 3 2 Fq4):Bl Ω:=
 Bl.cons (Sm.ret (Ex.var 4)) Bl.nil
noncomputable def Bx:Bl Ω:=
 Bl.cons (Sm.ite (Te.cmp .Eq (Ex.var 3) (Ex.int 11)) (Bl.cons (Sm.setIx (Ex.var 4) (Ex.var 5) (Ex.rev (Ex.ix (Ex.var 4) (Ex.var 5)))) Bl.nil) Bl.nil) (Bh B Cq7 Cq4)
noncomputable def BK:Bl Ω:=
 Bl.cons (Sm.ite (Te.cmp .Eq (Ex.var 3) (Ex.int 10)) (Bl.cons (Sm.expr (Ex.m_appendS (Ex.ix (Ex.var 4) (Ex.var 5)) (Ex.ix (Ex.lst (Ar.cons (Ex.var 2) (Ar.cons (Ex.neg (Ex.int 1)) (Ar.cons (Ex.bin .Add (Ex.var 2) (Ex.int 7)) Ar.nil)))) (Ex.call Cq7 (Ar.cons (Ex.var 0) (Ar.cons (Ex.int 3) Ar.nil)))))) Bl.nil) Bl.nil) (Bx B Cq7 Cq4)
noncomputable def Cv:Bl Ω:=
 Bl.cons (Sm.ite (Te.cmp .Eq (Ex.var 3) (Ex.int 9)) (Bl.cons (Sm.expr (Ex.m_removeS (Ex.ix (Ex.var 4) (Ex.var 5)) (Ex.var 7))) Bl.nil) Bl.nil) (BK B Cq7 Cq4)
noncomputable def Ce:Bl Ω:=
 Bl.cons (Sm.ite (Te.cmp .Eq (Ex.var 3) (Ex.int 8)) (Bl.cons (Sm.expr (Ex.m_appendS (Ex.ix (Ex.var 4) (Ex.var 6)) (Ex.var 7))) Bl.nil) Bl.nil) (Cv B Cq7 Cq4)
noncomputable def Bw:Bl Ω:=
 Bl.cons (Sm.ite (Te.cmp .Eq (Ex.var 3) (Ex.int 7)) (Bl.cons (Sm.ret (Ex.bin .Add (Ex.binL false .Add (Ex.sl (Ex.var 4) Po.no (Po.so (Ex.var 5))) (Ex.lst (Ar.cons (Ex.sl (Ex.ix (Ex.var 4) (Ex.var 5)) Po.no (Po.so (Ex.int 1))) (Ar.cons (Ex.sl (Ex.ix (Ex.var 4) (Ex.var 5)) (Po.so (Ex.int 1)) Po.no) Ar.nil)))) (Ex.sl (Ex.var 4) (Po.so (Ex.bin .Add (Ex.var 5) (Ex.int 1))) Po.no))) Bl.nil) Bl.nil) (Ce B Cq7 Cq4)
noncomputable def CK:Bl Ω:=
 Bl.cons (Sm.ite (Te.and (Bt.cons (Te.cmp .Eq (Ex.var 3) (Ex.int 6)) (Bt.one (Te.cmp .Lt (Ex.bin .Add (Ex.var 5) (Ex.int 1)) (Ex.blt bA B.len_ (Ar.cons (Ex.var 4) Ar.nil)))))) (Bl.cons (Sm.ret (Ex.bin .Add (Ex.binL false .Add (Ex.sl (Ex.var 4) Po.no (Po.so (Ex.var 5))) (Ex.lst (Ar.cons (Ex.binL false .Add (Ex.ix (Ex.var 4) (Ex.var 5)) (Ex.ix (Ex.var 4) (Ex.bin .Add (Ex.var 5) (Ex.int 1)))) Ar.nil))) (Ex.sl (Ex.var 4) (Po.so (Ex.bin .Add (Ex.var 5) (Ex.int 2))) Po.no))) Bl.nil) Bl.nil) (Bw B Cq7 Cq4)
noncomputable def pU:Bl Ω:=
 Bl.cons (Sm.ite (Te.cmp .Eq (Ex.var 3) (Ex.int 5)) (CN B Cq7 Cq4) Bl.nil) (CK B Cq7 Cq4)
noncomputable def GF:Bl Ω:=
 Bl.cons (Sm.set 7 (Ex.ix (Ex.ix (Ex.var 4) (Ex.var 5)) (Ex.call Cq7 (Ar.cons (Ex.var 0) (Ar.cons (Ex.blt bA B.len_ (Ar.cons (Ex.ix (Ex.var 4) (Ex.var 5)) Ar.nil)) Ar.nil))))) (pU B Cq7 Cq4)
noncomputable def sG:Bl Ω:=
 Bl.cons (Sm.ite (Te.or (Bt.cons (Te.cmp .Eq (Ex.var 3) (Ex.int 4)) (Bt.one (Te.eqV (Ex.var 4) (Ex.lst Ar.nil))))) (Bl.cons (Sm.ret (Ex.call Cq4 (Ar.cons (Ex.var 0) (Ar.cons (Ex.var 2) Ar.nil)))) Bl.nil) Bl.nil) (GF B Cq7 Cq4)
noncomputable def Gk:Bl Ω:=
 Bl.cons (Sm.ite (Te.cmp .Eq (Ex.var 3) (Ex.int 3)) (Bl.cons (Sm.ret (Ex.bin .Add (Ex.binL false .Add (Ex.sl (Ex.var 4) Po.no (Po.so (Ex.var 5))) (Ex.lst (Ar.cons (Ex.lst Ar.nil) Ar.nil))) (Ex.sl (Ex.var 4) (Po.so (Ex.var 5)) Po.no))) Bl.nil) Bl.nil) (sG B Cq7 Cq4)
noncomputable def Fy:Bl Ω:=
 Bl.cons (Sm.ite (Te.cmp .Eq (Ex.var 3) (Ex.int 2)) (Bl.cons (Sm.ret (Ex.rev (Ex.var 4))) Bl.nil) Bl.nil) (Gk B Cq7 Cq4)
noncomputable def GD:Bl Ω:=
 Bl.cons (Sm.ite (Te.cmp .Eq (Ex.var 3) (Ex.int 1)) (Bl.cons (Sm.ret (Ex.lst (Ar.cons (Ex.lrng B.range_ B.list_ (Ex.var 2)) Ar.nil))) Bl.nil) Bl.nil) (Fy B Cq7 Cq4)
noncomputable def sY:Bl Ω:=
 Bl.cons (Sm.ite (Te.cmp .Eq (Ex.var 3) (Ex.int 0)) (Bl.cons (Sm.ret (Ex.comp ["_law_step"] [none] (Ex.own (Ar.cons (Ex.var 0) Ar.nil)) (Tg.nm 0) (Itb.rng1 B.range_ (Ex.var 2)) Cd.no)) Bl.nil) Bl.nil) (GD B Cq7 Cq4)
noncomputable def Gr:Bl Ω:=
 Bl.cons (Sm.set 6 (Ex.call Cq7 (Ar.cons (Ex.var 0) (Ar.cons (Ex.blt M4 B.max_ (Ar.cons (Ex.int 1) (Ar.cons (Ex.blt bA B.len_ (Ar.cons (Ex.var 4) Ar.nil)) Ar.nil))) Ar.nil)))) (sY B Cq7 Cq4)
noncomputable def Hm:Bl Ω:=
 Bl.cons (Sm.set 5 (Ex.call Cq7 (Ar.cons (Ex.var 0) (Ar.cons (Ex.blt M4 B.max_ (Ar.cons (Ex.int 1) (Ar.cons (Ex.blt bA B.len_ (Ar.cons (Ex.var 4) Ar.nil)) Ar.nil))) Ar.nil)))) (Gr B Cq7 Cq4)
noncomputable def GZ:Bl Ω:=
 Bl.cons (Sm.setC 4 ["_law_one"] [none] (Ex.typ JM B.list_ (Ar.cons (Ex.var 0) Ar.nil)) (Tg.nm 0) (Itb.seq (Ex.var 1)) Cd.no) (Hm B Cq7 Cq4)
noncomputable def Lk:Bl Ω:=
 Bl.cons (Sm.set 3 (Ex.call Cq7 (Ar.cons (Ex.var 0) (Ar.cons (Ex.int 12) Ar.nil)))) (GZ B Cq7 Cq4)
end
noncomputable abbrev qJ:Stmt:=top 64
noncomputable abbrev Ma:List Str:=["_law_program_here","_law_cells","_law_lists","_law_kept","_law_found"]
noncomputable abbrev Li:List Str:=["_law_program_here","_law_cells","_law_lists"]
section
variable (B : Bi Ω.mg) {Fq15 : Ct} (Cq15 : Cal Ω "are_rounds" 7 2 Fq15) {Fq5 : Ct} (Cq5 : Cal Ω "_law_due" 2 2 Fq5)
noncomputable def Gs(B:Bi Ω.mg){Fq15:Ct}(Cq15:Cal Ω "are_rounds" 7 2 Fq15){Fq5:Ct}(Cq5:Cal Ω "_law_due" 2 2 Fq5):Bl Ω:=
 Bl.cons (Sm.ret (Ex.and (Bo.cons (Ex.isi B.isinstance_ (Ex.var 4) .bool B.bool_) (Bo.cons (Ex.cmp .Eq (Ex.var 4) (Ex.call Cq5 (Ar.cons (Ex.var 1) (Ar.cons (Ex.var 3) Ar.nil)))) (Bo.one (Ex.cmp .Eq (Ex.var 2) (Ex.var 3))))))) Bl.nil
noncomputable def Ho:Bl Ω:=
 Bl.cons (Sm.set 4 (Ex.call Cq15 (Ar.cons (Ex.var 0) (Ar.cons (Ex.var 2) Ar.nil)))) (Gs B Cq15 Cq5)
noncomputable def M8:Bl Ω:=
 Bl.cons (Sm.setC 3 ["_law_some"] [none] (Ex.typ Vk B.list_ (Ar.cons (Ex.var 0) Ar.nil)) (Tg.nm 0) (Itb.seq (Ex.var 2)) Cd.no) (Ho B Cq15 Cq5)
end
noncomputable abbrev jY:Stmt:=top 65
noncomputable abbrev Ud:List Str:=["_law_script","_law_pen_here","_law_program_here","_law_cells","_law_told","_law_k","_law_lists"]
noncomputable abbrev Ny:List Str:=["_law_script"]
section
variable (B : Bi Ω.mg) {Fq17 : Ct} (Cq17 : Cal Ω "cells_of" 5 1 Fq17) {Fq46 : Ct} (Cq46 : Cal Ω "rounds" 8 1 Fq46) {Fq7 : Ct} (Cq7 : Cal Ω "_law_next" 2 2 Fq7) {Fq8 : Ct} (Cq8 : Cal Ω "_law_pen" 2 1 Fq8) {Fq10 : Ct} (Cq10 : Cal Ω "_law_program" 11 1 Fq10) {Fq0 : Ct} (Cq0 : Cal Ω "_law_bent" 4 3 Fq0) {Fq11 : Ct} (Cq11 : Cal Ω "_law_says" 8 3 Fq11)
noncomputable def Gh(B:Bi Ω.mg){Fq17:Ct}(Cq17:Cal Ω "cells_of" 5 1 Fq17){Fq46:Ct}(Cq46:Cal Ω "rounds" 8 1 Fq46){Fq7:Ct}(Cq7:Cal Ω "_law_next" 2 2 Fq7){Fq8:Ct}(Cq8:Cal Ω "_law_pen" 2 1 Fq8){Fq10:Ct}(Cq10:Cal Ω "_law_program" 11 1 Fq10){Fq0:Ct}(Cq0:Cal Ω "_law_bent" 4 3 Fq0){Fq11:Ct}(Cq11:Cal Ω "_law_says" 8 3 Fq11):Bl Ω:=
 Bl.cons (Sm.ite (Te.not (Te.val (Ex.call Cq11 (Ar.cons (Ex.var 2) (Ar.cons (Ex.var 3) (Ar.cons (Ex.var 6) Ar.nil)))))) (Bl.cons (Sm.ret (Ex.bl false)) Bl.nil) Bl.nil) Bl.nil
noncomputable def Hg:Bl Ω:=
 Bl.cons (Sm.ite (Te.and (Bt.cons (Te.cmp .Eq (Ex.call Cq7 (Ar.cons (Ex.var 1) (Ar.cons (Ex.int 3) Ar.nil))) (Ex.int 1)) (Bt.one (Te.cmp .NotIn (Ex.lst Ar.nil) (Ex.var 6))))) (Bl.cons (Sm.set 6 (Ex.call Cq0 (Ar.cons (Ex.var 1) (Ar.cons (Ex.var 6) (Ar.cons (Ex.blt bA B.len_ (Ar.cons (Ex.var 3) Ar.nil)) Ar.nil))))) Bl.nil) Bl.nil) (Gh B Cq17 Cq46 Cq7 Cq8 Cq10 Cq0 Cq11)
noncomputable def Nb:Bl Ω:=
 Bl.cons (Sm.set 6 (Ex.call Cq0 (Ar.cons (Ex.var 1) (Ar.cons (Ex.var 4) (Ar.cons (Ex.blt bA B.len_ (Ar.cons (Ex.var 3) Ar.nil)) Ar.nil))))) (Hg B Cq17 Cq46 Cq7 Cq8 Cq10 Cq0 Cq11)
noncomputable def Py(B:Bi Ω.mg){Fq17:Ct}(Cq17:Cal Ω "cells_of" 5 1 Fq17){Fq46:Ct}(Cq46:Cal Ω "rounds" 8 1 Fq46){Fq7:Ct}(Cq7:Cal Ω "_law_next" 2 2 Fq7){Fq8:Ct}(Cq8:Cal Ω "_law_pen" 2 1 Fq8){Fq10:Ct}(Cq10:Cal Ω "_law_program" 11 1 Fq10){Fq0:Ct}(Cq0:Cal Ω "_law_bent" 4 3 Fq0){Fq11:Ct}(Cq11:Cal Ω "_law_says" 8 3 Fq11):Bl Ω:=
 Bl.cons (Sm.ret (Ex.bl true)) Bl.nil
noncomputable def Qc:Bl Ω:=
 Bl.cons (Sm.for (Tg.nm 5) (Itb.rng1 B.range_ (Ex.int 6)) (Nb B Cq17 Cq46 Cq7 Cq8 Cq10 Cq0 Cq11)) (Py B Cq17 Cq46 Cq7 Cq8 Cq10 Cq0 Cq11)
noncomputable def Qe:Bl Ω:=
 Bl.cons (Sm.ite (Te.not (Te.val (Ex.call Cq11 (Ar.cons (Ex.var 2) (Ar.cons (Ex.var 3) (Ar.cons (Ex.var 4) Ar.nil)))))) (Bl.cons (Sm.ret (Ex.bl false)) Bl.nil) Bl.nil) (Qc B Cq17 Cq46 Cq7 Cq8 Cq10 Cq0 Cq11)
noncomputable def Qk:Bl Ω:=
 Bl.cons (Sm.set 4 (Ex.ix (Ex.call Cq46 (Ar.cons (Ex.var 2) Ar.nil)) (Ex.int 0))) (Qe B Cq17 Cq46 Cq7 Cq8 Cq10 Cq0 Cq11)
noncomputable def PX:Bl Ω:=
 Bl.cons (Sm.set 3 (Ex.call Cq17 (Ar.cons (Ex.var 2) Ar.nil))) (Qk B Cq17 Cq46 Cq7 Cq8 Cq10 Cq0 Cq11)
noncomputable def QF:Bl Ω:=
 Bl.cons (Sm.set 2 (Ex.call Cq10 (Ar.cons (Ex.var 1) Ar.nil))) (PX B Cq17 Cq46 Cq7 Cq8 Cq10 Cq0 Cq11)
noncomputable def UL:Bl Ω:=
 Bl.cons (Sm.set 1 (Ex.call Cq8 (Ar.cons (Ex.var 0) Ar.nil))) (QF B Cq17 Cq46 Cq7 Cq8 Cq10 Cq0 Cq11)
end
end
end K43
local macro_rules | `(tactic| walk_at "n") => `(tactic| ((conv => whnf); repeat (with_reducible first | apply RF.cLt | apply RF.cLe | apply RF.cGt | apply RF.cGe | apply RF.cEqI | apply RF.cNeI | apply RF.cEqB | apply RF.cNeB | apply RF.cIsN | apply RF.cIsB | apply RF.cIsNotB | apply RF.cIsNot); (conv => whnf)))
local macro_rules | `(tactic| walk_at "at") => `(tactic| first | (with_reducible assumption) | exact DL.set_get (by first | (with_reducible assumption) | exact DL.set_get (by with_reducible assumption)))
local macro_rules | `(tactic| walk_at "o") => `(tactic| first | omega | decide | (simp; done) | (simp; omega))
local macro_rules | `(tactic| walk_at "a1") => `(tactic| first
 | refine RF.wM1 (by first | exact .inl ⟨by walk_at "o", by walk_at "o"⟩ | exact .inr ⟨by walk_at "o", by walk_at "o"⟩) ?_
 | refine RF.wM2 ⟨by decide, by decide, by decide⟩ ?_
 | refine RF.wM3 ⟨by omega, by omega⟩ ?_
 | refine RF.wM4 (by omega) ?_
 | ((fail_if_success (with_reducible show (_ /\ ∃ _ : Nat -> List DL.D -> DL.Store -> Prop, _))); refine RF.wM5 (by walk_at "o") ?_)
 | refine RF.wM6 (by walk_at "o") ?_
 | (refine' RF.wM7 ?h1 ?h2 ?h3; (case h1 => walk_at "at"); (case h2 => exact rfl); (try rw [List.set_set]))
 | (refine' RF.wM8 ?h1 ?h2 ?h3; (case h1 => walk_at "at"); (case h2 => exact rfl))
 | refine RF.wM9 rfl ?_)
local macro_rules | `(tactic| walk_at "a") => `(tactic| (walk_at "n"; repeat (walk_at "a1"; walk_at "n")))
local macro_rules | `(tactic| walk_at "b") => `(tactic| (walk_at "n"; repeat ((first | walk_at "a1" | apply RF.bT | apply RF.bF | apply RF.dT | apply RF.dF); walk_at "n")))
namespace K43
open PySem L2 DL RF
variable {cs ws l : List Int} {i d n b k j m : Nat} {a t : Int} {S R J : Store} {L : List Nat}
variable {Ω : Wd} {f : Addr} {fd : FuncData}
noncomputable def whole:D->Bool
 | .int _=>true
 | _=>false
noncomputable def bC(x:D)(a b:Int):Bool:=match x with
 | .tup ds=>decide (a≤(ds.length:Int))&&decide ((ds.length:Int)≤b)
 | _=>false
noncomputable def cJ(x:D)(d:Int):Bool:=match x with
 | .tup ds=>decide ((ds.length:Int)=d+1)&&ds.all whole
 | _=>false
noncomputable def gC:Ct:=λ ds S W=>∃x,ds=[x]/\W (.bl (whole x)) S
noncomputable def eG:Ct:=λ ds S W=>∃x a b,ds=[x,.int a,.int b]/\W (.bl (bC x a b)) S
noncomputable def sV:Ct:=λ ds S W=>∃x d,ds=[x,.int d]/\d≤1000/\W (.bl (cJ x d)) S
noncomputable def comesTo(f:Int)(fs cs:List Int):Int:=f+(List.zipWith (λ a b=>a*b) fs cs).sum
noncomputable def jG:Ct:=λ ds S W=>∃f fs cs,ds=[.tup (.int f::fs.map .int),.tup (cs.map .int)]/\fs.length≤1000/\(∀c∈cs,-(2 ^ 64)<c/\c<2 ^ 64)/\W (.int (comesTo f fs cs)) S
theorem Jf(ds:List D):(ds.map whole).all id=ds.all whole:=by rw[List.all_map];rfl
theorem Dt{fs:List Int}{d:D}(h:(List.zipWith (λ x y=>D.tup [x,y]) (fs.map D.int) (cs.map D.int))[i]? =some d):∃a b,fs[i]? =some a/\cs[i]? =some b/\d=.tup [.int a,.int b]:=by
 rw[List.getElem?_zipWith,y9,y9]at h
 cases e1:fs[i]? with
 | none=>rw[e1]at h;cases h
 | some a=>
   cases e2:cs[i]? with
   | none=>rw[e1,e2]at h;cases h
   | some b=>rw[e1,e2]at h;cases h;exact⟨a,b,rfl,rfl,rfl⟩
theorem wI(F:Fun Ω.K "is_whole" "is_whole" iD f fd)(B:Bi Ω.mg):Ok Ω 1 f fd zJ gC:=by
 refine az (N:=Ab) F (zY B) (by kernel_rfl!) ?_
 rintro ds S W ⟨x,rfl,hw⟩ hl
 walk_at "n"
 refine⟨λ c=>?_,λ c=>?_⟩
 . walk_at "n"
   have e:(!isD .bool x)=whole x:=by cases x<;>first | rfl | exact ff c | exact tf c
   rw[e];exact hw
 . have e:whole x=false:=by cases x<;>first | rfl | exact ff c | exact tf c
   rw[e]at hw;exact hw
theorem qX(F:Fun Ω.K "is_tuple_of" "is_tuple_of" eH f fd)(B:Bi Ω.mg):Ok Ω 1 f fd sW eG:=by
 refine az (N:=sr) F (sO B) (by kernel_rfl!) ?_
 rintro ds S W ⟨x,a,b,rfl,hw⟩ hl
 walk_at "n"
 cases x with
 | tup ds=>
   refine⟨λ _=>?_,λ c=>tf c⟩
   walk_at "n"
   refine⟨λ c1=>?_,λ c1=>?_⟩
   . have e:bC (.tup ds) a b=false:=by show(decide _&&decide _)=false;rw[c1];rfl
     rw[e]at hw;exact hw
   . walk_at "n"
     have e:bC (.tup ds) a b=decide ((ds.length:Int)≤b):=by show(decide _&&decide _)=_;rw[c1];rfl
     rw[e]at hw;exact hw
 | _=>exact⟨λ c=>ff c,λ _=>hw⟩
theorem An(F:Fun Ω.K "is_form" "is_form" je f fd)(B:Bi Ω.mg)(Cq39:Cal Ω "is_whole" 1 1 gC)(Cq38:Cal Ω "is_tuple_of" 1 3 eG):Ok Ω 2 f fd Cp sV:=by
 refine az (N:=Bm) F (BZ B Cq39 Cq38) (by kernel_rfl!) ?_
 rintro ds S W ⟨x,d,rfl,hd,hw⟩ hl
 walk_at "n"
 refine⟨rfl,_,_,_,rfl,?_⟩
 refine⟨λ c=>?_,λ c=>?_⟩
 . cases x with
   | tup ds=>
     have hlen:(ds.length:Int)=d+1:=by
      have c':(decide (d+1≤(ds.length:Int))&&decide ((ds.length:Int)≤d+1))=true:=c
      rw[Bool.and_eq_true,decide_eq_true_eq,decide_eq_true_eq]at c'
      omega
     walk_at "n"
     refine fD ⟨by omega,λ i acc S'=>acc=(ds.take i).map (λ d=>.bl (whole d))/\S'=S,⟨rfl,rfl⟩,?_,?_⟩
     . rintro i e acc S' he ⟨rfl,rfl⟩
       walk_at "n"
       refine⟨λ _=>⟨rfl,_,rfl,?_,rfl⟩,λ z=>tf z⟩
       rw[aD he,List.map_append];rfl
     . rintro acc S' ⟨rfl,rfl⟩
       rw[List.take_length]
       refine⟨ds.map whole,by rw[List.map_map];rfl,?_⟩
       have e2:cJ (.tup ds) d=(ds.map whole).all id:=by
        show(decide _&&_)=_
        rw[ZG hlen,Jf];rfl
       rw[e2]at hw;exact hw
   | _=>exact ff c
 . have e:cJ x d=false:=by
    cases x with
    | tup ds=>
      have c':(decide (d+1≤(ds.length:Int))&&decide ((ds.length:Int)≤d+1))=false:=c
      show(decide _&&_)=false
      rw[Bool.and_eq_false_iff,decide_eq_false_iff_not,decide_eq_false_iff_not]at c'
      rw[ZH (by omega)];rfl
    | _=>rfl
   rw[e]at hw;exact hw
theorem wF(F:Fun Ω.K "comes_to" "comes_to" ir f fd)(B:Bi Ω.mg):Ok Ω 1 f fd z6 jG:=by
 refine az (N:=xj) F (Aj B) (by kernel_rfl!) ?_
 rintro ds S W ⟨g,fs,cs,rfl,hfs,hcs,hw⟩ hl
 walk_at "n"
 refine⟨_,kW _ _,?_⟩
 walk_at "n"
 rw[qd]
 refine fD ⟨by rw[List.length_zipWith,y8];omega,λ i acc S'=>acc=((List.zipWith (λ a b=>a*b) fs cs).take i).map D.int/\S'=S,⟨rfl,rfl⟩,?_,?_⟩
 . rintro i e acc S' he ⟨rfl,rfl⟩
   obtain⟨a,b,h1,h2,rfl⟩:=Dt he
   walk_at "n"
   refine⟨rfl,λ _=>⟨.inr (hcs b (y6 h2)),?_,rfl⟩,λ z=>tf z⟩
   have e3:(List.zipWith (λ a b=>a*b) fs cs)[i]? =some (a*b):=by rw[List.getElem?_zipWith,h1,h2]
   rw[aD e3,List.map_append];rfl
 . rintro acc S' ⟨rfl,rfl⟩
   have e:(List.zipWith (λ x y=>D.tup [x,y]) (fs.map D.int) (cs.map D.int)).length=(List.zipWith (λ a b=>a*b) fs cs).length:=by simp
   rw[e,List.take_length]
   exact⟨_,rfl,hw⟩
noncomputable def small:D->Bool
 | .int n=>decide (-2≤n)&&decide (n≤2)
 | _=>false
noncomputable def U5:List D->Bool
 | .int a::fs=>decide (-9≤a)&&(decide (a≤9)&&fs.all small)
 | _=>false
noncomputable def bQ(x:D)(d:Int):Bool:=cJ x d&&U5 (match x with | .tup ds=>ds | _=>[])
noncomputable def gZ(x:D)(d:Int):Bool:=match x with
 | .tup [a,b]=>bQ a d&&bQ b d
 | _=>false
noncomputable def fB(x:D):Bool:=match x with
 | .tup ds=>(decide (1≤(ds.length:Int))&&decide ((ds.length:Int)≤3))&&(ds.mapIdx λ i d=>gZ d i).all id
 | _=>false
noncomputable def Fe:Ct:=λ ds S W=>∃x d,ds=[x,.int d]/\0≤d/\d≤1000/\W (.bl (bQ x d)) S
noncomputable def Io:Ct:=λ ds S W=>∃x d,ds=[x,.int d]/\0≤d/\d≤1000/\W (.bl (gZ x d)) S
noncomputable def Ej:Ct:=λ ds S W=>∃x,ds=[x]/\W (.bl (fB x)) S
theorem ints_of:∀{ds:List D},ds.all whole=true->∃ns:List Int,ds=ns.map .int
 | [],_=>⟨[],rfl⟩
 | d::ds,h=>by
   rw[List.all_cons]at h
   obtain⟨h1,h2⟩:=aa h
   obtain⟨ns,rfl⟩:=ints_of h2
   cases d with
   | int i=>exact⟨i::ns,rfl⟩
   | _=>exact ff h1
theorem jn{x:D}{d:Int}(h:cJ x d=true)(hd:0≤d):∃a fs,x=.tup (.int a::List.map .int fs)/\(fs.length:Int)=d:=by
 cases x with
 | tup ds=>
   obtain⟨h1,h2⟩:=aa h
   have h1:=ZF h1
   cases ds with
   | nil=>simp at h1;omega
   | cons e es=>
     rw[List.all_cons]at h2
     obtain⟨h2,h3⟩:=aa h2
     have h4:=ints_of h3
     obtain⟨ns,rfl⟩:=h4
     cases e with
     | int a=>exact⟨a,ns,rfl,by simp at h1;omega⟩
     | _=>exact ff h2
 | _=>exact ff h
theorem Ba(p:D->Bool)(ds:List D):(ds.map p).all id=ds.all p:=by rw[List.all_map];rfl
theorem wR (F:Fun Ω.K "is_bound" "is_bound" iB f fd)(B:Bi Ω.mg)(Cq26:Cal Ω "is_form" 2 2 sV):Ok Ω 3 f fd yH Fe:=by
 refine az (N:=xT) F (Bg B Cq26) (by kernel_rfl!) ?_
 rintro ds S W ⟨x,d,rfl,hd0,hd,hw⟩ hl
 walk_at "a"
 refine⟨rfl,_,_,rfl,hd,?_⟩
 walk_at "a"
 cases h:cJ x d with
 | false=>
   have e:bQ x d=false:=by unfold bQ;rw[h];rfl
   rw[e]at hw
   exact⟨λ _=>hw,λ z=>tf z⟩
 | true=>
   refine⟨λ z=>ff z,λ _=>?_⟩
   obtain⟨a,fs,rfl,hf⟩:=jn h hd0
   have e:bQ (.tup (.int a::fs.map .int)) d=(decide (-9≤a)&&(decide (a≤9)&&(fs.map D.int).all small)):=by unfold bQ;rw[h];rfl
   rw[e]at hw
   walk_at "a"
   refine⟨_,kW _ _,?_⟩
   walk_at "a"
   refine⟨λ h1=>?_,λ h1=>?_⟩
   . have h1:decide (-9≤a)=false:=h1
     rw[h1]at hw
     exact⟨λ z=>ff z,λ _=>hw⟩
   have h1:decide (-9≤a)=true:=h1
   rw[h1,Bool.true_and]at hw
   walk_at "a"
   refine⟨λ h2=>?_,λ h2=>?_⟩
   . rw [h2,Bool.true_and]at hw
     walk_at "a"
     rw[qd]
     refine eQ (λ d=>.bl (small d)) (by simp;omega) ?_ ?_
     . intro i e he Q hq
       rw[y9]at he
       cases e1:fs[i]? with
       | none=>rw[e1]at he;cases he
       | some n=>
         rw[e1]at he
         cases he
         walk_at "a"
         refine⟨λ h3=>?_,λ h3=>?_⟩
         . have h3:decide (-2≤n)=false:=h3
           have e:small (.int n)=false:=by show(decide _&&_)=false;rw[h3];rfl
           rw[e]at hq
           exact hq
         . have h3:decide (-2≤n)=true:=h3
           walk_at "a"
           have e:small (.int n)=decide (n≤2):=by show(decide _&&_)=_;rw[h3];rfl
           rw[e]at hq
           exact hq
     . refine⟨(fs.map D.int).map small,by simp only[List.map_map];rfl,?_⟩
       rw[Ba];exact hw
   . rw[h2]at hw
     exact hw
theorem yh(F:Fun Ω.K "is_loop" "is_loop" jy f fd)(Cq38:Cal Ω "is_tuple_of" 1 3 eG)(Cq24:Cal Ω "is_bound" 3 2 Fe):Ok Ω 4 f fd Bq Io:=by
 refine az (N:=Cj) F (Cm Cq38 Cq24) (by kernel_rfl!) ?_
 rintro ds S W ⟨x,d,rfl,hd0,hd,hw⟩ hl
 walk_at "a"
 refine⟨rfl,_,_,_,rfl,?_⟩
 walk_at "a"
 cases x with
 | tup ds=>
   match ds,hw with
   | [a,b],hw=>
     refine⟨λ _=>?_,λ z=>tf z⟩
     walk_at "a"
     refine⟨rfl,_,_,rfl,hd0,hd,?_⟩
     have e:gZ (.tup [a,b]) d=(bQ a d&&bQ b d):=rfl
     rw[e]at hw
     refine⟨λ h=>?_,λ h=>?_⟩
     . rw[h,Bool.true_and]at hw
       walk_at "a"
       exact⟨rfl,_,_,rfl,hd0,hd,hw⟩
     . rw[h]at hw;exact hw
   | [],hw=>exact⟨λ z=>ff z,λ _=>hw⟩
   | [_],hw=>exact⟨λ z=>ff z,λ _=>hw⟩
   | _::_::_::es,hw=>
     refine⟨λ z=>?_,λ _=>hw⟩
     obtain⟨_,z⟩:=aa z
     have z:=ZF z
     simp at z;omega
 | _=>exact⟨λ z=>ff z,λ _=>hw⟩
theorem v5(F:Fun Ω.K "is_loops" "is_loops" gK f fd)(B:Bi Ω.mg)(Cq38:Cal Ω "is_tuple_of" 1 3 eG)(Cq27:Cal Ω "is_loop" 4 2 Io):Ok Ω 5 f fd ym Ej:=by
 refine az (N:=yO) F (xJ B Cq38 Cq27) (by kernel_rfl!) ?_
 rintro ds S W ⟨x,rfl,hw⟩ hl
 walk_at "a"
 refine⟨rfl,_,_,_,rfl,?_⟩
 walk_at "a"
 cases x with
 | tup ds=>
   have e:fB (.tup ds)=((decide (1≤(ds.length:Int))&&decide ((ds.length:Int)≤3))&&(ds.mapIdx λ i d=>gZ d i).all id):=rfl
   rw[e]at hw
   refine⟨λ h=>?_,λ h=>?_⟩
   . have h:(decide (1≤(ds.length:Int))&&decide ((ds.length:Int)≤3))=true:=h
     rw[h,Bool.true_and]at hw
     have hlen:=ZF (aa h).2
     walk_at "a"
     refine eQ (λ p=>match p with | .tup [.int i,d]=>.bl (gZ d i) | _=>.non) (by simp;omega) ?_ ?_
     . intro i e he Q hq
       rw[List.getElem?_mapIdx]at he
       cases e1:ds[i]? with
       | none=>rw[e1]at he;cases he
       | some d0=>
         rw[e1]at he
         cases he
         have hi:i<ds.length:=(y3.mp e1).1
         walk_at "a"
         refine⟨rfl,?_⟩
         walk_at "a"
         exact⟨rfl,_,_,rfl,by omega,by omega,hq⟩
     . refine⟨ds.mapIdx λ i d=>gZ d i,?_,hw⟩
       apply List.ext_getElem?
       intro i
       simp only[y9,List.getElem?_mapIdx]
       cases ds[i]?<;>rfl
   . have h:(decide (1≤(ds.length:Int))&&decide ((ds.length:Int)≤3))=false:=h
     rw[h]at hw
     exact hw
 | _=>exact⟨λ z=>ff z,λ _=>hw⟩
noncomputable abbrev Fm:=Int×List Int
noncomputable abbrev Lp:=Fm×Fm
noncomputable def dF(f:Fm):D:=.tup (.int f.1::f.2.map .int)
noncomputable def dC(cs:List Int):D:=.tup (cs.map .int)
noncomputable def dL(l:Lp):D:=.tup [dF l.1,dF l.2]
noncomputable def atC(f:Fm)(cs:List Int):Int:=comesTo f.1 f.2 cs
noncomputable def upI(a:Int)(n:Nat):List Int:=(List.range n).map λ(k:Nat)=>a+(k:Int)
noncomputable def bG(lo hi:Fm)(cs:List Int):List (List Int):=(upI (atC lo cs) (atC hi cs-atC lo cs).toNat).map λ c=>cs++[c]
noncomputable def aM(lo hi:Fm)(ahead:List (List Int)):List (List Int):=ahead.flatMap (bG lo hi)
noncomputable def cnt(ls:List Lp):List (List Int):=ls.foldl (λ acc l=>aM l.1 l.2 acc) [[]]
noncomputable def Sm6(ns:List Int):Prop:=ns.length≤10/\∀n∈ns,-1000000≤n/\n≤1000000
noncomputable def SmF(f:Fm):Prop:= -1000000≤f.1/\f.1≤1000000/\Sm6 f.2
theorem uX:∀(fs cs:List Int),(∀n∈fs,-1000000≤n/\n≤1000000)->(∀n∈cs,-1000000≤n/\n≤1000000)-> -(1000000000000*(cs.length:Int))≤(List.zipWith (λ a b=>a*b) fs cs).sum/\(List.zipWith (λ a b=>a*b) fs cs).sum≤1000000000000*(cs.length:Int)
 | [],cs,_,_=>by simp;omega
 | f::fs,[],_,_=>by simp
 | f::fs,c::cs,h1,h2=>by
   have ih:=uX fs cs (λ n hn=>h1 n (x5 _ hn)) (λ n hn=>h2 n (x5 _ hn))
   have hf:=h1 f x8
   have hc:=h2 c x8
   have hp:(f*c).natAbs≤1000000*1000000:=by rw[Int.natAbs_mul];exact Nat.mul_le_mul (by omega) (by omega)
   simp only[List.zipWith_cons_cons,List.sum_cons,List.length_cons]
   omega
theorem jd{f:Fm}(hf:SmF f)(hc:Sm6 cs): -(2 ^ 62)≤atC f cs/\atC f cs<2 ^ 62:=by
 have:=uX f.2 cs hf.2.2.2 hc.2
 have h1:=hf.1
 have h2:=hf.2.1
 have h3:=hc.1
 unfold atC comesTo
 omega
theorem Qy(a:Int)(n:Nat):(upI a n).length=n:=by simp[upI]
theorem Ea(h:i<n):(upI a n)[i]? =some (a+i):=by simp[upI,h]
theorem di(lo hi:Fm)(cs:List Int):(bG lo hi cs).length=(atC hi cs-atC lo cs).toNat:=by simp[bG,Qy]
theorem iC{lo hi:Fm}{ahead:List (List Int)}(h:ahead[i]? =some cs):aM lo hi (ahead.take (i+1))=aM lo hi (ahead.take i)++bG lo hi cs:=by
 unfold aM
 rw[aD h,List.flatMap_append];simp
theorem yq{lo hi:Fm}{ahead:List (List Int)}(h:ahead[i]? =some cs):(aM lo hi (ahead.take i)).length+(bG lo hi cs).length≤(aM lo hi ahead).length:=by
 have e:aM lo hi ahead=aM lo hi (ahead.take (i+1))++aM lo hi (ahead.drop (i+1)):=by
  unfold aM
  rw[←List.flatMap_append,List.take_append_drop]
 rw[e,iC h,x9,x9];omega
theorem mQ(xs:List (List Int)):ak (xs.map dC)=true:=by
 induction xs with
 | nil=>rfl
 | cons x xs ih=>
   simp only[List.map_cons,ak,ih,Bool.and_true]
   show ak (x.map D.int)=true
   induction x with
   | nil=>rfl
   | cons y ys ih=>simp only[List.map_cons,ak,ih,Bool.and_true];rfl
noncomputable def zW:Ct:=λ ds S W=>∃ahead lo hi,ds=[.lst (List.map dC ahead),dF lo,dF hi]/\SmF lo/\SmF hi/\(∀cs∈ahead,Sm6 cs)/\ahead.length≤1000000/\(aM lo hi ahead).length≤1000000/\flat S/\hand W ((aM lo hi ahead).map dC) S
theorem kJ(F:Fun Ω.K "with_next_count" "with_next_count" cN f fd)(B:Bi Ω.mg)(Cq20:Cal Ω "comes_to" 1 2 jG):Ok Ω 2 f fd mC zW:=by
 refine az (N:=lY) F (Bl.frz (mG B Cq20)) (by kernel_rfl!) ?_
 rintro ds S W ⟨ahead,lo,hi,rfl,hlo,hhi,hah,hz0,hz,hS,hw⟩ hl
 walk_at "b"
 refine aO ⟨λ i Γ' S'=>(∃o4 o5,Γ'=[some (.lst (ahead.map dC)),some (dF lo),some (dF hi),some (.loc S.length),o4,o5])/\S'=S++[(aM lo hi (ahead.take i)).map dC],⟨⟨_,_,rfl⟩,rfl⟩,?_,?_⟩
 . rintro i e Γ' S' he ⟨⟨o4,o5,rfl⟩,rfl⟩
   rw[y9]at he
   cases e1:ahead[i]? with
   | none=>rw[e1]at he;cases he
   | some cs=>
     rw[e1]at he
     cases he
     have hcs:=hah cs (y6 e1)
     have b1:=jd hlo hcs
     have b2:=jd hhi hcs
     have h64:∀c∈cs,-(2 ^ 64)<c/\c<2 ^ 64:=λ c hc=>by have:=hcs.2 c hc;omega
     walk_at "b"
     refine⟨rfl,lo.1,lo.2,cs,rfl,by have:=hlo.2.2.1;omega,h64,?_⟩
     walk_at "b"
     refine⟨rfl,hi.1,hi.2,cs,rfl,by have:=hhi.2.2.1;omega,h64,?_⟩
     walk_at "b"
     refine⟨⟨b1.1,b1.2,b2.1,b2.2⟩,aO ⟨λ j Γ' S'=>(∃o5,Γ'=[some (.lst (ahead.map dC)),some (dF lo),some (dF hi),some (.loc S.length),some (dC cs),o5])/\S'=S++[(aM lo hi (ahead.take i)++(bG lo hi cs).take j).map dC],⟨⟨_,rfl⟩,by simp⟩,?_,?_⟩⟩
     . rintro j e Γ' S' he ⟨⟨o5,rfl⟩,rfl⟩
       obtain⟨hj,rfl⟩:=aL he
       have hj':j<(bG lo hi cs).length:=by rw[di];exact hj
       have lf:=yq (lo:=lo) (hi:=hi) e1
       walk_at "b"
       refine⟨by simp;have:=hcs.1;omega,_,bM _ _,by simp;omega,?_⟩
       refine⟨⟨_,rfl⟩,?_⟩
       rw[bu]
       have e3:(bG lo hi cs)[j]? =some (cs++[atC lo cs+(j:Int)]):=by
        unfold bG
        rw[y9,Ea (by rw[di]at hj';exact hj')];rfl
       have e4:dC (cs++[atC lo cs+(j:Int)])=D.tup (cs.map D.int++[D.int (comesTo lo.1 lo.2 cs+(j:Int))]):=by
        unfold dC;rw[List.map_append];rfl
       rw[aD e3,←List.append_assoc,List.map_append (l₂:=[_]),List.map_singleton,e4]
     . rintro Γ' S' ⟨⟨o5,rfl⟩,rfl⟩
       refine⟨⟨_,_,rfl⟩,?_⟩
       have e5:(bG lo hi cs).take (DL.upTo (comesTo lo.1 lo.2 cs) (comesTo hi.1 hi.2 cs-comesTo lo.1 lo.2 cs).toNat).length=bG lo hi cs:=by
        rw[ao];exact List.take_of_length_le (by rw[di];exact x4 _)
       rw[e5,iC e1]
 . rintro Γ' S' ⟨⟨o4,o5,rfl⟩,rfl⟩
   rw[y8,List.take_length]
   exact zx hw (mQ _) hS
noncomputable def Fits(ls:List Lp):Prop:=(∀l∈ls,SmF l.1/\SmF l.2)/\∀i,i≤ls.length->(cnt (ls.take i)).length≤1000000/\∀cs∈cnt (ls.take i),Sm6 cs
noncomputable def qP:Ct:=λ ds S W=>∃ls,ds=[.tup (List.map dL ls)]/\1≤ls.length/\Fits ls/\flat S/\hand W ((cnt ls).map dC) S
theorem lD{ls:List Lp}{l:Lp}(h:ls[i]? =some l):cnt (ls.take (i+1))=aM l.1 l.2 (cnt (ls.take i)):=by
 unfold cnt
 rw[aD h,List.foldl_append];rfl
theorem uF(F:Fun Ω.K "counts_of" "counts_of" gf f fd)(Cq52:Cal Ω "with_next_count" 2 3 zW):Ok Ω 3 f fd wK qP:=by
 refine az (N:=v6) F (Bl.frz (wM Cq52)) (by kernel_rfl!) ?_
 rintro ds S W ⟨ls,rfl,hn,hf,hS,hw⟩ hl
 walk_at "b"
 have turn:∀(i:Nat)(e:D),(ls.map dL)[i]? =some e->∃l,ls[i]? =some l/\e=dL l:=λ i e he=>by
  rw[y9]at he
  cases e1:ls[i]? with
  | none=>rw[e1]at he;cases he
  | some l=>rw[e1]at he;cases he;exact⟨l,rfl,rfl⟩
 have step:∀(i:Nat)(l:Lp)(W:WD),ls[i]? =some l->hand W ((cnt (ls.take (i+1))).map dC) S->zW [.lst ((cnt (ls.take i)).map dC),dF l.1,dF l.2] S W:=λ i l W h w=>by
  have hi:=(y3.mp h).1
  obtain⟨a,b⟩:=hf.1 l (y6 h)
  obtain⟨c,d⟩:=hf.2 i (by omega)
  obtain⟨c',d'⟩:=hf.2 (i+1) (by omega)
  rw[lD h]at c' w
  exact⟨_,_,_,rfl,a,b,d,c,c',hS,w⟩
 rcases hw with hw | hw
 . refine aO ⟨λ i Γ' S'=>(∃o2 o3,Γ'=[some (.tup (ls.map dL)),some (.lst ((cnt (ls.take i)).map dC)),o2,o3])/\S'=S,⟨⟨_,_,rfl⟩,rfl⟩,?_,?_⟩
   . rintro i e Γ' S' he ⟨⟨o2,o3,rfl⟩,rfl⟩
     obtain⟨l,hl',rfl⟩:=turn i e he
     walk_at "b"
     refine⟨rfl,?_⟩
     walk_at "n"
     exact⟨rfl,step i l _ hl' (.inl ⟨⟨_,_,rfl⟩,rfl⟩)⟩
   . rintro Γ' S' ⟨⟨o2,o3,rfl⟩,rfl⟩
     rw[y8,List.take_length]
     exact .inl hw
 . refine aO ⟨λ i Γ' S'=>(i<ls.length/\(∃o2 o3,Γ'=[some (.tup (ls.map dL)),some (.lst ((cnt (ls.take i)).map dC)),o2,o3])/\S'=S)∨(i=ls.length/\(∃o2 o3,Γ'=[some (.tup (ls.map dL)),some (.loc S.length),o2,o3])/\S'=S++[(cnt ls).map dC]),.inl ⟨by omega,⟨_,_,rfl⟩,rfl⟩,?_,?_⟩
   . rintro i e Γ' S' he q
     obtain⟨l,hl',rfl⟩:=turn i e he
     have hi:=(y3.mp hl').1
     rcases q with⟨_,⟨o2,o3,rfl⟩,rfl⟩ | ⟨q,_⟩
     . walk_at "b"
       refine⟨rfl,?_⟩
       walk_at "n"
       by_cases hlast:i+1=ls.length
       . refine⟨rfl,step i l _ hl' (.inr (.inr ⟨hlast,⟨_,_,rfl⟩,?_⟩))⟩
         rw[hlast,List.take_length]
       . exact⟨rfl,step i l _ hl' (.inl (.inl ⟨by omega,⟨_,_,rfl⟩,rfl⟩))⟩
     . omega
   . rintro Γ' S' q
     rw[y8]at q
     rcases q with⟨q,_⟩ | ⟨_,⟨o2,o3,rfl⟩,rfl⟩
     . omega
     . exact .inl hw
noncomputable def BdF(f:Fm)(k:Nat):Prop:=f.2.length=k/\ -9≤f.1/\f.1≤9/\∀n∈f.2,-2≤n/\n≤2
theorem Gf{g m:Int}(hg: -2≤g/\g≤2)(ha: -m≤a/\a≤m): -(2*m)≤g*a/\g*a≤2*m:=by
 have:g= -2∨g= -1∨g=0∨g=1∨g=2:=by omega
 rcases this with rfl | rfl | rfl | rfl | rfl<;>omega
noncomputable def bnd:Nat->Int
 | 0=>0
 | 1=>9
 | 2=>27
 | _=>117
noncomputable def Cs(i:Nat)(cs:List Int):Prop:=cs.length=i/\∀c∈cs,-(bnd i)≤c/\c≤bnd i
theorem sH{f:Fm}(hi:i≤2)(hf:BdF f i)(hc:Cs i cs): -(bnd (i+1))≤atC f cs/\atC f cs≤bnd (i+1):=by
 obtain⟨a,fs⟩:=f
 obtain⟨h1,h2,h3,h4⟩:=hf
 obtain⟨c1,c2⟩:=hc
 dsimp only at h1 h2 h3 h4
 unfold atC comesTo
 have:i=0∨i=1∨i=2:=by omega
 rcases this with rfl | rfl | rfl
 . match fs,cs,h1,c1 with
   | [],[],_,_=>simp[bnd];omega
 . match fs,cs,h1,c1 with
   | [g],[x],_,_=>
     have:=Gf (h4 g (by simp)) (c2 x (by simp))
     simp[bnd]at this ⊢;omega
 . match fs,cs,h1,c1 with
   | [g,g'],[x,x'],_,_=>
     have t1:=Gf (h4 g (by simp)) (c2 x (by simp))
     have t2:=Gf (h4 g' (by simp)) (c2 x' (by simp))
     simp[bnd]at t1 t2 ⊢;omega
theorem Sw:bnd i≤bnd (i+1):=by
 match i with
 | 0=>decide
 | 1=>decide
 | 2=>decide
 | i+3=>exact Int.le_refl _
theorem RW(i:Nat):bnd i≤117:=by
 match i with
 | 0=>decide
 | 1=>decide
 | 2=>decide
 | i+3=>exact Int.le_refl _
theorem PL{lo hi:Fm}{ds:List Int}(hi2:i≤2)(hlo:BdF lo i)(hhi:BdF hi i)(hc:Cs i cs)(h:ds∈bG lo hi cs):Cs (i+1) ds:=by
 unfold bG at h
 obtain⟨c,hc',rfl⟩:=ZO.mp h
 unfold upI at hc'
 obtain⟨k,hk,rfl⟩:=ZO.mp hc'
 have hk:=List.mem_range.mp hk
 have b1:=sH hi2 hlo hc
 have b2:=sH hi2 hhi hc
 refine⟨by simp[hc.1],λ c h=>?_⟩
 rcases ZK.mp h with h | h
 . have:=hc.2 c h
   have:=Sw (i:=i)
   omega
 . have:c=atC lo cs+(k:Int):=by simpa using h
   omega
noncomputable def Lps(ls:List Lp):Prop:=1≤ls.length/\ls.length≤3/\∀(i:Nat)(l:Lp),ls[i]? =some l->BdF l.1 i/\BdF l.2 i
theorem xu{ls:List Lp}(h:Lps ls):∀i,i≤ls.length->∀cs∈cnt (ls.take i),Cs i cs
 | 0,_,cs,hc=>by
   have:cs=[]:=by simpa[cnt]using hc
   subst this
   exact⟨rfl,λ c hc=>by simp at hc⟩
 | i+1,hi,cs,hc=>by
   have hl:=y4 (l:=ls) (i:=i) (by omega)
   rw[lD hl]at hc
   obtain⟨ds,hd,hc⟩:=List.mem_flatMap.mp hc
   have:=h.2.2 i _ hl
   have h3:=h.2.1
   exact PL (by omega) this.1 this.2 (xu h i (by omega) ds hd) hc
noncomputable def Hi:Nat->Nat
 | 0=>1
 | 1=>18
 | 2=>972
 | _=>227448
theorem Be{lo hi:Fm}{m:Nat}:∀{ahead:List (List Int)},(∀cs∈ahead,(bG lo hi cs).length≤m)->(aM lo hi ahead).length≤ahead.length*m
 | [],_=>by simp[aM]
 | a::as,h=>by
   have ih:=Be (ahead:=as) λ cs hc=>h cs (x5 _ hc)
   have:=h a x8
   unfold aM at ih ⊢
   rw[List.flatMap_cons,x9,List.length_cons,Nat.succ_mul]
   omega
theorem Du{ls:List Lp}(h:Lps ls):∀i,i≤ls.length->(cnt (ls.take i)).length≤Hi i
 | 0,_=>by simp[cnt,Hi]
 | i+1,hi=>by
   have hl:=y4 (l:=ls) (i:=i) (by omega)
   have ih:=Du h i (by omega)
   have h3:=h.2.1
   have hb:=h.2.2 i _ hl
   rw[lD hl]
   have hm:∀cs∈cnt (ls.take i),(bG ls[i].1 ls[i].2 cs).length≤(2*bnd (i+1)).toNat:=λ cs hc=>by
    have c:=xu h i (by omega) cs hc
    have b1:=sH (by omega) hb.1 c
    have b2:=sH (by omega) hb.2 c
    rw[di];omega
   have:=Be hm
   have:i=0∨i=1∨i=2:=by omega
   rcases this with rfl | rfl | rfl<;>simp[bnd,Hi]at* <;>omega
theorem Lps.fits{ls:List Lp}(h:Lps ls):Fits ls:=by
 refine⟨λ l hl=>?_,λ i hi=>⟨?_,λ cs hc=>?_⟩⟩
 . obtain⟨i,hi⟩:=ZR hl
   have hl':=(y3.mp hi).1
   have h3:=h.2.1
   obtain⟨⟨a1,a2,a3,a4⟩,b1,b2,b3,b4⟩:=h.2.2 i l hi
   exact⟨⟨by omega,by omega,by omega,λ n hn=>by have:=a4 n hn;omega⟩,by omega,by omega,by omega,λ n hn=>by have:=b4 n hn;omega⟩
 . have:=Du h i hi
   have h3:=h.2.1
   have:i=0∨i=1∨i=2∨i=3:=by omega
   rcases this with rfl | rfl | rfl | rfl<;>simp only[Hi]at* <;>omega
 . have c:=xu h i hi cs hc
   have h3:=h.2.1
   exact⟨by have:=c.1;omega,λ n hn=>by have:=c.2 n hn;have:=RW i;omega⟩
noncomputable def rngD(a b:Int):D->Bool
 | .int n=>decide (a≤n)&&decide (n≤b)
 | _=>false
noncomputable def qg(n:Int):Bool:=decide ((if n<0 then-n else n)<10 ^ Int.toNat 30)
noncomputable def uC:D->Bool
 | .int n=>qg n
 | _=>false
noncomputable def parts:D->List D
 | .tup ds=>ds
 | _=>[]
noncomputable def iH(x:D):Bool:=bC x 1 3&&(parts x).all (rngD 1 2)
noncomputable def isPlace(d:Int)(x:D):Bool:=cJ x d&&(parts x).all (rngD (-99) 99)
noncomputable def isStart(x:D)(d:Int):Bool:=cJ x d&&(parts x).all uC
noncomputable def jt(t p:D)(ws:List Int)(d:Int):Bool:=match t with
 | .int n=>(decide (0≤n)&&decide (n<(ws.length:Int)))&&(bC p (ws.getD n.toNat 0) (ws.getD n.toNat 0)&&(parts p).all (isPlace d))
 | _=>false
noncomputable def jA(ws:List Int)(d:Int)(x:D):Bool:=match x with
 | .tup [f,t,p]=>uC f&&jt t p ws d
 | _=>false
noncomputable def oZ(x:D)(ws:List Int)(d:Int):Bool:=bC x 0 3&&(parts x).all (jA ws d)
noncomputable def d9(ws:List Int)(d:Int)(x:D):Bool:=match x with
 | .tup [t,p,s,r]=>jt t p ws d&&(isStart s d&&oZ r ws d)
 | _=>false
noncomputable def gM(ws:List Int)(x:D):Bool:=match x with
 | .tup [l,ds]=>fB l&&(bC ds 1 4&&(parts ds).all (d9 ws ((parts l).length:Int)))
 | _=>false
noncomputable def oF(x:D)(ws:List Int):Bool:=bC x 1 3&&(parts x).all (gM ws)
noncomputable def Ff:Ct:=λ ds S W=>∃n,ds=[.int n]/\W (.bl (qg n)) S
noncomputable def xN:Ct:=λ ds S W=>∃x,ds=[x]/\W (.bl (iH x)) S
noncomputable def yt:Ct:=λ ds S W=>∃x d,ds=[x,.int d]/\0≤d/\d≤1000/\W (.bl (isPlace d x)) S
noncomputable def DW:Ct:=λ ds S W=>∃x d,ds=[x,.int d]/\0≤d/\d≤1000/\W (.bl (isStart x d)) S
noncomputable def Ws(ws:List Int):Prop:=ws.length≤3/\∀w∈ws,1≤w/\w≤2
noncomputable def M3:Ct:=λ ds S W=>∃t p ws d,ds=[t,p,.tup (List.map .int ws),.int d]/\Ws ws/\0≤d/\d≤1000/\W (.bl (jt t p ws d)) S
noncomputable def Ks:Ct:=λ ds S W=>∃x ws d,ds=[x,.tup (List.map .int ws),.int d]/\Ws ws/\0≤d/\d≤1000/\W (.bl (jA ws d x)) S
noncomputable def DN:Ct:=λ ds S W=>∃x ws d,ds=[x,.tup (List.map .int ws),.int d]/\Ws ws/\0≤d/\d≤1000/\W (.bl (oZ x ws d)) S
noncomputable def KJ:Ct:=λ ds S W=>∃x ws d,ds=[x,.tup (List.map .int ws),.int d]/\Ws ws/\0≤d/\d≤1000/\W (.bl (d9 ws d x)) S
noncomputable def JW:Ct:=λ ds S W=>∃x ws,ds=[x,.tup (List.map .int ws)]/\Ws ws/\W (.bl (gM ws x)) S
noncomputable def Fb:Ct:=λ ds S W=>∃x ws,ds=[x,.tup (List.map .int ws)]/\Ws ws/\W (.bl (oF x ws)) S
theorem dm{ds:List D}{p:D->Bool}{W:WD}(w:W (.bl (ds.all p)) S):fH.wp [.lst (ds.map λ d=>.bl (p d))] S W:=
 ⟨ds.map p,by rw[List.map_map];rfl,by rw[Ba];exact w⟩
theorem vm{ds:List D}{b:Int}(h:bC (.tup ds) a b=true):a≤(ds.length:Int)/\(ds.length:Int)≤b:=by
 obtain⟨h1,h2⟩:=aa h
 exact⟨ZF h1,ZF h2⟩
theorem cz{x:D}{b:Int}(h:bC x a b=true):∃ds,x=.tup ds/\a≤(ds.length:Int)/\(ds.length:Int)≤b:=by
 cases x with
 | tup ds=>exact⟨ds,rfl,vm h⟩
 | _=>exact ff h
theorem oG{b n:Int}{Q:WD}(hq:Q (.bl (rngD a b (.int n))) S):(decide (a≤n)=false->Q (.bl false) S)/\(decide (a≤n)=true->Q (.bl (decide (n≤b))) S):=by
 have e:rngD a b (.int n)=(decide (a≤n)&&decide (n≤b)):=rfl
 rw[e]at hq
 exact⟨λ h=>by rw[h]at hq;exact hq,λ h=>by rw[h]at hq;exact hq⟩
theorem lq(F:Fun Ω.K "has_few_figures" "has_few_figures" cO f fd)(B:Bi Ω.mg):Ok Ω 1 f fd lQ Ff:=by
 refine az (N:=my) F (lO B) (by kernel_rfl!) ?_
 rintro ds S W ⟨n,rfl,hw⟩ hl
 walk_at "b"
 exact hw
theorem uz(F:Fun Ω.K "is_widths" "is_widths" fZ f fd)(B:Bi Ω.mg)(Cq39:Cal Ω "is_whole" 1 1 gC)(Cq38:Cal Ω "is_tuple_of" 1 3 eG):Ok Ω 2 f fd wu xN:=by
 refine az (N:=wJ) F (wA B Cq39 Cq38) (by kernel_rfl!) ?_
 rintro ds S W ⟨x,rfl,hw⟩ hl
 walk_at "b"
 refine⟨rfl,_,_,_,rfl,?_⟩
 walk_at "b"
 unfold iH at hw
 refine⟨λ h=>?_,λ h=>by rw[h]at hw;exact hw⟩
 rw[h]at hw
 obtain⟨ds,rfl,l1,l2⟩:=cz h
 walk_at "b"
 refine eQ (λ d=>.bl (rngD 1 2 d)) (by omega) ?_ (dm hw)
 intro i e he Q hq
 walk_at "b"
 refine⟨rfl,_,rfl,?_⟩
 cases e with
 | int n=>
   walk_at "b"
   refine⟨(oG hq).1,λ h=>?_⟩
   walk_at "b"
   exact(oG hq).2 h
 | _=>walk_at "b";exact hq
theorem mR(F:Fun Ω.K "is_place_form" "is_place_form" dG f fd)(B:Bi Ω.mg)(Cq26:Cal Ω "is_form" 2 2 sV):Ok Ω 3 f fd pJ yt:=by
 refine az (N:=pI) F (pM B Cq26) (by kernel_rfl!) ?_
 rintro ds S W ⟨x,d,rfl,hd0,hd,hw⟩ hl
 walk_at "b"
 refine⟨rfl,_,_,rfl,hd,?_⟩
 walk_at "b"
 unfold isPlace at hw
 refine⟨λ h=>?_,λ h=>by rw[h]at hw;exact hw⟩
 rw[h]at hw
 obtain⟨a,fs,rfl,hf⟩:=jn h hd0
 walk_at "b"
 refine eQ (λ d=>.bl (rngD (-99) 99 d)) (by simp;omega) ?_ (dm hw)
 intro i e he Q hq
 have:∃n,e=.int n:=by
  have:=y6 he
  rcases ZJ.mp this with rfl | h
  . exact⟨_,rfl⟩
  . obtain⟨n,_,rfl⟩:=ZO.mp h
    exact⟨n,rfl⟩
 obtain⟨n,rfl⟩:=this
 walk_at "b"
 refine⟨(oG hq).1,λ h=>?_⟩
 walk_at "b"
 exact(oG hq).2 h
theorem vY(F:Fun Ω.K "is_start" "is_start" gJ f fd)(B:Bi Ω.mg)(Cq26:Cal Ω "is_form" 2 2 sV)(Cq23:Cal Ω "has_few_figures" 1 1 Ff):Ok Ω 3 f fd yx DW:=by
 refine az (N:=yI) F (yw B Cq26 Cq23) (by kernel_rfl!) ?_
 rintro ds S W ⟨x,d,rfl,hd0,hd,hw⟩ hl
 walk_at "b"
 refine⟨rfl,_,_,rfl,hd,?_⟩
 walk_at "b"
 unfold isStart at hw
 refine⟨λ h=>?_,λ h=>by rw[h]at hw;exact hw⟩
 rw[h]at hw
 obtain⟨a,fs,rfl,hf⟩:=jn h hd0
 walk_at "b"
 refine eQ (λ d=>.bl (uC d)) (by simp;omega) ?_ (dm hw)
 intro i e he Q hq
 have:∃n,e=.int n:=by
  have:=y6 he
  rcases ZJ.mp this with rfl | h
  . exact⟨_,rfl⟩
  . obtain⟨n,_,rfl⟩:=ZO.mp h
    exact⟨n,rfl⟩
 obtain⟨n,rfl⟩:=this
 walk_at "b"
 exact⟨rfl,_,rfl,hq⟩
theorem gF(F:Fun Ω.K "is_table_with_place" "is_table_with_place" bO f fd)(B:Bi Ω.mg)(Cq39:Cal Ω "is_whole" 1 1 gC)(Cq38:Cal Ω "is_tuple_of" 1 3 eG)(Cq32:Cal Ω "is_place_form" 3 2 yt):Ok Ω 4 f fd iK M3:=by
 refine az (N:=iQ) F (iJ B Cq39 Cq38 Cq32) (by kernel_rfl!) ?_
 rintro ds S W ⟨t,p,ws,d,rfl,hws,hd0,hd,hw⟩ hl
 walk_at "b"
 refine⟨rfl,_,rfl,?_⟩
 cases t with
 | int n=>
   have e:jt (.int n) p ws d=((decide (0≤n)&&decide (n<(ws.length:Int)))&&(bC p (ws.getD n.toNat 0) (ws.getD n.toNat 0)&&(parts p).all (isPlace d))):=rfl
   rw[e]at hw
   have hl3:((ws.map D.int).length:Int)=(ws.length:Int):=by rw[y8]
   walk_at "b"
   refine⟨λ h=>?_,λ h=>?_⟩
   . rw[h]at hw
     walk_at "b"
     exact hw
   rw[h,Bool.true_and]at hw
   walk_at "b"
   rw[hl3]
   refine⟨λ h2=>?_,λ h2=>?_⟩
   . have h2:decide (n<(ws.length:Int))=false:=nt h2
     rw[h2]at hw
     walk_at "b"
     exact hw
   have h2:decide (n<(ws.length:Int))=true:=by
    cases q:decide (n<(ws.length:Int))with
    | true=>rfl
    | false=>rw[q]at h2;exact tf h2
   rw[h2,Bool.true_and]at hw
   have h0:=ZF h
   have h1:=ZF h2
   have hk:n.toNat<ws.length:=by omega
   have ew:ws.getD n.toNat 0=ws[n.toNat]:=by simp[List.getD,hk]
   have at1:atI (ws.map D.int) n=some (.int (ws.getD n.toNat 0)):=by
    have:=aA (xs:=ws.map D.int) (j:=n.toNat) (v:=.int ws[n.toNat]) (by rw[y9,y4 hk];rfl)
    rw[Int.toNat_of_nonneg h0]at this
    rw[ew];exact this
   have hw12:=hws.2 _ (List.getElem_mem hk)
   rw[←ew]at hw12
   generalize ws.getD n.toNat 0=w at at1 hw hw12
   walk_at "b"
   refine⟨_,at1,?_⟩
   walk_at "b"
   refine⟨_,at1,?_⟩
   walk_at "b"
   refine⟨rfl,_,_,_,rfl,?_⟩
   walk_at "b"
   refine⟨λ h3=>?_,λ h3=>by rw[h3]at hw;exact hw⟩
   rw[h3]at hw
   obtain⟨ds,rfl,l1,l2⟩:=cz h3
   walk_at "b"
   refine eQ (λ x=>.bl (isPlace d x)) (by omega) ?_ (dm hw)
   intro i e he Q hq
   walk_at "b"
   exact⟨rfl,_,_,rfl,hd0,hd,hq⟩
 | _=>walk_at "b";exact hw
theorem xR(F:Fun Ω.K "is_read" "is_read" jj f fd)(Cq39:Cal Ω "is_whole" 1 1 gC)(Cq38:Cal Ω "is_tuple_of" 1 3 eG)(Cq23:Cal Ω "has_few_figures" 1 1 Ff)(Cq37:Cal Ω "is_table_with_place" 4 4 M3):Ok Ω 5 f fd Bs Ks:=by
 refine az (N:=BL) F (CT Cq39 Cq38 Cq23 Cq37) (by kernel_rfl!) ?_
 rintro ds S W ⟨x,ws,d,rfl,hws,hd0,hd,hw⟩ hl
 walk_at "b"
 refine⟨rfl,_,_,_,rfl,?_⟩
 cases h:bC x 3 3 with
 | false=>
   have e:jA ws d x=false:=by
    cases x with
    | tup ds=>
      match ds,h with
      | [a,b,c],h=>exact tf h
      | [],_=>rfl
      | [_],_=>rfl
      | [_,_],_=>rfl
      | _::_::_::_::_,_=>rfl
    | _=>rfl
   rw[e]at hw
   walk_at "b"
   exact hw
 | true=>
   obtain⟨ds,rfl,l1,l2⟩:=cz h
   match ds,l1,l2,hw with
   | [f, t,p],_,_,hw=>
     walk_at "b"
     refine⟨rfl,_,rfl,?_⟩
     have e:jA ws d (.tup [f,t,p])=(uC f&&jt t p ws d):=rfl
     rw[e]at hw
     cases f with
     | int n=>
       walk_at "b"
       refine⟨rfl,_,rfl,?_⟩
       have e:uC (.int n)=qg n:=rfl
       rw[e]at hw
       cases h2:qg n with
       | true=>
         rw[h2]at hw
         walk_at "b"
         exact⟨rfl,_,_,_,_,rfl,hws,hd0,hd,hw⟩
       | false=>
         rw[h2]at hw
         walk_at "b"
         exact hw
     | _=>walk_at "b";exact hw
   | [],l1,_,_=>simp at l1
   | [_],l1,_,_=>simp at l1
   | [_,_],l1,_,_=>simp at l1
   | _::_::_::_::es,_,l2,_=>simp at l2;omega
theorem ww(F:Fun Ω.K "is_reads" "is_reads" gY f fd)(B:Bi Ω.mg)(Cq38:Cal Ω "is_tuple_of" 1 3 eG)(Cq33:Cal Ω "is_read" 5 3 Ks):Ok Ω 6 f fd Ak DN:=by
 refine az (N:=xM) F (xq B Cq38 Cq33) (by kernel_rfl!) ?_
 rintro ds S W ⟨x,ws,d,rfl,hws,hd0,hd,hw⟩ hl
 walk_at "b"
 refine⟨rfl,_,_,_,rfl,?_⟩
 walk_at "b"
 unfold oZ at hw
 refine⟨λ h=>?_,λ h=>by rw[h]at hw;exact hw⟩
 rw[h]at hw
 obtain⟨ds,rfl,l1,l2⟩:=cz h
 walk_at "b"
 refine eQ (λ x=>.bl (jA ws d x)) (by omega) ?_ (dm hw)
 intro i e he Q hq
 walk_at "b"
 exact⟨rfl,_,_,_,rfl,hws,hd0,hd,hq⟩
theorem yc(F:Fun Ω.K "is_deed" "is_deed" jo f fd)(Cq38:Cal Ω "is_tuple_of" 1 3 eG)(Cq36:Cal Ω "is_start" 3 2 DW)(Cq37:Cal Ω "is_table_with_place" 4 4 M3)(Cq34:Cal Ω "is_reads" 6 3 DN):Ok Ω 7 f fd Ci KJ:=by
 refine az (N:=CW) F (BW Cq38 Cq36 Cq37 Cq34) (by kernel_rfl!) ?_
 rintro ds S W ⟨x,ws,d,rfl,hws,hd0,hd,hw⟩ hl
 walk_at "b"
 refine⟨rfl,_,_,_,rfl,?_⟩
 cases h:bC x 4 4 with
 | false=>
   have e:d9 ws d x=false:=by
    cases x with
    | tup ds=>
      match ds,h with
      | [a,b,c,d],h=>exact tf h
      | [],_=>rfl
      | [_],_=>rfl
      | [_,_],_=>rfl
      | [_,_,_],_=>rfl
      | _::_::_::_::_::_,_=>rfl
    | _=>rfl
   rw[e]at hw
   walk_at "b"
   exact hw
 | true=>
   obtain⟨ds,rfl,l1,l2⟩:=cz h
   match ds,l1,l2,hw with
   | [t, p,s,r],_,_,hw=>
     have e:d9 ws d (.tup [t,p,s,r])=(jt t p ws d&&(isStart s d&&oZ r ws d)):=rfl
     rw[e]at hw
     walk_at "b"
     refine⟨rfl,_,_,_,_,rfl,hws,hd0,hd,?_⟩
     cases h2:jt t p ws d with
     | false=>
       rw[h2]at hw
       walk_at "b"
       exact hw
     | true=>
       rw[h2,Bool.true_and]at hw
       walk_at "b"
       refine⟨rfl,_,_,rfl,hd0,hd,?_⟩
       cases h3:isStart s d with
       | false=>
         rw[h3]at hw
         walk_at "b"
         exact hw
       | true=>
         rw[h3,Bool.true_and]at hw
         walk_at "b"
         exact⟨rfl,_,_,_,rfl,hws,hd0,hd,hw⟩
   | [],l1,_,_=>simp at l1
   | [_],l1,_,_=>simp at l1
   | [_,_],l1,_,_=>simp at l1
   | [_,_,_],l1,_,_=>simp at l1
   | _::_::_::_::_::es,_,l2,_=>simp at l2;omega
theorem Al(F:Fun Ω.K "is_nest" "is_nest" jr f fd)(B:Bi Ω.mg)(Cq38:Cal Ω "is_tuple_of" 1 3 eG)(Cq28:Cal Ω "is_loops" 5 1 Ej)(Cq25:Cal Ω "is_deed" 7 3 KJ):Ok Ω 8 f fd By JW:=by
 refine az (N:=Bj) F (Cw B Cq38 Cq28 Cq25) (by kernel_rfl!) ?_
 rintro ds S W ⟨x,ws,rfl,hws,hw⟩ hl
 walk_at "b"
 refine⟨rfl,_,_,_,rfl,?_⟩
 cases h:bC x 2 2 with
 | false=>
   have e:gM ws x=false:=by
    cases x with
    | tup ds=>
      match ds,h with
      | [a,b],h=>exact tf h
      | [],_=>rfl
      | [_],_=>rfl
      | _::_::_::_,_=>rfl
    | _=>rfl
   rw[e]at hw
   walk_at "b"
   exact hw
 | true=>
   obtain⟨ds,rfl,l1,l2⟩:=cz h
   match ds,l1,l2,hw with
   | [l, dd],_,_,hw=>
     have e:gM ws (.tup [l,dd])=(fB l&&(bC dd 1 4&&(parts dd).all (d9 ws ((parts l).length:Int)))):=rfl
     rw[e]at hw
     walk_at "b"
     refine⟨rfl,_,rfl,?_⟩
     cases h2:fB l with
     | false=>
       rw[h2]at hw
       walk_at "b"
       exact hw
     | true=>
       rw[h2,Bool.true_and]at hw
       cases l with
       | tup ls=>
         have hlen:(ls.length:Int)≤3:=ZF (aa (aa h2).1).2
         have hw:W (.bl (bC dd 1 4&&(parts dd).all (d9 ws (ls.length:Int)))) S:=hw
         walk_at "b"
         refine⟨rfl,_,_,_,rfl,?_⟩
         walk_at "b"
         refine⟨λ h3=>?_,λ h3=>by rw[h3]at hw;exact hw⟩
         rw[h3]at hw
         obtain⟨es,rfl,l1,l2⟩:=cz h3
         walk_at "b"
         refine eQ (λ x=>.bl (d9 ws (ls.length:Int) x)) (by omega) ?_ (dm hw)
         intro i e he Q hq
         walk_at "b"
         exact⟨rfl,_,_,_,rfl,hws,by omega,by omega,hq⟩
       | _=>exact ff h2
   | [],l1,_,_=>simp at l1
   | [_],l1,_,_=>simp at l1
   | _::_::_::es,_,l2,_=>simp at l2;omega
theorem vV(F:Fun Ω.K "is_nests" "is_nests" il f fd)(B:Bi Ω.mg)(Cq38:Cal Ω "is_tuple_of" 1 3 eG)(Cq29:Cal Ω "is_nest" 8 2 JW):Ok Ω 9 f fd Aa Fb:=by
 refine az (N:=xY) F (Bb B Cq38 Cq29) (by kernel_rfl!) ?_
 rintro ds S W ⟨x,ws,rfl,hws,hw⟩ hl
 walk_at "b"
 refine⟨rfl,_,_,_,rfl,?_⟩
 walk_at "b"
 unfold oF at hw
 refine⟨λ h=>?_,λ h=>by rw[h]at hw;exact hw⟩
 rw[h]at hw
 obtain⟨ds,rfl,l1,l2⟩:=cz h
 walk_at "b"
 refine eQ (λ x=>.bl (gM ws x)) (by omega) ?_ (dm hw)
 intro i e he Q hq
 walk_at "b"
 exact⟨rfl,_,_,rfl,hws,hq⟩
structure Rd where
 fac:Int
 tab:Nat
 pl:List Fm
structure Dd where
 tab:Nat
 pl:List Fm
 st:Fm
 rds:List Rd
structure Ns where
 lps:List Lp
 dds:List Dd
structure Pg where
 ws:List Int
 nss:List Ns
noncomputable def dP(pl:List Fm):D:=.tup (pl.map dF)
noncomputable def dRd(r:Rd):D:=.tup [.int r.fac,.int r.tab,dP r.pl]
noncomputable def dDd(x:Dd):D:=.tup [.int x.tab,dP x.pl,dF x.st,.tup (x.rds.map dRd)]
noncomputable def dNs(n:Ns):D:=.tup [.tup (n.lps.map dL),.tup (n.dds.map dDd)]
noncomputable def dWs(ws:List Int):D:=.tup (ws.map .int)
noncomputable def dPg(p:Pg):D:=.tup [dWs p.ws,.tup (p.nss.map dNs)]
noncomputable def many(nss:List Ns):Int:=(nss.map λ n=>((cnt n.lps).length:Int)*(n.dds.length:Int)).sum
noncomputable def m8(n:Ns):Prop:=1≤n.lps.length/\Fits n.lps/\n.dds.length≤1000
noncomputable def jJ:Ct:=λ ds S W=>∃nss,ds=[.tup (List.map dNs nss)]/\nss.length≤1000/\(∀n∈nss,m8 n)/\flat S/\W (.int (many nss)) S
noncomputable def xZ:Ct:=λ ds S W=>∃p:Pg,ds=[dWs p.ws,.tup (List.map dNs p.nss)]/\iH (dWs p.ws)=true/\oF (.tup (p.nss.map dNs)) p.ws=true/\p.nss.length≤1000/\(∀n∈p.nss,m8 n)/\many p.nss≤60/\flat S/\W (dPg p) S
theorem J3(h:iH (dWs ws)=true):Ws ws:=by
 obtain⟨h1,h2⟩:=aa h
 have:=vm h1
 refine⟨by simp at this;omega,λ w hw=>?_⟩
 have h3:=List.all_eq_true.mp h2 (.int w) (ZO.mpr ⟨w,hw,rfl⟩)
 obtain⟨a,b⟩:=aa h3
 exact⟨ZF a,ZF b⟩
theorem lC(F:Fun Ω.K "number_of_steps" "number_of_steps" cQ f fd)(B:Bi Ω.mg)(Cq21:Cal Ω "counts_of" 3 1 qP):Ok Ω 4 f fd mz jJ:=by
 refine az (N:=lZ) F (mD B Cq21) (by kernel_rfl!) ?_
 rintro ds S W ⟨nss,rfl,hz,hok,hS,hw⟩ hl
 walk_at "b"
 refine rA (λ n=>.int (((cnt n.lps).length:Int)*(n.dds.length:Int))) (by omega) ?_ ?_
 . intro i n hn Q hq
   obtain⟨h1,h2,h3⟩:=hok n (y6 hn)
   have h4:=(h2.2 n.lps.length (x4 _)).1
   rw[List.take_length]at h4
   walk_at "b"
   refine⟨rfl,?_⟩
   walk_at "b"
   refine⟨rfl,_,rfl,h1,h2,hS,.inl ?_⟩
   have e1:(((cnt n.lps).map dC).length:Int)=((cnt n.lps).length:Int):=by rw[y8]
   have e2:((n.dds.map dDd).length:Int)=(n.dds.length:Int):=by rw[y8]
   walk_at "n"
   rw[e1,e2]
   exact⟨.inl ⟨by omega,by omega⟩,hq⟩
 . exact⟨nss.map λ(n:Ns)=>((cnt n.lps).length:Int)*(n.dds.length:Int),by rw[List.map_map];rfl,hw⟩
theorem sI(F:Fun Ω.K "program_of" "program_of" fJ f fd)(B:Bi Ω.mg)(Cq40:Cal Ω "is_widths" 2 1 xN)(Cq30:Cal Ω "is_nests" 9 2 Fb)(Cq41:Cal Ω "number_of_steps" 4 1 jJ):Ok Ω 10 f fd uv xZ:=by
 refine az (N:=uL) F (ut B Cq40 Cq30 Cq41) (by kernel_rfl!) ?_
 rintro ds S W ⟨p,rfl,h1,h2,hz,hok,h60,hS,hw⟩ hl
 have hws:=J3 h1
 walk_at "b"
 refine⟨rfl,_,rfl,?_⟩
 rw[h1]
 walk_at "b"
 refine⟨rfl,_,_,rfl,hws,?_⟩
 rw[h2]
 walk_at "b"
 refine⟨rfl,_,rfl,hz,hok,hS,?_⟩
 walk_at "b"
 rw[ZH (by omega)]
 walk_at "b"
 exact hw
noncomputable abbrev Stp:=Nat×List Int×Nat
noncomputable def dSt(s:Stp):D:=.tup [.int s.1,dC s.2.1,.int s.2.2]
noncomputable def cW(i:Nat)(n:Ns):List Stp:=(cnt n.lps).flatMap λ cs=>(List.range n.dds.length).map λ s=>(i,cs,s)
noncomputable def aV(nss:List Ns):List Stp:=(nss.mapIdx cW).flatten
noncomputable def DK:Ct:=λ ds S W=>∃p:Pg,ds=[dPg p]/\p.nss.length≤1000/\(∀n∈p.nss,m8 n)/\(aV p.nss).length≤1000000/\flat S/\hand W ((aV p.nss).map dSt) S
theorem jk{nss:List Ns}{n:Ns}(h:nss[i]? =some n):aV (nss.take (i+1))=aV (nss.take i)++cW i n:=by
 unfold aV
 rw[aD h,List.mapIdx_append,List.flatten_append]
 have hi:=(y3.mp h).1
 simp only[List.mapIdx_cons,List.mapIdx_nil,List.flatten_cons,List.flatten_nil,List.append_nil,List.length_take]
 rw[Nat.min_eq_left (by omega),Nat.zero_add]
theorem rD(xs:List Stp):ak (xs.map dSt)=true:=by
 induction xs with
 | nil=>rfl
 | cons x xs ih=>
   simp only[List.map_cons,ak,ih,Bool.and_true]
   have:=mQ [x.2.1]
   simp only[List.map_cons,List.map_nil,ak,Bool.and_true]at this
   show ak [D.int _,dC x.2.1,D.int _]=true
   simp only[ak,this,Bool.and_true];rfl
theorem Jv{l:List D}(h:flat S)(hl:ak l=true):flat (S++[l]):=λ x hx=>by
 rcases ZK.mp hx with q | q
 . exact h x q
 . rw[ZL.mp q];exact hl
theorem Ky{nss:List Ns}{n:Ns}(h:nss[i]? =some n):(aV (nss.take i)).length+(cW i n).length≤(aV nss).length:=by
 have e:∃more,aV nss=aV (nss.take (i+1))++more:=by
  unfold aV
  conv=>enter [1,more,1,1];rw[←List.take_append_drop (i+1) nss]
  rw[List.mapIdx_append,List.flatten_append]
  exact⟨_,rfl⟩
 obtain⟨more,e⟩:=e
 rw[e,jk h,x9,x9];omega
theorem wG(F:Fun Ω.K "steps_of" "steps_of" gW f fd)(B:Bi Ω.mg)(Cq21:Cal Ω "counts_of" 3 1 qP):Ok Ω 4 f fd yg DK:=by
 refine az (N:=zG) F (Bl.frz (Ao B Cq21)) (by kernel_rfl!) ?_
 rintro ds S W ⟨p,rfl,hz,hok,hlen,hS,hw⟩ hl
 walk_at "b"
 refine aO ⟨λ i Γ' S'=>(∃o2 o3 o4 o5,Γ'=[some (dPg p),some (.loc S.length),o2,o3,o4,o5])/\S'=S++[(aV (p.nss.take i)).map dSt],⟨⟨_,_,_,_,rfl⟩,rfl⟩,?_,?_⟩
 . rintro i e Γ' S' he ⟨⟨o2,o3,o4,o5,rfl⟩,rfl⟩
   obtain⟨e',he',rfl⟩:=Pu he
   obtain⟨n,hn,rfl⟩:=bH he'
   obtain⟨h1,h2,h3⟩:=hok n (y6 hn)
   have lf:=Ky hn
   walk_at "b"
   refine⟨rfl,?_⟩
   walk_at "b"
   refine⟨rfl,_,rfl,h1,h2,Jv hS (rD _),.inl ?_⟩
   walk_at "n"
   refine aO ⟨λ j Γ' S'=>(∃o4 o5,Γ'=[some (dPg p),some (.loc S.length),some (.int (i:Int)),some (dNs n),o4,o5])/\S'=S++[(aV (p.nss.take i)++((cnt n.lps).take j).flatMap λ cs=>(List.range n.dds.length).map λ s=>(i,cs,s)).map dSt],⟨⟨_,_,rfl⟩,by simp⟩,?_,?_⟩
   . rintro j e Γ' S' he ⟨⟨o4,o5,rfl⟩,rfl⟩
     obtain⟨cs,hcs,rfl⟩:=bH he
     have e2:((n.dds.map dDd).length:Int)=(n.dds.length:Int):=by rw[y8]
     have lj:((cnt n.lps).take j |>.flatMap λ cs=>(List.range n.dds.length).map λ s=>(i,cs,s)).length+n.dds.length≤(cW i n).length:=by
      have:∃more,cW i n=((cnt n.lps).take (j+1) |>.flatMap λ cs=>(List.range n.dds.length).map λ s=>(i,cs,s))++more:=by
       unfold cW
       conv=>enter [1,more,1,2];rw[←List.take_append_drop (j+1) (cnt n.lps)]
       rw[List.flatMap_append]
       exact⟨_,rfl⟩
      obtain⟨more,em⟩:=this
      rw[em,aD hcs,List.flatMap_append,x9,x9]
      simp
     walk_at "b"
     rw[e2]
     refine⟨⟨by omega,by omega⟩,aO ⟨λ t Γ' S'=>(∃o5,Γ'=[some (dPg p),some (.loc S.length),some (.int (i:Int)),some (dNs n),some (dC cs),o5])/\S'=S++[((aV (p.nss.take i)++((cnt n.lps).take j).flatMap λ cs=>(List.range n.dds.length).map λ s=>(i,cs,s))++(List.range t).map λ s=>(i,cs,s)).map dSt],⟨⟨_,rfl⟩,by simp⟩,?_,?_⟩⟩
     . rintro t e Γ' S' he ⟨⟨o5,rfl⟩,rfl⟩
       obtain⟨ht,rfl⟩:=aL he
       have ez:(0:Int)+(t:Int)=(t:Int):=by omega
       rw[ez]
       walk_at "b"
       refine⟨_,bM _ _,by simp only[y8,x9,List.length_range];omega,?_⟩
       refine⟨⟨_,rfl⟩,?_⟩
       rw[bu,List.range_succ]
       simp only[List.map_append,List.map_cons,List.map_nil,List.append_assoc]
       rfl
     . rintro Γ' S' ⟨⟨o5,rfl⟩,rfl⟩
       refine⟨⟨_,_,rfl⟩,?_⟩
       rw[ao,aD hcs,List.flatMap_append,List.flatMap_singleton,←List.append_assoc,Int.toNat_natCast]
   . rintro Γ' S' ⟨⟨o4,o5,rfl⟩,rfl⟩
     refine⟨⟨_,_,_,_,rfl⟩,?_⟩
     rw[y8,List.take_length,jk hn];rfl
 . rintro Γ' S' ⟨⟨o2,o3,o4,o5,rfl⟩,rfl⟩
   have e:((p.nss.map dNs).mapIdx λ i d=>D.tup [D.int (i:Int),d]).length=p.nss.length:=by simp
   rw[e,List.take_length]
   exact zx hw (rD _) hS
noncomputable def yJ:Ct:=λ ds S W=>∃(p:Pg) (s:Stp) (n:Ns) (x:Dd),ds=[dPg p,dSt s]/\p.nss[s.1]? =some n/\n.dds[s.2.2]? =some x/\W (dDd x) S
noncomputable abbrev Cell:=Nat×List Int
noncomputable def aN(c:Cell):D:=.tup [.int c.1,.tup (c.2.map .int)]
noncomputable def C64(cs:List Int):Prop:=∀c∈cs,-(2 ^ 64)<c/\c<2 ^ 64
noncomputable def Gw(pl:List Fm):Prop:=pl.length≤1000/\∀f∈pl,f.2.length≤1000
noncomputable def spot(t:Nat)(pl:List Fm)(cs:List Int):Cell:=(t,pl.map λ f=>atC f cs)
noncomputable def wZ:Ct:=λ ds S W=>∃(t:Nat) (pl:List Fm) (cs:List Int),ds=[.int t,dP pl,dC cs]/\Gw pl/\C64 cs/\W (aN (spot t pl cs)) S
theorem yU(F:Fun Ω.K "deed_of" "deed_of" ju f fd):Ok Ω 1 f fd Cr yJ:=by
 refine az (N:=CG) F (Cq) (by kernel_rfl!) ?_
 rintro ds S W ⟨p,⟨i,cs,t⟩,n,x,rfl,hn,hx,hw⟩ hl
 have a1:atI (p.nss.map dNs) ((i:Nat):Int)=some (dNs n):=aA (by rw[y9,hn];rfl)
 have a2:atI (n.dds.map dDd) ((t:Nat):Int)=some (dDd x):=aA (by rw[y9,hx];rfl)
 walk_at "b"
 refine⟨_,a1,?_⟩
 walk_at "b"
 exact⟨_,a2,hw⟩
theorem zR(F:Fun Ω.K "cell_at" "cell_at" jf f fd)(B:Bi Ω.mg)(Cq20:Cal Ω "comes_to" 1 2 jG):Ok Ω 2 f fd Bu wZ:=by
 refine az (N:=Cg) F (Di B Cq20) (by kernel_rfl!) ?_
 rintro ds S W ⟨t,pl,cs,rfl,hpl,hcs,hw⟩ hl
 walk_at "b"
 refine rA (λ f=>.int (atC f cs)) (by have:=hpl.1;omega) ?_ ?_
 . intro i f hf Q hq
   walk_at "b"
   exact⟨rfl,f.1,f.2,cs,rfl,hpl.2 f (y6 hf),hcs,hq⟩
 . walk_at "b"
   have e:(spot t pl cs).2.map D.int=pl.map λ f=>D.int (atC f cs):=by unfold spot;rw[List.map_map];rfl
   unfold aN at hw
   rw[e]at hw
   exact hw
noncomputable def dCs(x:Dd)(cs:List Int):D:=.tup [aN (spot x.tab x.pl cs),.lst (x.rds.map λ r=>aN (spot r.tab r.pl cs))]
noncomputable def Lb(x:Dd):Prop:=Gw x.pl/\x.rds.length≤1000/\∀r∈x.rds,Gw r.pl
noncomputable def qb:Ct:=λ ds S W=>∃(p:Pg) (s:Stp) (n:Ns) (x:Dd),ds=[dPg p,dSt s]/\p.nss[s.1]? =some n/\n.dds[s.2.2]? =some x/\Lb x/\C64 s.2.1/\W (dCs x s.2.1) S
theorem nG(F:Fun Ω.K "cells_of_step" "cells_of_step" dI f fd)(Cq22:Cal Ω "deed_of" 1 2 yJ)(Cq16:Cal Ω "cell_at" 2 3 wZ):Ok Ω 3 f fd pA qb:=by
 refine az (N:=ph) F (pF Cq22 Cq16) (by kernel_rfl!) ?_
 rintro ds S W ⟨p,⟨i,cs,t⟩,n,x,rfl,hn,hx,hok,hcs,hw⟩ hl
 walk_at "b"
 refine⟨rfl,p,(i,cs,t),n,x,rfl,hn,hx,?_⟩
 walk_at "b"
 refine rA (λ r=>aN (spot r.tab r.pl cs)) (by have:=hok.2.1;omega) ?_ ?_
 . intro j r hr Q hq
   walk_at "b"
   refine⟨rfl,?_⟩
   walk_at "b"
   exact⟨rfl,r.tab,r.pl,cs,rfl,hok.2.2 r (y6 hr),hcs,hq⟩
 . walk_at "b"
   refine⟨rfl,x.tab,x.pl,cs,rfl,hok.1,hcs,?_⟩
   walk_at "b"
   exact hw
theorem Ia{nss:List Ns}{s:Stp}(h:s∈aV nss):∃n,nss[s.1]? =some n/\s.2.1∈cnt n.lps/\s.2.2<n.dds.length:=by
 unfold aV at h
 obtain⟨l,hl,hs⟩:=List.mem_flatten.mp h
 obtain⟨i,hi,rfl⟩:=List.mem_mapIdx.mp hl
 unfold cW at hs
 obtain⟨cs,hcs,hs⟩:=List.mem_flatMap.mp hs
 obtain⟨t,ht,rfl⟩:=ZO.mp hs
 exact⟨nss[i],y4 hi,hcs,List.mem_range.mp ht⟩
noncomputable def eV(p:Pg)(s:Stp):D:=match p.nss[s.1]? with
 | some n=>(match n.dds[s.2.2]? with | some x=>dCs x s.2.1 | none=>.non)
 | none=>.non
noncomputable def iV:Ct:=λ ds S W=>∃p:Pg,ds=[dPg p]/\p.nss.length≤1000/\(∀n∈p.nss,m8 n/\∀x∈n.dds,Lb x)/\(aV p.nss).length≤1000000/\flat S/\W (.lst ((aV p.nss).map (eV p))) S
theorem m8.c64{n:Ns}(h:m8 n){cs:List Int}(hc:cs∈cnt n.lps):C64 cs:=λ c hcc=>by
 have:=((h.2.1.2 n.lps.length (x4 _)).2 cs (by rw[List.take_length];exact hc)).2 c hcc
 omega
theorem wD(F:Fun Ω.K "cells_of" "cells_of" ie f fd)(Cq48:Cal Ω "steps_of" 4 1 DK)(Cq18:Cal Ω "cells_of_step" 3 2 qb):Ok Ω 5 f fd yD iV:=by
 refine az (N:=zX) F (xr Cq48 Cq18) (by kernel_rfl!) ?_
 rintro ds S W ⟨p,rfl,hz,hok,hlen,hS,hw⟩ hl
 walk_at "b"
 refine⟨rfl,p,rfl,hz,λ n hn=>(hok n hn).1,hlen,hS,.inl ?_⟩
 walk_at "n"
 refine rA (eV p) hlen ?_ hw
 intro i s hs Q hq
 obtain⟨n,h1,h2,h3⟩:=Ia (y6 hs)
 obtain⟨ok,dd⟩:=hok n (y6 h1)
 have e:n.dds[s.2.2]? =some n.dds[s.2.2]:=y4 h3
 have ec:eV p s=dCs n.dds[s.2.2] s.2.1:=by
  unfold eV
  rw[h1]
  show(match n.dds[s.2.2]? with | some x=>dCs x s.2.1 | none=>D.non)=_
  rw[e]
 rw[ec]at hq
 walk_at "b"
 exact⟨rfl,p,s,n,n.dds[s.2.2],rfl,h1,e,dd _ (List.getElem_mem _),ok.c64 h2,hq⟩
theorem dU(x:List Int):ak (x.map D.int)=true:=by
 induction x with
 | nil=>rfl
 | cons y ys ih=>simp only[List.map_cons,ak,ih,Bool.and_true];rfl
noncomputable def gH(ns:List Int)(n c d:Int):List D:=[.lst (ns.map .int),.int n,.int c,.int d]
noncomputable def aJ(S:Store)(k b:Nat):Prop:=∃ns n c d,S[k]? =some (gH ns n c d)/\0≤n/\n≤(b:Int)
noncomputable def aF(S:Store)(k:Nat)(S':Store):Prop:=∃ns n c d,S'=S.set k (gH ns n c d)
theorem aF.trans{S1 S2:Store}(a:aF S k S1)(b:aF S1 k S2):aF S k S2:=by
 obtain⟨_,_,_,_,rfl⟩:=a
 obtain⟨ns,n,c,d,rfl⟩:=b
 exact⟨ns,n,c,d,by rw[List.set_set]⟩
theorem aF.refl(p:aJ S k b):aF S k S:=by
 obtain⟨ns,n,c,d,h,_⟩:=p
 exact⟨ns,n,c,d,by
  obtain⟨hl,e⟩:=y3.mp h
  rw[←e,List.set_getElem_self]⟩
theorem aF.len{S':Store}(u:aF S k S'):S'.length=S.length:=by
 obtain⟨_,_,_,_,rfl⟩:=u
 simp
theorem aJ.lt(p:aJ S k b):k<S.length:=by
 obtain⟨_,_,_,_,h,_⟩:=p
 exact(y3.mp h).1
theorem aJ.mono{b':Nat}(p:aJ S k b)(h:b≤b'):aJ S k b':=by
 obtain⟨ns,n,c,d,h1,h2,h3⟩:=p
 exact⟨ns,n,c,d,h1,h2,by omega⟩
theorem aJ.app(R:Store)(p:aJ S k b):aJ (S++R) k b:=by
 have hl:=p.lt
 obtain⟨ns,n,c,d,h,hn⟩:=p
 exact⟨ns,n,c,d,by rw[w9 hl];exact h,hn⟩
theorem aF.split{T:Store}{b':Nat}(p:aJ S k b)(u:aF (S++R) k T)(p':aJ T k b'):∃S',T=S'++R/\aF S k S'/\aJ S' k b':=by
 have hl:=p.lt
 obtain⟨ns,n,c,d,rfl⟩:=u
 have e:(S++R).set k (gH ns n c d)=S.set k (gH ns n c d)++R:=by rw[List.set_append_left k _ hl]
 refine⟨S.set k (gH ns n c d),e,⟨ns,n,c,d,rfl⟩,?_⟩
 obtain⟨ns',n',c',d',h,hn⟩:=p'
 rw[e,w9 (by simpa using hl)]at h
 exact⟨ns',n',c',d',h,hn⟩
theorem pO(ns:List Int)(n c d:Int):ak (gH ns n c d)=true:=by
 show(ak (ns.map D.int)&&true)=true
 rw[dU];rfl
theorem aF.flat{S':Store}(u:aF S k S')(h:flat S):RF.flat S':=by
 obtain⟨ns,n,c,d,rfl⟩:=u
 intro l hl
 rcases List.mem_or_eq_of_mem_set hl with hl | rfl
 . exact h l hl
 . exact pO ..
noncomputable def tO:Ct:=λ ds S W=>∃ns k,ds=[.lst (List.map .int ns),.int k]/\0≤k/\k≤1000000000/\∀v,W (.int v) S
noncomputable def JH:Ct:=λ ds S W=>∃ns:List Int,ds=[.lst (List.map .int ns)]/\∀c d,W (.loc S.length) (S++[gH ns 0 c d])
noncomputable def cM:Ct:=λ ds S W=>∃(k:Nat) (m:Int) (b:Nat),ds=[.loc k,.int m]/\aJ S k b/\b≤1000000/\0<m/\m<1000000/\∀v S',0≤v->v<m->aF S k S'->aJ S' k (b+1)->W (.int v) S'
theorem du{m:Int}{W:WD}(hp:aJ S k b)(hb:b≤1000000)(h0:0<m)(h1:m<1000000)(w:∀v S',0≤v->v<m->aF S k S'->aJ S' k (b+1)->W (.int v) S'):([D.loc k,.int m].length=2/\cM [.loc k,.int m] S W):=⟨rfl,k,m,b,rfl,hp,hb,h0,h1,w⟩
theorem aQ{m:Int}{W:WD}(hp:aJ S k b)(hb:b≤1000000)(h0:0<m)(h1:m<1000000)(w:∀v S',0≤v->v<m->aF S k S'->aJ S' k (b+1)->W (.int v) (S'++R)):([D.loc k,.int m].length=2/\cM [.loc k,.int m] (S++R) W):=by
 refine du (hp.app R) hb h0 h1 λ v T v0 v1 u p=>?_
 obtain⟨S',rfl,u',p'⟩:=u.split hp p
 exact w v S' v0 v1 u' p'
theorem R0{ns:List Int}{W:D->Prop}(h:0<((ns.map D.int).length:Int))(w:∀y:Int,W (.int y)):∃d,atI (ns.map D.int) (a % ((ns.map D.int).length:Int))=some d/\W d:=by
 obtain⟨x,h1,h2⟩:=ig (ds:=ns.map D.int) (v:=a % ((ns.map D.int).length:Int)) (Int.emod_nonneg _ (by omega)) (Int.emod_lt_of_pos _ h)
 obtain⟨y,_,rfl⟩:=ZO.mp (y6 h2)
 exact⟨_,h1,w y⟩
theorem Jk(F:Fun Ω.K "_law_cell" "_law_cell" qi f fd)(B:Bi Ω.mg):Ok Ω 1 f fd Nr tO:=by
 refine az (N:=Lz) F (K1 B) (by kernel_rfl!) ?_
 rintro ds S W ⟨ns,k,rfl,hk,hk2,hw⟩ hl
 have last:∀v:Int,(rN B).wp [some (.lst (ns.map .int)),some (.int k),some (.int v)] S {nx:=λ _ S1=>W .non S1,rt:=W}:=by
  intro v
  walk_at "b"
  exact hw _
 have two:(rW B).wp [some (.lst (ns.map .int)),some (.int k),none] S {nx:=λ _ S1=>W .non S1,rt:=W}:=by
  walk_at "b"
  refine⟨λ q=>?_,λ q=>last _⟩
  have q:=ZF q
  walk_at "b"
  refine R0 q λ y=>?_
  walk_at "b"
  exact last _
 walk_at "b"
 refine⟨λ q=>?_,λ q=>two⟩
 have q:=ZF q
 walk_at "b"
 obtain⟨x,h1,h2⟩:=ig (ds:=ns.map D.int) (v:=k) hk q
 obtain⟨y,_,rfl⟩:=ZO.mp (y6 h2)
 refine⟨_,h1,?_⟩
 walk_at "b"
 exact hw _
theorem K3(F:Fun Ω.K "_law_pen" "_law_pen" tQ f fd)(Cq1:Cal Ω "_law_cell" 1 2 tO):Ok Ω 2 f fd QM JH:=by
 refine az (N:=Om) F (QK Cq1) (by kernel_rfl!) ?_
 rintro ds S W ⟨ns,rfl,hw⟩ hl
 walk_at "b"
 refine⟨rfl,ns,0,rfl,by decide,by decide,λ c=>?_⟩
 walk_at "b"
 refine⟨rfl,ns,0,rfl,by decide,by decide,λ d=>?_⟩
 walk_at "b"
 exact hw _ _
theorem Kz(F:Fun Ω.K "_law_next" "_law_next" qD f fd)(Cq1:Cal Ω "_law_cell" 1 2 tO):Ok Ω 2 f fd Mv cM:=by
 refine az (N:=Np) F (Mw Cq1) (by kernel_rfl!) ?_
 rintro ds S W ⟨k,m,b,rfl,⟨ns,n,c,d,hk,hn0,hn1⟩,hb,h0,h1,hw⟩ hl
 have k2:∀l:List D,(S.set k l)[k]? =some l:=λ l=>set_get hk
 have fin:∀v n' d',0≤n'->n'≤(b:Int)+1->W (.int (v % m)) (S.set k (gH ns n' c d')):=λ v n' d' h h'=>
  hw _ _ (Int.emod_nonneg _ (by omega)) (Int.emod_lt_of_pos _ h0) ⟨ns,n',c,d',rfl⟩ ⟨ns,n',c,d',k2 _,h,by omega⟩
 walk_at "b"
 refine⟨λ _=>?_,λ _=>?_⟩
 . walk_at "b"
   exact fin d n _ hn0 (by omega)
 walk_at "b"
 refine⟨rfl,ns,n+1,rfl,by omega,by omega,λ v=>?_⟩
 walk_at "b"
 exact fin _ (n+1) d (by omega) (by omega)
theorem gO(f:Fm):aq (dF f)=true:=dU (f.1::f.2)
theorem Nu(cs:List Int):aq (dC cs)=true:=dU cs
theorem gn(ls:List Lp):ak (ls.map dL)=true:=by
 induction ls with
 | nil=>rfl
 | cons y ys ih=>
   simp only[List.map_cons,ak,ih,Bool.and_true]
   show ak [dF y.1,dF y.2]=true
   simp only[ak,gO,Bool.and_true]
noncomputable def nlO(o:Option D):Prop:=∀d,o=some d->aq d=true
theorem lG:nlO none:=λ d h=>by cases h
theorem QS(n:Int):nlO (some (.int n)):=λ d h=>by cases h;rfl
theorem Ss(cs:List Int):nlO (some (dC cs)):=λ d h=>by cases h;exact Nu cs
theorem uw{ds:List D}{o:Option D}(h:nlO o):jw k ds o=o:=by
 cases o with
 | none=>rfl
 | some d=>
   cases d with
   | loc j=>have:=h _ rfl;simp[aq]at this
   | _=>rfl
noncomputable def Old(n:Nat)(x:D):Prop:=aq x=true∨∃j,x=.loc j/\j<n
theorem Mm{ds:List D}{x:D}(h:Old n x):jw n ds (some x)=some x:=by
 rcases h with h | ⟨j,rfl,hj⟩
 . exact uw λ d e=>by cases e;exact h
 . simp[jw];omega
noncomputable def Js:Ct:=λ ds S W=>∃(x:D) (ls:List Lp),ds=[x]/\(x=.tup (ls.map dL)∨∃k,x=.loc k/\S[k]? =some (ls.map dL))/\Lps ls/\flat S/\W (.int (cnt ls).length) S
theorem Gp(F:Fun Ω.K "_law_value" "_law_value" mV f fd)(B:Bi Ω.mg):Ok Ω 1 f fd KN jG:=by
 refine az (N:=HY) F (Jx B) (by kernel_rfl!) ?_
 rintro ds S W ⟨g,fs,cs,rfl,hfs,hcs,hw⟩ hl
 walk_at "n"
 refine⟨_,kW _ _,?_⟩
 walk_at "n"
 rw[qd]
 refine fD ⟨by rw[List.length_zipWith,y8];omega,λ i acc S'=>acc=((List.zipWith (λ a b=>a*b) fs cs).take i).map D.int/\S'=S,⟨rfl,rfl⟩,?_,?_⟩
 . rintro i e acc S' he ⟨rfl,rfl⟩
   obtain⟨a,b,h1,h2,rfl⟩:=Dt he
   walk_at "n"
   refine⟨rfl,λ _=>⟨.inr (hcs b (y6 h2)),?_,rfl⟩,λ z=>tf z⟩
   have e3:(List.zipWith (λ a b=>a*b) fs cs)[i]? =some (a*b):=by rw[List.getElem?_zipWith,h1,h2]
   rw[aD e3,List.map_append];rfl
 . rintro acc S' ⟨rfl,rfl⟩
   have e:(List.zipWith (λ x y=>D.tup [x,y]) (fs.map D.int) (cs.map D.int)).length=(List.zipWith (λ a b=>a*b) fs cs).length:=by simp
   rw[e,List.take_length]
   exact⟨_,rfl,hw⟩
theorem G5(F:Fun Ω.K "_law_count" "_law_count" nR f fd)(B:Bi Ω.mg)(Cq13:Cal Ω "_law_value" 1 2 jG):Ok Ω 2 f fd Kf Js:=by
 refine az (N:=KC) F (Ik B Cq13) (by kernel_rfl!) ?_
 rintro ds S W ⟨x,ls,rfl,hx,hL,hS,hw⟩ hl
 have hf:=hL.fits
 have turn:∀(x:D),Old S.length x->∀(i:Nat)(l:Lp),ls[i]? =some l->∀(o2 o3 o4 o5 o6:Option D),nlO o5->nlO o6->∀Wf:DL.Fin,(∀o2' o3' o4' o5' o6',nlO o5'->nlO o6'->Wf.nx [some x,some (.lst ((cnt (ls.take (i+1))).map dC)),o2',o3',o4',o5',o6'] S)->
  (Tg.tup [2,3]).wp (dL l) [some x,some (.lst ((cnt (ls.take i)).map dC)),o2,o3,o4,o5,o6] λ Γ2=>(Bl.fzl (nU B Cq13)).wp Γ2 S Wf:=by
  intro x hx i l hli o2 o3 o4 o5 o6 n5 n6 Wf hnx
  have hi:=(y3.mp hli).1
  obtain⟨hlo,hhi⟩:=hf.1 l (y6 hli)
  have hah:=(hf.2 i (by omega)).2
  have hz:=(hf.2 (i+1) (by omega)).1
  rw[lD hli]at hz hnx
  obtain⟨lo,hi_⟩:=l
  dsimp only at hlo hhi hz hnx
  generalize hG:cnt (ls.take i)=ahead at*
  walk_at "b"
  refine⟨rfl,?_⟩
  walk_at "b"
  refine aO ⟨λ j Γ' S'=>(∃o5 o6,Γ'=[some x,some (.lst (ahead.map dC)),some (dF lo),some (dF hi_),some (.loc S.length),o5,o6]/\nlO o5/\nlO o6)/\S'=S++[(aM lo hi_ (ahead.take j)).map dC],⟨⟨_,_,rfl,n5,n6⟩,rfl⟩,?_,?_⟩
  . rintro j e Γ' S' he ⟨⟨o5,o6,rfl,n5,n6⟩,rfl⟩
    obtain⟨cs,e1,rfl⟩:=bH he
    have hcs:=hah cs (y6 e1)
    have b1:=jd hlo hcs
    have b2:=jd hhi hcs
    have h64:∀c∈cs,-(2 ^ 64)<c/\c<2 ^ 64:=λ c hc=>by have:=hcs.2 c hc;omega
    walk_at "b"
    refine⟨rfl,lo.1,lo.2,cs,rfl,by have:=hlo.2.2.1;omega,h64,?_⟩
    walk_at "b"
    refine⟨rfl,hi_.1,hi_.2,cs,rfl,by have:=hhi.2.2.1;omega,h64,?_⟩
    walk_at "b"
    refine⟨⟨b1.1,b1.2,b2.1,b2.2⟩,aO ⟨λ m Γ' S'=>(∃o6,Γ'=[some x,some (.lst (ahead.map dC)),some (dF lo),some (dF hi_),some (.loc S.length),some (dC cs),o6]/\nlO o6)/\S'=S++[(aM lo hi_ (ahead.take j)++(bG lo hi_ cs).take m).map dC],⟨⟨_,rfl,n6⟩,by simp⟩,?_,?_⟩⟩
    . rintro m e Γ' S' he ⟨⟨o6,rfl,n6⟩,rfl⟩
      obtain⟨hj,rfl⟩:=aL he
      have hj':m<(bG lo hi_ cs).length:=by rw[di];exact hj
      have lf:=yq (lo:=lo) (hi:=hi_) e1
      walk_at "b"
      refine⟨by simp;have:=hcs.1;omega,_,bM _ _,by simp;omega,?_⟩
      refine⟨⟨_,rfl,QS _⟩,?_⟩
      rw[bu]
      have e3:(bG lo hi_ cs)[m]? =some (cs++[atC lo cs+(m:Int)]):=by
       unfold bG
       rw[y9,Ea (by rw[di]at hj';exact hj')];rfl
      have e4:dC (cs++[atC lo cs+(m:Int)])=D.tup (cs.map D.int++[D.int (comesTo lo.1 lo.2 cs+(m:Int))]):=by
       unfold dC;rw[List.map_append];rfl
      rw[aD e3,←List.append_assoc,List.map_append (l₂:=[_]),List.map_singleton,e4]
    . rintro Γ' S' ⟨⟨o6,rfl,n6⟩,rfl⟩
      refine⟨⟨_,_,rfl,Ss _,n6⟩,?_⟩
      have e5:(bG lo hi_ cs).take (DL.upTo (comesTo lo.1 lo.2 cs) (comesTo hi_.1 hi_.2 cs-comesTo lo.1 lo.2 cs).toNat).length=bG lo hi_ cs:=by
       rw[ao];exact List.take_of_length_le (by rw[di];exact x4 _)
      rw[e5,iC e1]
  . rintro Γ' S' ⟨⟨o5,o6,rfl,n5,n6⟩,rfl⟩
    rw[y8,List.take_length]
    walk_at "b"
    refine .inr ⟨_,_,rfl,x4 _,mQ _,hS,?_,?_⟩
    . intro y d hy
      match y,hy with
      | 0,hy=>cases hy;rcases hx with hx | ⟨j,rfl,_⟩;exact .inl hx;exact .inr ⟨_,rfl⟩
      | 1,hy=>cases hy;exact .inr ⟨_,rfl⟩
      | 2,hy=>cases hy;exact .inl (gO _)
      | 3,hy=>cases hy;exact .inl (gO _)
      | 4,hy=>cases hy;exact .inr ⟨_,rfl⟩
      | 5,hy=>exact .inl (n5 d (by simpa using hy))
      | 6,hy=>exact .inl (n6 d (by simpa using hy))
      | y+7,hy=>simp at hy
    . have e:∀Γ:Gam,Γ=[some x,some (.loc S.length),some (dF lo),some (dF hi_),some (.loc S.length),o5,o6]->Γ.map (jw S.length ((aM lo hi_ ahead).map dC))=[some x,some (.lst ((aM lo hi_ ahead).map dC)),some (dF lo),some (dF hi_),some (.lst ((aM lo hi_ ahead).map dC)),o5,o6]:=by
       rintro Γ rfl
       have e1:jw S.length ((aM lo hi_ ahead).map dC) (some (.loc S.length))=some (.lst ((aM lo hi_ ahead).map dC)):=by simp[jw]
       simp only[List.map_cons,List.map_nil,Mm hx,uw n5,uw n6,e1]
       rfl
      simp only[List.set_cons_succ,List.set_cons_zero]
      rw[e _ rfl]
      exact hnx _ _ _ _ _ n5 n6
 rcases hx with rfl | ⟨k,rfl,hk⟩
 . walk_at "b"
   refine aO ⟨λ i Γ' S'=>(∃o2 o3 o4 o5 o6,Γ'=[some (.tup (ls.map dL)),some (.lst ((cnt (ls.take i)).map dC)),o2,o3,o4,o5,o6]/\nlO o5/\nlO o6)/\S'=S,⟨⟨_,_,_,_,_,rfl,lG,lG⟩,rfl⟩,?_,?_⟩
   . rintro i e Γ' S' he ⟨⟨o2,o3,o4,o5,o6,rfl,n5,n6⟩,rfl⟩
     obtain⟨l,hli,rfl⟩:=bH he
     exact turn _ (.inl (show aq (.tup (ls.map dL))=true from gn ls)) i l hli o2 o3 o4 o5 o6 n5 n6 _ λ a b c d e h1 h2=>⟨⟨a,b,c,d,e,rfl,h1,h2⟩,rfl⟩
   . rintro Γ' S' ⟨⟨o2,o3,o4,o5,o6,rfl,n5,n6⟩,rfl⟩
     rw[y8,List.take_length]
     walk_at "b"
     rw[y8]
     exact hw
 . have hlt:=(y3.mp hk).1
   walk_at "b"
   refine⟨_,hk,Dn ⟨λ i Γ' S'=>(∃o2 o3 o4 o5 o6,Γ'=[some (.loc k),some (.lst ((cnt (ls.take i)).map dC)),o2,o3,o4,o5,o6]/\nlO o5/\nlO o6)/\S'=S,⟨⟨_,_,_,_,_,rfl,lG,lG⟩,rfl⟩,?_,?_,?_⟩⟩
   . rintro i Γ' S' ⟨_,rfl⟩
     exact hk
   . rintro i e Γ' S' he ⟨⟨o2,o3,o4,o5,o6,rfl,n5,n6⟩,rfl⟩
     obtain⟨l,hli,rfl⟩:=bH he
     exact turn _ (.inr ⟨k,rfl,hlt⟩) i l hli o2 o3 o4 o5 o6 n5 n6 _ λ a b c d e h1 h2=>⟨⟨a,b,c,d,e,rfl,h1,h2⟩,rfl⟩
   . rintro Γ' S' ⟨⟨o2,o3,o4,o5,o6,rfl,n5,n6⟩,rfl⟩
     rw[y8,List.take_length]
     walk_at "b"
     rw[y8]
     exact hw
section
variable {Ω : Wd} {cap : List (Option Nat)} {Γ : Gam} {elt : Ex Ω} {tg : Tg} {W : WD} {ds : List D} {S1 : Store}
theorem jM(P:D->Prop)(Q:Nat->Store->Prop)(hz:ds.length≤1000000)(q0:Q 0 S1)(h:∀(i:Nat)(d:D)(S':Store),ds[i]? =some d->Q i S'->∀R:WD,(∀y S4,P y->Q (i+1) S4->R y S4)->tg.wp d (capt cap Γ) λ Γ2=>elt.wp Γ2 S' R)
 (w:∀(ys:List D)(S':Store),ys.length=ds.length->(∀y∈ys,P y)->Q ds.length S'->W (.lst ys) S'):iU cap Γ elt tg (Cd.no (Ω:=Ω)) W ds S1:=by
 refine fD ⟨hz,λ i acc S'=>(acc.length=i/\∀y∈acc,P y)/\Q i S',⟨⟨rfl,λ y e=>by cases e⟩,q0⟩,?_,λ acc S' h=>w acc S' h.1.1 h.1.2 h.2⟩
 rintro i d acc S' hd ⟨⟨hl,ha⟩,q⟩
 refine Tg.mono (h i d S' hd q (λ y S4=>((acc++[y]).length=i+1/\∀y'∈(acc++[y]),P y')/\Q (i+1) S4) λ y S4 hy q4=>⟨⟨by simp[hl],λ y' e=>?_⟩,q4⟩) λ G q=>⟨λ _=>q,λ z=>tf z⟩
 rcases ZK.mp e with e | e
 . exact ha y' e
 . rw[ZL.mp e];exact hy
end
theorem gP{P:Int->Prop}:∀{ys:List D},(∀y∈ys,∃n:Int,y=D.int n/\P n)->∃fs:List Int,ys=fs.map D.int/\∀n∈fs,P n
 | [],_=>⟨[],rfl,by simp⟩
 | y::ys,h=>by
   obtain⟨n,rfl,hn⟩:=h y x8
   obtain⟨fs,rfl,hf⟩:=gP (ys:=ys) λ y h'=>h y (x5 _ h')
   exact⟨n::fs,rfl,by
    intro m hm
    rcases ZJ.mp hm with rfl | hm
    . exact hn
    . exact hf m hm⟩
theorem oO{l:List D}(h:n=S.length):(S++[l])[n]? =some l:=by subst h;exact bM _ _
theorem zZ{l l':List D}(h:n=S.length):(S++[l]).set n l'=S++[l']:=by subst h;exact bu _ _ _
theorem at1{a:List D}(h:n=S.length):(S++a::J)[n]? =some a:=by subst h;simp
theorem S9{a b:List D}(h:n=S.length):(S++a::J).set n b=S++b::J:=by subst h;simp
theorem at2{a c:List D}(h:n=(S++a::J).length):(S++a::(J++[c]))[n]? =some c:=by
 have e:S++a::(J++[c])=(S++a::J)++[c]:=by simp
 rw[e,h];exact bM _ _
theorem put2{a b c:List D}(h:n=(S++a::J).length):(S++a::(J++[c])).set n b=S++a::(J++[b]):=by
 have e:∀c,S++a::(J++[c])=(S++a::J)++[c]:=λ c=>by simp
 rw[e,e,h];exact bu _ _ _
theorem tV(h:j<n):ixN n (j:Int)=some j:=by
 unfold ixN
 have h1:¬((j:Int)<0):=by omega
 simp[h1,h]
theorem SJ(a m:Int)(his:List Int)(j:Nat):((a::his).map D.int).set (j+1) (.int m)=(a::his.set j m).map D.int:=by simp[List.map_set]
noncomputable def lg(ls:List Lp):Prop:=∀(i:Nat)(l:Lp),ls[i]? =some l->BdF l.1 i/\BdF l.2 i
theorem lg.snoc{ls:List Lp}{l:Lp}(h:lg ls)(b1:BdF l.1 ls.length)(b2:BdF l.2 ls.length):lg (ls++[l]):=by
 intro i l' hl
 by_cases hi:i<ls.length
 . rw[w9 hi]at hl
   exact h i l' hl
 . rw[List.getElem?_append_right (by omega)]at hl
   have:i-ls.length=0:=by
    have:=(y3.mp hl).1
    simp at this;omega
   rw[this]at hl
   cases hl
   have e:i=ls.length:=by omega
   rw[e]
   exact⟨b1,b2⟩
theorem lg.cut{ls:List Lp}(h:lg ls):lg ls.dropLast:=by
 intro i l hl
 refine h i l ?_
 rw[List.dropLast_eq_take,List.getElem?_take]at hl
 split at hl
 . exact hl
 . cases hl
noncomputable def yC:Ct:=λ ds S W=>∃(k b:Nat),ds=[.loc k]/\aJ S k b/\b≤1000/\flat S/\∀ls S' J,Lps ls->aF S k S'->aJ S' k (b+20)->flat J->W (.loc S.length) (S'++ls.map dL::J)
theorem Hd(F:Fun Ω.K "_law_loops" "_law_loops" m9 f fd)(B:Bi Ω.mg)(Cq7:Cal Ω "_law_next" 2 2 cM):Ok Ω 3 f fd KH yC:=by
 refine az (N:=Hw) F (JQ B Cq7) (by kernel_rfl!) ?_
 rintro ds S W ⟨k,b,rfl,hp,hb,hS,hw⟩ hl
 walk_at "b"
 refine aQ (R:=[[]]) hp (by omega) (by decide) (by decide) λ v S1 v0 v1 u1 p1=>?_
 walk_at "b"
 refine⟨⟨by omega,by omega⟩,aO ⟨λ i Γ' T=>∃(S':Store) (ls:List Lp) (J:Store) (o2 o3 o4 o5:Option D),Γ'=[some (.loc k),some (.loc S.length),o2,o3,o4,o5]/\T=S'++ls.map dL::J/\ls.length=i/\lg ls/\aF S k S'/\aJ S' k (b+1+6*i)/\flat J,⟨S1,[],[],_,_,_,_,rfl,rfl,rfl,λ i l h=>by simp at h,u1,p1,λ l h=>by cases h⟩,?_,?_⟩⟩
 . rintro i e Γ' T he ⟨S2,ls,J,o2,o3,o4,o5,rfl,rfl,hln,hI,u2,p2,hJ⟩
   obtain⟨hi,rfl⟩:=aL he
   have hi3:i≤2:=by omega
   have ez:(0:Int)+(i:Int)=(i:Int):=by omega
   rw[ez]
   walk_at "b"
   refine aQ p2 (by omega) (by decide) (by decide) λ x S3 x0 x1 u3 p3=>?_
   have u3:=u2.trans u3
   walk_at "b"
   refine⟨⟨by omega,by omega⟩,jM (λ y=>∃n:Int,y=.int n/\(-2≤n/\n≤2)) (λ j T=>∃S',T=S'++ls.map dL::J/\aF S k S'/\aJ S' k (b+1+6*i+1+j)) (by rw[ao];omega) ⟨S3,rfl,u3,p3⟩ ?_ ?_⟩
   . rintro j d T hd ⟨S4,rfl,u4,p4⟩ R hR
     have hj:=(aL hd).1
     walk_at "b"
     refine aQ p4 (by omega) (by decide) (by decide) λ y S5 y0 y1 u5 p5=>?_
     obtain⟨e,a1,a2⟩:=ig (ds:=[D.int 0,.int 0,.int 1,.int (-1)]) (v:=y) y0 y1
     have he:=y6 a2
     walk_at "b"
     refine⟨_,a1,?_⟩
     obtain⟨t,rfl,t1,t2⟩:∃h:Int,e=.int h/\ -2≤h/\h≤2:=by
      clear a1 a2
      simp only[List.mem_cons,List.not_mem_nil,or_false]at he
      rcases he with rfl | rfl | rfl | rfl<;>exact⟨_,rfl,by decide,by decide⟩
     exact hR _ _ ⟨_,rfl,t1,t2⟩ ⟨S5,rfl,u4.trans u5,p5⟩
   rintro ys T hyl hys ⟨S4,rfl,u4,p4⟩
   obtain⟨los,rfl,hlos⟩:=gP hys
   rw[ao,y8]at hyl
   rw[ao]at p4
   have hyl:los.length=i:=by omega
   have p4:=p4.mono (b':=b+1+6*i+1+i) (by omega)
   clear hys
   walk_at "b"
   refine⟨_,_,rfl,rfl,by simp;omega,?_⟩
   have ec:[D.int (x-2)]++los.map D.int=((x-2)::los).map D.int:=rfl
   have ea:∀L,(S4++ls.map dL::J)++[L]=S4++ls.map dL::(J++[L]):=λ L=>by simp
   have en:∀S',aF S k S'->S'.length=S.length:=λ S' u=>u.len
   have n4:(S4++ls.map dL::J).length=S.length+1+J.length:=by simp[en S4 u4];omega
   have nn:∀S',aF S k S'->S.length+1+J.length=(S'++ls.map dL::J).length:=λ S' u=>by simp[en S' u];omega
   walk_at "b"
   rw[ec,ea,n4]
   walk_at "b"
   refine⟨_,kW _ _,?_⟩
   walk_at "b"
   refine aQ p4 (by omega) (by decide) (by decide) λ y S5 y0 y1 u5 p5=>?_
   have u5:=u4.trans u5
   walk_at "b"
   have pk:∀d∈[D.int 2,.int 1,.int 3,.int 4,.int 2,.int 3,.int 0],∃h:Int,d=.int h/\0≤h/\h≤4:=by
    intro d hd
    simp only[List.mem_cons,List.not_mem_nil,or_false]at hd
    rcases hd with rfl | rfl | rfl | rfl | rfl | rfl | rfl<;>exact⟨_,rfl,by decide,by decide⟩
   obtain⟨d,a1,a2⟩:=ig (ds:=[D.int 2,.int 1,.int 3,.int 4,.int 2,.int 3,.int 0]) (v:=y) y0 y1
   obtain⟨h,rfl,h0,h4⟩:=pk d (y6 a2)
   refine⟨_,a1,?_⟩
   walk_at "b"
   refine⟨_,_,at2 (nn S5 u5),tV (j:=0) (by simp),?_⟩
   rw[put2 (nn S5 u5)]
   walk_at "b"
   refine⟨⟨by decide,by decide,by omega,by omega⟩,aO ⟨λ j Γ' T=>∃(S':Store) (his:List Int) (o5:Option D),Γ'=[some (.loc k),some (.loc S.length),some (.int i),some (.lst (((x-2)::los).map D.int)),some (.loc (S.length+1+J.length)),o5]/\T=S'++ls.map dL::(J++[((x-2+h)::his).map D.int])/\aF S k S'/\aJ S' k (b+1+6*i+1+i+1+j)/\his.length=i/\∀n∈his,-2≤n/\n≤2,⟨S5,los,_,rfl,rfl,u5,p5,hyl,hlos⟩,?_,?_⟩⟩
   . rintro j d Γ' T hd ⟨S6,his,o5,rfl,rfl,u6,p6,hhl,hhs⟩
     obtain⟨hj,rfl⟩:=aL hd
     have hj':j<i:=by omega
     walk_at "b"
     have gh:(((x-2+h)::his).map D.int)[j+1]? =some (.int his[j]):=by
      rw[y9,List.getElem?_cons_succ,y4 (by omega)];rfl
     have gb:=hhs his[j] (List.getElem_mem _)
     have ej:(1:Int)+(j:Int)=((j+1:Nat):Int):=by omega
     rw[ej]
     refine⟨_,_,at2 (nn S6 u6),aA gh,?_⟩
     walk_at "b"
     refine aQ p6 (by omega) (by decide) (by decide) λ z S7 z0 z1 u7 p7=>?_
     have u7:=u6.trans u7
     walk_at "b"
     have pk:∀d∈[D.int 0,.int 0,.int 1,.int (-1),.int 0,.int 0],∃h:Int,d=.int h:=by
      intro d hd
      simp only[List.mem_cons,List.not_mem_nil,or_false]at hd
      rcases hd with rfl | rfl | rfl | rfl | rfl | rfl<;>exact⟨_,rfl⟩
     obtain⟨d,a1,a2⟩:=ig (ds:=[D.int 0,.int 0,.int 1,.int (-1),.int 0,.int 0]) (v:=z) z0 z1
     obtain⟨w,rfl⟩:=pk d (y6 a2)
     refine⟨_,a1,?_⟩
     walk_at "b"
     refine⟨_,_,at2 (nn S7 u7),tV (j:=j+1) (by simp;omega),?_⟩
     rw[put2 (nn S7 u7),SJ]
     refine⟨S7,_,_,rfl,rfl,u7,p7,by rw[List.length_set];exact hhl,λ n hn=>?_⟩
     rcases List.mem_or_eq_of_mem_set hn with hn | rfl
     . exact hhs n hn
     . constructor<;>(repeat' split)<;>omega
   . rintro Γ' T ⟨S6,his,o5,rfl,rfl,u6,p6,hhl,hhs⟩
     rw[ao]at p6
     walk_at "b"
     refine⟨_,at2 (nn S6 u6),?_⟩
     walk_at "b"
     refine⟨_,at1 (en S6 u6).symm,by simp;omega,?_⟩
     walk_at "b"
     rw[S9 (en S6 u6).symm]
     refine⟨S6,ls++[((x-2,los),(x-2+h,his))],J++[((x-2+h)::his).map D.int],_,_,_,_,rfl,?_,by simp[hln],hI.snoc ⟨by rw[hln];exact hyl,by show-9≤x-2;omega,by show x-2≤9;omega,hlos⟩ ⟨by rw[hln];exact hhl,by show-9≤x-2+h;omega,by show x-2+h≤9;omega,hhs⟩,u6,p6.mono (by omega),λ l hl=>?_⟩
     . rw[List.map_append];rfl
     . rcases ZK.mp hl with hl | hl
       . exact hJ l hl
       . rw[ZL.mp hl];exact dU _
 . rintro Γ' T ⟨S6,ls,J,o2,o3,o4,o5,rfl,rfl,hln,hI,u6,p6,hJ⟩
   rw[ao]at hln p6
   walk_at "b"
   exact hw ls S6 J ⟨by omega,by omega,hI⟩ u6 (p6.mono (by omega)) hJ
noncomputable def RD(ns:List Int):Prop:=∀n∈ns,-99≤n/\n≤99
noncomputable def FmB(d:Nat)(w:Int)(f:Fm):Prop:=f.2.length=d/\RD f.2/\((-w≤f.1/\f.1≤w)∨(w=1/\ -99≤f.1/\f.1≤99))
noncomputable def TpB(ws:List Int)(d t:Nat)(pl:List Fm):Prop:=∃w,ws[t]? =some w/\(pl.length:Int)=w/\∀f∈pl,FmB d 1 f
noncomputable def RdB(ws:List Int)(d:Nat)(r:Rd):Prop:= -1000000000000000000000000000000<r.fac/\r.fac<1000000000000000000000000000000/\TpB ws d r.tab r.pl
noncomputable def StB(d:Nat)(f:Fm):Prop:=f.2.length=d/\RD f.2/\ -1000000000000000000000000000000<f.1/\f.1<1000000000000000000000000000000
noncomputable def DdB(ws:List Int)(d:Nat)(x:Dd):Prop:=TpB ws d x.tab x.pl/\StB d x.st/\x.rds.length≤3/\∀r∈x.rds,RdB ws d r
noncomputable def WsB(ws:List Int):Prop:=1≤ws.length/\ws.length≤3/\∀w∈ws,1≤w/\w≤2
theorem N6(hw:WsB ws)(h0:0≤t)(h1:t<(ws.map D.int).length):∃w:Int,atI (ws.map D.int) t=some (.int w)/\ws[t.toNat]? =some w/\1≤w/\w≤2:=by
 obtain⟨x,a,b⟩:=ig h0 h1
 rw[y9]at b
 cases e:ws[t.toNat]? with
 | none=>rw[e]at b;cases b
 | some w=>rw[e]at b;cases b;exact⟨w,a,rfl,hw.2.2 w (y6 e)⟩
theorem nj(pl:List Fm):aq (dP pl)=true:=by
 show ak (pl.map dF)=true
 induction pl with
 | nil=>rfl
 | cons y ys ih=>simp only[List.map_cons,ak,ih,gO,Bool.and_true]
theorem rR(rs:List Rd):ak (rs.map dRd)=true:=by
 induction rs with
 | nil=>rfl
 | cons y ys ih=>
   simp only[List.map_cons,ak,ih,Bool.and_true]
   show ak [D.int _,D.int _,dP y.pl]=true
   simp only[ak,nj,Bool.and_true];rfl
theorem vB(x:Dd):aq (dDd x)=true:=by
 show ak [D.int _,dP x.pl,dF x.st,.tup (x.rds.map dRd)]=true
 have:aq (.tup (x.rds.map dRd))=true:=rR x.rds
 simp only[ak,nj,gO,this,Bool.and_true];rfl
theorem Uk:(10:Int) ^ (30:Int).toNat=1000000000000000000000000000000:=by decide
noncomputable def Ai:Ct:=λ ds S W=>∃(k b n:Nat) (w:Int),ds=[.loc k,.int w,.int n]/\aJ S k b/\b≤100000/\n≤3/\1≤w/\w≤2/\flat S/\∀(p:List Fm) S',(p.length:Int)=w->(∀f∈p,FmB n 1 f)->aF S k S'->aJ S' k (b+8)->W (dP p) S'
theorem FW(F:Fun Ω.K "_law_place" "_law_place" nO f fd)(B:Bi Ω.mg)(Cq7:Cal Ω "_law_next" 2 2 cM):Ok Ω 3 f fd Ku Ai:=by
 refine az (N:=Ir) F (Bl.drp (Ju B Cq7)) (by kernel_rfl!) ?_
 rintro ds S W ⟨k,b,n,w,rfl,hp,hb,hn,hw1,hw2,hS,hw⟩ hl
 walk_at "b"
 refine⟨⟨by omega,by omega⟩,aO ⟨λ i Γ' T=>∃(S':Store) (p:List Fm) (o4 o5:Option D),Γ'=[some (.loc k),some (.int w),some (.int n),some (.loc S.length),o4,o5]/\T=S'++[p.map dF]/\p.length=i/\(∀f∈p,FmB n 1 f)/\aF S k S'/\aJ S' k (b+4*i),⟨S,[],_,_,rfl,rfl,rfl,(λ f h=>by cases h),aF.refl hp,hp⟩,?_,?_⟩⟩
 . rintro i e Γ' T he ⟨S2,p,o4,o5,rfl,rfl,hpl,hpf,u2,p2⟩
   obtain⟨hi,rfl⟩:=aL he
   have hi:i<2:=by omega
   have en:∀S',aF S k S'->S.length=S'.length:=λ S' u=>u.len.symm
   walk_at "b"
   refine⟨⟨by omega,by omega⟩,jM (λ y=>∃n:Int,y=.int n/\(-99≤n/\n≤99)) (λ j T=>∃S',T=S'++[p.map dF]/\aF S k S'/\aJ S' k (b+4*i+j)) (by rw[ao];omega) ⟨S2,rfl,u2,p2⟩ ?_ ?_⟩
   . rintro j d T hd ⟨S6,rfl,u6,p6⟩ R hR
     have hj:=(aL hd).1
     walk_at "b"
     refine aQ p6 (by omega) (by decide) (by decide) λ y S7 y0 y1 u7 p7=>?_
     obtain⟨e,a1,a2⟩:=ig (ds:=[D.int 0,.int 1,.int 0,.int (-1),.int 1,.int 2]) (v:=y) y0 y1
     have he:=y6 a2
     walk_at "b"
     refine⟨_,a1,?_⟩
     obtain⟨t,rfl,t1,t2⟩:∃h:Int,e=.int h/\ -99≤h/\h≤99:=by
      clear a1 a2
      simp only[List.mem_cons,List.not_mem_nil,or_false]at he
      rcases he with rfl | rfl | rfl | rfl | rfl | rfl<;>exact⟨_,rfl,by decide,by decide⟩
     exact hR _ _ ⟨_,rfl,t1,t2⟩ ⟨S7,rfl,u6.trans u7,p7⟩
   rintro ys T hyl hys ⟨S6,rfl,u6,p6⟩
   obtain⟨fs,rfl,hfb⟩:=gP hys
   rw[ao,y8]at hyl
   rw[ao]at p6
   have hyl:fs.length=n:=by omega
   walk_at "b"
   refine aQ p6 (by omega) (by decide) (by decide) λ x S7 x0 x1 u7 p7=>?_
   have u7:=u6.trans u7
   walk_at "b"
   refine⟨_,_,rfl,rfl,by simp;omega,?_⟩
   walk_at "b"
   refine⟨_,oO (en S7 u7),by simp;omega,?_⟩
   rw[zZ (en S7 u7)]
   walk_at "b"
   refine⟨S7,p++[(x-2,fs)],_,_,rfl,?_,by simp[hpl],λ g hg=>?_,u7,p7.mono (by omega)⟩
   . rw[List.map_append];rfl
   . rcases ZK.mp hg with hg | hg
     . exact hpf g hg
     . rw[ZL.mp hg];exact⟨hyl,hfb,.inr ⟨rfl,by show-99≤x-2;omega,by show x-2≤99;omega⟩⟩
 . rintro Γ' T ⟨S2,p,o4,o5,rfl,rfl,hpl,hpf,u2,p2⟩
   rw[ao]at hpl p2
   walk_at "b"
   refine⟨_,oO u2.len.symm,?_⟩
   exact .inr ⟨_,S2,rfl,by rw[u2.len];exact x4 _,nj p,u2.flat hS,hw p S2 (by omega) hpf u2 (p2.mono (by omega))⟩
noncomputable def Dq:Ct:=λ ds S W=>∃(k b d:Nat) (ws:List Int),ds=[.loc k,dWs ws,.int d]/\aJ S k b/\b≤10000/\flat S/\d≤3/\WsB ws/\∀x S',DdB ws d x->aF S k S'->aJ S' k (b+50)->W (dDd x) S'
theorem RC{l:List D}(h:flat S)(hl:ak l=true):flat (S++[l]):=λ x hx=>by
 rcases ZK.mp hx with hx | hx
 . exact h x hx
 . rw[ZL.mp hx];exact hl
theorem Je(F:Fun Ω.K "_law_deed" "_law_deed" rm f fd)(B:Bi Ω.mg)(Cq7:Cal Ω "_law_next" 2 2 cM)(Cq9:Cal Ω "_law_place" 3 3 Ai):Ok Ω 4 f fd Mx Dq:=by
 refine az (N:=Ld) F (Bl.drp (Mq B Cq7 Cq9)) (by kernel_rfl!) ?_
 rintro ds S W ⟨k,b,d,ws,rfl,hp,hb,hS,hd,hws,hw⟩ hl
 obtain⟨hw1,hw2,hw3⟩:=id hws
 have hlen:((ws.map D.int).length:Int)=(ws.length:Int):=by rw[y8]
 walk_at "b"
 refine du hp (by omega) (by rw[hlen];omega) (by rw[hlen];omega) λ t S1 t0 t1 u1 p1=>?_
 obtain⟨w,g1,g2,gw1,gw2⟩:=N6 hws t0 t1
 obtain⟨tn,rfl⟩:∃tn:Nat,t=(tn:Int):=⟨t.toNat,by omega⟩
 walk_at "b"
 refine⟨_,g1,?_⟩
 walk_at "b"
 refine⟨rfl,k,_,d,w,rfl,p1,by omega,hd,gw1,gw2,u1.flat hS,λ pl S2 hpl hpf u2 p2=>?_⟩
 have u2:=u1.trans u2
 walk_at "b"
 refine du p2 (by omega) (by decide) (by decide) λ sx Sa sx0 sx1 ua pa=>?_
 have ua:=u2.trans ua
 walk_at "b"
 refine⟨⟨by omega,by omega⟩,jM (λ y=>∃n:Int,y=.int n/\(-99≤n/\n≤99)) (λ j T=>aF S k T/\aJ T k (b+10+j)) (by rw[ao];omega) ⟨ua,pa.mono (by omega)⟩ ?_ ?_⟩
 . rintro j e T he ⟨u6,p6⟩ R hR
   have hj:=(aL he).1
   walk_at "b"
   refine du p6 (by omega) (by decide) (by decide) λ y S7 y0 y1 u7 p7=>?_
   walk_at "b"
   exact hR _ _ ⟨_,rfl,by omega,by omega⟩ ⟨u6.trans u7,p7⟩
 rintro ys Sb hyl hys ⟨ub,pb⟩
 obtain⟨fs,rfl,hfb⟩:=gP hys
 rw[ao,y8]at hyl
 rw[ao]at pb
 have hfl:fs.length=d:=by omega
 have pb:=pb.mono (b':=b+13) (by omega)
 have hst:StB d (sx-3,fs):=⟨hfl,hfb,by show _<sx-3;omega,by show sx-3<_;omega⟩
 walk_at "b"
 refine⟨_,_,rfl,rfl,by simp;omega,?_⟩
 walk_at "b"
 refine aQ (R:=[[]]) pb (by omega) (by decide) (by decide) λ n S3 n0 n1 u3 p3=>?_
 have u3:=ub.trans u3
 walk_at "b"
 refine⟨⟨by omega,by omega⟩,aO ⟨λ i Γ' T=>∃(S':Store) (rds:List Rd) (o6 o7:Option D),Γ'=[some (.loc k),some (dWs ws),some (.int d),some (.int tn),some (dP pl),some (dF (sx-3,fs)),some (.loc S.length),o6,o7]/\T=S'++[rds.map dRd]/\rds.length=i/\(∀r∈rds,RdB ws d r)/\aF S k S'/\aJ S' k (b+15+11*i),⟨S3,[],none,none,by rw[←ub.len];rfl,rfl,rfl,(λ r h=>by cases h),u3,p3.mono (by omega)⟩,?_,?_⟩⟩
 . rintro i e Γ' T he ⟨S4,rds,o6,o7,rfl,rfl,hrl,hrd,u4,p4⟩
   obtain⟨hi,rfl⟩:=aL he
   have hi:i<3:=by omega
   have en:∀S',aF S k S'->S.length=S'.length:=λ S' u=>u.len.symm
   walk_at "b"
   refine aQ p4 (by omega) (by rw[hlen];omega) (by rw[hlen];omega) λ o S5 o0 o1 u5 p5=>?_
   have u5:=u4.trans u5
   obtain⟨w',g1',g2',gw1',gw2'⟩:=N6 hws o0 o1
   obtain⟨on,rfl⟩:∃on:Nat,o=(on:Int):=⟨o.toNat,by omega⟩
   walk_at "b"
   refine aQ p5 (by omega) (by decide) (by decide) λ f S6 f0 f1 u6 p6=>?_
   have u6:=u5.trans u6
   walk_at "b"
   refine⟨_,g1',?_⟩
   walk_at "b"
   refine⟨rfl,k,_,d,w',rfl,p6.app _,by omega,hd,gw1',gw2',RC (u6.flat hS) (rR _),λ pl' T7 hpl' hpf' u7 p7=>?_⟩
   obtain⟨S7,rfl,u7,p7⟩:=u7.split p6 p7
   have u7:=u6.trans u7
   walk_at "b"
   refine⟨_,oO (en S7 u7),by simp;omega,?_⟩
   rw[zZ (en S7 u7)]
   refine⟨S7,rds++[⟨f-2,on,pl'⟩],_,_,rfl,by rw[List.map_append];rfl,by simp[hrl],λ r hr=>?_,u7,p7.mono (by omega)⟩
   rcases ZK.mp hr with hr | hr
   . exact hrd r hr
   . rw[ZL.mp hr]
     exact⟨by show _<f-2;omega,by show f-2<_;omega,w',by simpa using g2',hpl',hpf'⟩
 . rintro Γ' T ⟨S4,rds,o6,o7,rfl,rfl,hrl,hrd,u4,p4⟩
   rw[ao]at hrl p4
   have en:S.length=S4.length:=u4.len.symm
   walk_at "b"
   refine⟨_,oO en,?_⟩
   walk_at "b"
   have ok:DdB ws d ⟨tn,pl,(sx-3,fs),rds⟩:=⟨⟨w,by simpa using g2,hpl,hpf⟩,hst,by show rds.length≤3;omega,hrd⟩
   exact .inr ⟨_,S4,rfl,by rw[u4.len];exact x4 _,vB ⟨tn,pl,(sx-3,fs),rds⟩,u4.flat hS,hw ⟨tn,pl,(sx-3,fs),rds⟩ S4 ok u4 (p4.mono (by omega))⟩
noncomputable def NsB(ws:List Int)(m:Nat)(n:Ns):Prop:=Lps n.lps/\1≤n.dds.length/\n.dds.length≤4/\m=m/\∀x∈n.dds,DdB ws n.lps.length x
noncomputable def PgB(m:Nat)(p:Pg):Prop:=WsB p.ws/\1≤p.nss.length/\p.nss.length≤3/\∀n∈p.nss,NsB p.ws m n
theorem Gi(xs:List Dd):ak (xs.map dDd)=true:=by
 induction xs with
 | nil=>rfl
 | cons y ys ih=>simp only[List.map_cons,ak,ih,vB,Bool.and_true]
theorem Iw(n:Ns):aq (dNs n)=true:=by
 show ak [.tup (n.lps.map dL),.tup (n.dds.map dDd)]=true
 have h1:aq (.tup (n.lps.map dL))=true:=gn _
 have h2:aq (.tup (n.dds.map dDd))=true:=Gi _
 simp only[ak,h1,h2,Bool.and_true]
theorem lu(xs:List Ns):ak (xs.map dNs)=true:=by
 induction xs with
 | nil=>rfl
 | cons y ys ih=>simp only[List.map_cons,ak,ih,Iw,Bool.and_true]
theorem Ji(p:Pg):aq (dPg p)=true:=by
 show ak [dWs p.ws,.tup (p.nss.map dNs)]=true
 have h1:aq (dWs p.ws)=true:=dU _
 have h2:aq (.tup (p.nss.map dNs))=true:=lu _
 simp only[ak,h1,h2,Bool.and_true]
theorem all_map{α:Type}{enc:α->D}{q:D->Bool}{l:List α}(h:∀a∈l,q (enc a)=true):(l.map enc).all q=true:=by
 rw[List.all_eq_true]
 intro x hx
 obtain⟨a,ha,rfl⟩:=ZO.mp hx
 exact h a ha
theorem fY{α:Type}{enc:α->D}{l:List α}{b:Int}(h1:a≤(l.length:Int))(h2:(l.length:Int)≤b):bC (.tup (l.map enc)) a b=true:=by
 show(decide _&&decide _)=true
 rw[y8,ZG h1,ZG h2];rfl
theorem uG{f:Fm}(h:f.2.length=d):cJ (dF f) (d:Int)=true:=by
 show(decide _&&((f.1::f.2).map D.int).all whole)=true
 rw[ZG (by simp;omega),all_map (λ _ _=>rfl)];rfl
theorem yZ{b n:Int}(h1:a≤n)(h2:n≤b):rngD a b (.int n)=true:=by
 show(decide _&&decide _)=true
 rw[ZG h1,ZG h2];rfl
theorem Nt{f:Fm}(h:FmB d 1 f):isPlace (d:Int) (dF f)=true:=by
 obtain⟨h1,h2,h3⟩:=h
 show(cJ (dF f) (d:Int)&&((f.1::f.2).map D.int).all (rngD (-99) 99))=true
 rw[uG h1,all_map λ n hn=>?_]
 . rfl
 . rcases ZJ.mp hn with rfl | hn
   . exact yZ (by omega) (by omega)
   . exact yZ (h2 n hn).1 (h2 n hn).2
theorem Ax{n:Int}(h1: -1000000000000000000000000000000<n)(h2:n<1000000000000000000000000000000):qg n=true:=by
 unfold qg
 rw[Uk]
 exact ZG (by split<;>omega)
theorem KZ{f:Fm}(h:StB d f):isStart (dF f) (d:Int)=true:=by
 obtain⟨h1,h2,h3,h4⟩:=h
 show(cJ (dF f) (d:Int)&&((f.1::f.2).map D.int).all uC)=true
 rw[uG h1,all_map λ n hn=>?_]
 . rfl
 . rcases ZJ.mp hn with rfl | hn
   . exact Ax h3 h4
   . have:=h2 n hn
     exact Ax (by omega) (by omega)
theorem N7{t:Nat}{pl:List Fm}(h:TpB ws d t pl):jt (.int t) (dP pl) ws (d:Int)=true:=by
 obtain⟨w,hw,hl,hf⟩:=h
 have ht:=(y3.mp hw).1
 have e:ws.getD ((t:Int)).toNat 0=w:=by simp[List.getD,hw]
 show((decide _&&decide _)&&(bC (.tup (pl.map dF)) (ws.getD ((t:Int)).toNat 0) (ws.getD ((t:Int)).toNat 0)&&(pl.map dF).all (isPlace d)))=true
 rw[e,ZG (p:=(0:Int)≤t) (by omega),ZG (p:=(t:Int)<ws.length) (by omega),fY (by omega) (by omega),all_map λ f hf'=>Nt (hf f hf')];rfl
theorem Qd{x:Dd}(h:DdB ws d x):d9 ws (d:Int) (dDd x)=true:=by
 obtain⟨h1,h2,h3,h4⟩:=h
 show(jt (.int x.tab) (dP x.pl) ws d&&(isStart (dF x.st) d&&(bC (.tup (x.rds.map dRd)) 0 3&&(x.rds.map dRd).all (jA ws d))))=true
 rw[N7 h1,KZ h2,fY (by omega) (by omega),all_map λ r hr=>?_]
 . rfl
 . obtain⟨a,b,c⟩:=h4 r hr
   show(qg r.fac&&jt (.int r.tab) (dP r.pl) ws d)=true
   rw[Ax a b,N7 c];rfl
theorem xV{f:Fm}(h:BdF f i):bQ (dF f) (i:Int)=true:=by
 obtain⟨h1,h2,h3,h4⟩:=h
 show(cJ (dF f) (i:Int)&&(decide _&&(decide _&&(f.2.map D.int).all small)))=true
 rw[uG h1,ZG h2,ZG h3,all_map λ n hn=>?_]
 . rfl
 . have:=h4 n hn
   show(decide _&&decide _)=true
   rw[ZG this.1,ZG this.2];rfl
theorem Mu{ls:List Lp}(h:Lps ls):fB (.tup (ls.map dL))=true:=by
 obtain⟨h1,h2,h3⟩:=h
 show((decide _&&decide _)&&((ls.map dL).mapIdx λ i d=>gZ d i).all id)=true
 rw[y8,ZG (by omega),ZG (by omega),List.all_eq_true.mpr λ b hb=>?_]
 . rfl
 . obtain⟨i,hi⟩:=ZR hb
   rw[List.getElem?_mapIdx,y9]at hi
   cases e:ls[i]? with
   | none=>rw[e]at hi;cases hi
   | some l=>
     rw[e]at hi
     cases hi
     show(bQ (dF l.1) i&&bQ (dF l.2) i)=true
     rw[xV (h3 i l e).1,xV (h3 i l e).2];rfl
theorem Qm{n:Ns}(h:NsB ws m n):gM ws (dNs n)=true:=by
 obtain⟨h1,h2,h3,h4,h5⟩:=h
 show(fB (.tup (n.lps.map dL))&&(bC (.tup (n.dds.map dDd)) 1 4&&(n.dds.map dDd).all (d9 ws ((n.lps.map dL).length:Int))))=true
 rw[Mu h1,fY (by omega) (by omega),y8,all_map λ x hx=>Qd (h5 x hx)];rfl
theorem PgB.widths{p:Pg}(h:PgB m p):iH (dWs p.ws)=true:=by
 obtain⟨⟨h1,h2,h3⟩,_⟩:=h
 show(bC (.tup (p.ws.map D.int)) 1 3&&(p.ws.map D.int).all (rngD 1 2))=true
 rw[fY (by omega) (by omega),all_map λ w hw=>yZ (h3 w hw).1 (h3 w hw).2];rfl
theorem PgB.nests{p:Pg}(h:PgB m p):oF (.tup (p.nss.map dNs)) p.ws=true:=by
 obtain⟨_,h1,h2,h3⟩:=h
 show(bC (.tup (p.nss.map dNs)) 1 3&&(p.nss.map dNs).all (gM p.ws))=true
 rw[fY (by omega) (by omega),all_map λ n hn=>Qm (h3 n hn)];rfl
theorem PgB.ok{p:Pg}(h:PgB m p):∀n∈p.nss,m8 n:=λ n hn=>by
 obtain⟨h1,h2,h3,_⟩:=h.2.2.2 n hn
 exact⟨h1.1,h1.fits,by omega⟩
theorem TpB.pl{t:Nat}{pl:List Fm}(hW:WsB ws)(hd:d≤3)(h:TpB ws d t pl):Gw pl:=by
 obtain⟨w,hw,hl,hf⟩:=h
 have:=hW.2.2 w (y6 hw)
 exact⟨by omega,λ f hf'=>by rw[(hf f hf').1];omega⟩
theorem PgB.deeds{p:Pg}(h:PgB m p):∀n∈p.nss,m8 n/\∀x∈n.dds,Lb x:=λ n hn=>by
 refine⟨h.ok n hn,λ x hx=>?_⟩
 obtain⟨hL,_,_,_,hd⟩:=h.2.2.2 n hn
 obtain⟨h1,h2,h3,h4⟩:=hd x hx
 exact⟨h1.pl h.1 hL.2.1,by omega,λ r hr=>(h4 r hr).2.2.pl h.1 hL.2.1⟩
theorem Fq(i:Nat)(n:Ns):(cW i n).length=(cnt n.lps).length*n.dds.length:=by
 unfold cW
 generalize cnt n.lps=l
 induction l with
 | nil=>simp
 | cons c l ih=>rw[List.flatMap_cons,x9,ih,List.length_cons,Nat.succ_mul];simp[Nat.add_comm]
theorem su(nss:List Ns):((aV nss).length:Int)=many nss:=by
 have:∀i,i≤nss.length->((aV (nss.take i)).length:Int)=many (nss.take i):=by
  intro i
  induction i with
  | zero=>intro _;rfl
  | succ i ih=>
    intro hi
    have hl:=y4 (l:=nss) (i:=i) (by omega)
    rw[jk hl,x9,Int.natCast_add,ih (by omega),Fq,aD hl]
    unfold many
    rw[List.map_append,List.sum_append]
    simp
 have:=this nss.length (x4 _)
 rw[List.take_length]at this
 exact this
theorem La{p:Pg}{W:WD}(h:PgB 0 p)(h24:many p.nss≤60)(hS:flat S)(w:W (dPg p) S):xZ [dWs p.ws,.tup (p.nss.map dNs)] S W:=
 ⟨p,rfl,h.widths,h.nests,by have:=h.2.2.1;omega,h.ok,by omega,hS,w⟩
theorem vp{p:Pg}{W:WD}(h:PgB 0 p)(h24:many p.nss≤60)(hS:flat S)(w:W (.lst ((aV p.nss).map (eV p))) S):iV [dPg p] S W:=
 ⟨p,rfl,by have:=h.2.2.1;omega,h.deeds,by have:=su p.nss;omega,hS,w⟩
theorem b7{d:D}{Γ:Gam}{R:Gam->Prop}(h:R (Γ.set j (some d))):(Tg.nm j).wp d Γ R:=h
theorem Ed{α:Type}{enc:α->D}{P:α->Prop}:∀{ys:List D},(∀y∈ys,∃a,y=enc a/\P a)->∃as,ys=List.map enc as/\∀a∈as,P a
 | [],_=>⟨[],rfl,by simp⟩
 | y::ys,h=>by
   obtain⟨a,rfl,ha⟩:=h y x8
   obtain⟨as,rfl,has⟩:=Ed (enc:=enc) (P:=P) (ys:=ys) λ y h'=>h y (x5 _ h')
   exact⟨a::as,rfl,λ b hb=>(ZJ.mp hb).elim (λ e=>e▸ha) (has b)⟩
theorem atJ{N:List D}(h:n=S.length+1+j):(S++N::J)[n]? =J[j]?:=by
 subst h
 rw[List.getElem?_append_right (by omega),show S.length+1+j-S.length=j+1 from by omega,List.getElem?_cons_succ]
theorem Vz{N x:List D}(h:n=S.length+1+j):(S++N::J).set n x=S++N::J.set j x:=by
 subst h
 rw[List.set_append_right _ _ (by omega),show S.length+1+j-S.length=j+1 from by omega];rfl
theorem oJ{N:List D}(hS:flat S)(hN:ak N=true)(hJ:flat J):flat (S++N::J):=λ l hl=>by
 rcases ZK.mp hl with hl | hl
 . exact hS l hl
 . rcases ZJ.mp hl with rfl | hl
   . exact hN
   . exact hJ l hl
theorem Mr{x:List D}(h:flat J)(hx:ak x=true):flat (J.set j x):=λ l hl=>by
 rcases List.mem_or_eq_of_mem_set hl with hl | rfl
 . exact h l hl
 . exact hx
theorem Kc(nss:List Ns)(n:Ns):many (nss++[n])=many nss+((cnt n.lps).length:Int)*(n.dds.length:Int):=by
 unfold many
 rw[List.map_append,List.sum_append];simp
theorem Mj:(cnt [((0,[]),(0,[]))]).length=0:=by decide
theorem Mg:Lps [((0,[]),(0,[]))]:=⟨by decide,by decide,λ i l h=>by
 match i,h with
 | 0,h=>cases h;exact⟨⟨rfl,by decide,by decide,λ n hn=>by cases hn⟩,⟨rfl,by decide,by decide,λ n hn=>by cases hn⟩⟩
 | i+1,h=>simp at h⟩
noncomputable def DQ:Ct:=λ ds S W=>∃(k b:Nat),ds=[.loc k]/\aJ S k b/\b≤100/\flat S/\∀p S',PgB 0 p->many p.nss≤60->aF S k S'->aJ S' k (b+1000)->W (dPg p) S'
noncomputable def N5(L:Int)(S:Store)(k b:Nat)(ws:List Int)(i:Nat)(Γ':Gam)(T:Store):Prop:=∃(S':Store) (nss:List Ns) (J:Store) (l:Int) (o4 o5 o6 o7:Option D),Γ'=[some (.loc k),some (dWs ws),some (.int l),some (.loc S.length),o4,o5,o6,o7]/\T=S'++nss.map dNs::J/\nss.length=i/\(∀n∈nss,NsB ws 0 n)/\many nss+l=L/\0≤l/\flat J/\aF S k S'/\aJ S' k (b+6+230*i)
theorem xg(F:Fun Ω.K "_law_program" "_law_program" jz f fd)(B:Bi Ω.mg)(Cq45:Cal Ω "program_of" 10 2 xZ)(Cq7:Cal Ω "_law_next" 2 2 cM)(Cq6:Cal Ω "_law_loops" 3 1 yC)(Cq2:Cal Ω "_law_count" 2 1 Js)(Cq3:Cal Ω "_law_deed" 4 3 Dq):Ok Ω 11 f fd CV DQ:=by
 refine az (N:=Ca) F (Bl.drp (Dk B Cq45 Cq7 Cq6 Cq2 Cq3)) (by kernel_rfl!) ?_
 rintro ds S W ⟨k,b,rfl,hp,hb,hS,hw⟩ hl
 walk_at "b"
 refine du hp (by omega) (by decide) (by decide) λ v S1 v0 v1 u1 p1=>?_
 walk_at "b"
 refine⟨⟨by omega,by omega⟩,jM (λ y=>∃n:Int,y=.int n/\(1≤n/\n≤2)) (λ j T=>aF S k T/\aJ T k (b+1+j)) (by rw[ao];omega) ⟨u1,p1⟩ ?_ ?_⟩
 . rintro j d T hd ⟨u,p⟩ R hR
   have hj:=(aL hd).1
   walk_at "b"
   refine du p (by omega) (by decide) (by decide) λ w S2 w0 w1 u2 p2=>?_
   walk_at "b"
   exact hR _ _ ⟨_,rfl,by omega,by omega⟩ ⟨u.trans u2,p2⟩
 rintro ys S2 hyl hys ⟨u2,p2⟩
 obtain⟨ws,rfl,hws⟩:=gP hys
 rw[ao,y8]at hyl
 rw[ao]at p2
 have hW:WsB ws:=⟨by omega,by omega,hws⟩
 have p2:=p2.mono (b':=b+4) (by omega)
 walk_at "b"
 refine aQ (R:=[[]]) p2 (by omega) (by decide) (by decide) λ mv S3 m0 m1 u3 p3=>?_
 have u3:=u2.trans u3
 walk_at "b"
 refine⟨⟨by omega,by omega⟩,aO ⟨N5 24 S k b ws,⟨S3,[],[],24,none,none,none,none,by rw[←u2.len];rfl,rfl,rfl,(λ n h=>by cases h),by show many []+24=24;unfold many;simp,by decide,(λ l h=>by cases h),u3,p3.mono (by omega)⟩,?_,?_⟩⟩
 . rintro i e Γ' T he ⟨S4,nss,J,l,o4,o5,o6,o7,rfl,rfl,hnl,hns,hml,hl0,hJ,u4,p4⟩
   obtain⟨hi,rfl⟩:=aL he
   have hi:i<3:=by omega
   suffices body:∀Wf:DL.Fin,(∀G T,N5 24 S k b ws (i+1) G T->Wf.nx G T)->(jW B Cq45 Cq7 Cq6 Cq2 Cq3).wp [some (.loc k),some (dWs ws),some (.int l),some (.loc S.length),some (.int (0+(i:Int))),o5,o6,o7] (S4++nss.map dNs::J) Wf by
    refine b7 ?_
    simp only[List.set_cons_succ,List.set_cons_zero]
    exact body _ λ G T h=>h
   intro Wf hnx
   have nN:=lu nss
   walk_at "b"
   refine⟨rfl,k,_,rfl,p4.app _,by omega,oJ (u4.flat hS) nN hJ,λ ls T5 J5 hL u5 p5 fJ5=>?_⟩
   obtain⟨S5,rfl,u5,p5⟩:=u5.split p4 p5
   have u5:=u4.trans u5
   have e1:(S5++nss.map dNs::J)++ls.map dL::J5=S5++nss.map dNs::(J++ls.map dL::J5):=by simp
   have e2:(S4++nss.map dNs::J).length=S.length+1+J.length:=by simp[u4.len];omega
   rw[e1,e2]
   walk_at "b"
   refine aQ p5 (by omega) (by decide) (by decide) λ mv S6 m0 m1 u6 p6=>?_
   have u6:=u5.trans u6
   obtain⟨mn,hmn⟩:∃n:Nat,1+mv=(n:Int):=⟨(1+mv).toNat,by omega⟩
   have en:∀S',aF S k S'->S.length=S'.length:=λ S' u=>u.len.symm
   have rest:∀(q j':Nat)(ls':List Lp)(J':Store),q=S.length+1+j'->J'[j']? =some (ls'.map dL)->Lps ls'->((cnt ls').length:Int)*(mn:Int)≤l->flat J'->(iw B Cq45 Cq7 Cq6 Cq2 Cq3).wp [some (.loc k),some (dWs ws),some (.int l),some (.loc S.length),some (.int (0+(i:Int))),some (.loc q),some (.int mn),o7] (S6++nss.map dNs::J') Wf:=by
    intro q j' ls' J' hq hj' hL' hle fJ'
    have l3:=hL'.2.1
    have get:∀S',aF S k S'->(S'++nss.map dNs::J')[q]? =some (ls'.map dL):=λ S' u=>by rw[atJ (by rw[u.len];exact hq)];exact hj'
    walk_at "b"
    refine⟨rfl,_,ls',rfl,.inr ⟨_,rfl,get S6 u6⟩,hL',oJ (u6.flat hS) nN fJ',?_⟩
    walk_at "b"
    refine⟨⟨by omega,by omega⟩,jM (λ y=>∃x,y=dDd x/\DdB ws ls'.length x) (λ j T=>∃S',T=S'++nss.map dNs::J'/\aF S k S'/\aJ S' k (b+6+230*i+21+50*j)) (by rw[ao];omega) ⟨S6,rfl,u6,p6.mono (by omega)⟩ ?_ ?_⟩
    . rintro j d T hd ⟨S7,rfl,u7,p7⟩ R hR
      have hj:=(aL hd).1
      walk_at "b"
      refine⟨_,get S7 u7,?_⟩
      walk_at "b"
      rw[y8]
      refine⟨rfl,k,_,ls'.length,ws,rfl,p7.app _,by omega,oJ (u7.flat hS) nN fJ',l3,hW,λ x T8 hx u8 p8=>?_⟩
      obtain⟨S8,rfl,u8,p8⟩:=u8.split p7 p8
      exact hR _ _ ⟨x,rfl,hx⟩ ⟨S8,rfl,u7.trans u8,p8.mono (by omega)⟩
    rintro ys T hyl hys ⟨S7,rfl,u7,p7⟩
    obtain⟨dds,rfl,hdds⟩:=Ed hys
    rw[ao,y8]at hyl
    rw[ao]at p7
    walk_at "b"
    refine⟨_,get S7 u7,?_⟩
    walk_at "b"
    refine⟨_,at1 (en S7 u7),by simp;omega,?_⟩
    rw[S9 (en S7 u7)]
    refine hnx _ _ ⟨S7,nss++[⟨ls',dds⟩],J',l-((cnt ls').length:Int)*(mn:Int),_,_,_,_,rfl,by rw[List.map_append];rfl,by simp[hnl],λ n hn=>?_,?_,by omega,fJ',u7,p7.mono (by omega)⟩
    . rcases ZK.mp hn with hn | hn
      . exact hns n hn
      . rw[ZL.mp hn]
        exact⟨hL',by show 1≤dds.length;omega,by show dds.length≤4;omega,rfl,hdds⟩
    . rw[Kc]
      show many nss+((cnt ls').length:Int)*(dds.length:Int)+_=24
      rw[show(dds.length:Int)=(mn:Int)from by omega]
      omega
   walk_at "b"
   rw[hmn]
   refine Mi ⟨λ m Γ' T=>∃(ls:List Lp) (J':Store),Γ'=[some (.loc k),some (dWs ws),some (.int l),some (.loc S.length),some (.int (0+(i:Int))),some (.loc (S.length+1+J.length)),some (.int mn),o7]/\T=S6++nss.map dNs::J'/\J'[J.length]? =some (ls.map dL)/\flat J'/\ls.length=m/\Lps ls,ls.length,⟨ls,_,rfl,rfl,by simp,?_,rfl,hL⟩,?_⟩
   . intro x hx
     rcases ZK.mp hx with hx | hx
     . exact hJ x hx
     . rcases ZJ.mp hx with rfl | hx
       . exact gn ls
       . exact fJ5 x hx
   clear hL e1 e2
   rintro m Γ' T ⟨ls,J',rfl,rfl,hj,fJ',hm,hL⟩
   have hq:∀S',aF S k S'->S.length+1+J.length=S'.length+1+J.length:=λ S' u=>by rw[u.len]
   have get:(S6++nss.map dNs::J')[S.length+1+J.length]? =some (ls.map dL):=by rw[atJ (hq S6 u6)];exact hj
   have out:(ik B Cq45 Cq7 Cq6 Cq2 Cq3).wp [some (.loc k),some (dWs ws),some (.int l),some (.loc S.length),some (.int (0+(i:Int))),some (.loc (S.length+1+J.length)),some (.int mn),o7] (S6++nss.map dNs::J') Wf:=by
    walk_at "b"
    refine⟨rfl,_,ls,rfl,.inr ⟨_,rfl,get⟩,hL,oJ (u6.flat hS) nN fJ',?_⟩
    walk_at "b"
    refine⟨λ c=>?_,λ c=>rest _ J.length ls J' rfl hj hL (by have:=of_decide_eq_false c;omega) fJ'⟩
    walk_at "b"
    have e3:(S6++nss.map dNs::J').length=S.length+1+J'.length:=by simp[u6.len];omega
    have e4:(S6++nss.map dNs::J')++[[D.tup [.tup [.int 0],.tup [.int 0]]]]=S6++nss.map dNs::(J'++[[D.tup [.tup [.int 0],.tup [.int 0]]]]):=by simp
    rw[e3,e4]
    exact rest _ J'.length [((0,[]),(0,[]))] _ rfl (by simp;rfl) Mg (by rw[Mj];simp;omega) λ x hx=>by
     rcases ZK.mp hx with hx | hx
     . exact fJ' x hx
     . rw[ZL.mp hx];rfl
   walk_at "b"
   refine⟨_,get,?_⟩
   walk_at "b"
   refine⟨λ c=>?_,λ c=>⟨λ z=>ff z,λ _=>out⟩⟩
   have c:=ZF c
   rw[y8]at c
   walk_at "b"
   refine⟨rfl,_,ls,rfl,.inr ⟨_,rfl,get⟩,hL,oJ (u6.flat hS) nN fJ',?_⟩
   walk_at "b"
   refine⟨λ _=>?_,λ _=>out⟩
   walk_at "b"
   obtain⟨x,hx⟩:∃x,ls[ls.length-1]? =some x:=⟨_,y4 (by omega)⟩
   refine⟨_,dL x,get,by rw[y8,y9,hx];rfl,?_⟩
   walk_at "b"
   have hcut:lg ls.dropLast:=lg.cut hL.2.2
   refine⟨m-1,by omega,ls.dropLast,J'.set J.length (ls.dropLast.map dL),rfl,?_,?_,Mr fJ' (gn _),by rw[List.length_dropLast];omega,⟨by rw[List.length_dropLast];omega,by rw[List.length_dropLast];have:=hL.2.1;omega,hcut⟩⟩
   . rw[Vz (hq S6 u6),List.map_dropLast]
   . rw[List.getElem?_set_self (y3.mp hj).1]
 . rintro Γ' T ⟨S4,nss,J,l,o4,o5,o6,o7,rfl,rfl,hnl,hns,hml,hl0,hJ,u4,p4⟩
   rw[ao]at hnl p4
   have ok:PgB 0 ⟨ws,nss⟩:=⟨hW,by show 1≤nss.length;omega,by show nss.length≤3;omega,hns⟩
   have h24:many nss≤60:=by omega
   walk_at "b"
   refine⟨_,at1 u4.len.symm,?_⟩
   walk_at "b"
   refine⟨rfl,La (p:=⟨ws,nss⟩) ok h24 (oJ (u4.flat hS) (lu nss) hJ) ?_⟩
   exact .inr ⟨_,S4,rfl,by rw[u4.len];exact x4 _,Ji ⟨ws,nss⟩,u4.flat hS,hw ⟨ws,nss⟩ _ ok h24 u4 (p4.mono (by omega))⟩
noncomputable def toC(c:Cell):Int×List Int:=((c.1:Int),c.2)
theorem MK(l:List Cell):l.map aN=(l.map toC).map cD:=by rw[List.map_map];rfl
noncomputable def tch(a b:Cell×List Cell):List Cell:=(if a.1=b.1∨a.1∈b.2 then[a.1]else[])++(if b.1∈a.2 then[b.1]else[])
noncomputable def iy(a b:Cell×List Cell):Bool:=(decide (a.1=b.1)||decide (a.1∈b.2))||decide (b.1∈a.2)
noncomputable def dCR(a:Cell×List Cell):D:=.tup [aN a.1,.lst (a.2.map aN)]
theorem uR:∀(xs ys:List Int),cA (xs.map D.int) (ys.map D.int)=decide (xs=ys)
 | [],[]=>by simp[cA]
 | [],_::_=>by simp[cA]
 | _::_,[]=>by simp[cA]
 | x::xs,y::ys=>by
   simp only[List.map_cons,cA,eqD,uR xs ys]
   rw[Bool.eq_iff_iff]
   simp
theorem Aq(a b:Cell):eqD (aN a) (aN b)=decide (a=b):=by
 unfold aN
 simp only[eqD,cA,uR,Bool.and_true]
 rw[Bool.eq_iff_iff]
 simp[Prod.ext_iff]
 intro _
 omega
theorem Lj(c:Cell)(l:List Cell):((l.map aN).any λ d=>eqD d (aN c))=decide (c∈l):=by
 rw[List.any_map]
 rw[Bool.eq_iff_iff,List.any_eq_true]
 simp only[Function.comp_apply,Aq,decide_eq_true_eq]
 exact⟨λ⟨x,h1,h2⟩=>h2▸h1,λ h=>⟨c,h,rfl⟩⟩
theorem mY:∀xs:List Int,bN (xs.map D.int)=true
 | []=>rfl
 | x::xs=>by simp only[List.map_cons,bN,okD,mY xs,Bool.and_true]
theorem jZ:∀xs:List Int,aY (xs.map D.int)=0
 | []=>rfl
 | x::xs=>by simp only[List.map_cons,aY,deep,jZ xs];rfl
theorem j4(c:Cell):okD (aN c)=true:=by unfold aN;simp only[okD,bN,mY,Bool.and_true]
theorem vC(c:Cell):deep (aN c)=2:=by unfold aN;simp only[deep,aY,jZ];rfl
theorem rG:∀l:List Cell,bN (l.map aN)=true
 | []=>rfl
 | c::l=>by simp only[List.map_cons,bN,j4,rG l,Bool.and_true]
theorem pP:∀l:List Cell,aY (l.map aN)≤2
 | []=>by simp[aY]
 | c::l=>by have:=pP l;simp only[List.map_cons,aY,vC];omega
theorem cell_eq{a b:Cell}{W:Bool->Store->Prop}(w:W (decide (a=b)) S):bf .Eq (aN a) (aN b) S W:=by
 rw[←Aq]at w
 unfold bf
 exact⟨⟨j4 a,j4 b,by show deep (aN a)≤50;rw[vC];decide⟩,w⟩
theorem cell_in{c:Cell}{l:List Cell}{W:Bool->Store->Prop}(w:W (decide (c∈l)) S):bf .In (aN c) (.lst (l.map aN)) S W:=by
 rw[←Lj]at w
 exact cIn (ds:=l.map aN) rfl (j4 c) (rG l) (Nat.le_trans (pP l) (by decide)) w
theorem LC(l:List Cell):((sset id (l.map toC)).map cD).isEmpty=l.isEmpty:=by
 match l with
 | []=>rfl
 | [a]=>rfl
 | [a,b]=>
   show((if toC b=toC a then[toC a]else if ltC (toC b) (toC a)=true then[toC b,toC a]else[toC a,toC b]).map cD).isEmpty=false
   split
   . rfl
   . split<;>rfl
 | _::_::_::_=>rfl
theorem Ep(a b:Cell×List Cell):(tch a b).length≤2:=by
 unfold tch
 split<;>split<;>simp
theorem Ph(a b:Cell×List Cell):(!(tch a b).isEmpty)=iy a b:=by
 unfold tch iy
 by_cases h1:a.1=b.1
 . simp[h1]
 . by_cases h2:a.1∈b.2
   . simp[h2]
   . by_cases h3:b.1∈a.2<;>simp[h1,h2,h3]
noncomputable def aK(p:Pg):List (Dd×List Int):=p.nss.flatMap λ n=>(cnt n.lps).flatMap λ cs=>n.dds.map λ x=>(x,cs)
noncomputable def crs(x:Dd×List Int):Cell×List Cell:=(spot x.1.tab x.1.pl x.2,x.1.rds.map λ r=>spot r.tab r.pl x.2)
theorem O9(x:Dd×List Int):dCR (crs x)=dCs x.1 x.2:=by
 unfold dCR crs dCs
 rw[List.map_map];rfl
theorem xf{α β:Type}{f g:α->List β}:∀{l:List α},(∀a∈l,f a=g a)->l.flatMap f=l.flatMap g
 | [],_=>rfl
 | a::l,h=>by rw[List.flatMap_cons,List.flatMap_cons,h a x8,xf λ x hx=>h x (x5 _ hx)]
theorem zj{p:Pg}{n:Ns}(h:p.nss[i]? =some n):(cW i n).map (eV p)=((cnt n.lps).flatMap λ cs=>n.dds.map λ x=>(x,cs)).map λ x=>dCR (crs x):=by
 unfold cW
 rw[List.map_flatMap,List.map_flatMap]
 refine xf λ cs _=>?_
 rw[List.map_map,List.map_map]
 apply List.ext_getElem
 . simp
 . intro s h1 h2
   have hs:s<n.dds.length:=by simpa using h2
   rw[List.getElem_map,List.getElem_map,List.getElem_range]
   show eV p (i,cs,s)=dCR (crs (n.dds[s],cs))
   rw[O9]
   unfold eV
   show(match p.nss[i]? with | some n=>(match n.dds[s]? with | some x=>dCs x cs | none=>D.non) | none=>D.non)=_
   rw[h]
   show(match n.dds[s]? with | some x=>dCs x cs | none=>D.non)=_
   rw[y4 hs]
theorem nD(p:Pg):(aV p.nss).map (eV p)=(aK p).map λ x=>dCR (crs x):=by
 unfold aV aK
 rw[List.map_flatten,List.map_flatMap,List.flatMap_def]
 congr 1
 apply List.ext_getElem
 . simp
 . intro i h1 h2
   have hi:i<p.nss.length:=by simpa using h2
   rw[List.getElem_map,List.getElem_mapIdx,List.getElem_map]
   exact zj (y4 hi)
theorem xH{l:List D}(h:n=S.length):(S++[l]++J)[n]? =some l:=by
 subst h
 rw[w9 (by simp)];exact bM _ _
theorem QZ{l l':List D}(h:n=S.length):(S++[l]++J).set n l'=S++[l']++J:=by
 subst h
 rw[List.set_append_left _ _ (by simp),bu]
noncomputable def ssC(a b:Cell×List Cell):List (Int×List Int):=sset id ((tch a b).map toC)
theorem QH(a b:Cell×List Cell):((ssC a b).map cD).isEmpty=(ssC a b).isEmpty:=by cases ssC a b<;>rfl
theorem QR(a b:Cell×List Cell):(ssC a b).length≤2:=by
 unfold ssC
 have h:=Ep a b
 generalize tch a b=l at h
 match l,h with
 | [],_=>exact Nat.zero_le _
 | [x],_=>exact Nat.le_succ _
 | [x,y],_=>
   show(if toC y=toC x then[toC x]else if ltC (toC y) (toC x)=true then[toC y,toC x]else[toC x,toC y]).length≤2
   split
   . exact Nat.le_succ _
   . split<;>exact x4 _
noncomputable def sX:Ct:=λ ds S W=>∃a b:Cell×List Cell,ds=[dCR a,dCR b]/\W (.loc (S.length+1)) (S++[(tch a b).map aN]++[(ssC a b).map cD])
theorem nC(F:Fun Ω.K "touched_cells" "touched_cells" dH f fd)(B:Bi Ω.mg):Ok Ω 1 f fd pg sX:=by
 refine az (N:=pH) F (pD B) (by kernel_rfl!) ?_
 rintro ds S W ⟨a,b,rfl,hw⟩ hl
 have fin:∀l:List Cell,l=tch a b->(eZ B).wp [some (dCR a),some (dCR b),some (.loc S.length)] (S++[l.map aN]) {nx:=λ _ S1=>W .non S1,rt:=W}:=by
  rintro l rfl
  walk_at "b"
  refine⟨(tch a b).map toC,by rw[y8];exact Ep a b,.inr ⟨_,rfl,?_⟩,?_⟩
  . rw[←MK];exact bM _ _
  . have e:(S++[(tch a b).map aN]).length=S.length+1:=by simp
    rw[e]
    exact hw
 have two:∀l:List Cell,l=(if a.1=b.1∨a.1∈b.2 then[a.1]else[])->(fc B).wp [some (dCR a),some (dCR b),some (.loc S.length)] (S++[l.map aN]) {nx:=λ _ S1=>W .non S1,rt:=W}:=by
  intro l el
  have hlen:l.length≤1:=by rw[el];split<;>simp
  walk_at "b"
  refine cell_in ?_
  by_cases h:b.1∈a.2
  . rw[ZG h]
    walk_at "b"
    refine⟨_,bM _ _,by rw[y8];omega,?_⟩
    rw[bu]
    have:=fin (l++[b.1]) (by unfold tch;rw[el,if_pos h])
    rw[List.map_append]at this
    exact this
  . rw[ZH h]
    walk_at "b"
    exact fin l (by unfold tch;rw[el,if_neg h,List.append_nil])
 walk_at "b"
 refine cell_eq ?_
 by_cases h:a.1=b.1
 . rw[ZG h]
   walk_at "b"
   refine⟨_,bM _ _,by simp,?_⟩
   rw[bu]
   exact two [a.1] (by rw[if_pos (.inl h)])
 . rw[ZH h]
   walk_at "b"
   refine cell_in ?_
   by_cases h2:a.1∈b.2
   . rw[ZG h2]
     walk_at "b"
     refine⟨_,bM _ _,by simp,?_⟩
     rw[bu]
     exact two [a.1] (by rw[if_pos (.inr h2)])
   . rw[ZH h2]
     refine bF ?_
     exact two [] (by rw[if_neg (λ z=>z.elim h h2)])
theorem Dw(c:List (Int×List Int)):(c.map cD).isEmpty=c.isEmpty:=by cases c<;>rfl
noncomputable abbrev Pr:=Nat×Nat×List (Int×List Int)
noncomputable abbrev CR:=Cell×List Cell
noncomputable def nu(xs:List CR)(i j:Nat):List Pr:=match xs[i]?,xs[j]? with
 | some a,some b=>if(ssC a b).isEmpty then[]else[(i,j,ssC a b)]
 | _,_=>[]
noncomputable def eY(xs:List CR)(i k:Nat):List Pr:=(List.range k).flatMap λ t=>nu xs i (i+1+t)
noncomputable def bc(xs:List CR)(k:Nat):List Pr:=(List.range k).flatMap λ i=>eY xs i (xs.length-(i+1))
theorem oN{xs:List CR}{a b:CR}(ha:xs[i]? =some a)(hb:xs[j]? =some b):nu xs i j=if(ssC a b).isEmpty then[]else[(i,j,ssC a b)]:=by
 unfold nu;rw[ha,hb]
theorem gm(xs:List CR)(i k:Nat):eY xs i (k+1)=eY xs i k++nu xs i (i+1+k):=by
 unfold eY;rw[List.range_succ,List.flatMap_append];simp
theorem km(xs:List CR)(k:Nat):bc xs (k+1)=bc xs k++eY xs k (xs.length-(k+1)):=by
 unfold bc;rw[List.range_succ,List.flatMap_append];simp
theorem Nq(xs:List CR)(i j:Nat):(nu xs i j).length≤1:=by
 unfold nu
 split
 . split<;>simp
 . simp
theorem m6(xs:List CR)(i:Nat):∀k,(eY xs i k).length≤k
 | 0=>by simp[eY]
 | k+1=>by rw[gm,x9];have:=m6 xs i k;have:=Nq xs i (i+1+k);omega
theorem iZ(xs:List CR):∀k,(bc xs k).length≤k*xs.length
 | 0=>by simp[bc]
 | k+1=>by
   rw[km,x9,Nat.succ_mul]
   have:=iZ xs k
   have:=m6 xs k (xs.length-(k+1))
   omega
inductive IsPr(n:Nat)(J:Store):List D->List Pr->Prop
 | nil:IsPr n J [] []
 | cons{m:Nat}{q:Pr}{ds:List D}{qs:List Pr}(h1:n+1≤m)(h2:J[m-(n+1)]? =some (q.2.2.map cD))(t:IsPr n J ds qs):IsPr n J (.tup [.int (q.1:Int),.int (q.2.1:Int),.loc m]::ds) (q::qs)
theorem IsPr.more{J':Store}{ds:List D}{qs:List Pr}(h:IsPr n J ds qs):IsPr n (J++J') ds qs:=by
 induction h with
 | nil=>exact .nil
 | cons h1 h2 _ ih=>exact .cons h1 (by rw[w9 (y3.mp h2).1];exact h2) ih
theorem IsPr.snoc{ds:List D}{qs:List Pr}{q:Pr}(h:IsPr n J ds qs)(h1:n+1≤m)(h2:J[m-(n+1)]? =some (q.2.2.map cD)):IsPr n J (ds++[.tup [.int (q.1:Int),.int (q.2.1:Int),.loc m]]) (qs++[q]):=by
 induction h with
 | nil=>exact .cons h1 h2 .nil
 | cons g1 g2 _ ih=>exact .cons g1 g2 ih
theorem IsPr.length{ds:List D}{qs:List Pr}(h:IsPr n J ds qs):ds.length=qs.length:=by
 induction h with
 | nil=>rfl
 | cons _ _ _ ih=>simp[ih]
noncomputable def qF:Ct:=λ ds S W=>∃(p:Pg),ds=[dPg p]/\PgB 0 p/\many p.nss≤60/\flat S/\∀its J,IsPr S.length J its (bc ((aK p).map crs) (aK p).length)->W (.loc S.length) (S++[its]++J)
theorem BR(p:Pg):(aV p.nss).length=(aK p).length:=by
 have:=congrArg List.length (nD p)
 rw[y8,y8]at this
 exact this
theorem uT(p:Pg):many p.nss=((aK p).length:Int):=by rw[←su,BR]
theorem dY{p:Pg}(h60:many p.nss≤60):(aK p).length≤60:=by
 have h2:=uT p
 omega
theorem FQ(F:Fun Ω.K "pairs" "pairs" ou f fd)(B:Bi Ω.mg)(Cq17:Cal Ω "cells_of" 5 1 iV)(Cq51:Cal Ω "touched_cells" 1 2 sX):Ok Ω 6 f fd J1 qF:=by
 refine az (N:=Jw) F (JS B Cq17 Cq51) (by kernel_rfl!) ?_
 rintro ds S W ⟨p,rfl,hP,h60,hS,hw⟩ hl
 have hN:=dY h60
 have eC:(aV p.nss).map (eV p)=((aK p).map crs).map dCR:=by rw[nD,List.map_map];rfl
 walk_at "b"
 refine⟨rfl,vp hP h60 hS ?_⟩
 rw[eC]
 have hL:((aK p).map crs).length=(aK p).length:=y8 _
 rw[←hL]at hw hN
 generalize (aK p).map crs=xs at*
 walk_at "b"
 rw[y8]
 refine⟨⟨by omega,by omega⟩,aO ⟨λ i Γ' S'=>∃o3 o4 o5 its J,Γ'=[some (dPg p),some (.lst (xs.map dCR)),some (.loc S.length),o3,o4,o5]/\S'=S++[its]++J/\IsPr S.length J its (bc xs i),⟨_,_,_,[],[],rfl,by simp,.nil⟩,?_,?_⟩⟩
 . rintro i e Γ' S' he ⟨o3,o4,o5,its,J,rfl,rfl,hp⟩
   obtain⟨hi,rfl⟩:=aL he
   have e2:(0:Int)+(i:Int)=(i:Int):=by omega
   rw[e2]
   have hi':i<xs.length:=by omega
   have ax:atI (xs.map dCR) ((i:Nat):Int)=some (dCR xs[i]):=aA (by rw[y9,y4 hi'];rfl)
   walk_at "b"
   rw[y8]
   refine⟨⟨by omega,by omega⟩,aO ⟨λ k Γ' S'=>∃o4 o5 its J,Γ'=[some (dPg p),some (.lst (xs.map dCR)),some (.loc S.length),some (.int (i:Int)),o4,o5]/\S'=S++[its]++J/\IsPr S.length J its (bc xs i++eY xs i k),⟨_,_,its,J,rfl,rfl,by unfold eY;simpa using hp⟩,?_,?_⟩⟩
   . rintro k e Γ' S' he ⟨o4,o5,its,J,rfl,rfl,hp⟩
     obtain⟨hk,rfl⟩:=aL he
     have e3:((i:Int)+1)+(k:Int)=((i+1+k:Nat):Int):=by omega
     rw[e3]
     have hj:i+1+k<xs.length:=by omega
     have aj:atI (xs.map dCR) ((i+1+k:Nat):Int)=some (dCR xs[i+1+k]):=aA (by rw[y9,y4 hj];rfl)
     have ePr:=oN (y4 hi') (y4 hj)
     walk_at "b"
     refine⟨_,ax,?_⟩
     walk_at "b"
     refine⟨_,aj,?_⟩
     walk_at "b"
     refine⟨rfl,xs[i],xs[i+1+k],rfl,?_⟩
     have eL:S++[its]++J++[(tch xs[i] xs[i+1+k]).map aN]++[(ssC xs[i] xs[i+1+k]).map cD]=S++[its]++(J++[(tch xs[i] xs[i+1+k]).map aN,(ssC xs[i] xs[i+1+k]).map cD]):=by simp
     rw[eL]
     have nm:(S++[its]++J).length+1=S.length+1+(J.length+1):=by simp;omega
     rw[nm]
     generalize hc:ssC xs[i] xs[i+1+k]=c at*
     generalize (tch xs[i] xs[i+1+k]).map aN=tl at*
     have hcl:c.length≤2:=by rw[←hc];exact QR _ _
     have hget:(S++[its]++(J++[tl,c.map cD]))[S.length+1+(J.length+1)]? =some (c.map cD):=by
      rw[List.getElem?_append_right (by simp)]
      rw[show S.length+1+(J.length+1)-(S++[its]).length=J.length+1 from by simp]
      rw[List.getElem?_append_right (by omega)]
      simp
     walk_at "b"
     refine⟨c.map cD,by simp only[vw];rw[hget],.inr ⟨_,rfl,hget⟩,by rw[y8];omega,?_⟩
     have hmore:IsPr S.length (J++[tl,c.map cD]) its (bc xs i++eY xs i k):=hp.more
     by_cases hz:c.isEmpty=true
     . have e5:(!(c.map cD).isEmpty)=false:=by rw[Dw,hz];rfl
       rw[e5]
       refine bF ?_
       exact⟨_,_,its,_,rfl,rfl,by rw[gm,ePr,if_pos hz,List.append_nil];exact hmore⟩
     . have e5:(!(c.map cD).isEmpty)=true:=by rw[Dw,show c.isEmpty=false from by cases h9:c.isEmpty with | false=>rfl | true=>exact absurd h9 hz];rfl
       rw[e5]
       walk_at "b"
       have hil:its.length≤4000:=by
        have:=hp.length
        rw[x9]at this
        have a1:=iZ xs i
        have a2:=m6 xs i k
        have a3:i*xs.length≤60*60:=Nat.mul_le_mul (by omega) hN
        omega
       refine⟨its,xH rfl,by omega,?_⟩
       rw[QZ rfl]
       refine⟨_,_,_,_,rfl,rfl,?_⟩
       rw[gm,ePr,if_neg hz,←List.append_assoc]
       refine IsPr.snoc (q:=(i,i+1+k,c)) hmore (by omega) ?_
       rw[show S.length+1+(J.length+1)-(S.length+1)=J.length+1 from by omega]
       rw[List.getElem?_append_right (by omega)]
       simp
   . rintro Γ' S' ⟨o4,o5,its,J,rfl,rfl,hp⟩
     refine⟨_,_,_,its,J,rfl,rfl,?_⟩
     rw[km]
     rw[ao]at hp
     rw[show(((xs.length:Nat):Int)-((i:Int)+1)).toNat=xs.length-(i+1)from by omega]at hp
     exact hp
 . rintro Γ' S' ⟨o3,o4,o5,its,J,rfl,rfl,hp⟩
   rw[ao,Int.toNat_natCast]at hp
   exact hw its J hp
noncomputable def tN(xs:List CR)(a b:Nat):Bool:=match xs[a]?,xs[b]? with
 | some x,some y=>iy x y
 | _,_=>false
theorem wU{xs:List CR}{a:Nat}{x y:CR}(ha:xs[a]? =some x)(hb:xs[b]? =some y):tN xs a b=iy x y:=by unfold tN;rw[ha,hb]
theorem yM(a b:CR):(ssC a b).isEmpty= !iy a b:=by
 rw[←Ph,Bool.not_not,←QH]
 exact LC (tch a b)
noncomputable def dN(l:List Nat):List D:=l.map λ(t:Nat)=>D.int (t:Int)
theorem iW(l:List Nat):ak (dN l)=true:=by
 unfold dN
 induction l with
 | nil=>rfl
 | cons y ys ih=>exact ih
theorem jF(l:List Nat):dN l=(l.map λ(t:Nat)=>(t:Int)).map D.int:=by unfold dN;rw[List.map_map];rfl
theorem c7(l:List Nat):(dN l).length=l.length:=y8 _
theorem Jb{l:List Nat}{d:D}(h:(dN l)[i]? =some d):∃t,l[i]? =some t/\d=.int (t:Int):=by
 obtain⟨t,ht,rfl⟩:=bH h
 exact⟨t,ht,rfl⟩
theorem NQ{l:List Nat}{t:Nat}(h:l[i]? =some t):(dN l)[i]? =some (.int (t:Int)):=by unfold dN;rw[y9,h];rfl
theorem jE(l:List Nat)(t:Nat):dN (l++[t])=dN l++[.int (t:Int)]:=by unfold dN;rw[List.map_append];rfl
theorem Fx(n:Nat):DL.upTo 0 n=dN (List.range n):=by
 unfold DL.upTo dN
 refine List.map_congr_left λ k _=>?_
 rw[Int.zero_add]
noncomputable def ahd(xs:List CR)(j:Nat):List Nat:=(List.range j).filter λ i=>tN xs i j
noncomputable def picks(qs:List Pr)(j:Nat):List Nat:=qs.filterMap λ q=>if q.2.1=j then some q.1 else none
theorem iT(a b:List Pr)(j:Nat):picks (a++b) j=picks a j++picks b j:=List.filterMap_append
theorem LR(xs:List CR)(i k j:Nat)(hk:k<xs.length)(hi:i<xs.length):picks (nu xs i k) j=if k=j/\tN xs i j=true then[i]else[]:=by
 have hx:=y4 hi
 have hy:=y4 hk
 rw[oN hx hy,yM]
 by_cases e:k=j
 . subst e
   rw[wU hx hy]
   cases iy xs[i] xs[k]<;>simp[picks]
 . cases iy xs[i] xs[k]<;>simp[picks,e]
theorem vK(xs:List CR)(i j:Nat)(hj:j<xs.length)(hi:i<xs.length):∀k,i+1+k≤xs.length->picks (eY xs i k) j=if i<j/\j<i+1+k/\tN xs i j=true then[i]else[]
 | 0,_=>by rw[if_neg (by omega)];rfl
 | k +1,h=>by
   rw[gm,iT,vK xs i j hj hi k (by omega),LR xs i (i+1+k) j (by omega) hi]
   by_cases e:i+1+k=j
   . subst e
     rw[if_neg (by omega),List.nil_append]
     by_cases t:tN xs i (i+1+k)=true
     . rw[if_pos ⟨rfl,t⟩,if_pos ⟨by omega,by omega,t⟩]
     . rw[if_neg (λ z=>t z.2),if_neg (λ z=>t z.2.2)]
   . rw[if_neg (show ¬(i+1+k=j/\_)from λ z=>e z.1),List.append_nil]
     by_cases c:i<j/\j<i+1+k/\tN xs i j=true
     . rw[if_pos c,if_pos ⟨c.1,by omega,c.2.2⟩]
     . rw[if_neg c,if_neg (λ z=>c ⟨z.1,by omega,z.2.2⟩)]
theorem vD(xs:List CR)(j:Nat)(hj:j<xs.length):∀k,k≤xs.length->picks (bc xs k) j=(List.range (min k j)).filter λ i=>tN xs i j
 | 0,_=>by simp[bc,picks]
 | k +1,h=>by
   rw[km,iT,vD xs j hj k (by omega),vK xs k j hj (by omega) _ (by omega)]
   by_cases c:k<j
   . rw[show min (k+1) j=k+1 from by omega,show min k j=k from by omega,List.range_succ,List.filter_append]
     congr 1
     by_cases t:tN xs k j=true
     . rw[if_pos ⟨c,by omega,t⟩,List.filter_cons,if_pos t];rfl
     . rw[if_neg (λ z=>t z.2.2),List.filter_cons,if_neg t];rfl
   . rw[if_neg (λ z=>c z.1),List.append_nil,show min (k+1) j=min k j from by omega]
theorem Ii(xs:List CR)(j:Nat)(hj:j<xs.length):picks (bc xs xs.length) j=ahd xs j:=by
 rw[vD xs j hj _ (x4 _),show min xs.length j=j from by omega];rfl
noncomputable def vH:Ct:=λ ds S W=>∃p:Pg,ds=[dPg p]/\PgB 0 p/\many p.nss≤60/\flat S/\W (.lst (dN (List.range (aK p).length))) S
theorem qI{p:Pg}{W:WD}(hP:PgB 0 p)(hS:flat S)(w:W (.int ((aK p).length:Int)) S):jJ [.tup (p.nss.map dNs)] S W:=
 ⟨p.nss,rfl,by have:=hP.2.2.1;omega,λ n hn=>(hP.deeds n hn).1,hS,by rw[uT];exact w⟩
theorem Gj(F:Fun Ω.K "plain" "plain" nF f fd)(B:Bi Ω.mg)(Cq41:Cal Ω "number_of_steps" 4 1 jJ):Ok Ω 5 f fd Il vH:=by
 refine az (N:=Jm) F (J6 B Cq41) (by kernel_rfl!) ?_
 rintro ds S W ⟨p,rfl,hP,h60,hS,hw⟩ hl
 have hN:=dY h60
 walk_at "b"
 refine⟨rfl,qI hP hS ?_⟩
 walk_at "b"
 refine⟨⟨by omega,by omega⟩,.inl ?_⟩
 rw[Int.toNat_natCast,Fx]
 exact hw
noncomputable def cT(xs:List CR)(L:List Nat):Prop:=∀k,k<L.length->(∀i,i<k->tN xs i k=true->L.getD i 0<L.getD k 0)/\(L.getD k 0=0∨∃i,i<k/\tN xs i k=true/\L.getD i 0+1=L.getD k 0)
theorem getD_at(h:i<L.length):L[i]? =some (L.getD i 0):=by rw[y4 h];simp[List.getD,h]
theorem cF{M:List Nat}(h:i<L.length):(L++M).getD i 0=L.getD i 0:=by unfold List.getD;rw[w9 h]
theorem qW(L:List Nat)(v:Nat):(L++[v]).getD L.length 0=v:=by unfold List.getD;simp
theorem cT.snoc{xs:List CR}{v:Nat}(h:cT xs L)(h1:∀i,i<L.length->tN xs i L.length=true->L.getD i 0<v)(h2:v=0∨∃i,i<L.length/\tN xs i L.length=true/\L.getD i 0+1=v):cT xs (L++[v]):=by
 intro k hk
 rw[x9]at hk
 have hk:k<L.length+1:=hk
 rcases Nat.lt_or_ge k L.length with hl | hl
 . obtain⟨a1,a2⟩:=h k hl
   rw[cF hl]
   refine⟨λ i hi ht=>by rw[cF (by omega)];exact a1 i hi ht,?_⟩
   rcases a2 with z | ⟨i,hi,ht,z⟩
   . exact .inl z
   . exact .inr ⟨i,hi,ht,by rw[cF (by omega)];exact z⟩
 . have e:k=L.length:=by omega
   subst e
   rw[qW]
   refine⟨λ i hi ht=>by rw[cF hi];exact h1 i hi ht,?_⟩
   rcases h2 with z | ⟨i,hi,ht,z⟩
   . exact .inl z
   . exact .inr ⟨i,hi,ht,by rw[cF hi];exact z⟩
noncomputable def cC(L:List Nat)(m:Nat):Prop:=(∀v∈L,v<m)/\(m=0∨∃v∈L,v+1=m)
theorem cC.uniq(h:cC L m)(g:cC L k):m=k:=by
 have a:m≤k:=by
  rcases h.2 with z | ⟨v,hv,z⟩
  . omega
  . have:=g.1 v hv;omega
 have b:k≤m:=by
  rcases g.2 with z | ⟨v,hv,z⟩
  . omega
  . have:=h.1 v hv;omega
 omega
theorem cC.le(h:cC L m)(g:∀v∈L,v<k):m≤k:=by
 rcases h.2 with z | ⟨v,hv,z⟩
 . omega
 . have:=g v hv;omega
theorem cC.of{M:Int}(h:M∈L.map λ(t:Nat)=>(t:Int))(g:∀z∈L.map λ(t:Nat)=>(t:Int),z≤M):∃m:Nat,M+1=(m:Int)/\cC L m:=by
 obtain⟨v,hv,rfl⟩:=ZO.mp h
 refine⟨v+1,by omega,λ u hu=>?_,.inr ⟨v,hv,rfl⟩⟩
 have:=g _ (ZO.mpr ⟨u,hu,rfl⟩)
 omega
theorem cT.lt{xs:List CR}(h:cT xs L):∀k,k<L.length->L.getD k 0≤k:=by
 intro k
 induction k using Nat.strongRecOn with
 | ind k ih=>
   intro hk
   rcases(h k hk).2 with z | ⟨i,hi,ht,z⟩
   . omega
   . have:=ih i hi (by omega);omega
noncomputable def grp(L:List Nat)(a:Nat):List Nat:=(List.range L.length).filter λ j=>decide (L.getD j 0=a)
noncomputable def o8(xs:List CR)(L:List Nat)(m t:Nat)(r:List Nat):Prop:=r.length=t/\(∀s,s<t->r.getD s 0<L.length/\L.getD (r.getD s 0) 0+1+s=m)/\∀s,s+1<t->r.getD (s+1) 0<r.getD s 0/\tN xs (r.getD (s+1) 0) (r.getD s 0)=true
noncomputable def N8(xs:List CR)(n m:Nat)(c:List Nat):Prop:=c.length=m/\(∀t,t<m->c.getD t 0<n)/\∀t,t+1<m->c.getD t 0<c.getD (t+1) 0/\tN xs (c.getD t 0) (c.getD (t+1) 0)=true
theorem ql{r:List Nat}{s:Nat}(h:s<r.length):r.reverse.getD s 0=r.getD (r.length-1-s) 0:=by
 unfold List.getD
 rw[List.getElem?_reverse h]
theorem o8.chn{xs:List CR}{r:List Nat}(h:o8 xs L m m r):N8 xs L.length m r.reverse:=by
 obtain⟨h1,h2,h3⟩:=h
 refine⟨by rw[List.length_reverse];exact h1,λ t ht=>?_,λ t ht=>?_⟩
 . rw[ql (by omega)];exact(h2 _ (by omega)).1
 . rw[ql (by omega),ql (by omega)]
   have:=h3 (r.length-1-(t+1)) (by omega)
   rw[show r.length-1-(t+1)+1=r.length-1-t from by omega]at this
   exact this
theorem o8.snoc{xs:List CR}{t:Nat}{r:List Nat}{x:Nat}(h:o8 xs L m t r)(hx:x<L.length)(hl:L.getD x 0+1+t=m)(hc:∀y,r.getLast? =some y->x<y/\tN xs x y=true):o8 xs L m (t+1) (r++[x]):=by
 obtain⟨h1,h2,h3⟩:=h
 refine⟨by rw[x9];show _+1=_;omega,λ s hs=>?_,λ s hs=>?_⟩
 . rcases Nat.lt_or_ge s t with g | g
   . rw[cF (by omega)];exact h2 s g
   . have e:s=r.length:=by omega
     subst e
     rw[qW,h1];exact⟨hx,hl⟩
 . rcases Nat.lt_or_ge (s+1) t with g | g
   . rw[cF (by omega),cF (by omega)];exact h3 s g
   . have e:s+1=r.length:=by omega
     rw[e,qW,cF (by omega)]
     refine hc _ ?_
     rw[List.getLast?_eq_getElem?,←e,Nat.add_sub_cancel]
     exact getD_at (by omega)
noncomputable def cL(xs:List CR):List D:=(List.range xs.length).map λ j=>.lst (dN (ahd xs j))
noncomputable def xP:Ct:=λ ds S W=>∃p:Pg,ds=[dPg p]/\PgB 0 p/\many p.nss≤60/\flat S/\W (.lst (cL ((aK p).map crs))) S
noncomputable def locs(a n:Nat):List D:=(List.range n).map λ k=>.loc (a+k)
theorem fQ(a n:Nat):locs a (n+1)=locs a n++[.loc (a+n)]:=by unfold locs;rw[List.range_succ,List.map_append];rfl
theorem bw(a n:Nat):(locs a n).length=n:=by simp[locs]
theorem aR{a:Nat}(h:j<n):(locs a n)[j]? =some (.loc (a+j)):=by unfold locs;rw[y9,List.getElem?_range h];rfl
noncomputable def tabs(n:Nat)(qs:List Pr):Store:=(List.range n).map λ j=>dN (picks qs j)
theorem dj(n:Nat)(qs:List Pr):(tabs n qs).length=n:=by simp[tabs]
theorem Lh(n:Nat){qs:List Pr}:List.replicate n ([]:List D)=tabs n (List.take 0 qs):=by
 unfold tabs
 rw[List.take_zero,show(λ j=>dN (picks [] j))=λ _=>([]:List D)from rfl,List.map_const',List.length_range]
theorem Qh(S J:Store){n j:Nat}{qs:List Pr}(h:j<n):(S++tabs n qs++J)[S.length+j]? =some (dN (picks qs j)):=by
 rw[List.append_assoc,List.getElem?_append_right (by omega),show S.length+j-S.length=j from by omega,w9 (by rw[dj];exact h)]
 unfold tabs
 rw[y9,List.getElem?_range h];rfl
theorem Mf(S J:Store){n:Nat}{qs:List Pr}{q:Pr}(h:q.2.1<n):(S++tabs n qs++J).set (S.length+q.2.1) (dN (picks qs q.2.1)++[.int (q.1:Int)])=S++tabs n (qs++[q])++J:=by
 rw[List.append_assoc,List.set_append_right _ _ (by omega),show S.length+q.2.1-S.length=q.2.1 from by omega,List.set_append_left _ _ (by rw[dj];exact h),List.append_assoc]
 congr 2
 apply List.ext_getElem?
 intro j
 by_cases hj:j<n
 . have g:∀qs:List Pr,(tabs n qs)[j]? =some (dN (picks qs j)):=λ qs=>by unfold tabs;rw[y9,List.getElem?_range hj];rfl
   by_cases e:q.2.1=j
   . subst e
     rw[List.getElem?_set_self (by rw[dj];exact hj),g,iT]
     simp[picks,dN]
   . rw[List.getElem?_set_ne e,g,g,iT]
     simp[picks,e]
 . rw[List.getElem?_eq_none (by rw[List.length_set,dj];omega),List.getElem?_eq_none (by rw[dj];omega)]
theorem Lg(xs:List CR):(tabs xs.length (bc xs xs.length)).map D.lst=cL xs:=by
 unfold tabs cL
 rw[List.map_map]
 refine List.map_congr_left λ j hj=>?_
 show D.lst (dN (picks _ j))=_
 rw[Ii xs j (List.mem_range.mp hj)]
theorem IsPr.get{ds:List D}{qs:List Pr}(h:IsPr n J ds qs){i:Nat}{d:D}(hd:ds[i]? =some d):∃q m,qs[i]? =some q/\d=.tup [.int (q.1:Int),.int (q.2.1:Int),.loc m]:=by
 induction h generalizing i with
 | nil=>simp at hd
 | @cons m q ds qs h1 h2 _ ih=>
   cases i with
   | zero=>cases hd;exact⟨q,m,rfl,rfl⟩
   | succ i=>exact ih hd
theorem JL{xs:List CR}{q:Pr}(h:q∈bc xs xs.length):q.2.1<xs.length:=by
 obtain⟨i,hi,h⟩:=List.mem_flatMap.mp h
 obtain⟨t,ht,h⟩:=List.mem_flatMap.mp h
 have hi:=List.mem_range.mp hi
 have ht:=List.mem_range.mp ht
 unfold nu at h
 split at h
 . split at h
   . cases h
   . rw[List.mem_singleton]at h
     rw[h]
     show i+1+t<xs.length
     omega
 . cases h
theorem nA(F:Fun Ω.K "touched_ahead" "touched_ahead" dJ f fd)(Cq44:Cal Ω "plain" 5 1 vH)(Cq43:Cal Ω "pairs" 6 1 qF):Ok Ω 7 f fd pL xP:=by
 refine az (N:=pG) F (Bl.fre (pq Cq44 Cq43)) (by kernel_rfl!) ?_
 rintro ds S W ⟨p,rfl,hP,h60,hS,hw⟩ hl
 have hN:=dY h60
 walk_at "b"
 refine⟨rfl,p,rfl,hP,h60,hS,?_⟩
 walk_at "b"
 refine cB ⟨by rw[c7,List.length_range];omega,λ i acc T=>acc=locs S.length i/\T=S++List.replicate i [],⟨rfl,by simp⟩,λ _ _ _ _=>trivial,?_,?_⟩
 . rintro i d acc T hd ⟨rfl,rfl⟩
   refine b7 ?_
   walk_at "b"
   refine⟨by rw[fQ,x9,List.length_replicate],by rw[List.replicate_succ',List.append_assoc]⟩
 rintro acc T ⟨rfl,rfl⟩
 rw[c7,List.length_range]
 refine .inl ?_
 have hL:((aK p).map crs).length=(aK p).length:=y8 _
 have f1:flat (S++List.replicate (aK p).length ([]:List D)):=λ l hl=>by
  rcases ZK.mp hl with hl | hl
  . exact hS l hl
  . rw[(List.mem_replicate.mp hl).2];rfl
 walk_at "b"
 refine⟨rfl,p,rfl,hP,h60,f1,λ its J hI=>?_⟩
 rw[←hL]at hI hN f1 ⊢
 generalize (aK p).map crs=xs at*
 have hlen:(S++List.replicate xs.length ([]:List D)).length=S.length+xs.length:=by simp
 rw[hlen]at hI ⊢
 have hQl:(bc xs xs.length).length≤3600:=by
  have h1:=iZ xs xs.length
  have h2:xs.length*xs.length≤60*60:=Nat.mul_le_mul hN hN
  omega
 have gi:∀A:Store,A.length=xs.length->(S++A++([its]++J))[S.length+xs.length]? =some its:=λ A hA=>by rw[←List.append_assoc];exact xH (by rw[x9,hA])
 rw[Lh (qs:=bc xs xs.length),List.append_assoc _ [its]]
 walk_at "b"
 refine⟨its,gi _ (dj _ _),Dn ⟨λ i Γ' T=>(∃o2 o3 o4,Γ'=[some (dPg p),some (.lst (locs S.length xs.length)),o2,o3,o4])/\T=S++tabs xs.length ((bc xs xs.length).take i)++([its]++J),⟨⟨_,_,_,rfl⟩,rfl⟩,?_,?_,?_⟩⟩
 . rintro i Γ' T ⟨⟨o2,o3,o4,rfl⟩,rfl⟩
   exact gi _ (dj _ _)
 . rintro i d Γ' T hd ⟨⟨o2,o3,o4,rfl⟩,rfl⟩
   obtain⟨q,m',hq,rfl⟩:=hI.get hd
   have q2:=JL (y6 hq)
   have hpl:(picks ((bc xs xs.length).take i) q.2.1).length≤3600:=by
    refine Nat.le_trans (List.length_filterMap_le _ _) ?_
    rw[List.length_take];omega
   walk_at "b"
   refine⟨rfl,?_⟩
   walk_at "b"
   refine⟨_,aA (aR q2),?_⟩
   walk_at "b"
   refine⟨_,Qh S ([its]++J) q2,by rw[c7];omega,?_⟩
   refine⟨⟨_,_,_,rfl⟩,?_⟩
   rw[aD hq]
   exact Mf S ([its]++J) q2
 . rintro Γ' T ⟨⟨o2,o3,o4,rfl⟩,rfl⟩
   rw[hI.length,List.take_length]
   walk_at "b"
   refine .inr ⟨tabs xs.length (bc xs xs.length),[its]++J,S,by rw[dj];rfl,by simp,x4 _,?_,hS,?_⟩
   . intro l hl
     obtain⟨j,_,rfl⟩:=ZO.mp hl
     exact iW _
   . rw[Lg];exact hw
noncomputable def wY:Ct:=λ ds S W=>∃xs:List CR,ds=[.lst (cL xs)]/\xs.length≤60/\flat S/\∀L:List Nat,L.length=xs.length->cT xs L->W (.lst (dN L)) S
theorem Kq{xs:List CR}{d:D}(h:(cL xs)[i]? =some d):i<xs.length/\d=.lst (dN (ahd xs i)):=by
 obtain⟨j,hj,rfl⟩:=bH h
 obtain⟨h1,h2⟩:=y3.mp hj
 rw[List.length_range]at h1
 rw[List.getElem_range]at h2
 subst h2
 exact⟨h1,rfl⟩
theorem K9{xs:List CR}{x:Nat}(h:x<xs.length):(cL xs)[x]? =some (.lst (dN (ahd xs x))):=by unfold cL;rw[y9,List.getElem?_range h];rfl
theorem oM{xs:List CR}(h:i∈ahd xs j):i<j/\tN xs i j=true:=by
 obtain⟨h1,h2⟩:=List.mem_filter.mp h
 exact⟨List.mem_range.mp h1,h2⟩
theorem Dm(xs:List CR)(j:Nat):(ahd xs j).length≤j:=by
 have:=List.length_filter_le (λ i=>tN xs i j) (List.range j)
 rw[List.length_range]at this
 exact this
theorem cu{l:List D}:(S++[l])[S.length]? =some l:=bM _ _
theorem lA(F:Fun Ω.K "rounds_of_steps" "rounds_of_steps" cP f fd)(B:Bi Ω.mg):Ok Ω 1 f fd mH wY:=by
 refine az (N:=lN) F (Bl.frz (lU B)) (by kernel_rfl!) ?_
 rintro ds S W ⟨xs,rfl,hN,hS,hw⟩ hl
 walk_at "b"
 refine aO ⟨λ i Γ' T=>∃(L:List Nat) (o2:Option D),Γ'=[some (.lst (cL xs)),some (.loc S.length),o2]/\T=S++[dN L]/\L.length=i/\cT xs L,⟨[],_,rfl,rfl,rfl,λ k hk=>by cases hk⟩,?_,?_⟩
 . rintro i e Γ' T he ⟨L,o2,rfl,rfl,hLl,hL⟩
   obtain⟨hi,rfl⟩:=Kq he
   have hal:=Dm xs i
   refine b7 ?_
   simp only[List.set_cons_succ,List.set_cons_zero]
   walk_at "b"
   rw[show dN (ahd xs i)=(ahd xs i).map λ t=>D.int ((t:Nat):Int)from rfl]
   refine ur (λ t=>.int ((L.getD t 0:Nat):Int)) (by omega) trivial ?_ (.inl ?_)
   . intro k t ht Q hq
     have htl:=(oM (y6 ht)).1
     walk_at "b"
     refine⟨_,_,cu,aA (NQ (getD_at (by omega))),?_⟩
     exact hq
   walk_at "b"
   refine⟨(ahd xs i).map λ t=>((L.getD t 0:Nat):Int),-1,rfl,by rw[List.map_map];rfl,λ h0=>?_,λ M hM hmax=>?_⟩
   . have h0:ahd xs i=[]:=List.map_eq_nil_iff.mp h0
     walk_at "b"
     refine⟨_,cu,by rw[c7];omega,?_⟩
     rw[bu]
     refine⟨L++[0],_,rfl,by rw[jE];rfl,by rw[x9,hLl];rfl,hL.snoc (λ j hj ht=>?_) (.inl rfl)⟩
     rw[hLl]at hj ht
     have:j∈ahd xs i:=List.mem_filter.mpr ⟨List.mem_range.mpr hj,ht⟩
     rw[h0]at this
     cases this
   . obtain⟨t,ht,rfl⟩:=ZO.mp hM
     obtain⟨h1,h2⟩:=oM ht
     walk_at "b"
     refine⟨_,cu,by rw[c7];omega,?_⟩
     rw[bu]
     refine⟨L++[L.getD t 0+1],_,rfl,?_,by rw[x9,hLl];rfl,hL.snoc (λ j hj hjt=>?_) (.inr ⟨t,by omega,by rw[hLl];exact h2,rfl⟩)⟩
     . rw[jE,show(1:Int)+((L.getD t 0:Nat):Int)=((L.getD t 0+1:Nat):Int)from by omega]
     . rw[hLl]at hj hjt
       have:=hmax _ (ZO.mpr ⟨j,List.mem_filter.mpr ⟨List.mem_range.mpr hj,hjt⟩,rfl⟩)
       omega
 . rintro Γ' T ⟨L,o2,rfl,rfl,hLl,hL⟩
   have hLl:L.length=xs.length:=by rw[hLl];simp[cL]
   walk_at "b"
   exact .inr ⟨_,S,rfl,rfl,x4 _,iW L,hS,hw L hLl hL⟩
noncomputable def Az:Ct:=λ ds S W=>∃(L:List Nat) (a:Nat),ds=[.lst (dN L),.int (a:Int)]/\L.length≤60/\W (.loc S.length) (S++[dN (grp L a)])
theorem Ul{l:List Nat}{e:D}(h:((dN l).mapIdx λ i d=>D.tup [.int i,d])[i]? =some e):∃t,l[i]? =some t/\e=.tup [.int (i:Int),.int (t:Int)]:=by
 rw[List.getElem?_mapIdx]at h
 cases e1:(dN l)[i]? with
 | none=>rw[e1]at h;cases h
 | some d=>
   rw[e1]at h
   cases h
   obtain⟨t,ht,rfl⟩:=Jb e1
   exact⟨t,ht,rfl⟩
theorem lX(F:Fun Ω.K "steps_of_round" "steps_of_round" dq f fd)(B:Bi Ω.mg):Ok Ω 1 f fd mX Az:=by
 refine az (N:=nZ) F (m5 B) (by kernel_rfl!) ?_
 rintro ds S W ⟨L,a,rfl,hn,hw⟩ hl
 walk_at "b"
 refine cB ⟨by rw[List.length_mapIdx,c7];omega,λ i acc T=>acc=dN ((List.range i).filter λ j=>decide (L.getD j 0=a))/\T=S,⟨rfl,rfl⟩,λ _ _ _ _=>trivial,?_,?_⟩
 . rintro i e acc T he ⟨rfl,rfl⟩
   obtain⟨t,ht,rfl⟩:=Ul he
   have eg:L.getD i 0=t:=by simp[List.getD,ht]
   walk_at "b"
   refine⟨rfl,?_⟩
   walk_at "b"
   refine⟨λ h=>?_,λ h=>?_⟩
   . have h:=ZF h
     walk_at "b"
     refine⟨?_,rfl⟩
     rw[List.range_succ,List.filter_append,List.filter_cons,if_pos (by rw[eg];exact ZG (by omega))]
     exact(jE _ _).symm
   . have h:=of_decide_eq_false h
     refine⟨?_,rfl⟩
     rw[List.range_succ,List.filter_append,List.filter_cons,if_neg (by rw[eg];simp;omega)]
     simp
 rintro acc T ⟨rfl,rfl⟩
 rw[List.length_mapIdx,c7]
 exact .inr hw
noncomputable def Dp:Ct:=λ ds S W=>∃(xs:List CR) (L:List Nat) (m:Nat),ds=[.lst (cL xs),.lst (dN L)]/\xs.length≤60/\L.length=xs.length/\cT xs L/\cC L m/\∀c:List Nat,N8 xs xs.length m c->W (.loc S.length) (S++[dN c])
theorem vX(F:Fun Ω.K "chain_of" "chain_of" gQ f fd)(B:Bi Ω.mg):Ok Ω 1 f fd zg Dp:=by
 refine az (N:=zA) F (Aw B) (by kernel_rfl!) ?_
 rintro ds S W ⟨xs,L,m,rfl,hN,hLl,hL,hm,hw⟩ hl
 have hlt:=hL.lt
 have hmn:m≤60:=by
  refine Nat.le_trans (hm.le (k:=xs.length) λ v hv=>?_) hN
  obtain⟨k,hk⟩:=ZR hv
  have hkl:=(y3.mp hk).1
  have:=hlt k hkl
  rw[getD_at hkl]at hk
  cases hk
  omega
 walk_at "b"
 rw[c7,hLl]
 refine⟨⟨by omega,by omega⟩,.inl ?_⟩
 rw[Int.toNat_natCast,Fx]
 by_cases h0:L=[]
 . subst h0
   have m0:m=0:=by
    rcases hm.2 with z | ⟨v,hv,_⟩
    . exact z
    . cases hv
   subst m0
   walk_at "b"
   refine⟨[],-1,rfl,rfl,λ _=>?_,λ M hM=>by cases hM⟩
   walk_at "b"
   refine⟨rfl,?_⟩
   walk_at "b"
   refine⟨⟨by decide,by decide,by decide,by decide⟩,aO ⟨λ _ Γ' T=>(∃o3 o4 o5,Γ'=[some (.lst (cL xs)),some (.lst (dN [])),some (.loc S.length),o3,o4,o5])/\T=S++[[]],⟨⟨_,_,_,rfl⟩,rfl⟩,?_,?_⟩⟩
   . rintro i d Γ' T hd _
     have:=(qU hd).1
     omega
   rintro Γ' T ⟨⟨o3,o4,o5,rfl⟩,rfl⟩
   walk_at "b"
   refine⟨_,cu,?_⟩
   walk_at "b"
   rw[bu]
   exact hw [] ⟨rfl,λ t ht=>by omega,λ t ht=>by omega⟩
 walk_at "b"
 refine⟨L.map λ(t:Nat)=>(t:Int),-1,rfl,by rw[jF];rfl,λ z=>absurd (List.map_eq_nil_iff.mp z) h0,λ M hM hmax=>?_⟩
 obtain⟨m',e1,hm'⟩:=cC.of hM hmax
 obtain rfl:=hm.uniq hm'
 have e2:M=(m:Int)-1:=by omega
 subst e2
 walk_at "b"
 refine⟨rfl,?_⟩
 walk_at "b"
 rw[show((m:Int)-1- -1).toNat=m from by omega]
 refine⟨⟨by omega,by omega,by omega,by omega⟩,aO ⟨λ t Γ' T=>∃(r ch:List Nat) (o4 o5:Option D),Γ'=[some (.lst (cL xs)),some (.lst (dN L)),some (.loc S.length),some (.lst (dN ch)),o4,o5]/\T=S++[dN r]/\o8 xs L m t r/\ch.length≤60/\(∀y∈ch,y<L.length)/\(t<m->∃y∈ch,L.getD y 0+1+t=m)/\(∀z,r.getLast? =some z->∀y∈ch,y<z/\tN xs y z=true),⟨[],List.range xs.length,_,_,rfl,rfl,⟨rfl,λ s hs=>by omega,λ s hs=>by omega⟩,by rw[List.length_range];exact hN,λ y hy=>by rw[hLl];exact List.mem_range.mp hy,λ h=>?_,λ z hz=>by cases hz⟩,?_,?_⟩⟩
 . rcases hm.2 with z | ⟨v,hv,z⟩
   . omega
   . obtain⟨k,hk⟩:=ZR hv
     have hkl:=(y3.mp hk).1
     rw[getD_at hkl]at hk
     cases hk
     exact⟨k,List.mem_range.mpr (by omega),by omega⟩
 . rintro t e Γ' T he ⟨r,ch,o4,o5,rfl,rfl,hr,hch,hcl,hce,hcz⟩
   obtain⟨ht,rfl⟩:=qU he
   obtain⟨y,hy,hyl⟩:=hce ht
   have hrl:=hr.1
   refine b7 ?_
   simp only[List.set_cons_succ,List.set_cons_zero]
   walk_at "b"
   refine cB ⟨by rw[c7];omega,λ i acc T=>acc=dN ((ch.take i).filter λ f=>decide (L.getD f 0+1+t=m))/\T=S++[dN r],⟨rfl,rfl⟩,λ _ _ _ _=>trivial,?_,?_⟩
   . rintro i d acc T hd ⟨rfl,rfl⟩
     obtain⟨f,hf,rfl⟩:=Jb hd
     have hfl:=hcl f (y6 hf)
     refine b7 ?_
     walk_at "b"
     refine⟨_,aA (NQ (getD_at hfl)),?_⟩
     walk_at "b"
     refine⟨λ h=>?_,λ h=>?_⟩
     . have h:=ZF h
       walk_at "b"
       refine⟨?_,rfl⟩
       rw[aD hf,List.filter_append,List.filter_cons,if_pos (ZG (by omega))]
       exact(jE _ _).symm
     . have h:=of_decide_eq_false h
       refine⟨?_,rfl⟩
       rw[aD hf,List.filter_append,List.filter_cons,if_neg (λ z=>h (by have:=ZF z;omega))]
       simp
   rintro acc T ⟨rfl,rfl⟩
   rw[c7,List.take_length]
   refine .inl ?_
   walk_at "b"
   have hym:y∈ch.filter λ f=>decide (L.getD f 0+1+t=m):=List.mem_filter.mpr ⟨hy,ZG hyl⟩
   refine⟨(ch.filter λ f=>decide (L.getD f 0+1+t=m)).map λ(t:Nat)=>(t:Int),_,rfl,λ z=>?_,congrArg some (jF _),λ M hM _=>?_⟩
   . rw[List.map_eq_nil_iff.mp z]at hym;cases hym
   obtain⟨x,hx,rfl⟩:=ZO.mp hM
   obtain⟨hx1,hx2⟩:=List.mem_filter.mp hx
   have hx2:=ZF hx2
   have hxl:=hcl x hx1
   walk_at "b"
   refine⟨_,cu,by rw[c7];omega,?_⟩
   rw[bu,←jE]
   walk_at "b"
   refine⟨_,aA (K9 (x:=x) (by omega)),?_⟩
   walk_at "b"
   refine⟨r++[x],ahd xs x,_,_,rfl,rfl,hr.snoc hxl hx2 (λ z hz=>hcz z hz x hx1),by have:=Dm xs x;omega,λ y hy=>by have:=(oM hy).1;omega,λ h=>?_,λ z hz y hy=>?_⟩
   . rcases(hL x hxl).2 with z | ⟨i,hi,hit,z⟩
     . omega
     . exact⟨i,List.mem_filter.mpr ⟨List.mem_range.mpr hi,hit⟩,by omega⟩
   . rw[List.getLast?_concat]at hz
     cases hz
     exact oM hy
 . rintro Γ' T ⟨r,ch,o4,o5,rfl,rfl,hr,hch,hcl,hce,hcz⟩
   rw[pW]at hr
   walk_at "b"
   refine⟨_,cu,?_⟩
   walk_at "b"
   rw[bu,show(dN r).reverse=dN r.reverse from by unfold dN;rw[List.map_reverse]]
   exact hw _ (by rw[←hLl];exact hr.chn)
noncomputable def nlV{α:Type}(kv:List (α×D)):Prop:=∀x∈kv,aq x.2=true
theorem Fg{l:List D}(h:∀d∈l,aq d=true):ak l=true:=by
 induction l with
 | nil=>rfl
 | cons y ys ih=>simp only[ak,h y x8,ih λ d hd=>h d (x5 _ hd),Bool.and_true]
theorem yL{kv:Ko}(h:nlV kv):ak (kv.map aX)=true:=Fg λ d hd=>by
 obtain⟨x,hx,rfl⟩:=ZO.mp hd
 show ak [oD x.1,x.2]=true
 have:aq (oD x.1)=true:=by cases x.1<;>rfl
 simp only[ak,this,h x hx,Bool.and_true]
theorem cC.ex:∀L:List Nat,∃m,cC L m
 | []=>⟨0,λ v hv=>(by cases hv),.inl rfl⟩
 | x ::L=>by
   obtain⟨m,h1,h2⟩:=cC.ex L
   by_cases h:x<m
   . refine⟨m,λ v hv=>?_,?_⟩
     . rcases ZJ.mp hv with rfl | hv
       . exact h
       . exact h1 v hv
     . rcases h2 with z | ⟨v,hv,z⟩
       . exact .inl z
       . exact .inr ⟨v,x5 _ hv,z⟩
   . refine⟨x+1,λ v hv=>?_,.inr ⟨x,x8,rfl⟩⟩
     rcases ZJ.mp hv with rfl | hv
     . omega
     . have:=h1 v hv;omega
theorem cC.nil(h:cC [] m):m=0:=by
 rcases h.2 with z | ⟨v,hv,_⟩
 . exact z
 . cases hv
theorem cT.mx{xs:List CR}(h:cT xs L)(hm:cC L m):m≤L.length:=hm.le λ v hv=>by
 obtain⟨k,hk⟩:=ZR hv
 have hkl:=(y3.mp hk).1
 have:=h.lt k hkl
 rw[getD_at hkl]at hk
 cases hk
 omega
noncomputable def cR(L:List Nat)(m:Nat):Store:=(List.range m).map λ a=>dN (grp L a)
theorem bV(L:List Nat)(m:Nat):(cR L m).length=m:=by simp[cR]
theorem GC(L:List Nat)(m:Nat):cR L (m+1)=cR L m++[dN (grp L m)]:=by unfold cR;rw[List.range_succ,List.map_append];rfl
noncomputable def dII(xss:List (List Int)):List D:=xss.map λ l=>.lst (l.map D.int)
noncomputable def Bd(B:Nat)(xss:List (List Int)):Prop:=xss.length≤B/\xss.flatten.length≤B
noncomputable def iu(L:List Nat)(m:Nat):List (List Int):=(List.range m).map λ a=>(grp L a).map λ(t:Nat)=>(t:Int)
theorem oE{n:Nat}{S:Store}:∀{xs rs:List D},xs.length=rs.length->(∀(i:Nat)(x r:D),xs[i]? =some x->rs[i]? =some r->Rsv n S x r)->Rsvs n S xs rs
 | [],[],_,_=>.nil
 | x::xs,r::rs,h,g=>.cons (g 0 x r rfl rfl) (oE (Nat.succ.inj h) λ i y z h1 h2=>g (i+1) y z h1 h2)
theorem oH{n:Nat}{S:Store}:∀{xs:List D},ak xs=true->Rsvs n S xs xs
 | [],_=>.nil
 | x::xs,h=>by
   simp only[ak,Bool.and_eq_true]at h
   exact .cons (.ok h.1) (oH h.2)
theorem bU(l:List Int):ak (l.map D.int)=true:=dU l
theorem nq{xss:List (List Int)}{d:D}(h:(dII xss)[i]? =some d):∃l,xss[i]? =some l/\d=.lst (l.map D.int):=by
 obtain⟨l,h1,rfl⟩:=bH h
 exact⟨l,h1,rfl⟩
theorem nJ(xss:List (List Int)):aq (.lst (dII xss))=true:=by
 show ak _=true
 unfold dII
 induction xss with
 | nil=>rfl
 | cons y ys ih=>simp only[List.map_cons,ak,ih,Bool.and_true];exact bU _
theorem Ov(L:List Nat)(m:Nat):(cR L m).map .lst=dII (iu L m):=by
 unfold cR iu dII
 rw[List.map_map,List.map_map]
 exact List.map_congr_left λ a _=>congrArg D.lst (jF _)
theorem OJ(L:List Nat)(m:Nat)(c:List Nat):Rsv S.length (S++(cR L m++[locs S.length m,dN c])) (.tup [.loc (S.length+m),.loc (S.length+m+1)]) (.tup [.lst (dII (iu L m)),.lst (dN c)]):=by
 refine .tup (.cons (.loc (by omega) (xs:=locs S.length m) ?_ ?_) (.cons (.loc (by omega) (xs:=dN c) ?_ (oH (iW c))) .nil))
 . rw[List.getElem?_append_right (by omega),List.getElem?_append_right (by rw[bV];omega),bV,show S.length+m-S.length-m=0 from by omega];rfl
 . rw[←Ov]
   refine oE (by rw[bw,y8,bV]) λ i x r h1 h2=>?_
   obtain⟨l,h3,rfl⟩:=bH h2
   have hi:i<m:=by have:=(y3.mp h3).1;rwa[bV]at this
   rw[aR hi]at h1
   cases h1
   refine .loc (by omega) (xs:=l) ?_ (oH ?_)
   . rw[List.getElem?_append_right (by omega),show S.length+i-S.length=i from by omega,w9 (by rw[bV];exact hi)];exact h3
   . obtain⟨a,_,rfl⟩:=ZO.mp (y6 h3)
     exact iW _
 . rw[List.getElem?_append_right (by omega),List.getElem?_append_right (by rw[bV];omega),bV,show S.length+m+1-S.length-m=1 from by omega];rfl
theorem cT.full{xs:List CR}(h:cT xs L):∀(k:Nat),k<L.length->∀a,a≤L.getD k 0->∃t,t<L.length/\L.getD t 0=a:=by
 intro k
 induction k using Nat.strongRecOn with
 | ind k ih=>
   intro hk a ha
   rcases Nat.lt_or_eq_of_le ha with hlt | rfl
   . rcases(h k hk).2 with z | ⟨i,hi,_,z⟩
     . omega
     . exact ih i hi (by omega) a (by omega)
   . exact⟨k,hk,rfl⟩
theorem SQ{xs:List CR}{a:Nat}(h:cT xs L)(hm:cC L m)(ha:a<m):grp L a≠[]:=by
 rcases hm.2 with z | ⟨v,hv,z⟩
 . omega
 . obtain⟨k,hk⟩:=ZR hv
   have hkl:=(y3.mp hk).1
   rw[getD_at hkl]at hk
   cases hk
   obtain⟨t,ht,e⟩:=h.full k hkl a (by omega)
   intro z
   have:t∈grp L a:=List.mem_filter.mpr ⟨List.mem_range.mpr ht,by rw[e];exact ZG rfl⟩
   rw[z]at this
   cases this
theorem Pb(L:List Nat):∀m,(iu L m).flatten.length=((List.range L.length).filter λ t=>decide (L.getD t 0<m)).length:=by
 intro m
 induction m with
 | zero=>
   show 0=_
   rw[List.filter_eq_nil_iff.mpr (λ t _=>by simp)];rfl
 | succ m ih=>
   have e:iu L (m+1)=iu L m++[(grp L m).map λ(t:Nat)=>(t:Int)]:=by unfold iu;rw[List.range_succ,List.map_append];rfl
   rw[e,List.flatten_append,x9,ih]
   show _+((grp L m).map _++[]).length=_
   rw[List.append_nil,y8]
   unfold grp
   generalize List.range L.length=R
   induction R with
   | nil=>rfl
   | cons y ys ih2=>
     simp only[List.filter_cons]
     by_cases h1:L.getD y 0<m
     . rw[ZG h1,ZH (show ¬L.getD y 0=m by omega),ZG (show L.getD y 0<m+1 by omega)]
       simp only[Bool.false_eq_true,if_false,if_true,List.length_cons]
       omega
     . by_cases h2:L.getD y 0=m
       . rw[ZH h1,ZG h2,ZG (show L.getD y 0<m+1 by omega)]
         simp only[Bool.false_eq_true,if_false,if_true,List.length_cons]
         omega
       . rw[ZH h1,ZH h2,ZH (show ¬L.getD y 0<m+1 by omega)]
         simp only[Bool.false_eq_true,if_false]
         exact ih2
theorem Ox{xs:List CR}(hN:xs.length≤60)(hLl:L.length=xs.length)(hL:cT xs L)(hm:cC L m):Bd 60 (iu L m)/\∀l∈iu L m,l≠[]:=by
 refine⟨⟨?_,?_⟩,λ l hl=>?_⟩
 . unfold iu;rw[y8,List.length_range];have:=hL.mx hm;omega
 . rw[Pb]
   have:=List.length_filter_le (λ t=>decide (L.getD t 0<m)) (List.range L.length)
   rw[List.length_range]at this
   omega
 . obtain⟨a,ha,rfl⟩:=ZO.mp hl
   exact λ z=>SQ hL hm (List.mem_range.mp ha) (List.map_eq_nil_iff.mp z)
noncomputable def rK:Ct:=λ ds S W=>∃p:Pg,ds=[dPg p]/\PgB 0 p/\many p.nss≤60/\flat S/\∀(xss:List (List Int))(c:List Nat),Bd 60 xss/\(∀l∈xss,l≠[])->W (.tup [.lst (dII xss),.lst (dN c)]) S
theorem Ck(F:Fun Ω.K "rounds" "rounds" lE f fd)(B:Bi Ω.mg)(Cq50:Cal Ω "touched_ahead" 7 1 xP)(Cq47:Cal Ω "rounds_of_steps" 1 1 wY)(Cq49:Cal Ω "steps_of_round" 1 2 Az)(Cq19:Cal Ω "chain_of" 1 2 Dp):Ok Ω 8 f fd GP rK:=by
 refine az (N:=FZ) F (Bl.frg (Fj B Cq50 Cq47 Cq49 Cq19)) (by kernel_rfl!) ?_
 rintro ds S W ⟨p,rfl,hP,h60,hS,hw⟩ hl
 have hN:=dY h60
 have hXL:((aK p).map crs).length=(aK p).length:=y8 _
 walk_at "b"
 refine⟨rfl,p,rfl,hP,h60,hS,?_⟩
 rw[←hXL]at hN
 generalize (aK p).map crs=xs at*
 walk_at "b"
 refine⟨rfl,xs,rfl,hN,hS,λ L hLl hL=>?_⟩
 obtain⟨m,hm⟩:=cC.ex L
 have hmL:=hL.mx hm
 walk_at "b"
 refine⟨L.map λ(t:Nat)=>(t:Int),-1,rfl,congrArg some (jF _),λ z=>?A,λ M hM hmax=>?B⟩
 case' A=>
  have z:=List.map_eq_nil_iff.mp z
  have e:(-1:Int)+1=(m:Int):=by rw[z]at hm;rw[hm.nil];rfl
  revert e
  generalize (-1:Int)=v
  intro e
 case' B=>
  obtain⟨m',e,hm'⟩:=cC.of hM hmax
  obtain rfl:=hm.uniq hm'
 all_goals
  walk_at "b"
  rw[e]
  refine⟨⟨by omega,by omega⟩,?_⟩
  rw[Int.toNat_natCast]
  refine cB ⟨by rw[ao];omega,λ i acc T=>acc=locs S.length i/\T=S++cR L i,⟨rfl,by simp[cR]⟩,λ _ _ _ _=>trivial,?_,?_⟩
  . rintro i d acc T hd ⟨rfl,rfl⟩
    obtain⟨hi,rfl⟩:=aL hd
    rw[show(0+(i:Int))=((i:Nat):Int)from by omega]
    refine b7 ?_
    walk_at "b"
    refine⟨rfl,L,i,rfl,by omega,?_⟩
    exact⟨by rw[fQ,x9,bV],by rw[GC,List.append_assoc]⟩
  rintro acc T ⟨rfl,rfl⟩
  rw[ao]
  refine .inr ?_
  walk_at "b"
  refine⟨rfl,xs,L,m,rfl,hN,hLl,hL,hm,λ c hc=>?_⟩
  have hq:=hw (iu L m) c (Ox hN hLl hL hm)
  have e1:(S++cR L m).length=S.length+m:=by rw[x9,bV]
  have e2:(S++cR L m++[locs S.length m]).length=S.length+m+1:=by rw[x9,e1];rfl
  have e3:S++cR L m++[locs S.length m]++[dN c]=S++(cR L m++[locs S.length m,dN c]):=by simp
  rw[e1,e2,e3]
  walk_at "b"
  exact .inr ⟨_,_,S,rfl,x4 _,hS,OJ L m c,hq⟩
noncomputable def rY:Ct:=λ ds S W=>∃a b:CR,ds=[dCR a,dCR b]/\W (.bl (iy a b)) S
theorem FT(F:Fun Ω.K "_law_touch" "_law_touch" nY f fd):Ok Ω 1 f fd Iz rY:=by
 refine az (N:=JB) F (Jt) (by kernel_rfl!) ?_
 rintro ds S W ⟨a,b,rfl,hw⟩ hl
 unfold iy at hw
 walk_at "b"
 refine cell_eq ?_
 by_cases h:a.1=b.1
 . rw[ZG h]at hw ⊢
   walk_at "b"
   exact hw
 . rw[ZH h]at hw ⊢
   walk_at "b"
   refine cell_in ?_
   by_cases h2:a.1∈b.2
   . rw[ZG h2]at hw ⊢
     walk_at "b"
     exact hw
   . rw[ZH h2]at hw ⊢
     walk_at "b"
     refine cell_in ?_
     exact hw
noncomputable def OkI(n:Nat)(ts:List Int):Prop:=(∀t∈ts,0≤t/\t<(n:Int))/\ts.Nodup
noncomputable def wh(xss:List (List Int))(t:Int):Nat:=xss.findIdx λ l=>decide (t∈l)
noncomputable def OkR(xs:List CR)(xss:List (List Int)):Prop:=OkI xs.length xss.flatten/\xss.flatten.length=xs.length/\∀i j:Nat,i<j->j<xs.length->tN xs i j=true->wh xss i<wh xss j
theorem pig:∀(n:Nat)(l:List Int),OkI n l->l.length≤n
 | 0,[],_=>x4 _
 | 0,t::l,h=>by have:=h.1 t x8;omega
 | n +1,l,h=>by
   have h1:=pig n (l.erase (n:Int)) ⟨λ t ht=>?_,h.2.erase _⟩
   . have:=List.length_erase (a:=(n:Int)) (l:=l)
     split at this<;>omega
   . have h2:=(h.2.mem_erase_iff).mp ht
     have:=h.1 t h2.2
     have:=h2.1
     omega
theorem Es(h:OkI n l)(hn:l.length=n){i:Nat}(hi:i<n):(i:Int)∈l:=by
 by_cases hm:(i:Int)∈l
 . exact hm
 . have:=pig n ((i:Int)::l) ⟨λ t ht=>?_,List.nodup_cons.mpr ⟨hm,h.2⟩⟩
   . rw[List.length_cons]at this;omega
   . rcases ZJ.mp ht with rfl | ht
     . omega
     . exact h.1 t ht
theorem QQ(ns:List Int):unl ns=ns.length↔ns.Nodup:=by
 have key:∀i,i≤ns.length->(PyProof.Rows.firstMet (λ i=>ns.getD i 0) i).length≤i/\((PyProof.Rows.firstMet (λ i=>ns.getD i 0) i).length=i->PyProof.Rows.firstMet (λ i=>ns.getD i 0) i=ns.take i/\(ns.take i).Nodup)/\((ns.take i).Nodup->PyProof.Rows.firstMet (λ i=>ns.getD i 0) i=ns.take i):=by
  intro i
  induction i with
  | zero=>intro _;exact⟨x4 _,λ _=>⟨rfl,by simp⟩,λ _=>rfl⟩
  | succ i ih=>
    intro hi
    have hl:i<ns.length:=by omega
    obtain⟨h1,h2,h3⟩:=ih (by omega)
    have e:ns.getD i 0=ns[i]:=by simp[List.getD,hl]
    have et:ns.take (i+1)=ns.take i++[ns[i]]:=aD (y4 hl)
    rw[PyProof.Rows.firstMet_succ,et]
    unfold PyProof.Rows.step_dedup
    rw[e]
    have hlen:(ns.take i).length=i:=by rw[List.length_take];omega
    have any_mem:∀l:List Int,(l.any λ x=>x==ns[i])=true↔ns[i]∈l:=λ l=>by
     rw[List.any_eq_true]
     exact⟨λ⟨x,hx,z⟩=>(ZI z)▸hx,λ h=>⟨_,h,beq_self_eq_true _⟩⟩
    have ndr:(ns.take i++[ns[i]]).Nodup↔(ns.take i).Nodup/\ns[i]∉ns.take i:=by
     rw[List.nodup_append]
     constructor
     . rintro⟨a,_,c⟩
       exact⟨a,λ hm=>c _ hm _ (ZL.mpr rfl) rfl⟩
     . rintro⟨a,c⟩
       refine⟨a,by simp,λ x hx y hy=>?_⟩
       rw[ZL.mp hy]
       exact λ z=>c (z▸hx)
    split
    . rename_i hm
      have hm:=(any_mem _).mp hm
      refine⟨by omega,λ z=>by omega,λ z=>?_⟩
      obtain⟨z1,z2⟩:=ndr.mp z
      rw[h3 z1]at hm
      exact(z2 hm).elim
    . rename_i hm
      have hm:ns[i]∉_:=λ z=>hm ((any_mem _).mpr z)
      refine⟨by rw[x9];exact Nat.succ_le_succ h1,λ z=>?_,λ z=>?_⟩
      . have z:(PyProof.Rows.firstMet (λ i=>ns.getD i 0) i).length=i:=by rw[x9]at z;exact Nat.succ.inj z
        obtain⟨g1,g2⟩:=h2 z
        rw[g1]at hm ⊢
        exact⟨rfl,ndr.mpr ⟨g2,hm⟩⟩
      . rw[h3 (ndr.mp z).1]
 obtain⟨_,k2,k3⟩:=key ns.length (x4 _)
 rw[List.take_length]at k2 k3
 unfold unl
 exact⟨λ z=>(k2 z).2,λ z=>by rw[k3 z]⟩
noncomputable def Ae:Ct:=λ ds S W=>∃(p:Pg) (ts:List Int),ds=[dPg p,.lst (ts.map D.int)]/\PgB 0 p/\flat S/\ts.length≤100/\∀b:Bool,(b=true↔OkI (aK p).length ts)->W (.bl b) S
theorem CJ(F:Fun Ω.K "is_row" "is_row" kY f fd)(B:Bi Ω.mg)(Cq39:Cal Ω "is_whole" 1 1 gC)(Cq41:Cal Ω "number_of_steps" 4 1 jJ):Ok Ω 5 f fd Gz Ae:=by
 refine az (N:=Gy) F (Gd B Cq39 Cq41) (by kernel_rfl!) ?_
 rintro ds S W ⟨p,ts,rfl,hP,hS,ho,hw⟩ hl
 walk_at "b"
 refine⟨rfl,qI hP hS ?_⟩
 walk_at "b"
 refine ur (C0:=λ _=>True) (xs:=ts) (enc:=D.int) (λ t=>.bl (decide (0≤t/\t<((aK p).length:Int)))) (by omega) trivial ?_ (.inl ?_)
 . intro i t ht Q hq
   walk_at "b"
   refine⟨rfl,_,rfl,?_⟩
   walk_at "b"
   refine⟨λ z=>?_,λ z=>?_⟩
   . have z:=of_decide_eq_false z
     rw[ZH (λ y=>z y.1)]at hq
     exact hq
   . have z:=ZF z
     walk_at "b"
     rw[show decide (t<((aK p).length:Int))=decide (0≤t/\t<((aK p).length:Int))from by simp[z]]
     exact hq
 walk_at "b"
 refine⟨ts.map λ t=>decide (0≤t/\t<((aK p).length:Int)),by rw[List.map_map];rfl,?_⟩
 by_cases hr:∀t∈ts,0≤t/\t<((aK p).length:Int)
 . rw[show(ts.map λ t=>decide (0≤t/\t<((aK p).length:Int))).all id=true from by rw[List.all_map,List.all_eq_true];exact λ t ht=>ZG (hr t ht)]
   walk_at "b"
   refine⟨ts,rfl,by show _<4096;omega,?_⟩
   walk_at "b"
   rw[y8]
   refine hw _ ?_
   rw[decide_eq_true_iff]
   rw[show((unl ts:Int)=(ts.length:Int))↔unl ts=ts.length from by omega,QQ]
   exact⟨λ z=>⟨hr,z⟩,λ z=>z.2⟩
 . rw[show(ts.map λ t=>decide (0≤t/\t<((aK p).length:Int))).all id=false from by
    rw[Bool.eq_false_iff]
    intro z
    rw[List.all_map,List.all_eq_true]at z
    exact hr λ t ht=>ZF (z t ht)]
   walk_at "b"
   exact hw false ⟨λ z=>(by cases z),λ z=>(hr z.1).elim⟩
noncomputable def zN:Ct:=λ ds S W=>∃(p:Pg) (ts:List Int),ds=[dPg p,.lst (ts.map D.int)]/\PgB 0 p/\flat S/\ts.length≤100/\∀b:Bool,(b=true↔OkI (aK p).length ts/\ts.length=(aK p).length)->W (.bl b) S
theorem wj(F:Fun Ω.K "is_order" "is_order" gV f fd)(B:Bi Ω.mg)(Cq41:Cal Ω "number_of_steps" 4 1 jJ)(Cq35:Cal Ω "is_row" 5 2 Ae):Ok Ω 6 f fd yz zN:=by
 refine az (N:=Ad) F (zz B Cq41 Cq35) (by kernel_rfl!) ?_
 rintro ds S W ⟨p,ts,rfl,hP,hS,ho,hw⟩ hl
 walk_at "b"
 refine⟨rfl,p,ts,rfl,hP,hS,ho,λ b hb=>?_⟩
 cases b with
 | false=>
   walk_at "b"
   exact hw false ⟨λ z=>(by cases z),λ z=>(by have:=hb.mpr z.1;cases this)⟩
 | true=>
   walk_at "b"
   refine⟨rfl,qI hP hS ?_⟩
   walk_at "b"
   rw[y8]
   refine hw _ ?_
   rw[decide_eq_true_iff]
   have:=hb.mp rfl
   exact⟨λ z=>⟨this,by omega⟩,λ z=>by have:=z.2;omega⟩
theorem bZ{xss:List (List Int)}(h:xss[i]? =some l):xss.flatten=(xss.take i).flatten++(l++(xss.drop (i+1)).flatten):=by
 have hi:=(y3.mp h).1
 have e:xss=xss.take i++(l::xss.drop (i+1)):=by
  conv=>lhs;rw[←List.take_append_drop i xss]
  rw[List.drop_eq_getElem_cons hi,(y3.mp h).2]
 conv=>lhs;rw[e]
 rw[List.flatten_append,List.flatten_cons]
theorem Ek{xss:List (List Int)}(h:xss[i]? =some l)(g:l[j]? =some t):∃B,xss.flatten=((xss.take i).flatten++l.take j)++t::B:=by
 have hj:=(y3.mp g).1
 refine⟨l.drop (j+1)++(xss.drop (i+1)).flatten,?_⟩
 have e:l=l.take j++(t::l.drop (j+1)):=by
  conv=>lhs;rw[←List.take_append_drop j l]
  rw[List.drop_eq_getElem_cons hj,(y3.mp g).2]
 rw[bZ h]
 conv=>lhs;rw[e]
 simp
theorem nW{xss:List (List Int)}(h:xss[i]? =some l):(xss.take (i+1)).flatten=(xss.take i).flatten++l:=by
 rw[aD h,List.flatten_append];simp
noncomputable def Ij:Ct:=λ ds S W=>∃xss:List (List Int),ds=[.lst (dII xss)]/\Bd 100 xss/\flat S/\W (.lst (xss.flatten.map D.int)) S
theorem tG(F:Fun Ω.K "all_steps" "all_steps" f9 f fd):Ok Ω 1 f fd wH Ij:=by
 refine az (N:=vR) F (Bl.frz (vP)) (by kernel_rfl!) ?_
 rintro ds S W ⟨xss,rfl,hB,hS,hw⟩ hl
 walk_at "b"
 refine aO ⟨λ i Γ' T=>∃o2,Γ'=[some (.lst (dII xss)),some (.loc S.length),o2]/\T=S++[(xss.take i).flatten.map D.int],⟨_,rfl,rfl⟩,?_,?_⟩
 . rintro i e Γ' T he ⟨o2,rfl,rfl⟩
   obtain⟨l,hi,rfl⟩:=nq he
   have hc:=congrArg List.length (bZ hi)
   rw[x9,x9]at hc
   have hB2:=hB.2
   refine b7 ?_
   simp only[List.set_cons_succ,List.set_cons_zero]
   walk_at "b"
   refine⟨_,_,cu,rfl,by rw[y8,y8];omega,?_⟩
   rw[bu]
   exact⟨_,rfl,by rw[nW hi,List.map_append]⟩
 . rintro Γ' T ⟨o2,rfl,rfl⟩
   have e:(dII xss).length=xss.length:=y8 _
   rw[e,List.take_length]
   walk_at "b"
   exact .inr ⟨_,S,rfl,rfl,x4 _,bU _,hS,hw⟩
noncomputable def kvP(q:List (Int×Nat)):Ko:=q.map λ x=>(some x.1,.int (x.2:Int))
noncomputable def prT(xss:List (List Int))(i:Nat):List (Int×Nat):=((xss.mapIdx λ a l=>l.map λ t=>(t,a)).take i).flatten
noncomputable def prF(xss:List (List Int)):List (Int×Nat):=prT xss xss.length
theorem qe{xss:List (List Int)}(h:xss[i]? =some l):prT xss (i+1)=prT xss i++l.map λ t=>(t,i):=by
 unfold prT
 rw[aD (x:=l.map λ t=>(t,i)) (by rw[List.getElem?_mapIdx,h];rfl),List.flatten_append];simp
theorem lJ(xss:List (List Int)):∀i,i≤xss.length->(prT xss i).map (·.1)=(xss.take i).flatten
 | 0,_=>rfl
 | i+1,h=>by
   have e:=y4 (l:=xss) (i:=i) (by omega)
   rw[qe e,nW e,List.map_append,lJ xss i (by omega),List.map_map]
   congr 1
   exact List.map_id _
theorem tK(q:List (Int×Nat)):(kvP q).length=q.length:=y8 _
theorem zb{q:List (Int×Nat)}:(bx (kvP q) (some t)).isSome=decide (t∈q.map (·.1)):=by
 rw[←za]
 unfold kvP
 rw[List.any_map]
 rw[Bool.eq_iff_iff,List.any_eq_true,decide_eq_true_iff,List.mem_map]
 constructor
 . rintro⟨x,hx,z⟩
   exact⟨x,hx,Option.some.inj (ZF z)⟩
 . rintro⟨x,hx,rfl⟩
   exact⟨x,hx,ZG rfl⟩
theorem Ds{q:List (Int×Nat)}{a:Nat}(h:t∉q.map (·.1)):putD (kvP q) (some t) (.int (a:Int))=kvP (q++[(t,a)]):=by
 unfold putD
 rw[za,zb,ZH h]
 unfold kvP
 rw[List.map_append];rfl
theorem Jj:∀{q:List (Int×Nat)}{t:Int}{a:Nat},(q.map (·.1)).Nodup->(t,a)∈q->bx (kvP q) (some t)=some (.int (a:Int))
 | x ::q,t,a,h,g=>by
   rw[List.map_cons,List.nodup_cons]at h
   show bx ((some x.1,.int (x.2:Int))::kvP q) (some t)=_
   unfold bx
   rw[List.find?_cons]
   rcases ZJ.mp g with rfl | g
   . rw[ZG rfl];rfl
   . have hne:¬some x.1=some t:=λ z=>h.1 (by rw[Option.some.inj z];exact ZO.mpr ⟨_,g,rfl⟩)
     rw[ZH hne]
     exact Jj h.2 g
theorem PK{xss:List (List Int)}{a:Nat}(h:xss[a]? =some l)(g:t∈l):(t,a)∈prF xss:=by
 unfold prF prT
 rw[List.take_of_length_le (by rw[List.length_mapIdx];exact x4 _)]
 refine List.mem_flatten.mpr ⟨l.map λ t=>(t,a),y6 (i:=a) (by rw[List.getElem?_mapIdx,h];rfl),ZO.mpr ⟨t,g,rfl⟩⟩
theorem Eh{xss:List (List Int)}(h:xss.flatten.Nodup)(g:t∈xss.flatten):bx (kvP (prF xss)) (some t)=some (.int (wh xss t:Int)):=by
 obtain⟨l,hl,ht⟩:=List.mem_flatten.mp g
 have hlt:wh xss t<xss.length:=List.findIdx_lt_length_of_exists ⟨l,hl,ZG ht⟩
 have hp:decide (t∈xss[wh xss t])=true:=List.findIdx_getElem (p:=λ l=>decide (t∈l)) (w:=hlt)
 refine Jj ?_ (PK (y4 hlt) (ZF hp))
 unfold prF
 rw[lJ xss _ (x4 _),List.take_length]
 exact h
theorem xU{xss:List (List Int)}{e:D}(h:((dII xss).mapIdx λ i d=>D.tup [.int i,d])[i]? =some e):∃l,xss[i]? =some l/\e=.tup [.int (i:Int),.lst (l.map D.int)]:=by
 rw[List.getElem?_mapIdx]at h
 cases e1:(dII xss)[i]? with
 | none=>rw[e1]at h;cases h
 | some d=>
   rw[e1]at h
   cases h
   obtain⟨l,hl,rfl⟩:=nq e1
   exact⟨l,hl,rfl⟩
theorem Ql{xss:List (List Int)}(h:i≤xss.length):(prT xss i).length=(xss.take i).flatten.length:=by
 rw[←lJ xss i h,y8]
theorem zM(xss:List (List Int))(i:Nat)(l:List Int)(hi:i≤xss.length)(j:Nat):(prT xss i++(l.take j).map λ t=>(t,i)).map (·.1)=(xss.take i).flatten++l.take j:=by
 rw[List.map_append,lJ xss i hi,List.map_map]
 congr 1
 exact List.map_id _
noncomputable def Hu:Ct:=λ ds S W=>∃xss:List (List Int),ds=[.lst (dII xss)]/\Bd 100 xss/\xss.flatten.Nodup/\W (.dlo S.length) (S++[(kvP (prF xss)).map aX])
theorem jT(F:Fun Ω.K "numbers_of_lists" "numbers_of_lists" cI f fd)(B:Bi Ω.mg):Ok Ω 1 f fd j6 Hu:=by
 refine az (N:=lw) F (kE B) (by kernel_rfl!) ?_
 rintro ds S W ⟨xss,rfl,hB,hD,hw⟩ hl
 walk_at "b"
 refine aO ⟨λ i Γ' T=>∃o2 o3 o4,Γ'=[some (.lst (dII xss)),some (.dlo S.length),o2,o3,o4]/\T=S++[(kvP (prT xss i)).map aX],⟨_,_,_,rfl,rfl⟩,?_,?_⟩
 . rintro i e Γ' T he ⟨o2,o3,o4,rfl,rfl⟩
   obtain⟨l,hi,rfl⟩:=xU he
   have hil:=(y3.mp hi).1
   walk_at "b"
   refine⟨rfl,?_⟩
   walk_at "b"
   refine aO ⟨λ j Γ' T=>∃o4,Γ'=[some (.lst (dII xss)),some (.dlo S.length),some (.int (i:Int)),some (.lst (l.map D.int)),o4]/\T=S++[(kvP (prT xss i++(l.take j).map λ t=>(t,i))).map aX],⟨_,rfl,by simp⟩,?_,?_⟩
   . rintro j e Γ' T he ⟨o4,rfl,rfl⟩
     obtain⟨t,ht,rfl⟩:=bH he
     obtain⟨B,hB1⟩:=Ek hi ht
     have hnew:t∉(prT xss i++(l.take j).map λ t=>(t,i)).map (·.1):=by
      rw[zM xss i l (by omega) j]
      rw[hB1]at hD
      intro z
      exact(List.nodup_append.mp hD).2.2 t z t x8 rfl
     have hlen:=congrArg List.length hB1
     have hk:=congrArg List.length (zM xss i l (by omega) j)
     have hB2:=hB.2
     rw[y8]at hk
     rw[x9,List.length_cons]at hlen
     refine b7 ?_
     simp only[List.set_cons_succ,List.set_cons_zero]
     walk_at "b"
     refine⟨some t,kvP (prT xss i++(l.take j).map λ t=>(t,i)),rfl,cu,by rw[tK];omega,?_⟩
     rw[Ds hnew,List.set_append_right _ _ (x4 _)]
     refine⟨_,rfl,?_⟩
     rw[aD ht,List.map_append,List.append_assoc]
     simp
   . rintro Γ' T ⟨o4,rfl,rfl⟩
     rw[y8,List.take_length]
     exact⟨_,_,_,rfl,by rw[qe hi]⟩
 . rintro Γ' T ⟨o2,o3,o4,rfl,rfl⟩
   have e:((dII xss).mapIdx λ i d=>D.tup [.int i,d]).length=xss.length:=by rw[List.length_mapIdx];exact y8 _
   rw[e]
   walk_at "b"
   exact hw
theorem vA{xs:List CR}{q:Pr}(h:q∈bc xs xs.length):q.1<q.2.1/\q.2.1<xs.length/\tN xs q.1 q.2.1=true:=by
 obtain⟨i,hi,h⟩:=List.mem_flatMap.mp h
 obtain⟨t,ht,h⟩:=List.mem_flatMap.mp h
 have hi:=List.mem_range.mp hi
 have ht:=List.mem_range.mp ht
 have ha:=y4 (l:=xs) (i:=i) hi
 have hb:=y4 (l:=xs) (i:=i+1+t) (by omega)
 rw[oN ha hb,yM]at h
 by_cases hz:iy xs[i] xs[i+1+t]=true
 . rw[hz]at h
   have h:=ZL.mp h
   rw[h]
   exact⟨by show i<i+1+t;omega,by show i+1+t<_;omega,by show tN xs i (i+1+t)=true;rw[wU ha hb];exact hz⟩
 . rw[Bool.eq_false_iff.mpr hz]at h
   cases h
theorem Ib{xs:List CR}(hij:i<j)(hj:j<xs.length)(ht:tN xs i j=true):∃c,(i,j,c)∈bc xs xs.length:=by
 have ha:=y4 (l:=xs) (i:=i) (by omega)
 have hb:=y4 (l:=xs) (i:=j) hj
 rw[wU ha hb]at ht
 refine⟨ssC xs[i] xs[j],?_⟩
 unfold bc
 refine List.mem_flatMap.mpr ⟨i,List.mem_range.mpr (by omega),List.mem_flatMap.mpr ⟨j-(i+1),List.mem_range.mpr (by omega),?_⟩⟩
 rw[show i+1+(j-(i+1))=j from by omega,oN ha hb,yM,ht]
 exact ZL.mpr rfl
theorem HB{xs:List CR}{xss:List (List Int)}(h:OkI xs.length xss.flatten/\xss.flatten.length=xs.length):((bc xs xs.length).all λ q=>decide (wh xss (q.1:Nat)<wh xss (q.2.1:Nat)))=true↔OkR xs xss:=by
 rw[List.all_eq_true]
 constructor
 . intro z
   refine⟨h.1,h.2,λ i j hij hj ht=>?_⟩
   obtain⟨c,hc⟩:=Ib hij hj ht
   exact ZF (z _ hc)
 . intro z q hq
   obtain⟨h1,h2,h3⟩:=vA hq
   exact ZG (z.2.2 _ _ h1 h2 h3)
noncomputable def JV:Ct:=λ ds S W=>∃(p:Pg) (xss:List (List Int)),ds=[dPg p,.lst (dII xss)]/\PgB 0 p/\many p.nss≤60/\flat S/\Bd 100 xss/\∀b:Bool,(b=true↔OkR ((aK p).map crs) xss)->W (.bl b) S
theorem sJ(F:Fun Ω.K "are_rounds" "are_rounds" fG f fd)(B:Bi Ω.mg)(Cq43:Cal Ω "pairs" 6 1 qF)(Cq31:Cal Ω "is_order" 6 2 zN)(Cq14:Cal Ω "all_steps" 1 1 Ij)(Cq42:Cal Ω "numbers_of_lists" 1 1 Hu):Ok Ω 7 f fd tZ JV:=by
 refine az (N:=tH) F (Bl.drp (tD B Cq43 Cq31 Cq14 Cq42)) (by kernel_rfl!) ?_
 rintro ds S W ⟨p,xss,rfl,hP,h60,hS,hB,hw⟩ hl
 have hXL:((aK p).map crs).length=(aK p).length:=y8 _
 have hN:=dY h60
 walk_at "b"
 refine⟨rfl,xss,rfl,hB,hS,?_⟩
 walk_at "b"
 refine⟨rfl,p,_,rfl,hP,hS,hB.2,λ b hb=>?_⟩
 cases b with
 | false=>
   walk_at "b"
   exact .inl (hw false ⟨λ z=>(by cases z),λ z=>(by rw[←hXL]at hb;have:=hb.mpr ⟨z.1,z.2.1⟩;cases this)⟩)
 | true=>
   have hb:=hb.mp rfl
   walk_at "b"
   refine⟨rfl,xss,rfl,hB,hb.1.2,?_⟩
   have f1:flat (S++[(kvP (prF xss)).map aX]):=λ l hl=>by
    rcases ZK.mp hl with hl | hl
    . exact hS l hl
    . rw[ZL.mp hl]
      refine yL λ x hx=>?_
      obtain⟨y,_,rfl⟩:=ZO.mp hx
      rfl
   walk_at "b"
   refine⟨rfl,p,rfl,hP,h60,f1,λ its J hI=>?_⟩
   rw[←hXL]at hb hI hN
   generalize (aK p).map crs=xs at*
   have look:∀t:Nat,t<xs.length->bx (kvP (prF xss)) (some (t:Int))=some (.int (wh xss (t:Int):Int)):=λ t ht=>Eh hb.1.2 (Es hb.1 hb.2 ht)
   have gk:(S++[(kvP (prF xss)).map aX]++[its]++J)[S.length]? =some ((kvP (prF xss)).map aX):=by
    rw[List.append_assoc,List.append_assoc,List.getElem?_append_right (x4 _),Nat.sub_self];rfl
   have gi:(S++[(kvP (prF xss)).map aX]++[its]++J)[(S++[(kvP (prF xss)).map aX]).length]? =some its:=xH rfl
   walk_at "b"
   have hQl:(bc xs xs.length).length≤3600:=by
    have h1:=iZ xs xs.length
    have h2:xs.length*xs.length≤60*60:=Nat.mul_le_mul hN hN
    omega
   refine⟨its,gi,cB ⟨by rw[hI.length];omega,λ i acc T=>acc=((bc xs xs.length).take i).map (λ q=>D.bl (decide (wh xss (q.1:Nat)<wh xss (q.2.1:Nat))))/\T=S++[(kvP (prF xss)).map aX]++[its]++J,⟨rfl,rfl⟩,λ _ _ _ h=>by rw[h.2];exact gi,?_,?_⟩⟩
   . rintro i d acc T hd ⟨rfl,rfl⟩
     obtain⟨q,m',hq,rfl⟩:=hI.get hd
     obtain⟨q1,q2,_⟩:=vA (y6 hq)
     walk_at "b"
     refine⟨rfl,?_⟩
     walk_at "b"
     refine⟨some (q.1:Int),_,rfl,gk,_,look _ (by omega),?_⟩
     walk_at "b"
     refine⟨some (q.2.1:Int),_,rfl,gk,_,look _ q2,?_⟩
     walk_at "b"
     refine⟨?_,rfl⟩
     rw[aD hq,List.map_append]
     show _++[_]=_++[_]
     rw[show decide ((wh xss (q.1:Nat):Int)<(wh xss (q.2.1:Nat):Int))=decide (wh xss (q.1:Nat)<wh xss (q.2.1:Nat))from by rw[Bool.eq_iff_iff,decide_eq_true_iff,decide_eq_true_iff];omega]
   . rintro acc T ⟨rfl,rfl⟩
     rw[hI.length,List.take_length]
     refine .inl ?_
     walk_at "b"
     refine⟨(bc xs xs.length).map λ q=>decide (wh xss (q.1:Nat)<wh xss (q.2.1:Nat)),by rw[List.map_map];rfl,?_⟩
     rw[List.all_map]
     exact .inr ⟨_,S,by rw[List.append_assoc,List.append_assoc],x4 _,rfl,hS,hw _ (HB hb)⟩
noncomputable def Eo:Ct:=λ ds S W=>∃(xs:List CR) (xss:List (List Int)),ds=[.lst (xs.map dCR),.lst (dII xss)]/\xs.length≤60/\flat S/\Bd 100 xss/\∀b:Bool,(b=true↔OkR xs xss)->W (.bl b) S
theorem kh:OkI n (l++[t])↔OkI n l/\t∉l/\0≤t/\t<(n:Int):=by
 unfold OkI
 rw[List.nodup_append]
 constructor
 . rintro⟨a,b,_,c⟩
   exact⟨⟨λ x hx=>a x (ZK.mpr (.inl hx)),b⟩,λ z=>c _ z _ (ZL.mpr rfl) rfl,a t (by simp)⟩
 . rintro⟨⟨a,b⟩,c,d⟩
   refine⟨λ x hx=>?_,b,by simp,λ x hx y hy z=>c ?_⟩
   . rcases ZK.mp hx with hx | hx
     . exact a x hx
     . rw[ZL.mp hx];exact d
   . rw[ZL.mp hy]at z
     exact z▸hx
theorem QV{A B:List Int}(h:OkI n (A++B)):OkI n A:=⟨λ t ht=>h.1 t (ZK.mpr (.inl ht)),(List.nodup_append.mp h.2).1⟩
theorem MT (F:Fun Ω.K "_law_due" "_law_due" uM f fd)(B:Bi Ω.mg)(Cq12:Cal Ω "_law_touch" 1 2 rY):Ok Ω 2 f fd Pn Eo:=by
 refine az (N:=PB) F (Bl.drp (Qt B Cq12)) (by kernel_rfl!) ?_
 rintro ds S W ⟨xs,xss,rfl,hN,hS,hB,hw⟩ hl
 have ax:∀i(h:i<xs.length),atI (xs.map dCR) ((i:Nat):Int)=some (dCR xs[i]):=λ i h=>aA (by rw[y9,y4 h];rfl)
 have hcl:(xs.map dCR).length=xs.length:=y8 _
 have nk:∀q,ak ((kvP q).map aX)=true:=λ q=>yL λ x hx=>by
  obtain⟨y,_,rfl⟩:=ZO.mp hx
  rfl
 walk_at "b"
 refine aO ⟨λ i Γ' T=>∃o3 o4 o5 o6 o7,Γ'=[some (.lst (xs.map dCR)),some (.lst (dII xss)),some (.dlo S.length),o3,o4,o5,o6,o7]/\T=S++[(kvP (prT xss i)).map aX]/\OkI xs.length (xss.take i).flatten,⟨_,_,_,_,_,rfl,rfl,λ t h=>(by cases h),by simp⟩,?_,?_⟩
 . rintro i e Γ' T he ⟨o3,o4,o5,o6,o7,rfl,rfl,hk⟩
   obtain⟨l,hi,rfl⟩:=xU he
   have hil:=(y3.mp hi).1
   walk_at "b"
   refine⟨rfl,?_⟩
   walk_at "b"
   refine aO ⟨λ j Γ' T=>∃o5 o6 o7,Γ'=[some (.lst (xs.map dCR)),some (.lst (dII xss)),some (.dlo S.length),some (.int (i:Int)),some (.lst (l.map D.int)),o5,o6,o7]/\T=S++[(kvP (prT xss i++(l.take j).map λ t=>(t,i))).map aX]/\OkI xs.length ((xss.take i).flatten++l.take j),⟨_,_,_,rfl,by simp,by simpa using hk⟩,?_,?_⟩
   . rintro j e Γ' T he ⟨o5,o6,o7,rfl,rfl,hk⟩
     obtain⟨t,ht,rfl⟩:=bH he
     obtain⟨B,hB1⟩:=Ek hi ht
     have hlen:=congrArg List.length hB1
     have hky:=zM xss i l (by omega) j
     have hk2:=congrArg List.length hky
     have hB2:=hB.2
     rw[y8]at hk2
     rw[x9,List.length_cons]at hlen
     have bad:¬OkI xs.length (((xss.take i).flatten++l.take j)++[t])->Drp S.length W (.bl false) (S++[(kvP (prT xss i++(l.take j).map λ t=>(t,i))).map aX]):=λ hz=>by
      refine .inr ⟨_,S,rfl,x4 _,rfl,hS,hw false ⟨λ z=>(by cases z),λ z=>(hz ?_).elim⟩⟩
      have z1:=z.1
      rw[hB1,show ∀A:List Int,A++t::B=(A++[t])++B from λ A=>by simp]at z1
      exact QV z1
     refine b7 ?_
     simp only[List.set_cons_succ,List.set_cons_zero]
     walk_at "b"
     refine⟨some t,kvP (prT xss i++(l.take j).map λ t=>(t,i)),rfl,cu,?_⟩
     walk_at "b"
     rw[zb,hky]
     by_cases h1:t∈(xss.take i).flatten++l.take j
     . rw[ZG h1]
       walk_at "b"
       exact bad λ z=>(kh.mp z).2.1 h1
     . rw[ZH h1]
       walk_at "b"
       refine⟨λ z=>?_,λ z=>?_⟩
       . have z:=of_decide_eq_false z
         walk_at "b"
         exact bad λ y=>z (kh.mp y).2.2.1
       have z:=ZF z
       walk_at "b"
       rw[hcl]
       by_cases h3:t<(xs.length:Int)
       . rw[ZG h3]
         have hg:=kh.mpr ⟨hk,h1,z,h3⟩
         walk_at "b"
         refine⟨some t,kvP (prT xss i++(l.take j).map λ t=>(t,i)),rfl,cu,by rw[tK];omega,?_⟩
         rw[Ds (by rw[hky];exact h1),List.set_append_right _ _ (x4 _)]
         refine⟨_,_,_,rfl,?_,by rw[aD ht,←List.append_assoc];exact hg⟩
         rw[aD ht,List.map_append,List.append_assoc]
         simp
       . rw[ZH h3]
         walk_at "b"
         exact bad λ y=>h3 (kh.mp y).2.2.2
   . rintro Γ' T ⟨o5,o6,o7,rfl,rfl,hk⟩
     rw[y8,List.take_length]at*
     exact⟨_,_,_,_,_,rfl,by rw[qe hi],by rw[nW hi];exact hk⟩
 . rintro Γ' T ⟨o3,o4,o5,o6,o7,rfl,rfl,hk⟩
   have e:((dII xss).mapIdx λ i d=>D.tup [.int i,d]).length=xss.length:=by rw[List.length_mapIdx];exact y8 _
   rw[e]at hk ⊢
   rw[List.take_length]at hk
   have hkl:(kvP (prT xss xss.length)).length=xss.flatten.length:=by rw[tK,Ql (x4 _),List.take_length]
   walk_at "b"
   refine⟨kvP (prT xss xss.length),cu,?_⟩
   rw[hkl]
   walk_at "b"
   rw[hcl]
   by_cases h2:xss.flatten.length<xs.length
   . rw[ZG (show(xss.flatten.length:Int)<(xs.length:Int) by omega)]
     walk_at "b"
     exact .inr ⟨_,S,rfl,x4 _,rfl,hS,hw false ⟨λ z=>(by cases z),λ z=>(by have:=z.2.1;omega)⟩⟩
   have hpg:=pig _ _ hk
   have hfl:xss.flatten.length=xs.length:=by omega
   have look:∀t:Nat,t<xs.length->bx (kvP (prT xss xss.length)) (some (t:Int))=some (.int (wh xss (t:Int):Int)):=λ t ht=>Eh hk.2 (Es hk hfl ht)
   rw[ZH (show ¬(xss.flatten.length:Int)<(xs.length:Int) by omega)]
   walk_at "b"
   rw[hcl]
   refine⟨⟨by omega,by omega⟩,aO ⟨λ j Γ' T=>∃o3 o4 o5 o6 o7,Γ'=[some (.lst (xs.map dCR)),some (.lst (dII xss)),some (.dlo S.length),o3,o4,o5,o6,o7]/\T=S++[(kvP (prT xss xss.length)).map aX]/\∀a b:Nat,a<b->b<j->tN xs a b=true->wh xss a<wh xss b,⟨_,_,_,_,_,rfl,rfl,λ a b _ h=>(by omega)⟩,?_,?_⟩⟩
   . rintro j e Γ' T he ⟨o3,o4,o5,o6,o7,rfl,rfl,hq⟩
     obtain⟨hj,rfl⟩:=aL he
     have hj:j<xs.length:=by omega
     rw[show(0+(j:Int))=((j:Nat):Int)from by omega]
     refine b7 ?_
     simp only[List.set_cons_succ,List.set_cons_zero]
     walk_at "b"
     refine⟨⟨by omega,by omega⟩,aO ⟨λ i Γ' T=>∃o3 o4 o5 o7,Γ'=[some (.lst (xs.map dCR)),some (.lst (dII xss)),some (.dlo S.length),o3,o4,o5,some (.int (j:Int)),o7]/\T=S++[(kvP (prT xss xss.length)).map aX]/\∀a:Nat,a<i->tN xs a j=true->wh xss a<wh xss j,⟨_,_,_,_,rfl,rfl,λ a h=>(by omega)⟩,?_,?_⟩⟩
     . rintro i e Γ' T he ⟨o3,o4,o5,o7,rfl,rfl,hr⟩
       obtain⟨hi,rfl⟩:=aL he
       have hi:i<j:=by omega
       rw[show(0+(i:Int))=((i:Nat):Int)from by omega]
       refine b7 ?_
       simp only[List.set_cons_succ,List.set_cons_zero]
       walk_at "b"
       refine⟨some (i:Int),_,rfl,cu,_,look i (by omega),?_⟩
       walk_at "b"
       refine⟨some (j:Int),_,rfl,cu,_,look j hj,?_⟩
       have et:tN xs i j=iy xs[i] xs[j]:=wU (y4 (by omega)) (y4 hj)
       have go:(tN xs i j=true->wh xss i<wh xss j)->∀a:Nat,a<i+1->tN xs a j=true->wh xss a<wh xss j:=λ h a ha ht=>by
        rcases Nat.lt_or_eq_of_le (Nat.le_of_lt_succ ha)with h' | rfl
        . exact hr a h' ht
        . exact h ht
       walk_at "b"
       refine⟨λ z=>?_,λ z=>?_⟩
       . have z:=ZF z
         walk_at "b"
         refine⟨_,ax i (by omega),?_⟩
         walk_at "b"
         refine⟨_,ax j hj,?_⟩
         walk_at "b"
         refine⟨rfl,_,_,rfl,?_⟩
         rw[←et]
         by_cases h4:tN xs i j=true
         . rw[h4]
           walk_at "b"
           exact .inr ⟨_,S,rfl,x4 _,rfl,hS,hw false ⟨λ z=>(by cases z),λ y=>(by have:=y.2.2 i j hi hj h4;omega)⟩⟩
         . rw[Bool.eq_false_iff.mpr h4]
           walk_at "b"
           exact⟨_,_,_,_,rfl,rfl,go λ y=>(h4 y).elim⟩
       . have z:=of_decide_eq_false z
         walk_at "b"
         exact⟨_,_,_,_,rfl,rfl,go λ _=>by omega⟩
     . rintro Γ' T ⟨o3,o4,o5,o7,rfl,rfl,hr⟩
       rw[ao]at hr
       refine⟨_,_,_,_,_,rfl,rfl,λ a b h1 h2 h3=>?_⟩
       rcases Nat.lt_or_ge b j with h | h
       . exact hq a b h1 h h3
       . have e:b=j:=by omega
         subst e
         exact hr a (by omega) h3
   . rintro Γ' T ⟨o3,o4,o5,o6,o7,rfl,rfl,hq⟩
     rw[ao]at hq
     walk_at "b"
     exact .inr ⟨_,S,rfl,x4 _,rfl,hS,hw true ⟨λ _=>⟨hk,hfl,λ a b h1 h2 h3=>hq a b h1 (by omega) h3⟩,λ _=>rfl⟩⟩
theorem qO(xss:List (List Int)):bN (dII xss)=true/\aY (dII xss)≤1:=by
 unfold dII
 induction xss with
 | nil=>exact⟨rfl,by decide⟩
 | cons y ys ih=>
   have h1:okD (.lst (y.map D.int))=true:=mY _
   have h2:deep (.lst (y.map D.int))=1:=by show aY _+1=1;rw[jZ]
   simp only[List.map_cons,bN,aY,h1,h2,Bool.true_and]
   exact⟨ih.1,by have:=ih.2;omega⟩
noncomputable def xx:Ct:=λ ds S W=>∃(p:Pg) (xss:List (List Int)),ds=[dPg p,.lst (((aK p).map crs).map dCR),.lst (dII xss)]/\PgB 0 p/\many p.nss≤60/\flat S/\Bd 100 xss/\W (.bl true) S
theorem Jd(F:Fun Ω.K "_law_says" "_law_says" qJ f fd)(B:Bi Ω.mg)(Cq15:Cal Ω "are_rounds" 7 2 JV)(Cq5:Cal Ω "_law_due" 2 2 Eo):Ok Ω 8 f fd Li xx:=by
 refine az (N:=Ma) F (M8 B Cq15 Cq5) (by kernel_rfl!) ?_
 rintro ds S W ⟨p,xss,rfl,hP,h60,hS,hB,hw⟩ hl
 have hXL:((aK p).map crs).length=(aK p).length:=y8 _
 have hN:=dY h60
 have hB1:=hB.1
 walk_at "b"
 unfold dII
 refine ur (C0:=λ _=>True) (xs:=xss) (enc:=λ l=>D.lst (l.map D.int)) (λ l=>.lst (l.map D.int)) (by omega) trivial ?_ (.inl ?_)
 . intro i t ht Q hq
   walk_at "b"
   exact hq
 walk_at "b"
 refine⟨rfl,p,xss,rfl,hP,h60,hS,hB,λ b hb=>?_⟩
 walk_at "b"
 refine⟨rfl,_,xss,rfl,by omega,hS,hB,λ b' hb'=>?_⟩
 obtain rfl:b=b':=Bool.eq_iff_iff.mpr (hb.trans hb'.symm)
 walk_at "b"
 rw[beq_self_eq_true b]
 walk_at "b"
 have hok:=qO xss
 have hnl:=nJ xss
 unfold dII at hok hnl
 have h50:deep (.lst (xss.map λ l=>D.lst (l.map D.int)))≤50:=by show aY _+1≤50;have:=hok.2;omega
 unfold bf
 refine⟨⟨hok.1,hok.1,h50⟩,?_⟩
 rw[show vw S (.lst (xss.map λ l=>D.lst (l.map D.int)))=.lst (xss.map λ l=>D.lst (l.map D.int))from rfl,kI _ hnl]
 exact hw
theorem jD{xss:List (List Int)}(h:xss[i]? =some l)(r:List Int):(xss.set i r).flatten.length+l.length=xss.flatten.length+r.length:=by
 have hi:=(y3.mp h).1
 have h2:(xss.set i r)[i]? =some r:=List.getElem?_set_self hi
 have e1:=congrArg List.length (bZ h)
 have e2:=congrArg List.length (bZ h2)
 rw[x9,x9]at e1 e2
 rw[List.take_set_of_le (x4 i),List.drop_set_of_lt (by omega)]at e2
 omega
noncomputable def dI2(xss:List (List Int)):Store:=xss.map λ l=>l.map D.int
theorem aP(xss:List (List Int)):(dI2 xss).length=xss.length:=y8 _
theorem Rv{xss:List (List Int)}(h:xss[i]? =some l):(dI2 xss)[i]? =some (l.map D.int):=by unfold dI2;rw[y9,h];rfl
theorem Qa(xss:List (List Int))(i:Nat)(l:List Int):(dI2 xss).set i (l.map D.int)=dI2 (xss.set i l):=by unfold dI2;rw[List.map_set]
theorem cY{xss:List (List Int)}(hn:S.length=n)(h:xss[j]? =some l):(S++(dI2 xss++R))[n+j]? =some (l.map D.int):=by
 subst hn
 have hj:=(y3.mp h).1
 rw[List.getElem?_append_right (by omega),show S.length+j-S.length=j from by omega,w9 (by rw[aP];exact hj)]
 exact Rv h
theorem uf{xss:List (List Int)}(hn:S.length=n)(hj:j<xss.length):(S++(dI2 xss++R)).set (n+j) (l.map D.int)=S++(dI2 (xss.set j l)++R):=by
 subst hn
 rw[List.set_append_right _ _ (by omega),show S.length+j-S.length=j from by omega,List.set_append_left _ _ (by rw[aP];exact hj),Qa]
theorem R1{xss:List (List Int)}{q:Nat}(hq:q≤n)(hn:S.length=n){j:Nat}{l:List Int}(h:xss[j]? =some l):Rsv q (S++(dI2 xss++R)) (.loc (n+j)) (.lst (l.map D.int)):=.loc (by omega) (cY hn h) (oH (bU l))
theorem wV{xss:List (List Int)}{q:Nat}(hq:q≤n)(hn:S.length=n):Rsvs q (S++(dI2 xss++R)) (locs n xss.length) (dII xss):=by
 refine oE (by rw[bw];exact(y8 _).symm) λ i x r h1 h2=>?_
 obtain⟨l,h3,rfl⟩:=nq h2
 have hi:=(y3.mp h3).1
 rw[aR hi]at h1
 cases h1
 exact R1 hq hn h3
noncomputable def nT:Ct:=λ ds S W=>∃(k b n:Nat),ds=[.loc k,.int (n:Int)]/\aJ S k b/\b≤10000/\n≤60/\flat S/\∀xss S',Bd 60 xss->aF S k S'->aJ S' k (b+70)->W (.lst (dII xss)) S'
theorem Hn(F:Fun Ω.K "_law_drawn" "_law_drawn" nH f fd)(B:Bi Ω.mg)(Cq7:Cal Ω "_law_next" 2 2 cM):Ok Ω 3 f fd HD nT:=by
 refine az (N:=JR) F (Bl.frg (Hr B Cq7)) (by kernel_rfl!) ?_
 rintro ds S W ⟨k,b,n,rfl,hp,hb,hn,hS,hw⟩ hl
 walk_at "b"
 refine du hp (by omega) (by decide) (by decide) λ v S1 v0 v1 u1 p1=>?_
 obtain⟨m,hm⟩:∃m:Nat,1+v=(m:Int):=⟨(1+v).toNat,by omega⟩
 walk_at "b"
 rw[hm]
 refine⟨⟨by omega,by omega⟩,cB ⟨by rw[ao];omega,λ i acc T=>acc=locs S.length i/\T=S1++(dI2 (List.replicate i [])++[]),⟨rfl,by simp[dI2]⟩,λ _ _ _ _=>trivial,?_,?_⟩⟩
 . rintro i d acc T hd ⟨rfl,rfl⟩
   refine b7 ?_
   walk_at "b"
   refine⟨by rw[fQ,x9,List.append_nil,aP,List.length_replicate,u1.len],?_⟩
   rw[List.replicate_succ']
   simp[dI2]
 rintro acc T ⟨rfl,rfl⟩
 rw[ao,Int.toNat_natCast]
 refine .inl ?_
 walk_at "b"
 refine⟨⟨by omega,by omega⟩,aO ⟨λ i Γ' T=>∃(S':Store) (xss:List (List Int)) (o3:Option D),Γ'=[some (.loc k),some (.int (n:Int)),some (.lst (locs S.length m)),o3]/\T=S'++(dI2 xss++[])/\xss.length=m/\xss.flatten.length=i/\aF S k S'/\aJ S' k (b+1+i),⟨S1,List.replicate m [],_,rfl,rfl,List.length_replicate,by simp,u1,p1⟩,?_,?_⟩⟩
 . rintro i e Γ' T he ⟨S2,xss,o3,rfl,rfl,hxl,hfl,u2,p2⟩
   obtain⟨hi,rfl⟩:=aL he
   rw[show(0+(i:Int))=((i:Nat):Int)from by omega]
   refine b7 ?_
   simp only[List.set_cons_succ,List.set_cons_zero]
   walk_at "b"
   rw[bw]
   refine aQ p2 (by omega) (by omega) (by omega) λ w S3 w0 w1 u3 p3=>?_
   obtain⟨j,rfl⟩:∃j:Nat,w=(j:Int):=⟨w.toNat,by omega⟩
   have hj:j<xss.length:=by omega
   have u3:=u2.trans u3
   walk_at "b"
   refine⟨_,aA (aR (by omega)),?_⟩
   have hx:=y4 hj
   have hfl2:=jD hx (xss[j]++[(i:Int)])
   have hcut:=congrArg List.length (bZ hx)
   rw[x9,x9]at hcut
   rw[x9]at hfl2
   walk_at "b"
   refine⟨_,cY u3.len hx,by rw[y8];omega,?_⟩
   rw[show xss[j].map D.int++[D.int (i:Int)]=(xss[j]++[(i:Int)]).map D.int from by rw[List.map_append];rfl,uf u3.len hj]
   exact⟨S3,_,_,rfl,rfl,by rw[List.length_set];exact hxl,by show _=i+1;simp only[List.length_singleton]at hfl2;omega,u3,p3⟩
 . rintro Γ' T ⟨S2,xss,o3,rfl,rfl,hxl,hfl,u2,p2⟩
   rw[ao]at hfl p2
   walk_at "b"
   refine .inr ⟨_,_,S2,rfl,by rw[u2.len];exact x4 _,u2.flat hS,.lst (rs:=dII xss) ?_,hw xss S2 ⟨by omega,by omega⟩ u2 (p2.mono (by omega))⟩
   rw[←hxl,u2.len]
   exact wV (x4 _) u2.len
theorem cV{n:Nat}{S:Store}:∀{a b c d:List D},Rsvs n S a b->Rsvs n S c d->Rsvs n S (a++c) (b++d)
 | _,_,_,_,.nil,h=>h
 | _,_,_,_,.cons x t,h=>.cons x (cV t h)
theorem zp{n:Nat}{S:Store}:∀{a b:List D},Rsvs n S a b->Rsvs n S a.reverse b.reverse
 | _,_,.nil=>.nil
 | _,_,.cons x t=>by rw[List.reverse_cons,List.reverse_cons];exact cV (zp t) (.cons x .nil)
theorem jb{n:Nat}{S:Store}:∀{a b:List D}(k:Nat),Rsvs n S a b->Rsvs n S (a.take k) (b.take k)
 | _,_,0,_=>by simp;exact .nil
 | _,_,_+1,.nil=>.nil
 | _,_,k+1,.cons x t=>.cons x (jb k t)
theorem iY{n:Nat}{S:Store}:∀{a b:List D}(k:Nat),Rsvs n S a b->Rsvs n S (a.drop k) (b.drop k)
 | _,_,0,h=>h
 | _,_,_+1,.nil=>.nil
 | _,_,k+1,.cons x t=>iY k t
theorem Ay(S:Store):∀l:List D,fL S l=l.map (vwD S)
 | []=>rfl
 | d::l=>by simp only[fL,List.map_cons,Ay S l]
theorem Dr{xss:List (List Int)}(hn:S.length=n):fL (S++(dI2 xss++R)) (locs n xss.length)=dII xss:=by
 rw[Ay]
 refine List.ext_getElem? λ i=>?_
 rcases Nat.lt_or_ge i xss.length with h | h
 . have hx:=y4 h
   rw[y9,aR h]
   unfold dII
   rw[y9,hx]
   simp only[Option.map_some,vwD,cY hn hx]
 . rw[List.getElem?_eq_none (by rw[y8,bw];exact h),List.getElem?_eq_none (by unfold dII;rw[y8];exact h)]
theorem gB(a b:List (List Int)):dII (a++b)=dII a++dII b:=List.map_append
theorem qQ(a:List (List Int))(k:Nat):(dII a).take k=dII (a.take k):=by unfold dII;rw[List.map_take]
theorem qM(a:List (List Int))(k:Nat):(dII a).drop k=dII (a.drop k):=by unfold dII;rw[List.map_drop]
theorem Qs(a:List (List Int)):(dII a).reverse=dII a.reverse:=by unfold dII;rw[List.map_reverse]
theorem Nj(xss:List (List Int))(k:Nat):(xss.take k).flatten.length+(xss.drop k).flatten.length=xss.flatten.length:=by
 rw[←x9,←List.flatten_append,List.take_append_drop]
theorem Km:∀xss:List (List Int),xss.reverse.flatten.length=xss.flatten.length
 | []=>rfl
 | l::xss=>by
   rw[List.reverse_cons,List.flatten_append,x9,Km xss,List.flatten_cons,x9]
   simp only[List.flatten_cons,x9,List.flatten_nil,List.length_nil]
   omega
noncomputable def jh(i:Nat):List (List Int):=(List.range i).map λ(t:Nat)=>[(t:Int)]
theorem vg(i:Nat):jh (i+1)=jh i++[[(i:Int)]]:=by unfold jh;rw[List.range_succ,List.map_append];rfl
theorem qu(i:Nat):(jh i).length=i:=by simp[jh]
theorem Er:∀i:Nat,(jh i).flatten.length=i
 | 0=>rfl
 | i+1=>by rw[vg,List.flatten_append,x9,Er i];rfl
theorem xQ(xss:List (List Int)):flat (dI2 xss):=λ l hl=>by
 obtain⟨y,_,rfl⟩:=ZO.mp hl
 exact bU y
theorem qN(h:flat S)(g:flat R):flat (S++R):=λ l hl=>(ZK.mp hl).elim (h l) (g l)
theorem ye{t:Int}:∀{l:List Int},t∈l->∃j:Nat,l[j]? =some t/\∀(m:Nat)(z:Int),m<j->l[m]? =some z->z≠t
 | x ::l,h=>by
   by_cases e:x=t
   . exact⟨0,by rw[e];rfl,λ m z hm=>by omega⟩
   . rcases ZJ.mp h with h | h
     . exact(e h.symm).elim
     . obtain⟨j,h1,h2⟩:=ye h
       refine⟨j+1,h1,λ m z hm hz=>?_⟩
       cases m with
       | zero=>cases hz;exact e
       | succ m=>exact h2 m z (by omega) hz
theorem Rb(h:l[j]? =some t):(l.eraseIdx j).length+1=l.length:=by
 have:=(y3.mp h).1
 rw[List.length_eraseIdx]
 rw[if_pos this]
 omega
noncomputable def yF:Ct:=λ ds S W=>∃(k b n B:Nat) (xss:List (List Int)),ds=[.loc k,.lst (dII xss),.int (n:Int)]/\aJ S k b/\b≤9000/\n≤60/\flat S/\60≤B/\B≤70/\Bd B xss/\(∀l∈xss,l≠[])/\∀yss S',Bd (B+1) yss->aF S k S'->aJ S' k (b+100)->W (.lst (dII yss)) S'
theorem Kh(F:Fun Ω.K "_law_bent" "_law_bent" qZ f fd)(B:Bi Ω.mg)(Cq7:Cal Ω "_law_next" 2 2 cM)(Cq4:Cal Ω "_law_drawn" 3 2 nT):Ok Ω 4 f fd Nf yF:=by
 refine az (N:=yS) F (Bl.frg (Lk B Cq7 Cq4)) (by kernel_rfl!) ?_
 rintro ds S W ⟨k,b,n,M,xss,rfl,hp,hb,hn,hS,hB0,hB1,hX,hne,hw⟩ hl
 obtain⟨hX1,hX2⟩:=hX
 have key:∀(v:Int)(a o:Nat)(S3:Store)(so:D)(R:Store)(Wf:DL.Fin),(∀d T,FrG S.length W d T->Wf.rt d T)->0≤v->v<12->(a:Int)<max 1 (xss.length:Int)->(o:Int)<max 1 (xss.length:Int)->(so=.lst (locs S.length xss.length)/\R=[]/\v≠11∨so=.loc (S.length+xss.length)/\R=[locs S.length xss.length]/\v=11)->aF S k S3->aJ S3 k (b+3)->(sY B Cq7 Cq4).wp [some (.loc k),some (.lst (dII xss)),some (.int (n:Int)),some (.int v),some so,some (.int (a:Int)),some (.int (o:Int)),none] (S3++(dI2 xss++R)) Wf:=by
  intro v a o S3 so R Wf hrt v0 v1 ha ho hso u3 p3
  have out:∀(yss:List (List Int))(S' G:Store)(d:D),aF S k S'->aJ S' k (b+100)->Bd (M+1) yss->Rsv S.length (S'++G) d (.lst (dII yss))->Wf.rt d (S'++G):=λ yss S' G d u p h r=>hrt _ _ (.inr ⟨_,G,S',rfl,by rw[u.len];exact x4 _,u.flat hS,by rw[u.len];exact r,hw yss S' h u p⟩)
  have rl:∀S',aF S k S'->∀R,Rsvs S.length (S'++(dI2 xss++R)) (locs S.length xss.length) (dII xss):=λ S' u R=>wV (x4 _) u.len
  have p3':=p3.mono (b':=b+100) (by omega)
  have fz:v≠11->so=.lst (locs S.length xss.length)/\R=[]:=λ h=>by
   rcases hso with⟨h1,h2,_⟩ | ⟨_,_,h3⟩
   . exact⟨h1,h2⟩
   . exact(h h3).elim
  have drw:∀R':Store,flat R'->nT [.loc k,.int (n:Int)] (S3++R') Wf.rt:=λ R' hR=>by
   refine⟨k,b+3,n,rfl,p3.app R',by omega,hn,qN (u3.flat hS) hR,λ yss T h u p=>?_⟩
   obtain⟨S4,rfl,u4,p4⟩:=u.split p3 p
   exact out yss S4 R' _ (u3.trans u4) (p4.mono (by omega)) ⟨by have:=h.1;omega,by have:=h.2;omega⟩ (.ok (nJ _))
  have ixs:∀(S':Store)(yss:List (List Int))(j:Nat)(V:WD),aF S k S'->yss.length=xss.length->j<xss.length->V (.loc (S.length+j)) (S'++(dI2 yss++R))->Gg so (.int (j:Int)) (S'++(dI2 yss++R)) V:=by
   intro S' yss j V u hy hj w
   rcases hso with⟨rfl,rfl,_⟩ | ⟨rfl,rfl,_⟩
   . exact⟨_,aA (aR hj),w⟩
   . refine⟨_,_,?_,aA (aR hj),w⟩
     rw[List.getElem?_append_right (by rw[u.len];omega),List.getElem?_append_right (by rw[aP,u.len];omega),aP,hy,u.len,show S.length+xss.length-S.length-xss.length=0 from by omega];rfl
  have rso:∀(S':Store)(yss:List (List Int)),aF S k S'->yss.length=xss.length->Rsv S.length (S'++(dI2 yss++R)) so (.lst (dII yss)):=by
   intro S' yss u hy
   have h:=wV (R:=R) (xss:=yss) (x4 S.length) u.len
   rw[hy]at h
   rcases hso with⟨rfl,rfl,_⟩ | ⟨rfl,rfl,_⟩
   . exact .lst h
   . refine .loc (by omega) ?_ h
     rw[List.getElem?_append_right (by rw[u.len];omega),List.getElem?_append_right (by rw[aP,u.len];omega),aP,hy,u.len,show S.length+xss.length-S.length-xss.length=0 from by omega];rfl
  have key2:∀(t:Int)(w:Nat)(la lo:List Int)(S4:Store),5≤v->xss[a]? =some la->xss[o]? =some lo->la[w]? =some t->aF S k S4->aJ S4 k (b+4)->(pU B Cq7 Cq4).wp [some (.loc k),some (.lst (dII xss)),some (.int (n:Int)),some (.int v),some so,some (.int (a:Int)),some (.int (o:Int)),some (.int t)] (S4++(dI2 xss++R)) Wf:=by
   intro t w la lo S4 hv5 hla hlo hw4 u4 p4
   have ha':=(y3.mp hla).1
   have ho':=(y3.mp hlo).1
   have p4':=p4.mono (b':=b+100) (by omega)
   have hcut:=congrArg List.length (bZ hla)
   have hcuo:=congrArg List.length (bZ hlo)
   rw[x9,x9]at hcut hcuo
   obtain⟨j,hj1,hj2⟩:=ye (y6 hw4)
   have hje:=Rb hj1
   have hs1:=jD hla (la.eraseIdx j)
   rcases(show v=5∨v=6∨v=7∨v=8∨v=9∨v=10∨v=11 from by omega)with rfl | rfl | rfl | rfl | rfl | rfl | rfl
   . obtain⟨rfl,rfl⟩:=fz (by decide)
     walk_at "b"
     refine⟨_,aA (aR ha'),?_⟩
     walk_at "b"
     refine⟨t,la,j,rfl,cY u4.len hla,hj1,hj2,?_⟩
     rw[uf u4.len ha']
     walk_at "b"
     refine⟨_,aA (aR ho'),?_⟩
     have ho2:o<(xss.set a (la.eraseIdx j)).length:=by rw[List.length_set];exact ho'
     have hx2:=y4 ho2
     have hs2:=jD hx2 ((xss.set a (la.eraseIdx j))[o]++[t])
     have hc2:=congrArg List.length (bZ hx2)
     rw[x9,x9]at hc2
     rw[x9,List.length_singleton]at hs2
     walk_at "b"
     refine⟨_,cY u4.len hx2,by rw[y8];omega,?_⟩
     rw[show ∀l:List Int,l.map D.int++[D.int t]=(l++[t]).map D.int from λ l=>by rw[List.map_append];rfl,uf u4.len ho2]
     walk_at "b"
     exact out ((xss.set a (la.eraseIdx j)).set o ((xss.set a (la.eraseIdx j))[o]++[t])) S4 _ _ u4 p4' ⟨by rw[List.length_set,List.length_set];omega,by omega⟩ (rso S4 _ u4 (by rw[List.length_set,List.length_set]))
   . obtain⟨rfl,rfl⟩:=fz (by decide)
     walk_at "b"
     rw[bw]
     by_cases h6:a+1<xss.length
     . rw[ZG (show(a:Int)+1<(xss.length:Int) by omega)]
       have hl2:=y4 h6
       walk_at "b"
       refine⟨_,aA (aR ha'),?_⟩
       walk_at "b"
       refine⟨_,(by rw[show(a:Int)+1=((a+1:Nat):Int)from by omega];exact aA (aR h6)),?_⟩
       have hc6:=congrArg List.length (bZ hl2)
       rw[x9,x9]at hc6
       have hd6:(xss.drop (a+1)).flatten.length=xss[a+1].length+(xss.drop (a+2)).flatten.length:=by rw[List.drop_eq_getElem_cons h6,List.flatten_cons,x9]
       have c1:=gA (locs S.length xss.length) none (some (a:Int))
       have c2:=gA (locs S.length xss.length) (some ((a:Int)+2)) none
       rw[bw]at c1 c2
       walk_at "b"
       refine⟨_,_,cY u4.len hla,cY u4.len hl2,by rw[y8,y8];omega,?_⟩
       walk_at "b"
       refine⟨_,_,rfl,rfl,by show _+1≤_;omega,?_⟩
       walk_at "b"
       rw[rT (by omega),j8 (by omega),Int.toNat_natCast,show((a:Int)+2).toNat=a+2 from by omega,←List.map_append]
       refine out (xss.take a++[la++xss[a+1]]++xss.drop (a+2)) S4 _ _ u4 p4' ⟨by simp only[x9,List.length_take,List.length_drop,List.length_singleton];omega,?_⟩ (.lst ?_)
       . rw[List.flatten_append,List.flatten_append,x9,x9]
         show _+((la++xss[a+1])++[]).length+_≤_
         rw[List.append_nil,x9]
         omega
       . rw[gB,gB,←qQ,←qM]
         exact cV (cV (jb a (rl _ u4 _)) (.cons (.ok (bU _)) .nil)) (iY (a+2) (rl _ u4 _))
     . rw[ZH (show ¬(a:Int)+1<(xss.length:Int) by omega)]
       walk_at "b"
       exact out xss S4 _ _ u4 p4' ⟨by omega,by omega⟩ (rso S4 _ u4 rfl)
   . obtain⟨rfl,rfl⟩:=fz (by decide)
     walk_at "b"
     refine⟨_,aA (aR ha'),?_⟩
     walk_at "b"
     refine⟨_,cY u4.len hla,?_⟩
     walk_at "b"
     refine⟨_,aA (aR ha'),?_⟩
     walk_at "b"
     refine⟨_,cY u4.len hla,?_⟩
     have c1:=gA (locs S.length xss.length) none (some (a:Int))
     have c2:=gA (locs S.length xss.length) (some ((a:Int)+1)) none
     rw[bw]at c1 c2
     walk_at "b"
     refine⟨_,_,rfl,rfl,by show _+2≤_;omega,?_⟩
     walk_at "b"
     rw[rT (ds:=locs S.length xss.length) (by omega),j8 (ds:=locs S.length xss.length) (by omega),rT (ds:=la.map D.int) (by decide),j8 (ds:=la.map D.int) (by decide),Int.toNat_natCast,show((a:Int)+1).toNat=a+1 from by omega,←List.map_take,←List.map_drop]
     refine out (xss.take a++[la.take 1,la.drop 1]++xss.drop (a+1)) S4 _ _ u4 p4' ⟨by simp only[x9,List.length_take,List.length_drop,List.length_cons,List.length_nil];omega,?_⟩ (.lst ?_)
     . rw[List.flatten_append,List.flatten_append,x9,x9]
       show _+(la.take 1++(la.drop 1++[])).length+_≤_
       rw[List.append_nil,List.take_append_drop]
       omega
     . rw[gB,gB,←qQ,←qM]
       exact cV (cV (jb a (rl _ u4 _)) (.cons (.ok (bU _)) (.cons (.ok (bU _)) .nil))) (iY (a+1) (rl _ u4 _))
   . obtain⟨rfl,rfl⟩:=fz (by decide)
     walk_at "b"
     refine⟨_,aA (aR ho'),?_⟩
     have hs2:=jD hlo (lo++[t])
     rw[x9,List.length_singleton]at hs2
     walk_at "b"
     refine⟨_,cY u4.len hlo,by rw[y8];omega,?_⟩
     rw[show ∀l:List Int,l.map D.int++[D.int t]=(l++[t]).map D.int from λ l=>by rw[List.map_append];rfl,uf u4.len ho']
     walk_at "b"
     exact out (xss.set o (lo++[t])) S4 _ _ u4 p4' ⟨by rw[List.length_set];omega,by omega⟩ (rso S4 _ u4 (by rw[List.length_set]))
   . obtain⟨rfl,rfl⟩:=fz (by decide)
     walk_at "b"
     refine⟨_,aA (aR ha'),?_⟩
     walk_at "b"
     refine⟨t,la,j,rfl,cY u4.len hla,hj1,hj2,?_⟩
     rw[uf u4.len ha']
     walk_at "b"
     exact out (xss.set a (la.eraseIdx j)) S4 _ _ u4 p4' ⟨by rw[List.length_set];omega,by omega⟩ (rso S4 _ u4 (by rw[List.length_set]))
   . obtain⟨rfl,rfl⟩:=fz (by decide)
     walk_at "b"
     refine⟨_,aA (aR ha'),?_⟩
     walk_at "b"
     refine aQ p4 (by omega) (by decide) (by decide) λ w' S5 w0 w1 u5 p5=>?_
     have u5:=u4.trans u5
     walk_at "b"
     obtain⟨x,hx⟩:∃x:Int,atI [D.int (n:Int),.int (-1),.int ((n:Int)+7)] w'=some (.int x):=by
      rcases(show w'=0∨w'=1∨w'=2 from by omega)with rfl | rfl | rfl
      . exact⟨_,rfl⟩
      . exact⟨_,rfl⟩
      . exact⟨_,rfl⟩
     refine⟨_,hx,?_⟩
     have hs2:=jD hla (la++[x])
     rw[x9,List.length_singleton]at hs2
     walk_at "b"
     refine⟨_,cY u5.len hla,by rw[y8];omega,?_⟩
     rw[show ∀l:List Int,l.map D.int++[D.int x]=(l++[x]).map D.int from λ l=>by rw[List.map_append];rfl,uf u5.len ha']
     walk_at "b"
     exact out (xss.set a (la++[x])) S5 _ _ u5 (p5.mono (by omega)) ⟨by rw[List.length_set];omega,by omega⟩ (rso S5 _ u5 (by rw[List.length_set]))
   . obtain⟨rfl,rfl⟩:so=.loc (S.length+xss.length)/\R=[locs S.length xss.length]:=by
      rcases hso with⟨_,_,h⟩ | ⟨h1,h2,_⟩
      . exact(h rfl).elim
      . exact⟨h1,h2⟩
     have gL:(S4++(dI2 xss++[locs S.length xss.length]))[S.length+xss.length]? =some (locs S.length xss.length):=by
      rw[List.getElem?_append_right (by rw[u4.len];omega),List.getElem?_append_right (by rw[aP,u4.len];omega),aP,u4.len,show S.length+xss.length-S.length-xss.length=0 from by omega];rfl
     have gS:∀x,(S4++(dI2 xss++[locs S.length xss.length])).set (S.length+xss.length) x=S4++(dI2 xss++[x]):=λ x=>by
      rw[List.set_append_right _ _ (by rw[u4.len];omega),List.set_append_right _ _ (by rw[aP,u4.len];omega),aP,u4.len,show S.length+xss.length-S.length-xss.length=0 from by omega];rfl
     walk_at "b"
     refine⟨_,_,gL,aA (aR ha'),?_⟩
     walk_at "b"
     refine⟨_,cY u4.len hla,?_⟩
     walk_at "b"
     refine⟨_,a,gL,by rw[bw];exact tV ha',?_⟩
     rw[gS]
     walk_at "b"
     have hs2:=jD hla la.reverse
     rw[List.length_reverse]at hs2
     refine out (xss.set a la.reverse) S4 _ _ u4 p4' ⟨by rw[List.length_set];omega,by omega⟩ (.loc (xs:=(locs S.length xss.length).set a (.lst (la.map D.int).reverse)) (by omega) ?_ ?_)
     . rw[List.getElem?_append_right (by rw[u4.len];omega),List.getElem?_append_right (by rw[aP,u4.len];omega),aP,u4.len,show S.length+xss.length-S.length-xss.length=0 from by omega];rfl
     . refine oE (by rw[List.length_set,bw];unfold dII;rw[y8,List.length_set]) λ i x r h1 h2=>?_
       obtain⟨l,h3,rfl⟩:=nq h2
       by_cases hia:i=a
       . subst hia
         rw[List.getElem?_set_self (by rw[bw];exact ha')]at h1
         rw[List.getElem?_set_self ha']at h3
         cases h1;cases h3
         rw[←List.map_reverse]
         exact .ok (bU _)
       . rw[List.getElem?_set_ne (λ z=>hia z.symm)]at h1 h3
         have hi:=(y3.mp h3).1
         rw[aR hi]at h1
         cases h1
         exact R1 (x4 _) u4.len h3
  have mid:5≤v->(sG B Cq7 Cq4).wp [some (.loc k),some (.lst (dII xss)),some (.int (n:Int)),some (.int v),some so,some (.int (a:Int)),some (.int (o:Int)),none] (S3++(dI2 xss++R)) Wf:=by
   intro hv5
   walk_at "b"
   rw[ZH (show ¬v=4 by omega)]
   walk_at "b"
   have ev:vwT (S3++(dI2 xss++R)) so=.lst (dII xss):=by
    rcases hso with⟨rfl,rfl,_⟩ | ⟨rfl,rfl,_⟩
    . show D.lst (fL _ _)=_
      rw[Dr u3.len]
    . have g:(S3++(dI2 xss++[locs S.length xss.length]))[S.length+xss.length]? =some (locs S.length xss.length):=by
       rw[List.getElem?_append_right (by rw[u3.len];omega),List.getElem?_append_right (by rw[aP,u3.len];omega),aP,u3.len,show S.length+xss.length-S.length-xss.length=0 from by omega];rfl
      simp only[vwT,g]
      rw[Dr u3.len]
   have hok:=qO xss
   refine⟨by rw[ev];exact hok.1,rfl,by rw[ev];show aY _+1≤50;have:=hok.2;omega,?_⟩
   rw[ev]
   by_cases hx:xss=[]
   . have e:eqD (.lst (dII xss)) (vwT (S3++(dI2 xss++R)) (.lst []))=true:=by rw[hx];rfl
     rw[e]
     walk_at "b"
     refine⟨rfl,drw _ (qN (xQ xss) ?_)⟩
     rcases hso with⟨_,rfl,_⟩ | ⟨_,rfl,_⟩
     . intro l h;cases h
     . intro l h;rw[ZL.mp h,hx];rfl
   . obtain⟨l0,r0,hlr⟩:∃l r,xss=l::r:=by
      cases xss with
      | nil=>exact(hx rfl).elim
      | cons l r=>exact⟨l,r,rfl⟩
     have e:eqD (.lst (dII xss)) (vwT (S3++(dI2 xss++R)) (.lst []))=false:=by rw[hlr];rfl
     have hpos:0<xss.length:=by rw[hlr];exact Nat.succ_pos _
     have ha':a<xss.length:=by omega
     have ho':o<xss.length:=by omega
     have hla:=y4 ha'
     have hlo:=y4 ho'
     have hlane:=hne _ (y6 hla)
     have hlap:0<xss[a].length:=List.length_pos_iff.mpr hlane
     have hcut:=congrArg List.length (bZ hla)
     rw[x9,x9]at hcut
     rw[e]
     rcases hso with⟨rfl,rfl,h11⟩ | ⟨rfl,rfl,h11⟩
     . walk_at "b"
       refine⟨_,aA (aR ha'),?_⟩
       walk_at "b"
       refine⟨_,aA (aR ha'),?_⟩
       walk_at "b"
       refine⟨_,cY u3.len hla,?_⟩
       rw[y8]
       walk_at "b"
       refine aQ p3 (by omega) (by omega) (by omega) λ w S4 w0 w1 u4 p4=>?_
       obtain⟨j,rfl⟩:∃j:Nat,w=(j:Int):=⟨w.toNat,by omega⟩
       have hj:j<xss[a].length:=by omega
       have u4:=u3.trans u4
       walk_at "b"
       refine⟨_,_,cY u4.len hla,aA (by rw[y9,y4 hj];rfl),?_⟩
       exact key2 _ j _ _ S4 hv5 hla hlo (y4 hj) u4 p4
     . have gL:(S3++(dI2 xss++[locs S.length xss.length]))[S.length+xss.length]? =some (locs S.length xss.length):=by
        rw[List.getElem?_append_right (by rw[u3.len];omega),List.getElem?_append_right (by rw[aP,u3.len];omega),aP,u3.len,show S.length+xss.length-S.length-xss.length=0 from by omega];rfl
       walk_at "b"
       refine⟨_,_,gL,aA (aR ha'),?_⟩
       walk_at "b"
       refine⟨_,_,gL,aA (aR ha'),?_⟩
       walk_at "b"
       refine⟨_,cY u3.len hla,?_⟩
       rw[y8]
       walk_at "b"
       refine aQ p3 (by omega) (by omega) (by omega) λ w S4 w0 w1 u4 p4=>?_
       obtain⟨j,rfl⟩:∃j:Nat,w=(j:Int):=⟨w.toNat,by omega⟩
       have hj:j<xss[a].length:=by omega
       have u4:=u3.trans u4
       walk_at "b"
       refine⟨_,_,cY u4.len hla,aA (by rw[y9,y4 hj];rfl),?_⟩
       exact key2 _ j _ _ S4 hv5 hla hlo (y4 hj) u4 p4
  rcases(show v=0∨v=1∨v=2∨v=3∨v=4∨5≤v from by omega)with rfl | rfl | rfl | rfl | rfl | hv
  . obtain⟨rfl,rfl⟩:=fz (by decide)
    walk_at "b"
    refine⟨⟨by omega,by omega⟩,fD ⟨by rw[ao];omega,λ i acc T=>acc=locs (S.length+xss.length) i/\T=S3++(dI2 xss++[])++(dI2 (jh i)++[]),⟨rfl,by simp[dI2,jh]⟩,?_,?_⟩⟩
    . rintro i d acc T hd ⟨rfl,rfl⟩
      obtain⟨hi,rfl⟩:=aL hd
      rw[show(0+(i:Int))=((i:Nat):Int)from by omega]
      refine b7 ?_
      walk_at "b"
      refine⟨by rw[fQ];simp[aP,qu,u3.len,Nat.add_assoc],?_⟩
      rw[vg]
      simp[dI2]
    . rintro acc T ⟨rfl,rfl⟩
      rw[ao,Int.toNat_natCast]
      rw[List.append_assoc]
      refine out (jh n) S3 _ _ u3 p3' ⟨by rw[qu];omega,by rw[Er];omega⟩ (.lst ?_)
      rw[←List.append_assoc]
      have:=wV (S:=S3++(dI2 xss++[])) (R:=[]) (xss:=jh n) (n:=S.length+xss.length) (q:=S.length) (by omega) (by simp[aP,u3.len])
      rw[qu]at this
      exact this
  . obtain⟨rfl,rfl⟩:=fz (by decide)
    walk_at "b"
    refine⟨⟨by omega,by omega⟩,.inl ?_⟩
    walk_at "b"
    rw[Int.toNat_natCast,Fx,jF]
    exact out [(List.range n).map λ(t:Nat)=>(t:Int)] S3 _ _ u3 p3' ⟨by show 1≤_;omega,by show((List.range n).map _++[]).length≤_;rw[List.append_nil,y8,List.length_range];omega⟩ (.ok (nJ [(List.range n).map λ(t:Nat)=>(t:Int)]))
  . obtain⟨rfl,rfl⟩:=fz (by decide)
    walk_at "b"
    refine out xss.reverse _ _ _ u3 p3' ⟨by rw[List.length_reverse];omega,by rw[Km];omega⟩ (.lst ?_)
    rw[←Qs]
    exact zp (rl _ u3 _)
  . obtain⟨rfl,rfl⟩:=fz (by decide)
    walk_at "b"
    have c1:=gA (locs S.length xss.length) none (some (a:Int))
    have c2:=gA (locs S.length xss.length) (some (a:Int)) none
    rw[bw]at c1 c2
    refine⟨_,_,rfl,rfl,by show _+1≤_;omega,?_⟩
    walk_at "b"
    rw[rT (by omega),j8 (by omega),Int.toNat_natCast]
    have hfp:=Nj xss a
    refine out (xss.take a++[[]]++xss.drop a) S3 _ _ u3 p3' ⟨by simp only[x9,List.length_take,List.length_drop,List.length_singleton];omega,by rw[List.flatten_append,List.flatten_append,x9,x9];show _+0+_≤_;omega⟩ (.lst ?_)
    rw[gB,gB,←qQ,←qM]
    exact cV (cV (jb a (rl _ u3 _)) (.cons (.ok rfl) .nil)) (iY a (rl _ u3 _))
  . obtain⟨rfl,rfl⟩:=fz (by decide)
    walk_at "b"
    exact⟨rfl,drw _ (qN (xQ xss) (λ l h=>by cases h))⟩
  . walk_at "b"
    rw[ZH (show ¬v=0 by omega)]
    walk_at "b"
    rw[ZH (show ¬v=1 by omega)]
    walk_at "b"
    rw[ZH (show ¬v=2 by omega)]
    walk_at "b"
    rw[ZH (show ¬v=3 by omega)]
    exact⟨λ h=>(by cases h),λ _=>mid hv⟩
 have hΓ:(List.map some [D.loc k,.lst (dII xss),.int (n:Int)]++List.replicate (yS.length-[D.loc k,.lst (dII xss),.int (n:Int)].length) none)=[some (.loc k),some (.lst (dII xss)),some (.int (n:Int)),none,none,none,none,none]:=rfl
 rw[hΓ]
 walk_at "b"
 refine du hp (by omega) (by decide) (by decide) λ v S1 v0 v1 u1 p1=>?_
 walk_at "b"
 refine cB ⟨by show(xss.map _).length≤_;rw[y8];omega,λ i acc T=>acc=locs S.length i/\T=S1++(dI2 (xss.take i)++[]),⟨rfl,by simp[dI2]⟩,λ _ _ _ _=>trivial,?_,?_⟩
 . rintro i d acc T hd ⟨rfl,rfl⟩
   obtain⟨l,hi,rfl⟩:=nq hd
   have hil:=(y3.mp hi).1
   refine b7 ?_
   walk_at "b"
   refine⟨by rw[fQ,x9,List.append_nil,aP,List.length_take,u1.len,Nat.min_eq_left (by omega)],?_⟩
   rw[aD hi]
   simp[dI2]
 rintro acc T ⟨rfl,rfl⟩
 rw[show(dII xss).length=xss.length from y8 _,List.take_length]
 by_cases h11:v=11
 . refine .inr ?_
   have eL:(S1++(dI2 xss++[])).length=S.length+xss.length:=by rw[List.append_nil,x9,aP,u1.len]
   have eT:S1++(dI2 xss++[])++[locs S.length xss.length]=S1++(dI2 xss++[locs S.length xss.length]):=by simp
   have gL:∀S',aF S k S'->(S'++(dI2 xss++[locs S.length xss.length]))[S.length+xss.length]? =some (locs S.length xss.length):=λ S' u=>by
    rw[List.getElem?_append_right (by rw[u.len];omega),List.getElem?_append_right (by rw[aP,u.len];omega),aP,u.len,show S.length+xss.length-S.length-xss.length=0 from by omega];rfl
   rw[eL,eT]
   walk_at "b"
   refine⟨_,gL S1 u1,?_⟩
   rw[bw]
   walk_at "b"
   refine aQ p1 (by omega) (by split<;>omega) (by split<;>omega) λ v2 S2 a0 a1 u2 p2=>?_
   obtain⟨a,rfl⟩:∃j:Nat,v2=(j:Int):=⟨v2.toNat,by omega⟩
   have u2:=u1.trans u2
   walk_at "b"
   refine⟨_,gL S2 u2,?_⟩
   rw[bw]
   walk_at "b"
   refine aQ p2 (by omega) (by split<;>omega) (by split<;>omega) λ v3 S3 o0 o1 u3 p3=>?_
   obtain⟨o,rfl⟩:∃j:Nat,v3=(j:Int):=⟨v3.toNat,by omega⟩
   have u3:=u2.trans u3
   simp only[List.set_cons_succ,List.set_cons_zero]
   exact key v a o S3 (.loc (S.length+xss.length)) [locs S.length xss.length] {nx:=λ x S1=>W D.non S1,rt:=FrG S.length W} (λ d T h=>h) v0 v1 (by split at a1<;>omega) (by split at o1<;>omega) (.inr ⟨rfl,rfl,h11⟩) u3 p3
 . refine .inl ?_
   walk_at "b"
   rw[bw]
   walk_at "b"
   refine aQ p1 (by omega) (by split<;>omega) (by split<;>omega) λ v2 S2 a0 a1 u2 p2=>?_
   obtain⟨a,rfl⟩:∃j:Nat,v2=(j:Int):=⟨v2.toNat,by omega⟩
   have u2:=u1.trans u2
   walk_at "b"
   rw[bw]
   walk_at "b"
   refine aQ p2 (by omega) (by split<;>omega) (by split<;>omega) λ v3 S3 o0 o1 u3 p3=>?_
   obtain⟨o,rfl⟩:∃j:Nat,v3=(j:Int):=⟨v3.toNat,by omega⟩
   have u3:=u2.trans u3
   simp only[List.set_cons_succ,List.set_cons_zero]
   exact key v a o S3 (.lst (locs S.length xss.length)) [] {nx:=λ x S1=>W D.non S1,rt:=FrG S.length W} (λ d T h=>h) v0 v1 (by split at a1<;>omega) (by split at o1<;>omega) (.inl ⟨rfl,rfl,h11⟩) u3 p3
theorem mO:∀l:List Cell,ak (l.map aN)=true
 | []=>rfl
 | c::l=>by
   simp only[List.map_cons,ak,mO l,Bool.and_true]
   show(aq (.int c.1)&&(ak (c.2.map D.int)&&true))=true
   rw[dU];rfl
theorem M6(xs:List CR):aq (.lst (xs.map dCR))=true:=by
 show ak _=true
 induction xs with
 | nil=>rfl
 | cons a xs ih=>
   simp only[List.map_cons,ak,ih,Bool.and_true]
   have h:=mO (a.1::a.2)
   simp only[List.map_cons,ak,Bool.and_eq_true]at h
   show(aq (aN a.1)&&(ak (a.2.map aN)&&true))=true
   rw[h.1,h.2];rfl
theorem Su(F:Fun Ω.K "law" "law" jY f fd)(B:Bi Ω.mg)(Cq17:Cal Ω "cells_of" 5 1 iV)(Cq46:Cal Ω "rounds" 8 1 rK)(Cq7:Cal Ω "_law_next" 2 2 cM)(Cq8:Cal Ω "_law_pen" 2 1 JH)(Cq10:Cal Ω "_law_program" 11 1 DQ)(Cq0:Cal Ω "_law_bent" 4 3 yF)(Cq11:Cal Ω "_law_says" 8 3 xx):Ok Ω 12 f fd Ny oW:=by
 refine az (N:=Ud) F (UL B Cq17 Cq46 Cq7 Cq8 Cq10 Cq0 Cq11) (by kernel_rfl!) ?_
 rintro ds S W ⟨ns,rfl,hlen,hw,rfl⟩ hl
 walk_at "b"
 refine⟨rfl,ns,rfl,λ c d=>?_⟩
 have hS:flat ([]++[gH ns 0 c d]):=λ l hl=>by rw[ZL.mp hl];exact pO ..
 have p0:aJ ([]++[gH ns 0 c d]) 0 0:=⟨ns,0,c,d,rfl,by decide,by decide⟩
 generalize ([]++[gH ns 0 c d]:Store)=S at hS p0 ⊢
 walk_at "b"
 refine⟨rfl,0,0,rfl,p0,by decide,hS,λ p S1 hP h60 u1 p1=>?_⟩
 have f1:=u1.flat hS
 have hN:=dY h60
 have eC:(aV p.nss).map (eV p)=((aK p).map crs).map dCR:=by rw[nD,List.map_map];rfl
 have hXL:((aK p).map crs).length=(aK p).length:=y8 _
 have nlC:aq (.lst (((aK p).map crs).map dCR))=true:=M6 _
 walk_at "b"
 refine⟨rfl,vp hP h60 f1 ?_⟩
 rw[eC]
 walk_at "b"
 refine⟨rfl,p,rfl,hP,h60,f1,λ xss ch hX=>?_⟩
 walk_at "b"
 refine⟨rfl,p,xss,rfl,hP,h60,f1,⟨by have:=hX.1.1;omega,by have:=hX.1.2;omega⟩,?_⟩
 walk_at "b"
 refine⟨⟨by decide,by decide⟩,aO ⟨λ i Γ' T=>∃o5 o6,Γ'=[some (.lst (ns.map D.int)),some (.loc 0),some (dPg p),some (.lst (((aK p).map crs).map dCR)),some (.lst (dII xss)),o5,o6]/\aF S1 0 T/\aJ T 0 (1000+300*i),⟨_,_,rfl,.refl p1,p1⟩,?_,?_⟩⟩
 . rintro i e Γ' T he ⟨o5,o6,rfl,u,pn⟩
   obtain⟨hi,rfl⟩:=aL he
   have fT:=u.flat f1
   refine b7 ?_
   simp only[List.set_cons_succ,List.set_cons_zero]
   walk_at "b"
   rw[y8,hXL]
   refine⟨rfl,0,_,(aK p).length,60,xss,rfl,pn,by omega,hN,fT,by decide,by decide,hX.1,hX.2,λ yss T2 hY u2 p2=>?_⟩
   have f2:=u2.flat fT
   walk_at "b"
   refine du p2 (by omega) (by decide) (by decide) λ v T3 v0 v1 u3 p3=>?_
   have f3:=u3.flat f2
   have u3:=(u.trans u2).trans u3
   walk_at "b"
   by_cases hv:v=1
   . rw [ZG hv]
     walk_at "b"
     have hok:=qO yss
     refine RV rfl rfl hok.1 (by have:=hok.2;omega) ?_
     by_cases hn:[]∈yss
     . rw[show((dII yss).any λ d=>eqD d (vw T3 (.lst [])))=true from List.any_eq_true.mpr ⟨.lst [],ZO.mpr ⟨[],hn,rfl⟩,rfl⟩]
       walk_at "b"
       refine⟨rfl,p,yss,rfl,hP,h60,f3,⟨by have:=hY.1;omega,by have:=hY.2;omega⟩,?_⟩
       walk_at "b"
       exact⟨_,_,rfl,u3,p3.mono (by omega)⟩
     . have hne:∀l∈yss,l≠[]:=λ l hl z=>hn (z▸hl)
       rw[show((dII yss).any λ d=>eqD d (vw T3 (.lst [])))=false from by
        rw[Bool.eq_false_iff]
        intro z
        obtain⟨d,hd,z⟩:=List.any_eq_true.mp z
        obtain⟨l,hl,rfl⟩:=ZO.mp hd
        cases l with
        | nil=>exact hn hl
        | cons x l=>cases z]
       walk_at "b"
       rw[y8,hXL]
       refine⟨rfl,0,_,(aK p).length,61,yss,rfl,p3,by omega,hN,f3,by decide,by decide,hY,hne,λ zss T4 hZ u4 p4=>?_⟩
       have f4:=u4.flat f3
       have u4:=u3.trans u4
       walk_at "b"
       refine⟨rfl,p,zss,rfl,hP,h60,f4,⟨by have:=hZ.1;omega,by have:=hZ.2;omega⟩,?_⟩
       walk_at "b"
       exact⟨_,_,rfl,u4,p4.mono (by omega)⟩
   . rw[ZH hv]
     walk_at "b"
     refine⟨rfl,p,yss,rfl,hP,h60,f3,⟨by have:=hY.1;omega,by have:=hY.2;omega⟩,?_⟩
     walk_at "b"
     exact⟨_,_,rfl,u3,p3.mono (by omega)⟩
 . rintro Γ' T ⟨o5,o6,rfl,u,pn⟩
   walk_at "b"
   exact hw _
end K43
namespace K43
open PySem PySem.Spec L2 DL RF
open PyProof.Rows
variable {Ω : Wd} {f : Addr} {fd : FuncData}
theorem by1{G:List Value->Prop}(h:∀a0:Value,G [a0])(us:List Value)(e:us.length=1):G us:=by
 obtain⟨a0,us,rfl⟩:=List.exists_cons_of_length_eq_add_one e
 replace e:=Nat.succ.inj e
 obtain rfl:=List.eq_nil_of_length_eq_zero e
 exact h a0
theorem by2{G:List Value->Prop}(h:∀a0 a1:Value,G [a0,a1])(us:List Value)(e:us.length=2):G us:=by
 obtain⟨a0,us,rfl⟩:=List.exists_cons_of_length_eq_add_one e
 replace e:=Nat.succ.inj e
 obtain⟨a1,us,rfl⟩:=List.exists_cons_of_length_eq_add_one e
 replace e:=Nat.succ.inj e
 obtain rfl:=List.eq_nil_of_length_eq_zero e
 exact h a0 a1
theorem by3{G:List Value->Prop}(h:∀a0 a1 a2:Value,G [a0,a1,a2])(us:List Value)(e:us.length=3):G us:=by
 obtain⟨a0,us,rfl⟩:=List.exists_cons_of_length_eq_add_one e
 replace e:=Nat.succ.inj e
 obtain⟨a1,us,rfl⟩:=List.exists_cons_of_length_eq_add_one e
 replace e:=Nat.succ.inj e
 obtain⟨a2,us,rfl⟩:=List.exists_cons_of_length_eq_add_one e
 replace e:=Nat.succ.inj e
 obtain rfl:=List.eq_nil_of_length_eq_zero e
 exact h a0 a1 a2
theorem by4{G:List Value->Prop}(h:∀a0 a1 a2 a3:Value,G [a0,a1,a2,a3])(us:List Value)(e:us.length=4):G us:=by
 obtain⟨a0,us,rfl⟩:=List.exists_cons_of_length_eq_add_one e
 replace e:=Nat.succ.inj e
 obtain⟨a1,us,rfl⟩:=List.exists_cons_of_length_eq_add_one e
 replace e:=Nat.succ.inj e
 obtain⟨a2,us,rfl⟩:=List.exists_cons_of_length_eq_add_one e
 replace e:=Nat.succ.inj e
 obtain⟨a3,us,rfl⟩:=List.exists_cons_of_length_eq_add_one e
 replace e:=Nat.succ.inj e
 obtain rfl:=List.eq_nil_of_length_eq_zero e
 exact h a0 a1 a2 a3
noncomputable def FI(K:PySem.W.Frag)(x:Str)(t:Stmt):Prop:=∃(f:Addr) (oc:Value) (od:Option Addr) (kV dc pm:Value) (an:Option Addr) (cd ct:Value) (sl:Array (Option Value)),PySem.W.nsIn K mainGlobals x=some (some (.ref f))/\K.lookup f=some ⟨oc,od,.func (PySem.W.fnOf x x (fK t) (cj t) (aH t) .none kV dc pm an cd ct),sl⟩/\PySem.W.codeIn K cd x=true/\PySem.W.keepIn K (.ref f)=true
theorem FI.mk{K:PySem.W.Frag}{x:Str}{t:Stmt}{f:Addr}{oc:Value}{od:Option Addr}{kV dc pm:Value}{an:Option Addr}{cd ct:Value}{sl:Array (Option Value)}(a:PySem.W.nsIn K mainGlobals x=some (some (.ref f)))(l:K.lookup f=some ⟨oc,od,.func (PySem.W.fnOf x x (fK t) (cj t) (aH t) .none kV dc pm an cd ct),sl⟩)(c:PySem.W.codeIn K cd x=true)(k:PySem.W.keepIn K (.ref f)=true):FI K x t:=⟨f,oc,od,kV,dc,pm,an,cd,ct,sl,a,l,c,k⟩
noncomputable abbrev FU(Ω:Wd)(x:Str)(t:Stmt):Prop:=∃f fd,Fun Ω.K x x t f fd/\Ω.mg x=some (.ref f)
theorem FI.use{Ω:Wd}{h:Heap}{x:Str}{t:Stmt}(X:Ω.K.In h)(G:h.Ns mainGlobals Ω.mg)(q:FI Ω.K x t):FU Ω x t:=by
 obtain⟨f,oc,od,kV,dc,pm,an,cd,ct,sl,a,l,c,k⟩:=q
 exact⟨f,_,J7 (st:=t) l c k,PySem.W.mg_of X G a⟩
theorem R6{Ω:Wd}(B:Bi Ω.mg)
(u0:FU Ω "comes_to" ir)
(u1:FU Ω "with_next_count" cN)
(u2:FU Ω "counts_of" gf)
(u3:FU Ω "steps_of" gW)
(u4:FU Ω "deed_of" ju)
(u5:FU Ω "cell_at" jf)
(u6:FU Ω "cells_of_step" dI)
(u7:FU Ω "cells_of" ie)
(u8:FU Ω "number_of_steps" cQ)
(u9:FU Ω "plain" nF)
(u10:FU Ω "touched_cells" dH)
(u11:FU Ω "pairs" ou)
(u12:FU Ω "touched_ahead" dJ)
(u13:FU Ω "rounds_of_steps" cP)
(u14:FU Ω "steps_of_round" dq)
(u15:FU Ω "chain_of" gQ)
(u16:FU Ω "rounds" lE)
(u17:FU Ω "_law_cell" qi)
(u18:FU Ω "_law_next" qD)
(u19:FU Ω "_law_pen" tQ)
(u20:FU Ω "is_whole" iD)
(u21:FU Ω "is_tuple_of" eH)
(u22:FU Ω "is_widths" fZ)
(u23:FU Ω "is_form" je)
(u24:FU Ω "is_bound" iB)
(u25:FU Ω "is_loop" jy)
(u26:FU Ω "is_loops" gK)
(u27:FU Ω "has_few_figures" cO)
(u28:FU Ω "is_start" gJ)
(u29:FU Ω "is_place_form" dG)
(u30:FU Ω "is_table_with_place" bO)
(u31:FU Ω "is_read" jj)
(u32:FU Ω "is_reads" gY)
(u33:FU Ω "is_deed" jo)
(u34:FU Ω "is_nest" jr)
(u35:FU Ω "is_nests" il)
(u36:FU Ω "program_of" fJ)
(u37:FU Ω "_law_loops" m9)
(u38:FU Ω "_law_value" mV)
(u39:FU Ω "_law_count" nR)
(u40:FU Ω "_law_place" nO)
(u41:FU Ω "_law_deed" rm)
(u42:FU Ω "_law_program" jz)
(u43:FU Ω "_law_drawn" nH)
(u44:FU Ω "_law_bent" qZ)
(u45:FU Ω "is_row" kY)
(u46:FU Ω "is_order" gV)
(u47:FU Ω "all_steps" f9)
(u48:FU Ω "numbers_of_lists" cI)
(u49:FU Ω "are_rounds" fG)
(u50:FU Ω "_law_touch" nY)
(u51:FU Ω "_law_due" uM)
(u52:FU Ω "_law_says" qJ)
{f:Addr}{fd:FuncData}(F:Fun Ω.K "law" "law" jY f fd):Ok Ω 12 f fd Ny oW:=by
 obtain⟨_,_,F0,g0⟩:=u0
 have Cq20:=callee F0 (wF F0 B) g0 (F0.binds λ _ _ _ _ _ _=>by2 λ _ _=>rfl)
 obtain⟨_,_,F0,g0⟩:=u1
 have Cq52:=callee F0 (kJ F0 B Cq20) g0 (F0.binds λ _ _ _ _ _ _=>by3 λ _ _ _=>rfl)
 obtain⟨_,_,F0,g0⟩:=u2
 have Cq21:=callee F0 (uF F0 Cq52) g0 (F0.binds λ _ _ _ _ _ _=>by1 λ _=>rfl)
 obtain⟨_,_,F0,g0⟩:=u3
 have Cq48:=callee F0 (wG F0 B Cq21) g0 (F0.binds λ _ _ _ _ _ _=>by1 λ _=>rfl)
 obtain⟨_,_,F0,g0⟩:=u4
 have Cq22:=callee F0 (yU F0) g0 (F0.binds λ _ _ _ _ _ _=>by2 λ _ _=>rfl)
 obtain⟨_,_,F0,g0⟩:=u5
 have Cq16:=callee F0 (zR F0 B Cq20) g0 (F0.binds λ _ _ _ _ _ _=>by3 λ _ _ _=>rfl)
 obtain⟨_,_,F0,g0⟩:=u6
 have Cq18:=callee F0 (nG F0 Cq22 Cq16) g0 (F0.binds λ _ _ _ _ _ _=>by2 λ _ _=>rfl)
 obtain⟨_,_,F0,g0⟩:=u7
 have Cq17:=callee F0 (wD F0 Cq48 Cq18) g0 (F0.binds λ _ _ _ _ _ _=>by1 λ _=>rfl)
 obtain⟨_,_,F0,g0⟩:=u8
 have Cq41:=callee F0 (lC F0 B Cq21) g0 (F0.binds λ _ _ _ _ _ _=>by1 λ _=>rfl)
 obtain⟨_,_,F0,g0⟩:=u9
 have Cq44:=callee F0 (Gj F0 B Cq41) g0 (F0.binds λ _ _ _ _ _ _=>by1 λ _=>rfl)
 obtain⟨_,_,F0,g0⟩:=u10
 have Cq51:=callee F0 (nC F0 B) g0 (F0.binds λ _ _ _ _ _ _=>by2 λ _ _=>rfl)
 obtain⟨_,_,F0,g0⟩:=u11
 have Cq43:=callee F0 (FQ F0 B Cq17 Cq51) g0 (F0.binds λ _ _ _ _ _ _=>by1 λ _=>rfl)
 obtain⟨_,_,F0,g0⟩:=u12
 have Cq50:=callee F0 (nA F0 Cq44 Cq43) g0 (F0.binds λ _ _ _ _ _ _=>by1 λ _=>rfl)
 obtain⟨_,_,F0,g0⟩:=u13
 have Cq47:=callee F0 (lA F0 B) g0 (F0.binds λ _ _ _ _ _ _=>by1 λ _=>rfl)
 obtain⟨_,_,F0,g0⟩:=u14
 have Cq49:=callee F0 (lX F0 B) g0 (F0.binds λ _ _ _ _ _ _=>by2 λ _ _=>rfl)
 obtain⟨_,_,F0,g0⟩:=u15
 have Cq19:=callee F0 (vX F0 B) g0 (F0.binds λ _ _ _ _ _ _=>by2 λ _ _=>rfl)
 obtain⟨_,_,F0,g0⟩:=u16
 have Cq46:=callee F0 (Ck F0 B Cq50 Cq47 Cq49 Cq19) g0 (F0.binds λ _ _ _ _ _ _=>by1 λ _=>rfl)
 obtain⟨_,_,F0,g0⟩:=u17
 have Cq1:=callee F0 (Jk F0 B) g0 (F0.binds λ _ _ _ _ _ _=>by2 λ _ _=>rfl)
 obtain⟨_,_,F0,g0⟩:=u18
 have Cq7:=callee F0 (Kz F0 Cq1) g0 (F0.binds λ _ _ _ _ _ _=>by2 λ _ _=>rfl)
 obtain⟨_,_,F0,g0⟩:=u19
 have Cq8:=callee F0 (K3 F0 Cq1) g0 (F0.binds λ _ _ _ _ _ _=>by1 λ _=>rfl)
 obtain⟨_,_,F0,g0⟩:=u20
 have Cq39:=callee F0 (wI F0 B) g0 (F0.binds λ _ _ _ _ _ _=>by1 λ _=>rfl)
 obtain⟨_,_,F0,g0⟩:=u21
 have Cq38:=callee F0 (qX F0 B) g0 (F0.binds λ _ _ _ _ _ _=>by3 λ _ _ _=>rfl)
 obtain⟨_,_,F0,g0⟩:=u22
 have Cq40:=callee F0 (uz F0 B Cq39 Cq38) g0 (F0.binds λ _ _ _ _ _ _=>by1 λ _=>rfl)
 obtain⟨_,_,F0,g0⟩:=u23
 have Cq26:=callee F0 (An F0 B Cq39 Cq38) g0 (F0.binds λ _ _ _ _ _ _=>by2 λ _ _=>rfl)
 obtain⟨_,_,F0,g0⟩:=u24
 have Cq24:=callee F0 (wR F0 B Cq26) g0 (F0.binds λ _ _ _ _ _ _=>by2 λ _ _=>rfl)
 obtain⟨_,_,F0,g0⟩:=u25
 have Cq27:=callee F0 (yh F0 Cq38 Cq24) g0 (F0.binds λ _ _ _ _ _ _=>by2 λ _ _=>rfl)
 obtain⟨_,_,F0,g0⟩:=u26
 have Cq28:=callee F0 (v5 F0 B Cq38 Cq27) g0 (F0.binds λ _ _ _ _ _ _=>by1 λ _=>rfl)
 obtain⟨_,_,F0,g0⟩:=u27
 have Cq23:=callee F0 (lq F0 B) g0 (F0.binds λ _ _ _ _ _ _=>by1 λ _=>rfl)
 obtain⟨_,_,F0,g0⟩:=u28
 have Cq36:=callee F0 (vY F0 B Cq26 Cq23) g0 (F0.binds λ _ _ _ _ _ _=>by2 λ _ _=>rfl)
 obtain⟨_,_,F0,g0⟩:=u29
 have Cq32:=callee F0 (mR F0 B Cq26) g0 (F0.binds λ _ _ _ _ _ _=>by2 λ _ _=>rfl)
 obtain⟨_,_,F0,g0⟩:=u30
 have Cq37:=callee F0 (gF F0 B Cq39 Cq38 Cq32) g0 (F0.binds λ _ _ _ _ _ _=>by4 λ _ _ _ _=>rfl)
 obtain⟨_,_,F0,g0⟩:=u31
 have Cq33:=callee F0 (xR F0 Cq39 Cq38 Cq23 Cq37) g0 (F0.binds λ _ _ _ _ _ _=>by3 λ _ _ _=>rfl)
 obtain⟨_,_,F0,g0⟩:=u32
 have Cq34:=callee F0 (ww F0 B Cq38 Cq33) g0 (F0.binds λ _ _ _ _ _ _=>by3 λ _ _ _=>rfl)
 obtain⟨_,_,F0,g0⟩:=u33
 have Cq25:=callee F0 (yc F0 Cq38 Cq36 Cq37 Cq34) g0 (F0.binds λ _ _ _ _ _ _=>by3 λ _ _ _=>rfl)
 obtain⟨_,_,F0,g0⟩:=u34
 have Cq29:=callee F0 (Al F0 B Cq38 Cq28 Cq25) g0 (F0.binds λ _ _ _ _ _ _=>by2 λ _ _=>rfl)
 obtain⟨_,_,F0,g0⟩:=u35
 have Cq30:=callee F0 (vV F0 B Cq38 Cq29) g0 (F0.binds λ _ _ _ _ _ _=>by2 λ _ _=>rfl)
 obtain⟨_,_,F0,g0⟩:=u36
 have Cq45:=callee F0 (sI F0 B Cq40 Cq30 Cq41) g0 (F0.binds λ _ _ _ _ _ _=>by2 λ _ _=>rfl)
 obtain⟨_,_,F0,g0⟩:=u37
 have Cq6:=callee F0 (Hd F0 B Cq7) g0 (F0.binds λ _ _ _ _ _ _=>by1 λ _=>rfl)
 obtain⟨_,_,F0,g0⟩:=u38
 have Cq13:=callee F0 (Gp F0 B) g0 (F0.binds λ _ _ _ _ _ _=>by2 λ _ _=>rfl)
 obtain⟨_,_,F0,g0⟩:=u39
 have Cq2:=callee F0 (G5 F0 B Cq13) g0 (F0.binds λ _ _ _ _ _ _=>by1 λ _=>rfl)
 obtain⟨_,_,F0,g0⟩:=u40
 have Cq9:=callee F0 (FW F0 B Cq7) g0 (F0.binds λ _ _ _ _ _ _=>by3 λ _ _ _=>rfl)
 obtain⟨_,_,F0,g0⟩:=u41
 have Cq3:=callee F0 (Je F0 B Cq7 Cq9) g0 (F0.binds λ _ _ _ _ _ _=>by3 λ _ _ _=>rfl)
 obtain⟨_,_,F0,g0⟩:=u42
 have Cq10:=callee F0 (xg F0 B Cq45 Cq7 Cq6 Cq2 Cq3) g0 (F0.binds λ _ _ _ _ _ _=>by1 λ _=>rfl)
 obtain⟨_,_,F0,g0⟩:=u43
 have Cq4:=callee F0 (Hn F0 B Cq7) g0 (F0.binds λ _ _ _ _ _ _=>by2 λ _ _=>rfl)
 obtain⟨_,_,F0,g0⟩:=u44
 have Cq0:=callee F0 (Kh F0 B Cq7 Cq4) g0 (F0.binds λ _ _ _ _ _ _=>by3 λ _ _ _=>rfl)
 obtain⟨_,_,F0,g0⟩:=u45
 have Cq35:=callee F0 (CJ F0 B Cq39 Cq41) g0 (F0.binds λ _ _ _ _ _ _=>by2 λ _ _=>rfl)
 obtain⟨_,_,F0,g0⟩:=u46
 have Cq31:=callee F0 (wj F0 B Cq41 Cq35) g0 (F0.binds λ _ _ _ _ _ _=>by2 λ _ _=>rfl)
 obtain⟨_,_,F0,g0⟩:=u47
 have Cq14:=callee F0 (tG F0) g0 (F0.binds λ _ _ _ _ _ _=>by1 λ _=>rfl)
 obtain⟨_,_,F0,g0⟩:=u48
 have Cq42:=callee F0 (jT F0 B) g0 (F0.binds λ _ _ _ _ _ _=>by1 λ _=>rfl)
 obtain⟨_,_,F0,g0⟩:=u49
 have Cq15:=callee F0 (sJ F0 B Cq43 Cq31 Cq14 Cq42) g0 (F0.binds λ _ _ _ _ _ _=>by2 λ _ _=>rfl)
 obtain⟨_,_,F0,g0⟩:=u50
 have Cq12:=callee F0 (FT F0) g0 (F0.binds λ _ _ _ _ _ _=>by2 λ _ _=>rfl)
 obtain⟨_,_,F0,g0⟩:=u51
 have Cq5:=callee F0 (MT F0 B Cq12) g0 (F0.binds λ _ _ _ _ _ _=>by2 λ _ _=>rfl)
 obtain⟨_,_,F0,g0⟩:=u52
 have Cq11:=callee F0 (Jd F0 B Cq15 Cq5) g0 (F0.binds λ _ _ _ _ _ _=>by3 λ _ _ _=>rfl)
 exact Su F B Cq17 Cq46 Cq7 Cq8 Cq10 Cq0 Cq11
theorem all_mk{l:PySem.W.OpenLaw}{w:World}{K:PySem.W.Frag}{h:Heap}{mg:Str->Option Value}{fa:Addr}(X:K.In h)(G:h.Ns mainGlobals mg)(hfa:mg "law"=some (.ref fa))(q:FI K "law" jY)
(q0:FI K "comes_to" ir)
(q1:FI K "with_next_count" cN)
(q2:FI K "counts_of" gf)
(q3:FI K "steps_of" gW)
(q4:FI K "deed_of" ju)
(q5:FI K "cell_at" jf)
(q6:FI K "cells_of_step" dI)
(q7:FI K "cells_of" ie)
(q8:FI K "number_of_steps" cQ)
(q9:FI K "plain" nF)
(q10:FI K "touched_cells" dH)
(q11:FI K "pairs" ou)
(q12:FI K "touched_ahead" dJ)
(q13:FI K "rounds_of_steps" cP)
(q14:FI K "steps_of_round" dq)
(q15:FI K "chain_of" gQ)
(q16:FI K "rounds" lE)
(q17:FI K "_law_cell" qi)
(q18:FI K "_law_next" qD)
(q19:FI K "_law_pen" tQ)
(q20:FI K "is_whole" iD)
(q21:FI K "is_tuple_of" eH)
(q22:FI K "is_widths" fZ)
(q23:FI K "is_form" je)
(q24:FI K "is_bound" iB)
(q25:FI K "is_loop" jy)
(q26:FI K "is_loops" gK)
(q27:FI K "has_few_figures" cO)
(q28:FI K "is_start" gJ)
(q29:FI K "is_place_form" dG)
(q30:FI K "is_table_with_place" bO)
(q31:FI K "is_read" jj)
(q32:FI K "is_reads" gY)
(q33:FI K "is_deed" jo)
(q34:FI K "is_nest" jr)
(q35:FI K "is_nests" il)
(q36:FI K "program_of" fJ)
(q37:FI K "_law_loops" m9)
(q38:FI K "_law_value" mV)
(q39:FI K "_law_count" nR)
(q40:FI K "_law_place" nO)
(q41:FI K "_law_deed" rm)
(q42:FI K "_law_program" jz)
(q43:FI K "_law_drawn" nH)
(q44:FI K "_law_bent" qZ)
(q45:FI K "is_row" kY)
(q46:FI K "is_order" gV)
(q47:FI K "all_steps" f9)
(q48:FI K "numbers_of_lists" cI)
(q49:FI K "are_rounds" fG)
(q50:FI K "_law_touch" nY)
(q51:FI K "_law_due" uM)
(q52:FI K "_law_says" qJ)
 {t_MOST_STEPS:Tok}(z_MOST_STEPS:PySem.W.nsIn K mainGlobals "MOST_STEPS"=some (some (.int 60 t_MOST_STEPS)))
 (z_abs:PySem.W.nsIn K mainGlobals "abs"=some none)
 (z_all:PySem.W.nsIn K mainGlobals "all"=some none)
 (z_bool:PySem.W.nsIn K mainGlobals "bool"=some none)
 (z_enumerate:PySem.W.nsIn K mainGlobals "enumerate"=some none)
 (z_int:PySem.W.nsIn K mainGlobals "int"=some none)
 (z_isinstance:PySem.W.nsIn K mainGlobals "isinstance"=some none)
 (z_len:PySem.W.nsIn K mainGlobals "len"=some none)
 (z_list:PySem.W.nsIn K mainGlobals "list"=some none)
 (z_max:PySem.W.nsIn K mainGlobals "max"=some none)
 (z_min:PySem.W.nsIn K mainGlobals "min"=some none)
 (z_range:PySem.W.nsIn K mainGlobals "range"=some none)
 (z_set:PySem.W.nsIn K mainGlobals "set"=some none)
 (z_sorted:PySem.W.nsIn K mainGlobals "sorted"=some none)
 (z_sum:PySem.W.nsIn K mainGlobals "sum"=some none)
 (z_tuple:PySem.W.nsIn K mainGlobals "tuple"=some none)
 (z_zip:PySem.W.nsIn K mainGlobals "zip"=some none)
 :∃fd:FuncData,(∀(s:Shared)(v:Value),BindsTo s fd ⟨[v],[]⟩ [("_law_script",v)])/\∀base:Heap,K.In base->base.Ns mainGlobals mg->FnOk l.prog w K mg base CX0 12 fa fd ["_law_script"] (spC K 1 oW):=by
 obtain⟨f,oc,od,kV,dc,pm,an,cd,ct,sl,a,l',c,k⟩:=q
 have e:=hfa.symm.trans (PySem.W.mg_of X G a)
 cases e
 refine⟨PySem.W.fnOf "law" "law" (fK jY) (cj jY) (aH jY) .none kV dc pm an cd ct,λ s v=>.of_eq rfl,λ base _ _=>?_⟩
 have B:Bi mg:=⟨⟨_,PySem.W.mg_of X G z_MOST_STEPS⟩,PySem.W.mg_none_of X G z_abs,PySem.W.mg_none_of X G z_all,PySem.W.mg_none_of X G z_bool,PySem.W.mg_none_of X G z_enumerate,PySem.W.mg_none_of X G z_int,PySem.W.mg_none_of X G z_isinstance,PySem.W.mg_none_of X G z_len,PySem.W.mg_none_of X G z_list,PySem.W.mg_none_of X G z_max,PySem.W.mg_none_of X G z_min,PySem.W.mg_none_of X G z_range,PySem.W.mg_none_of X G z_set,PySem.W.mg_none_of X G z_sorted,PySem.W.mg_none_of X G z_sum,PySem.W.mg_none_of X G z_tuple,PySem.W.mg_none_of X G z_zip⟩
 exact R6 (Ω:=⟨_,w,K,mg,base⟩) B (q0.use X G) (q1.use X G) (q2.use X G) (q3.use X G) (q4.use X G) (q5.use X G) (q6.use X G) (q7.use X G) (q8.use X G) (q9.use X G) (q10.use X G) (q11.use X G) (q12.use X G) (q13.use X G) (q14.use X G) (q15.use X G) (q16.use X G) (q17.use X G) (q18.use X G) (q19.use X G) (q20.use X G) (q21.use X G) (q22.use X G) (q23.use X G) (q24.use X G) (q25.use X G) (q26.use X G) (q27.use X G) (q28.use X G) (q29.use X G) (q30.use X G) (q31.use X G) (q32.use X G) (q33.use X G) (q34.use X G) (q35.use X G) (q36.use X G) (q37.use X G) (q38.use X G) (q39.use X G) (q40.use X G) (q41.use X G) (q42.use X G) (q43.use X G) (q44.use X G) (q45.use X G) (q46.use X G) (q47.use X G) (q48.use X G) (q49.use X G) (q50.use X G) (q51.use X G) (q52.use X G) (J7 (st:=jY) l' c k)
end K43
namespace PySem.W.Fast
def tw10257904300753095569:=()
def tw16223808482773428640:=()
def tw2651232354906717509:=()
def tw2949578609415764734:=()
def tw6507962709435879291:=()
def tw9443636973743190157:=()
def tw7232399044132344307:=()
def tw13063372213811037638:=()
def tw9265330827627701204:=()
def tw1704666653140337024:=()
def tw16268468993177657821:=()
def tw14176379356265767405:=()
def tw18410448848691399084:=()
def tw15324090689684298176:=()
def tw1432359696292803769:=()
def tw10701426360117637811:=()
def tw3482398750785507098:=()
def tw16050454986854437809:=()
def tw18103703481328814210:=()
def tw14380385741467640938:=()
def tw7069482280070627306:=()
def tw4055116751057500161:=()
def tw5183407643425211314:=()
def tw16836600697697285405:=()
def tw6960967231896945465:=()
def tw17452561002294008014:=()
def tw4234759986542077978:=()
def tw7502498035170653145:=()
def tw10968322098461892286:=()
def tw4032054962320435540:=()
def tw10915652528292570043:=()
def tw5001951567407586788:=()
def tw1379039356088358037:=()
def tw15690655792550051568:=()
def tw9996700514873336010:=()
def tw15627287386424797776:=()
def tw5351936331866485481:=()
def tw11159660461537771724:=()
def tw1029034323066894974:=()
def tw17044196043803368322:=()
def tw16314538691366900306:=()
def tw9409872775541905664:=()
def tw14737614881523158045:=()
def tw11314673685114378211:=()
def tw15078706453048997384:=()
def tw2566568943626430610:=()
def tw17782232213798929391:=()
def tw14096676862862853448:=()
def tw15886438247960672454:=()
def tw15802553727738223824:=()
def tw15376145356272013714:=()
def tw16756964200014052477:=()
def tw11795080062690174203:=()
def tw13135832432567245575:=()
def tw7171979621344380280:=()
def tw1510332183571145033:=()
def tw10859258094673866565:=()
def tw16465192117087287875:=()
def tw9767685072715906504:=()
def tw6147361998832640484:=()
def tw11467393779985859699:=()
def tw1450135166025282266:=()
def tw13648178358401212500:=()
def tw10630955620358250549:=()
def tw9502514527587010656:=()
def tw2665639952281586182:=()
def tw8902291681520780012:=()
def tw9170214844921583907:=()
def tw9426350803050717491:=()
def tw12958661157679265202:=()
def tw13933441584644362437:=()
def tw1762712698551363629:=()
def tw1309972657039357633:=()
def tw16003563034461201315:=()
def tw2856348344289011591:=()
def tw13395624294161561725:=()
def tw16592738290406694575:=()
def tw12909324478072464473:=()
def tw14023216006163853491:=()
def tw4701515029898231101:=()
def tw8859932922397469495:=()
def tw10529449698688075533:=()
def tw4062874612410525830:=()
def tw7638827452910394312:=()
def tw158460758769356373:=()
def tw7640684498802929153:=()
def tw10219759015109196703:=()
def tw9111374204444796805:=()
def tw4707080430135856314:=()
def tw5162182493755344301:=()
def tw10881042687932839771:=()
def tw6239949534954671721:=()
def tw3168065900789473780:=()
def tw11894076166976657435:=()
def tw11514554025578002301:=()
def tw5613395582243054051:=()
def tw3850774055233619195:=()
def tw5688567859866841503:=()
def tw8990846012863055201:=()
def tw3454366840332207659:=()
def tw13972590199808231997:=()
def tw16653675914950497824:=()
def tw10652671771430954247:=()
def tw1876374438419862829:=()
def tw11177757485413938947:=()
def tw244892039045481835:=()
def tw3687645497348195723:=()
def tw12536967341162283458:=()
def tw2815999274996356039:=()
def tw16095618952888225666:=()
def tw16461183621657331241:=()
def tw4140960040998009346:=()
def tw3427158483706953883:=()
def tw9331368080706551274:=()
def tw8557532862266184441:=()
def tw11539245770707496488:=()
def tw10835006715333395031:=()
def tw11020432261696066457:=()
def tw16871596802665751195:=()
def tw10269422973403938118:=()
def tw13886066132353342522:=()
def tw1005744014518458201:=()
def tw15697353880474038230:=()
def tw13640419409621443642:=()
def tw16074330657743207655:=()
def tw10784827372753882841:=()
def tw11541133538896249244:=()
def tw8159400150446244902:=()
def tw4925484465636660470:=()
def tw10032269622750617416:=()
def tw11504170069977159352:=()
def tw1456939078049181677:=()
def tw18101256069866009690:=()
def tw17675662657894663382:=()
def tw2052695794585742767:=()
def tw1296128185432036473:=()
def tw6217030106283602592:=()
def tw9518872865524304082:=()
def tw14399098742269565992:=()
def tw8859018594533457598:=()
def tw14019013565888196115:=()
def tw18268224482787385787:=()
def tw11598235803682176935:=()
def tw8469064719833107179:=()
def tw5978125981030374436:=()
def tw15940909149858548584:=()
def tw14259427325337568753:=()
def tw5911677971232889724:=()
def tw1980353398320426298:=()
def tw1906958408669525411:=()
def tw9562611506864081453:=()
def tw18418489745796109237:=()
def tw17879703126931748486:=()
def tw9120438856264748734:=()
def tw18297450022852138681:=()
def tw7978649455772962553:=()
def tw5903651989166832030:=()
def tw18287397308259057226:=()
def tw9460680609548469696:=()
def tw15508812658948379245:=()
def tw14569365937990449871:=()
def tw16029340203304342952:=()
def tw18374769457016820025:=()
def tw10149360746841131540:=()
def tw14787472086227800123:=()
def tw14084384352079141607:=()
def tw2199088441902581226:=()
def tw16419455540602866563:=()
def tw2908544284048773987:=()
def tw13439646084865682619:=()
def tw14784272476231214483:=()
def tw10775588188879551149:=()
def tw13436841594894157463:=()
def tw8296018429841180935:=()
def tw16176098843686120000:=()
def tw17742792696286712036:=()
def tw8418404981255099792:=()
def tw2227922262136036378:=()
def tw12974333288148909374:=()
def tw17910291641304672460:=()
def tw8383818955173288633:=()
def tw1580662582882608999:=()
def tw8808851439689442081:=()
def tw10965509168401310791:=()
def tw5803673982724964069:=()
def tw12139256132021285602:=()
def tw5716421238272425206:=()
def tw11819084390425576753:=()
def tw14083401081951451050:=()
def tw15888557058737329930:=()
def tw7110163491759266755:=()
def tw8987373120149840715:=()
def tw12493391894786929951:=()
def tw3629956805861500529:=()
def tw10439551245031213602:=()
def tw18192240468649018080:=()
def tw8393636422144170504:=()
def tw493987513766355894:=()
def tw891741338662104135:=()
def tw13712225477623117068:=()
def tw669828096136362826:=()
def tw13924376719047626499:=()
def tw14319665223496524324:=()
def tw17691678470629350509:=()
def tw17278899560444961422:=()
def tw3141092986347095496:=()
def tw5024876196124868268:=()
def tw13619354152049729620:=()
def tw16447396813727127047:=()
def tw13939164018678249932:=()
def tw13066635789015305885:=()
def tw14697418392349262875:=()
def tw13554039255134677895:=()
def tw14446415606180041070:=()
def tw15846044347579632107:=()
def tw17548761564683282874:=()
def tw1562695228828333142:=()
def tw9483935815888796700:=()
def tw15472705175704121464:=()
def tw13565685343837659952:=()
def tw10777469068545834294:=()
def tw15272539922315914636:=()
def tw13773003790996236646:=()
def tw18147871285775455812:=()
def tw13926992206409971686:=()
def tw2771312689106629531:=()
def tw6246682613965541491:=()
def tw14278494242423726366:=()
def tw1048656525956699182:=()
def tw1461402347325222232:=()
def tw5065507433020603655:=()
def tw17994483077705358021:=()
def tw5921098492330476957:=()
def tw1416524841129170538:=()
def tw16784579335754314942:=()
def tw7491325868926723597:=()
def tw5496895498292289189:=()
def tw13646851922697481213:=()
def tw5949584672816508938:=()
def tw9719234649838969211:=()
def tw12055012169961829359:=()
def tw10322412286032158409:=()
def tw4454527507772798983:=()
def tw16748808930488960829:=()
def tw8903188515751032414:=()
def tw17987166491357474804:=()
def tw2088200375875969641:=()
def tw5315793928354995564:=()
def tw15345964158247274315:=()
def tw5113083208856995638:=()
def tw5933453653576963066:=()
def tw18315665473204102055:=()
def tw12630528317610640932:=()
def tw4191401361422817506:=()
def tw2949764894766455320:=()
def tw16518050805215374492:=()
def tw17975384621783365734:=()
def tw2963933066344919858:=()
def tw10067669491591185676:=()
def tw7833551688191166538:=()
def tw16509373131897781722:=()
def tw17105737312993260535:=()
def tw7642667593067844769:=()
def tw9851823680872806181:=()
def tw681619385796871272:=()
def tw4732641792565170061:=()
def tw3087396047346792054:=()
def tw12520566435011390427:=()
def tw15177860323113882288:=()
def tw17982947302219144059:=()
def tw17550529320823423585:=()
def tw14637904923402006146:=()
def tw3126389178491425166:=()
def tw8615018107147176309:=()
def tw8368597694317194891:=()
def tw2625584437161666626:=()
def tw4581537321775684041:=()
def tw5010810195672538873:=()
def tw155868706317519546:=()
def tw1316635706120608646:=()
def tw17975535303872906205:=()
def tw16791511958670251058:=()
def tw5443308555504258798:=()
def tw17711688363481247343:=()
def tw7779671055853967956:=()
def tw16818322583424573680:=()
def tw2995901429702732740:=()
def tw7714813592355939410:=()
def tw6918736817996104581:=()
def tw2960767042883120778:=()
def tw14547966067011418506:=()
def tw5879194709458076936:=()
def tw1021577577116227628:=()
def tw8071550156457396199:=()
def tw1983540687848073254:=()
def tw17941420400813122386:=()
def tw12427498377569609112:=()
def tw1710602010751162322:=()
def tw332529385946346413:=()
def tw6639530773765815175:=()
def tw12392711218372319648:=()
def tw10852534269839845281:=()
def tw10536085036804669606:=()
def tw8279054979360651418:=()
def tw10032516710159846372:=()
def tw15082522418035229421:=()
def tw15864024599977309573:=()
def tw17357453958064704926:=()
def tw5615295005286285621:=()
def tw6758732198525103635:=()
def tw5175790562822025240:=()
def tw12915916704724193281:=()
def tw10989937140616501646:=()
def tw5601934734771296444:=()
def tw9479999183562195254:=()
def tw1764971058836967605:=()
def tw2040686552392516503:=()
def tw9713851941529761446:=()
def tw6461202404162370472:=()
def tw10099829894894654153:=()
def tw12873594553273030214:=()
def tw18132100589362239494:=()
def tw2760004148004156040:=()
def tw3768053276989766587:=()
def tw4657586890608039366:=()
def tw3307707020164620338:=()
def tw12241025151220262843:=()
def tw15958089109163421335:=()
def tw4738758428288223570:=()
def tw12353930125315684909:=()
def tw14930839664359816921:=()
def tw7039837183771128115:=()
end PySem.W.Fast
open PySem PySem.W PyProof.Rows
set_option maxRecDepth 100000 in
set_option maxHeartbeats 0 in
theorem PySem.Challenge.cw_nestturn_k43_rounds_looked_at_holds : PySem.Challenge.rw_nestturn_k43_rounds_looked_at.Holds := by
 w_on; o_law; k_head; (case hw => w_witness2)
 k_fill
 refine RF.walk (l := PySem.Challenge.rw_nestturn_k43_rounds_looked_at) (lev := 12) (x := "_law_script") rfl rfl ⟨rfl, by decide, by decide⟩ (λ w h Y => by first | exact PySem.W.kIn_of Y | exact PySem.W.km_in_of Y) ?F
 case F =>
  intro w mg fa h KX G hmg
  refine' K43.all_mk KX G hmg ?_ ?_ ?_ ?_ ?_ ?_ ?_ ?_ ?_ ?_ ?_ ?_ ?_ ?_ ?_ ?_ ?_ ?_ ?_ ?_ ?_ ?_ ?_ ?_ ?_ ?_ ?_ ?_ ?_ ?_ ?_ ?_ ?_ ?_ ?_ ?_ ?_ ?_ ?_ ?_ ?_ ?_ ?_ ?_ ?_ ?_ ?_ ?_ ?_ ?_ ?_ ?_ ?_ ?_ ?_ ?_ ?_ ?_ ?_ ?_ ?_ ?_ ?_ ?_ ?_ ?_ ?_ ?_ ?_ ?_ ?_
  all_goals try first | (refine' K43.FI.mk ?a ?l ?c ?k; (case a => k_is); (case l => k_is); (case c => k_is); (case k => k_is)) | (show _ = _; k_is)
