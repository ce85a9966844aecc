import PyProof.Rows.All
import Wide.All
import OpenK.AllK
import Wide.FinOn
import Lean
import PyProof.EqAt
import PyProof.EqKinds
import PyProof.TupleCall
import KE.KEqDict
import PyProof.ZipIter
import PyProof.ListMulAny
import KE.KTryMore
import PyProof.NsDelKeeps
import KE.KUnpack
import KE.KRevIter
import PyProof.DictUpdate
import PyProof.ListRange
import PyProof.Rows.CallKwBuiltin
import PyProof.WalkInts
import PySem.Challenge.RW_nestturn_k36_exchanges_told
theorem fE{α:Prop}(h:false=true):α:=(Bool.false_ne_true h).elim
noncomputable section
set_option Elab.async false
set_option linter.all false
def z0:=@List.getElem?_eq_some_iff
def y3:=@List.getElem?_eq_getElem
def y4:=@List.mem_of_getElem?
def y6:=@Bool.false_ne_true
def y7:=@List.length_map
def y8:=@List.getElem?_map
def y9:=@Nat.le_refl
def x3:=@List.mem_cons_of_mem
def x4:=@List.size_toArray
def x5:=@List.mem_cons_self
def x6:=@List.length_append
def x8:=@List.getElem?_append_left
def x9:=@Nat.lt_of_lt_of_le
def w9:=@Nat.ne_of_lt
def v3:=@List.map_append
set_option bootstrap.genMatcherCode false
set_option maxRecDepth 100000
namespace L2
open PySem PySem.Spec PyProof.Rows
noncomputable abbrev Key:=Sum Int Str
noncomputable def Mm:Key->Value->Bool
 | .inl k,v=>Value.isInt k v
 | .inr x,v=>Value.isStrOf x v
noncomputable def Ur(w:World):Key->Int
 | .inl k=>hashInt k
 | .inr x=>hashStr w x
theorem bD:∀{k:Key}{v:Value},Mm k v=true->(∃i t,k=Sum.inl i/\v=Value.int i t)∨(∃x t,k=Sum.inr x/\v=Value.str x t)
 | .inl i,v,h=>by
   obtain⟨t,e⟩:=Value.isInt_shape (k:=i) (v:=v) h
   exact .inl ⟨i,t,rfl,e⟩
 | .inr x,v,h=>by
   obtain⟨t,e⟩:=Value.isStrOf_shape (x:=x) (v:=v) h
   exact .inr ⟨x,t,rfl,e⟩
theorem Rb(a b:Int):decide ((Sum.inl a:Key)=Sum.inl b)=(a==b):=by
 by_cases e:a=b
 . subst e;simp
 . have h:¬(Sum.inl a:Key)=Sum.inl b:=λ q=>e (Sum.inl.inj q)
   rw[decide_eq_false h]
   exact(beq_eq_false_iff_ne.mpr e).symm
theorem Rk(a b:Str):decide ((Sum.inr a:Key)=Sum.inr b)=decide (a=b):=by
 by_cases e:a=b
 . subst e;simp
 . have h:¬(Sum.inr a:Key)=Sum.inr b:=λ q=>e (Sum.inr.inj q)
   rw[decide_eq_false h,decide_eq_false e]
theorem Qt(a:Int)(b:Str):decide ((Sum.inl a:Key)=Sum.inr b)=false:=decide_eq_false (λ q=>nomatch q)
theorem Qf(a:Str)(b:Int):decide ((Sum.inr a:Key)=Sum.inl b)=false:=decide_eq_false (λ q=>nomatch q)
noncomputable def dO(prog:Program)(w:World):PySem.KeyKind prog w Key where
 is:=Mm
 hash:=Ur w
 inj:=λ v a b ha hb=>by
  rcases bD ha with⟨i,t,rfl,rfl⟩ | ⟨x,t,rfl,rfl⟩
  . rcases bD hb with⟨j,u,rfl,e⟩ | ⟨y,u,rfl,e⟩
    . injection e with e1 _;rw[e1]
    . exact nomatch e
  . rcases bD hb with⟨j,u,rfl,e⟩ | ⟨y,u,rfl,e⟩
    . exact nomatch e
    . injection e with e1 _;rw[e1]
 byValue:=λ k v h=>by
  rcases bD h with⟨i,t,rfl,rfl⟩ | ⟨x,t,rfl,rfl⟩<;>rfl
 pyHash:=λ hv h=>by
  rcases bD hv with⟨i,t,rfl,rfl⟩ | ⟨x,t,rfl,rfl⟩
  . exact wpAny_pyHash_int h
  . exact wpAny_pyHash_str h
 eqBool:=λ hu hv h=>by
  rcases bD hu with⟨i,t,rfl,rfl⟩ | ⟨x,t,rfl,rfl⟩
  . rcases bD hv with⟨j,u,rfl,rfl⟩ | ⟨y,u,rfl,rfl⟩
    . rw[Rb]at h;exact wpAny_eqBool_int h
    . rw[Qt]at h;exact SeqAt.EqAt.int_str i t y u _ _ _ _ h
  . rcases bD hv with⟨j,u,rfl,rfl⟩ | ⟨y,u,rfl,rfl⟩
    . rw[Qf]at h;exact SeqAt.EqAt.str_int x t j u _ _ _ _ h
    . rw[Rk]at h;exact wpAny_eqBool_str h
 «strs»:=λ k x t v h=>by
  rcases bD h with⟨i,u,rfl,e⟩ | ⟨y,u,rfl,e⟩
  . exact nomatch e
  . injection e with e1 _
    subst e1
    cases v<;>rfl
end L2
namespace L2
open PySem PySem.Spec PyProof.Rows
variable {b : Addr}
inductive V where
 | non | bl(b:Bool) | int(i:Int) | str(x:Str) | byt(b:Array UInt8) | flt(b:UInt64) | ref(a:Addr) | ty(n:String)
 deriving DecidableEq
noncomputable def RelV:V->Value->Prop
 | .non,u=>u=Value.none
 | .bl b,u=>u=Value.bool b
 | .int i,u=>∃t,u=Value.int i t
 | .str x,u=>∃t,u=Value.str x t
 | .byt b,u=>∃t,u=Value.bytes b t
 | .flt b,u=>∃t,u=Value.float b t
 | .ref a,u=>u=Value.ref a
 | .ty n,u=>u=Value.type n
noncomputable abbrev Vals:List V->List Value->Prop:=Paired RelV
theorem Vals.length{xs:List V}{us:List Value}(r:Vals xs us):xs.length=us.length:=Paired.length r
theorem Vals.get:∀{xs:List V}{us:List Value}{i:Nat}{x:V},Vals xs us->xs[i]? =some x->∃u,us[i]? =some u/\RelV x u
 | _,_,_,_,.nil,e=>by simp at e
 | _,_,0,_,.cons r _,e=>by simp at e;subst e;exact⟨_,rfl,r⟩
 | _,_,i+1,x,.cons _ t,e=>by
   obtain⟨u,h1,h2⟩:=Vals.get (i:=i) (x:=x) t (by simpa using e)
   exact⟨u,by simpa using h1,h2⟩
theorem Vals.set{x:V}{u:Value}(r:RelV x u):∀{xs:List V}{us:List Value}(i:Nat),Vals xs us->Vals (xs.set i x) (us.set i u)
 | _,_,_,.nil=>.nil
 | _,_,0,.cons _ t=>.cons r t
 | _,_,i+1,.cons q t=>.cons q (Vals.set r i t)
theorem Vals.append:∀{xs ys:List V}{us ws:List Value},Vals xs us->Vals ys ws->Vals (xs++ys) (us++ws)
 | _,_,_,_,.nil,s=>s
 | _,_,_,_,.cons r t,s=>.cons r (Vals.append t s)
theorem Vals.take:∀{xs:List V}{us:List Value}(n:Nat),Vals xs us->Vals (xs.take n) (us.take n)
 | _,_,0,_=>.nil
 | _,_,_+1,.nil=>.nil
 | _,_,n+1,.cons r t=>.cons r (Vals.take n t)
theorem Vals.drop:∀{xs:List V}{us:List Value}(n:Nat),Vals xs us->Vals (xs.drop n) (us.drop n)
 | _,_,0,r=>r
 | _,_,_+1,.nil=>.nil
 | _,_,n+1,.cons _ t=>Vals.drop n t
noncomputable def Qh:Option V->Option Value->Prop
 | some v,some u=>RelV v u
 | none,none=>True
 | _,_=>False
noncomputable def KV{κ:Type}:List (κ×V)->List (κ×Value)->Prop:=Paired λ(p:κ×V) (q:κ×Value)=>p.1=q.1/\RelV p.2 q.2
noncomputable def kV:Key->V
 | .inl i=>.int i
 | .inr x=>.str x
inductive HO where
 /-- a list -/
 | lst(xs:List V)
 /-- a tuple (never changes) -/
 | tup(xs:List V)
 /-- a dict whose keys are ints and texts; one whose keys are tuples of ints and texts (the empty one is both) -/
 | dK(kvs:List (Key×V)) | dT(kvs:List (List Key×V))
 /-- a set of ints: its members, its size -/
 | set(S:Int->Bool)(n:Nat)
 /-- an instance of the class at C, its dict at dx, its attributes -/
 | ins(C dx:Addr)(fs:List (Str×V))
 /-- the dict of the instance at x -/
 | own(x:Addr)
 /-- the dict of an exception -/
 | xd(fs:List (Str×V))
 /-- a bound method, f of x -/
 | met(f x:Addr)
 /-- a range object lo, lo + 1, .. below hi -/
 | rng(lo hi:Int)
 /-- a thing that is known to the object (the script; a dict while a loop walks it): read, never written while it is so -/
 | frz(o:Obj)(u:HO)
 /-- a code object's table -/
 | tbl(ps:Array Value)
 /-- any other thing, by what is true of its one object (a def of one's own: SetO a S n := HO.ext λ h => ..) -/
 | ext(φ:Heap->Prop)
noncomputable abbrev Hp:=Addr->Option HO
noncomputable def upd(H:Hp)(a:Addr)(o:HO):Hp:=λ b=>if b=a then some o else H b
theorem aO{H:Hp}{a:Addr}{o:HO}:upd H a o a=some o:=by unfold upd;rw[if_pos rfl]
theorem aq{H:Hp}{a:Addr}{o:HO}(h:b≠a):upd H a o b=H b:=by unfold upd;rw[if_neg h]
theorem aG{H:Hp}{a:Addr}{o:HO}(h:H a=some o)(h':H b=none):a≠b:=by
 intro e;subst e;rw[h]at h';cases h'
section
variable (P : Program) (w : World)
noncomputable def aX(H:Hp)(h:Heap)(a:Addr):HO->Prop
 | .lst xs=>xs.length≤sizeLine/\∃(its:List Value) (n:Nat),Vals xs its/\h.get? a=some {cls:=.type "list",data:=.seq its.toArray n}
 | .tup xs=>xs.length≤sizeLine/\∃its:List Value,Vals xs its/\IsTup h a its.toArray
 | .dK kvs=>kvs.length≤sizeLine/\(a==sysModules)=false/\∃vs,KV kvs vs/\h.DictOf (dO P w) a vs
 | .dT kvs=>kvs.length≤sizeLine/\(a==sysModules)=false/\∃xs:List (List Key×Addr×Value),
  Paired (λ(p:List Key×V) (q:List Key×Addr×Value)=>p.1=q.1/\H q.2.1=some (.tup (p.1.map kV))/\RelV p.2 q.2.2) kvs xs/\
  ∃o es ep,h.get? a=some o/\o.ExactDict/\o.data=.dict es ep/\es.toList=xs.map (entryOfKey (tupleKind (dO P w)))/\(xs.map (·.1)).Nodup
 | .set S n=>h.SetOf (intKind P w) a S n
 | .ins C dx fs=>H dx=some (.own a)/\fs.length≤1000/\dx≠a/\h.get? a=some (PySem.W.instObj C dx)/\
  ∃mA,h.Ns1 dx mA/\(∀f,Qh (fs.lookup f) (mA f))/\PySem.Within mA (fs.map (·.1))
 | .own _=>∃o,h.get? a=some o
 | .xd fs=>∃mA,h.Ns1 a mA/\∀f,Qh (fs.lookup f) (mA f)
 | .rng lo hi=>∃t u v,h.get? a=some {cls:=.type "range",data:=.fields #[.int lo t,.int hi u,.int 1 v]}
 | .frz o u=>h.get? a=some o/\aX H h a u
 | .tbl ps=>h.get? a=some {cls:=.none,data:=.fields ps}
 | .met f x=>h.get? a=some (PySem.W.methodObj (.ref f) (.ref x))
 | .ext φ=>φ h/\(∃o,h.get? a=some o)/\∀h1 h2:Heap,φ h1->(∀o,h1.get? a=some o->h2.get? a=some o)->φ h2
noncomputable def HOk(H:Hp)(h:Heap):Prop:=∀a o,H a=some o->aX P w H h a o
end
section
variable {P : Program} {w : World} {H H' : Hp} {h h' : Heap} {a : Addr} {o : HO}
theorem aX.lt(x:aX P w H h a o):a<h.objs.size:=by
 cases o with
 | lst xs=>obtain⟨_,_,_,_,e⟩:=x;exact Heap.lt_size e
 | tup xs=>obtain⟨_,_,_,p⟩:=x;exact p.lt
 | dK kvs=>obtain⟨_,_,_,_,o,_,_,e,_⟩:=x;exact Heap.lt_size e
 | dT kvs=>obtain⟨_,_,_,_,o,_,_,e,_⟩:=x;exact Heap.lt_size e
 | set S n=>obtain⟨o,_,_,_,e,_⟩:=x;exact Heap.lt_size e
 | ins C dx fs=>obtain⟨_,_,_,e,_⟩:=x;exact Heap.lt_size e
 | own y=>obtain⟨_,e⟩:=x;exact Heap.lt_size e
 | xd fs=>obtain⟨_,⟨_,_,_,e,_⟩,_⟩:=x;exact Heap.lt_size e
 | rng lo hi=>obtain⟨_,_,_,e⟩:=x;exact Heap.lt_size e
 | frz ob u=>obtain⟨e,_⟩:=x;exact Heap.lt_size e
 | tbl ps=>exact Heap.lt_size (show h.get? a=some _ from x)
 | met f y=>exact Heap.lt_size (show h.get? a=some _ from x)
 | ext φ=>obtain⟨_,⟨_,e⟩,_⟩:=x;exact Heap.lt_size e
theorem Paired.mapP{α β:Type}{F G:α->β->Prop}:∀{l₁:List α}{l₂:List β},Paired F l₁ l₂->(∀a b,F a b->G a b)->Paired G l₁ l₂
 | _,_,.nil,_=>.nil
 | _,_,.cons r t,f=>.cons (f _ _ r) (Paired.mapP t f)
theorem aX.stay(x:aX P w H h a o)(k:∀b u,(b=a∨H b=some (.own a))->h.get? b=some u->h'.get? b=some u)
 (ho:∀b,H b=some (.own a)->H' b=some (.own a))(ht:∀b xs,H b=some (.tup xs)->H' b=some (.tup xs)):aX P w H' h' a o:=by
 induction o with
 | lst xs=>obtain⟨z,its,n,r,e⟩:=x;exact⟨z,its,n,r,k _ _ (.inl rfl) e⟩
 | tup xs=>obtain⟨z,its,r,ob,e,c⟩:=x;exact⟨z,its,r,ob,k _ _ (.inl rfl) e,c⟩
 | dK kvs=>obtain⟨z,y,vs,r,ob,es,ep,e,c⟩:=x;exact⟨z,y,vs,r,ob,es,ep,k _ _ (.inl rfl) e,c⟩
 | dT kvs=>
   obtain⟨z,y,xs,r,ob,es,ep,e,c⟩:=x
   exact⟨z,y,xs,Paired.mapP r λ p q z=>⟨z.1,ht _ _ z.2.1,z.2.2⟩,ob,es,ep,k _ _ (.inl rfl) e,c⟩
 | set S n=>obtain⟨ob,es,ep,t,e,c⟩:=x;exact⟨ob,es,ep,t,k _ _ (.inl rfl) e,c⟩
 | ins C dx fs=>
   obtain⟨d,z,ne,e,mA,⟨od,es,ep,e2,c⟩,r⟩:=x
   exact⟨ho _ d,z,ne,k _ _ (.inl rfl) e,mA,⟨od,es,ep,k _ _ (.inr d) e2,c⟩,r⟩
 | own y=>obtain⟨ob,e⟩:=x;exact⟨ob,k _ _ (.inl rfl) e⟩
 | xd fs=>obtain⟨mA,⟨od,es,ep,e,c⟩,r⟩:=x;exact⟨mA,⟨od,es,ep,k _ _ (.inl rfl) e,c⟩,r⟩
 | rng lo hi=>obtain⟨t,u,v,e⟩:=x;exact⟨t,u,v,k _ _ (.inl rfl) e⟩
 | frz ob u ih=>obtain⟨e,q⟩:=x;exact⟨k _ _ (.inl rfl) e,ih q⟩
 | tbl ps=>
   have e:h.get? a=some {cls:=.none,data:=.fields ps}:=x
   show h'.get? a=some {cls:=.none,data:=.fields ps}
   exact k a _ (.inl rfl) e
 | met f y=>
   have e:h.get? a=some (PySem.W.methodObj (.ref f) (.ref y)):=x
   show h'.get? a=some (PySem.W.methodObj (.ref f) (.ref y))
   exact k a _ (.inl rfl) e
 | ext φ=>obtain⟨p,⟨o,e⟩,st⟩:=x;exact⟨st _ _ p λ o q=>k _ _ (.inl rfl) q,⟨o,k _ _ (.inl rfl) e⟩,st⟩
theorem HOk.lt(x:HOk P w H h)(e:H a=some o):a<h.objs.size:=(x a o e).lt
theorem HOk.fresh(x:HOk P w H h)(e:h.objs.size≤a):H a=none:=by
 cases q:H a with
 | none=>rfl
 | some u=>exact absurd (x9 (x.lt q) e) (Nat.lt_irrefl _)
theorem HOk.kept(x:HOk P w H h)(k:∀b u,h.get? b=some u->h'.get? b=some u):HOk P w H h':=λ a o e=>
 (x a o e).stay (λ b u _ q=>k b u q) (λ _ q=>q) λ _ _ q=>q
theorem HOk.laid(x:HOk P w H h)(k:∀b u,h.get? b=some u->h'.get? b=some u)(hp:h.objs.size≤a)(new:aX P w (upd H a o) h' a o):HOk P w (upd H a o) h':=λ b u e=>by
 have hn:=x.fresh hp
 by_cases hb:b=a
 . subst hb;rw[aO]at e;cases e;exact new
 . rw[aq hb]at e
   exact(x b u e).stay (λ c v _ q=>k c v q) (λ c q=>by rw[aq (aG q hn)];exact q) λ c xs q=>by rw[aq (aG q hn)];exact q
end
noncomputable def Rd(H:Hp)(a:Addr)(u:HO):Prop:=H a=some u∨∃o,H a=some (.frz o u)
theorem Rd.ok{P:Program}{w:World}{H:Hp}{h:Heap}{a:Addr}{u:HO}(r:Rd H a u)(x:HOk P w H h):aX P w H h a u:=by
 rcases r with r | ⟨o,r⟩
 . exact x a u r
 . obtain⟨_,q⟩:=x a _ r
   exact q
noncomputable def Mut:Option HO->Prop
 | some (.lst _)=>True
 | some (.dK _)=>True
 | some (.dT _)=>True
 | some (.set _ _)=>True
 | some (.ins _ _ _)=>True
 | some (.ext _)=>True
 | _=>False
section
variable {P : Program} {w : World} {H : Hp} {h h' : Heap} {x e : Addr} {o' : HO}
theorem HOk.write(ok:HOk P w H h)(mu:Mut (H x))(he:e=x∨H e=some (.own x))(k:∀b u,b≠e->h.get? b=some u->h'.get? b=some u)(heo:∃u,h'.get? e=some u)
 (new:aX P w (upd H x o') h' x o'):HOk P w (upd H x o') h':=λ b u q=>by
 have nown:∀c y,H c=some (.own y)->c≠x:=λ c y r z=>by subst z;rw[r]at mu;exact mu
 have ntup:∀c xs,H c=some (.tup xs)->c≠x:=λ c xs r z=>by subst z;rw[r]at mu;exact mu
 by_cases hb:b=x
 . subst hb;rw[aO]at q;cases q;exact new
 . rw [aq hb]at q
   by_cases hbe:b=e
   . have q':H b=some (.own x):=by
      rcases he with z | z
      . exact absurd (hbe.trans z) hb
      . rw[hbe];exact z
     rw[q]at q';cases q'
     obtain⟨v,hv⟩:=heo
     exact⟨v,by rw[hbe];exact hv⟩
   . refine(ok b u q).stay (λ c v hc r=>k c v ?_ r) (λ c r=>by rw[aq (nown c b r)];exact r) λ c xs r=>by rw[aq (ntup c xs r)];exact r
     rcases hc with rfl | hc
     . exact hbe
     . rintro rfl
       rcases he with z | z
       . exact nown c b hc z
       . rw[hc]at z;cases z;exact hb rfl
end
structure Un(fs ex:List Addr)(H H':Hp)(h h':Heap):Prop where
 keep:∀b o,h.get? b=some o->H b=none->b∉fs->b∉ex->h'.get? b=some o
 slot:∀b o,h.get? b=some o->H b=none->b∈fs->b∉ex->∃sl,h'.get? b=some {o with slots:=sl}
 free:∀b o,h.get? b=some o->H b=none->b∉ex->H' b=none
 there:∀b o,h.get? b=some o->b∉ex->∃o',h'.get? b=some o'
 tups:∀b xs,H b=some (.tup xs)->H' b=some (.tup xs)
 frzs:∀b o u,H b=some (.frz o u)->H' b=some (.frz o u)
 tbls:∀b ps,H b=some (.tbl ps)->∃more,H' b=some (.tbl (ps++more))
section
variable {fs fs' ex ex' : List Addr} {H H1 H2 : Hp} {h h1 h2 h' : Heap} {a x e : Addr} {o : HO}
theorem Un.any(u:Un fs ex H H1 h h1){b:Addr}{ob:Obj}(q:h.get? b=some ob)(n:H b=none)(hx:b∉ex):∃sl,h1.get? b=some {ob with slots:=sl}:=by
 by_cases hb:b∈fs
 . exact u.slot b ob q n hb hx
 . exact⟨ob.slots,u.keep b ob q n hb hx⟩
theorem Un.kept(k:∀b u,h.get? b=some u->h'.get? b=some u):Un fs ex H H h h':=
 ⟨λ b ob q _ _ _=>k b ob q,λ b ob q _ _ _=>⟨ob.slots,k b ob q⟩,λ _ _ _ n _=>n,λ b ob q _=>⟨ob,k b ob q⟩,λ _ _ q=>q,λ _ _ _ q=>q,λ _ ps q=>⟨#[],by rw[q];simp⟩⟩
theorem Un.refl:Un fs ex H H h h:=Un.kept λ _ _ q=>q
theorem Un.laid(k:∀b u,h.get? b=some u->h'.get? b=some u)(hp:h.objs.size≤a)(hn:H a=none):Un fs ex H (upd H a o) h h' where
 keep:=λ b u q _ _ _=>k b u q
 slot:=λ b u q _ _ _=>⟨u.slots,k b u q⟩
 free:=λ b u q n _=>by rw[aq (w9 (x9 (Heap.lt_size q) hp))];exact n
 there:=λ b u q _=>⟨u,k b u q⟩
 tups:=λ b xs q=>by rw[aq (aG q hn)];exact q
 frzs:=λ b u xs q=>by rw[aq (aG q hn)];exact q
 tbls:=λ b ps q=>⟨#[],by rw[aq (aG q hn),q];simp⟩
theorem Un.write(mu:Mut (H x))(he:e=x∨H e=some (.own x))(k:∀b u,b≠e->h.get? b=some u->h'.get? b=some u)(heo:∃u,h'.get? e=some u):Un fs ex H (upd H x o) h h':=by
 have hx:∀b,H b=none->b≠x:=λ b n z=>by subst z;rw[n]at mu;exact mu
 have hb:∀b,H b=none->b≠e:=λ b n z=>by
  subst z
  rcases he with r | r
  . exact hx b n r
  . rw[n]at r;cases r
 have hm:∀b u,H b=some u->¬Mut (some u)->b≠x:=λ b u q nm z=>by subst z;rw[q]at mu;exact nm mu
 refine⟨λ b u q n _ _=>k b u (hb b n) q,λ b u q n _ _=>⟨u.slots,k b u (hb b n) q⟩,λ b u q n _=>by rw[aq (hx b n)];exact n,λ b u q _=>?_,
  λ b xs q=>by rw[aq (hm b _ q λ z=>z)];exact q,λ b u xs q=>by rw[aq (hm b _ q λ z=>z)];exact q,λ b ps q=>⟨#[],by rw[aq (hm b _ q λ z=>z),q];simp⟩⟩
 by_cases hbe:b=e
 . subst hbe;exact heo
 . exact⟨u,k b u hbe q⟩
end
noncomputable def trk(h:Heap)(H:Hp):List Addr:=(List.range h.objs.size).filter λ a=>(H a).isSome
noncomputable def jF(h:Heap)(H:Hp):Heap:=PySem.W.hideAll h (trk h H)
theorem Hg(h:Heap)(H:Hp):(jF h H).objs.size=h.objs.size:=PySem.W.hideAll_size _ _
theorem Kw{h:Heap}{H:Hp}{o:Obj}(e:h.get? b=some o)(n:H b=none):(jF h H).get? b=some o:=
 PySem.W.hideAll_get _ e λ hm=>by
  have q:(H b).isSome=true:=(List.mem_filter.mp hm).2
  rw[n]at q;simp at q
theorem Nt{h:Heap}{H:Hp}{o:Obj}(e:(jF h H).get? b=some o):h.get? b=some o/\H b=none:=by
 have e':h.get? b=some o:=PySem.W.of_hideAll (trk h H) e
 refine⟨e',?_⟩
 cases q:H b with
 | none=>rfl
 | some x=>
   have hm:b∈trk h H:=List.mem_filter.mpr ⟨List.mem_range.mpr (Heap.lt_size e'),by simp[q]⟩
   have z:(jF h H).get? b=none:=PySem.W.hideAll_none (trk h H) hm
   rw[z]at e;cases e
end L2
namespace L2
open PySem PySem.Spec PyProof.Rows
variable {t' : Nat}
structure Mod(K:PySem.W.Frag)(mg:Str->Option Value)(base:Heap):Prop where
 kin:K.In base
 glob:base.Ns mainGlobals mg
 blt:∃mb,base.Ns builtinsNs mb/\∀x:Str,x≠"__name__"->mb x=bootBuiltins x
 nolimit:base.NoLimit
structure Cx where
 prog:Program
 w:World
 K:PySem.W.Frag
 mg:Str->Option Value
 base:Heap
 A:Around
 N:List Str
 s₀:Shared
 H₀:Hp
 env:Env
 outer:List Env
 stack:List Env
 ex:List Addr
 fn:Str->Bool
 calm:Bool
 pn:List (Addr×Obj)
 xe:Value->Shared->Prop
noncomputable def frs(l:List Env):List Addr:=l.filterMap (·.frame)
noncomputable abbrev Cx.fs(X:Cx):List Addr:=frs X.outer
noncomputable def Vis(sc:Scope)(x:Str):Prop:=sc.names.lookup x=some .local∨sc.names.lookup x=some .cell∨sc.names.lookup x=some .free
noncomputable def Loc(sc:Scope)(x:Str):Prop:=sc.names.lookup x=some .local∨sc.names.lookup x=some .cell
noncomputable def Look(env:Env)(h:Heap)(m:Str->Option Value)(x:Str)(u:Value):Prop:=
 (env.kindOf x=some .local/\m x=some u)∨((env.kindOf x=some .cell∨env.kindOf x=some .free)/\∃c,env.cells.lookup x=some c/\h.IsCell c (some u))
structure Cx.Ok(X:Cx):Prop where
 mod:Mod X.K X.mg X.base
 kind:X.env.scope.kind=.function
 glob:X.env.globals=mainGlobals
 blt:X.env.builtins=builtinsNs
 above:X.s₀.heap.objs.size≤X.env.locals
 inj:∀x y c,X.env.cells.lookup x=some c->X.env.cells.lookup y=some c->x=y
 has:∀x,(X.env.kindOf x=some .cell∨X.env.kindOf x=some .free)->∃c,X.env.cells.lookup x=some c
 cab:∀x c,X.fn x=true->X.env.cells.lookup x=some c->X.s₀.heap.objs.size≤c
 hd:X.calm=true->X.A.handled=none
 frames:X.A.frames=some X.stack
 stk:X.stack=X.outer∨(X.stack=X.env::X.outer/\X.env.frame=some X.env.locals)
 exf:∀b∈X.ex,b≠X.env.locals/\∀x c,X.env.cells.lookup x=some c->c≠b
 bs:∀b o,X.base.get? b=some o->X.s₀.heap.get? b=some o/\X.H₀ b=none
 bsz:X.base.objs.size≤X.s₀.heap.objs.size
 noex:∀b o,X.base.get? b=some o->b∉X.ex
 exfs:∀b∈X.ex,b∉X.fs
 funs:X.s₀.heap.FunFrames X.base X.outer
 frf:∀b∈X.fs,X.H₀ b=none
structure Inv(X:Cx)(pins:List (Addr×Obj))(σ:List (Option V))(H:Hp)(s:Shared):Prop where
 ok:X.Ok
 os:s.os=X.s₀.os
 bare:AllBare s.gens
 base:Un X.fs X.ex X.H₀ H X.s₀.heap s.heap
 loc:∃m,s.heap.Ns X.env.locals m/\∀(i:Nat)(x:Str)(v:V),X.N[i]? =some x->σ[i]? =some (some v)->Vis X.env.scope x->∃u,RelV v u/\Look X.env s.heap m x u
 cell:∀x c,X.env.cells.lookup x=some c->∃v,s.heap.IsCell c v
 free:H X.env.locals=none
 freeC:∀x c,X.env.cells.lookup x=some c->H c=none
 pin:∀p∈X.pn++pins,s.heap.get? p.1=some p.2/\H p.1=none/\p.1≠X.env.locals/\p.1∉X.fs/\∀v,p.2.data≠.cell v
 hok:HOk X.prog X.w H s.heap
 len:σ.length=X.N.length
section
variable {X : Cx} {pins : List (Addr × Obj)} {σ : List (Option V)} {H H' : Hp} {s : Shared} {h' : Heap}
theorem Cx.Ok.nofr(ok:X.Ok){b:Addr}{o:Obj}(e:X.base.get? b=some o):b∉X.fs:=λ hb=>by
 have:=(ok.funs.mem hb).1
 rw[e]at this;cases this
theorem Inv.bs(I:Inv X pins σ H s):∀b o,X.base.get? b=some o->s.heap.get? b=some o/\H b=none:=λ b o e=>
 ⟨I.base.keep b o (I.ok.bs b o e).1 (I.ok.bs b o e).2 (I.ok.nofr e) (I.ok.noex b o e),I.base.free b o (I.ok.bs b o e).1 (I.ok.bs b o e).2 (I.ok.noex b o e)⟩
theorem Inv.bk(I:Inv X pins σ H s):∀b o,X.base.get? b=some o->s.heap.get? b=some o:=λ b o e=>(I.bs b o e).1
theorem Inv.mod(I:Inv X pins σ H s):Mod X.K X.mg X.base:=I.ok.mod
theorem Inv.kIn(I:Inv X pins σ H s):X.K.In s.heap:=I.ok.mod.kin.keeps I.bk
theorem Inv.lt(I:Inv X pins σ H s):X.env.locals<s.heap.objs.size:=let ⟨_,hn,_⟩:=I.loc;hn.lt
theorem Inv.sz(I:Inv X pins σ H s):X.s₀.heap.objs.size≤s.heap.objs.size:=Nat.le_trans I.ok.above (Nat.le_of_lt I.lt)
theorem Inv.nofs(I:Inv X pins σ H s){a:Addr}(h:s.heap.objs.size≤a):a∉X.fs:=λ hb=>by
 obtain⟨_,o,ho,_⟩:=I.ok.funs.mem hb
 exact absurd (x9 (Heap.lt_size ho) (Nat.le_trans I.sz h)) (Nat.lt_irrefl _)
theorem Inv.cne(I:Inv X pins σ H s):∀x c,X.env.cells.lookup x=some c->c≠X.env.locals:=λ x c e z=>by
 obtain⟨v,o,ho,hd⟩:=I.cell x c e
 obtain⟨m,⟨o',es,ep,ho',hd',_⟩,_⟩:=I.loc
 rw[z,ho']at ho;cases ho;rw[hd']at hd;cases hd
theorem Inv.funs(I:Inv X pins σ H s):s.heap.FunFrames X.base X.outer:=by
 have all:∀(l:List Env),(∀b∈frs l,b∈X.fs)->X.s₀.heap.FunFrames X.base l->s.heap.FunFrames X.base l:=by
  intro l
  induction l with
  | nil=>intro _ _;trivial
  | cons env r ih=>
    intro hs hl
    obtain⟨hk,⟨L,o,hf,hn,ho,hd⟩,hr⟩:=hl
    have hL:L∈X.fs:=hs L (by unfold frs;rw[List.filterMap_cons,hf];exact x5)
    obtain⟨sl,e⟩:=I.base.slot L o ho (I.ok.frf L hL) hL λ z=>I.ok.exfs L z hL
    exact⟨hk,⟨L,_,hf,hn,e,hd⟩,ih (λ b hb=>hs b (by unfold frs;rw[List.filterMap_cons,hf];exact x3 _ hb)) hr⟩
 exact all X.outer (λ _ hb=>hb) I.ok.funs
theorem Inv.stack(I:Inv X pins σ H s):s.heap.FunFrames X.base X.stack:=by
 rcases I.ok.stk with e | ⟨e,hf⟩
 . rw[e];exact I.funs
 . rw[e]
   obtain⟨m,hn,_⟩:=I.loc
   refine .cons (by rw[I.ok.kind];decide) hf hn ?_ I.funs
   exact Heap.get?_none_of_le (Nat.le_trans I.ok.bsz I.ok.above)
theorem Inv.stkSub(I:Inv X pins σ H s):∀b∈frs X.stack,b∈X.env.locals::X.fs:=λ b hb=>by
 rcases I.ok.stk with e | ⟨e,hf⟩
 . rw[e]at hb;exact x3 _ hb
 . rw[e]at hb
   unfold frs at hb
   rw[List.filterMap_cons,hf]at hb
   exact hb
theorem Inv.stkFree(I:Inv X pins σ H s):∀b∈frs X.stack,H b=none:=λ b hb=>by
 rcases List.mem_cons.mp (I.stkSub b hb)with e | hb
 . rw[e];exact I.free
 . obtain⟨_,o,ho,_⟩:=I.ok.funs.mem hb
   exact I.base.free b o ho (I.ok.frf b hb) λ z=>I.ok.exfs b z hb
theorem Inv.step{g':Array GenState}{d':Drawn}{ch:List Addr}(I:Inv X pins σ H s)
 (hch:∀b∈ch,(b∈X.ex∨X.s₀.heap.objs.size≤b)/\b≠X.env.locals/\(∀x c,X.env.cells.lookup x=some c->c≠b)/\∀p∈X.pn++pins,p.1≠b)
 (keep:∀b o,b≠X.env.locals->b∉X.fs->b∉ch->s.heap.get? b=some o->H b=none->h'.get? b=some o)
 (slot:∀b o,b≠X.env.locals->b∈X.fs->b∉ch->s.heap.get? b=some o->H b=none->∃sl,h'.get? b=some {o with slots:=sl})(free:∀b o,b∉ch->s.heap.get? b=some o->H b=none->H' b=none)
 (there:∀b o,b∉ch->s.heap.get? b=some o->∃o',h'.get? b=some o')
 (tups:∀b xs,H b=some (.tup xs)->H' b=some (.tup xs))(frzs:∀b o u,H b=some (.frz o u)->H' b=some (.frz o u))(tbls:∀b ps,H b=some (.tbl ps)->∃more,H' b=some (.tbl (ps++more)))
 (ns:∀m,s.heap.Ns X.env.locals m->h'.Ns X.env.locals m)(hok:HOk X.prog X.w H' h')(hg:AllBare g'):
 Inv X pins σ H' {s with heap:=h',gens:=g',drawn:=d',toks:=t'}:=by
 have neL:∀b o,X.s₀.heap.get? b=some o->b≠X.env.locals:=λ b o e=>w9 (x9 (Heap.lt_size e) I.ok.above)
 have neC:∀b o,X.s₀.heap.get? b=some o->b∉X.ex->b∉ch:=λ b o e hx hb=>by
  rcases(hch b hb).1 with z | z
  . exact hx z
  . exact absurd (x9 (Heap.lt_size e) z) (Nat.lt_irrefl _)
 have cellK:∀x c,X.env.cells.lookup x=some c->∀v,s.heap.IsCell c v->h'.IsCell c v:=λ x c e v ⟨o,ho,hd⟩=>by
  have nch:c∉ch:=λ z=>(hch c z).2.2.1 x c e rfl
  by_cases hc:c∈X.fs
  . obtain⟨sl,q⟩:=slot c o (I.cne x c e) hc nch ho (I.freeC x c e)
    exact⟨_,q,hd⟩
  . exact⟨o,keep c o (I.cne x c e) hc nch ho (I.freeC x c e),hd⟩
 refine⟨I.ok,I.os,hg,⟨λ b o e n hb hx=>?_,λ b o e n hb hx=>?_,λ b o e n hx=>?_,λ b o e hx=>?_,λ b xs e=>tups b xs (I.base.tups b xs e),λ b o xs e=>frzs b o xs (I.base.frzs b o xs e),λ b ps e=>?_⟩,?_,λ x c e=>?_,?_,λ x c e=>?_,λ p hp=>?_,hok,I.len⟩
 . exact keep b o (neL b o e) hb (neC b o e hx) (I.base.keep b o e n hb hx) (I.base.free b o e n hx)
 . obtain⟨sl,e1⟩:=I.base.slot b o e n hb hx
   obtain⟨sl',e2⟩:=slot b _ (neL b o e) hb (neC b o e hx) e1 (I.base.free b o e n hx)
   exact⟨sl',e2⟩
 . obtain⟨o',e1⟩:=I.base.there b o e hx
   exact free b o' (neC b o e hx) e1 (I.base.free b o e n hx)
 . obtain⟨o',e1⟩:=I.base.there b o e hx
   exact there b o' (neC b o e hx) e1
 . obtain⟨m1,e1⟩:=I.base.tbls b ps e
   obtain⟨m2,e2⟩:=tbls b _ e1
   exact⟨m1++m2,by rw[e2,Array.append_assoc]⟩
 . obtain⟨m,hn,hl⟩:=I.loc
   refine⟨m,ns m hn,λ i x v e1 e2 e3=>?_⟩
   obtain⟨u,r,l⟩:=hl i x v e1 e2 e3
   refine⟨u,r,?_⟩
   rcases l with l | ⟨k,c,e,z⟩
   . exact .inl l
   . exact .inr ⟨k,c,e,cellK x c e _ z⟩
 . obtain⟨v,z⟩:=I.cell x c e
   exact⟨v,cellK x c e v z⟩
 . obtain⟨m,⟨o,_,_,ho,_⟩,_⟩:=I.loc
   exact free _ o (λ z=>(hch _ z).2.1 rfl) ho I.free
 . obtain⟨v,o,ho,hd⟩:=I.cell x c e
   exact free c o (λ z=>(hch c z).2.2.1 x c e rfl) ho (I.freeC x c e)
 . obtain⟨e,n,ne,nf,d⟩:=I.pin p hp
   have nch:p.1∉ch:=λ z=>(hch p.1 z).2.2.2 p hp rfl
   exact⟨keep p.1 p.2 ne nf nch e n,free p.1 p.2 nch e n,ne,nf,d⟩
theorem Inv.un(I:Inv X pins σ H s)(u:Un X.fs [] H H' s.heap h')(hok:HOk X.prog X.w H' h'):Inv X pins σ H' {s with heap:=h',toks:=t'}:=by
 obtain⟨m,⟨o,es,ep,ho,r⟩,_⟩:=id I.loc
 obtain⟨sl,hL⟩:=u.any ho I.free (by simp)
 exact I.step (g':=s.gens) (d':=s.drawn) (ch:=[]) (λ _ z=>nomatch z) (λ b o _ hb _ e n=>u.keep b o e n hb (by simp)) (λ b o _ hb _ e n=>u.slot b o e n hb (by simp)) (λ b o _ e n=>u.free b o e n (by simp)) (λ b o _ e=>u.there b o e (by simp)) u.tups u.frzs u.tbls (λ m' hm=>by
  obtain⟨o',es',ep',ho',r'⟩:=hm
  rw[ho]at ho';cases ho'
  exact⟨_,es',ep',hL,r'⟩) hok I.bare
theorem Inv.call{g':Array GenState}{d':Drawn}{ch:List Addr}(I:Inv X pins σ H s)(u:Un (frs X.stack) ch H H' s.heap h')(hok:HOk X.prog X.w H' h')(hg:AllBare g')
 (hch:∀b∈ch,(b∈X.ex∨X.s₀.heap.objs.size≤b)/\b≠X.env.locals/\(∀x c,X.env.cells.lookup x=some c->c≠b)/\∀p∈X.pn++pins,p.1≠b):
 Inv X pins σ H' {s with heap:=h',gens:=g',drawn:=d',toks:=t'}:=by
 obtain⟨m,⟨o,es,ep,ho,r⟩,_⟩:=id I.loc
 obtain⟨sl,hL⟩:=u.any ho I.free λ z=>(hch _ z).2.1 rfl
 exact I.step (ch:=ch) hch (λ b o hL hb hc e n=>u.keep b o e n (λ z=>(List.mem_cons.mp (I.stkSub b z)).elim hL hb) hc) (λ b o _ _ hc e n=>u.any e n hc) (λ b o hc e n=>u.free b o e n hc) (λ b o hc e=>u.there b o e hc) u.tups u.frzs u.tbls (λ m' hm=>by
  obtain⟨o',es',ep',ho',r'⟩:=hm
  rw[ho]at ho';cases ho'
  exact⟨_,es',ep',hL,r'⟩) hok hg
theorem Inv.turned{it:Addr}(I:Inv X pins σ H s)(k:∀b o,b≠it->s.heap.get? b=some o->h'.get? b=some o)(hn:H it=none)(hL:it≠X.env.locals)
 (h1:it∈X.ex∨X.s₀.heap.objs.size≤it)(h2:∀x c,X.env.cells.lookup x=some c->c≠it)(h3:∀p∈X.pn++pins,p.1≠it):Inv X pins σ H {s with heap:=h',toks:=t'}:=by
 have nit:∀b u,H b=some u->b≠it:=λ b u e z=>by rw[z,hn]at e;cases e
 refine I.step (g':=s.gens) (d':=s.drawn) (ch:=[it]) (λ b hb=>?_) (λ b o _ _ hc e _=>k b o (λ z=>hc (by simp[z])) e) (λ b o _ _ hc e _=>⟨o.slots,k b o (λ z=>hc (by simp[z])) e⟩) (λ _ _ _ _ n=>n)
  (λ b o hc e=>⟨o,k b o (λ z=>hc (by simp[z])) e⟩) (λ _ _ e=>e) (λ _ _ _ e=>e) (λ b ps e=>⟨#[],by rw[e];simp⟩) (λ m hm=>?_) (λ b u e=>?_) I.bare
 . have e:b=it:=by simpa using hb
   subst e
   exact⟨h1,hL,h2,h3⟩
 . obtain⟨o,es,ep,ho,r⟩:=hm
   exact⟨o,es,ep,k _ o (Ne.symm hL) ho,r⟩
 . refine(I.hok b u e).stay (λ c v hc q=>k c v ?_ q) (λ _ q=>q) λ _ _ q=>q
   rcases hc with z | z
   . rw[z];exact nit b u e
   . exact nit c _ z
theorem Inv.tok(I:Inv X pins σ H s)(t:Nat):Inv X pins σ H {s with toks:=t}:=I.un (h':=s.heap) (t':=t) Un.refl I.hok
theorem Inv.kept(I:Inv X pins σ H s)(k:∀b u,s.heap.get? b=some u->h'.get? b=some u):Inv X pins σ H {s with heap:=h',toks:=t'}:=I.un (Un.kept k) (I.hok.kept k)
theorem Inv.laid{a:Addr}{o:HO}(I:Inv X pins σ H s)(k:∀b u,s.heap.get? b=some u->h'.get? b=some u)(hp:s.heap.objs.size≤a)(new:aX X.prog X.w (upd H a o) h' a o):
 Inv X pins σ (upd H a o) {s with heap:=h',toks:=t'}:=I.un (Un.laid k hp (I.hok.fresh hp)) (I.hok.laid k hp new)
theorem Inv.write{x e:Addr}{o:HO}(I:Inv X pins σ H s)(mu:Mut (H x))(he:e=x∨H e=some (.own x))(k:∀b u,b≠e->s.heap.get? b=some u->h'.get? b=some u)(heo:∃u,h'.get? e=some u)
 (new:aX X.prog X.w (upd H x o) h' x o):Inv X pins σ (upd H x o) {s with heap:=h',toks:=t'}:=I.un (Un.write mu he k heo) (I.hok.write mu he k heo new)
theorem Inv.pins_of{pins':List (Addr×Obj)}(I:Inv X pins σ H s)(h:∀p∈pins',s.heap.get? p.1=some p.2/\H p.1=none/\p.1≠X.env.locals/\p.1∉X.fs/\∀v,p.2.data≠.cell v):Inv X pins' σ H s:=
 ⟨I.ok,I.os,I.bare,I.base,I.loc,I.cell,I.free,I.freeC,λ p hp=>(List.mem_append.mp hp).elim (λ z=>I.pin p (List.mem_append_left _ z)) (h p),I.hok,I.len⟩
theorem xx{N:List Str}(hN:N.Nodup){i j:Nat}{x:Str}(a:N[i]? =some x)(b:N[j]? =some x):i=j:=by
 obtain⟨h1,e1⟩:=z0.mp a
 obtain⟨h2,e2⟩:=z0.mp b
 exact(List.getElem_inj hN).mp (e1.trans e2.symm)
theorem ud{M:Model}{A:Around}{E:Value->Shared->Prop}{i:Nat}{x:Str}{v:V}{u:Value}{Q:Unit->Shared->Prop}(I:Inv X pins σ H s)(hN:X.N.Nodup)(hi:X.N[i]? =some x)(hx:Loc X.env.scope x)(r:RelV v u)
 (h:∀s',Inv X pins (σ.set i (some v)) H s'->(∃a,Heap.SameBut a s.heap s'.heap/\(a=X.env.locals∨X.env.cells.lookup x=some a))->Q () s')(hf:X.fn x=true∨X.env.scope.names.lookup x=some .local:=by first | exact .inl rfl | exact .inr rfl | assumption):wpAny M A (storeName X.env x u) Q E s:=by
 obtain⟨m,hn,hl⟩:=id I.loc
 have hcls:(X.env.scope.kind==.class||(X.env.scope.kind==.module&&X.env.locals !=X.env.globals))=false:=by rw[I.ok.kind];rfl
 have hiσ:i<σ.length:=by rw[I.len];exact(z0.mp hi).1
 have cne:=I.cne
 have tracked:∀{a:Addr}{h':Heap},(∃o,s.heap.get? a=some o/\H a=none)->Heap.SameBut a s.heap h'->HOk X.prog X.w H h':=λ{a h'} ha hs b ob e=>by
  obtain⟨_,_,hfree⟩:=ha
  refine(I.hok b ob e).stay (λ c w' hc q=>(hs.2 c ?_).trans q) (λ _ q=>q) λ _ _ q=>q
  rintro rfl
  rcases hc with rfl | hc
  . rw[hfree]at e;cases e
  . rw[hfree]at hc;cases hc
 rcases hx with hk | hk
 . refine wpAny_storeName_local hk hn (λ h' hn' hs=>?_) hcls
   obtain⟨oL,_,_,hoL,_⟩:=id hn
   refine h _ ⟨I.ok,I.os,I.bare,⟨λ b o e n hb hx=>?_,λ b o e n hb hx=>?_,I.base.free,λ b o e hx=>?_,I.base.tups,I.base.frzs,I.base.tbls⟩,⟨_,hn',λ j y v' e1 e2 e3=>?_⟩,λ y c e=>?_,I.free,I.freeC,λ p hp=>?_,tracked ⟨oL,hoL,I.free⟩ hs,by simpa using I.len⟩ ⟨_,hs,.inl rfl⟩
   . exact(hs.2 b (w9 (x9 (Heap.lt_size e) I.ok.above))).trans (I.base.keep b o e n hb hx)
   . obtain⟨sl,e1⟩:=I.base.slot b o e n hb hx
     exact⟨sl,(hs.2 b (w9 (x9 (Heap.lt_size e) I.ok.above))).trans e1⟩
   . obtain⟨o',e1⟩:=I.base.there b o e hx
     exact⟨o',(hs.2 b (w9 (x9 (Heap.lt_size e) I.ok.above))).trans e1⟩
   . by_cases hj:j=i
     . subst hj
       rw[hi]at e1;cases e1
       rw[List.getElem?_set_self hiσ]at e2
       cases e2
       exact⟨u,r,.inl ⟨hk,by simp⟩⟩
     . rw[List.getElem?_set_ne (Ne.symm hj)]at e2
       obtain⟨u',r',q⟩:=hl j y v' e1 e2 e3
       refine⟨u',r',?_⟩
       rcases q with⟨k,e⟩ | ⟨k,c,e,z⟩
       . refine .inl ⟨k,?_⟩
         have:y≠x:=λ e=>hj (xx hN e1 (e▸hi))
         simp[this,e]
       . exact .inr ⟨k,c,e,z.sameBut hs (cne y c e)⟩
   . obtain⟨w',z⟩:=I.cell y c e
     exact⟨w',z.sameBut hs (cne y c e)⟩
   . obtain⟨e,n,ne,nf,d⟩:=I.pin p hp
     exact⟨(hs.2 p.1 ne).trans e,n,ne,nf,d⟩
 . have hfn:X.fn x=true:=by
    rcases hf with z | z
    . exact z
    . rw[z]at hk;cases hk
   obtain⟨c,hc⟩:=I.ok.has x (.inl hk)
   obtain⟨w',z⟩:=I.cell x c hc
   refine wpAny_storeName_cell I.ok.kind hk hc z (λ h' hc' hs=>?_)
   obtain⟨oc,hoc,hocd⟩:=id z
   refine h {s with heap:=h'} ⟨I.ok,I.os,I.bare,⟨λ b o e n hb hx=>?_,λ b o e n hb hx=>?_,I.base.free,λ b o e hx=>?_,I.base.tups,I.base.frzs,I.base.tbls⟩,⟨m,hn.sameBut hs (Ne.symm (cne x c hc)),λ j y v' e1 e2 e3=>?_⟩,λ y c' e=>?_,I.free,I.freeC,λ p hp=>?_,tracked ⟨oc,hoc,I.freeC x c hc⟩ hs,by simpa using I.len⟩ ⟨c,hs,.inr hc⟩
   . exact(hs.2 b (w9 (x9 (Heap.lt_size e) (I.ok.cab x c hfn hc)))).trans (I.base.keep b o e n hb hx)
   . obtain⟨sl,e1⟩:=I.base.slot b o e n hb hx
     exact⟨sl,(hs.2 b (w9 (x9 (Heap.lt_size e) (I.ok.cab x c hfn hc)))).trans e1⟩
   . obtain⟨o',e1⟩:=I.base.there b o e hx
     exact⟨o',(hs.2 b (w9 (x9 (Heap.lt_size e) (I.ok.cab x c hfn hc)))).trans e1⟩
   . by_cases hj:j=i
     . subst hj
       rw[hi]at e1;cases e1
       rw[List.getElem?_set_self hiσ]at e2
       cases e2
       exact⟨u,r,.inr ⟨.inl hk,c,hc,hc'⟩⟩
     . rw[List.getElem?_set_ne (Ne.symm hj)]at e2
       obtain⟨u',r',q⟩:=hl j y v' e1 e2 e3
       refine⟨u',r',?_⟩
       rcases q with q | ⟨k,c',e,z'⟩
       . exact .inl q
       . refine .inr ⟨k,c',e,z'.sameBut hs ?_⟩
         rintro rfl
         exact hj (xx hN e1 (I.ok.inj _ _ _ e hc▸hi))
   . by_cases hcc:c'=c
     . subst hcc;exact⟨_,hc'⟩
     . obtain⟨w2,z2⟩:=I.cell y c' e
       exact⟨w2,z2.sameBut hs hcc⟩
   . obtain⟨e,n,ne,nf,d⟩:=I.pin p hp
     refine⟨(hs.2 p.1 ?_).trans e,n,ne,nf,d⟩
     intro q
     rw[q,hoc]at e
     have q':oc=p.2:=Option.some.inj e
     exact d w' (by rw[←q'];exact hocd)
theorem wk{M:Model}{A:Around}{E:Value->Shared->Prop}{i:Nat}{x:Str}{v:V}{u:Value}{Q:Unit->Shared->Prop}(I:Inv X pins σ H s)(hN:X.N.Nodup)(hi:X.N[i]? =some x)(hx:Loc X.env.scope x)(r:RelV v u)
 (h:∀s',Inv X pins (σ.set i (some v)) H s'->Q () s')(hf:X.fn x=true∨X.env.scope.names.lookup x=some .local:=by first | exact .inl rfl | exact .inr rfl | assumption):wpAny M A (storeName X.env x u) Q E s:=
 ud I hN hi hx r (λ s' I' _=>h s' I') hf
theorem Inv.call'{s':Shared}{ch:List Addr}(I:Inv X pins σ H s)(ho:s'.os=s.os)(u:Un (frs X.stack) ch H H' s.heap s'.heap)(hok:HOk X.prog X.w H' s'.heap)(hg:AllBare s'.gens)
 (hch:∀b∈ch,(b∈X.ex∨X.s₀.heap.objs.size≤b)/\b≠X.env.locals/\(∀x c,X.env.cells.lookup x=some c->c≠b)/\∀p∈X.pn++pins,p.1≠b):Inv X pins σ H' s':=by
 obtain⟨h',g',d',t',o'⟩:=s'
 have e:o'=s.os:=ho
 subst e
 exact I.call (g':=g') (t':=t') (d':=d') u hok hg hch
end
noncomputable abbrev XK:=Value->Option Addr->Hp->Prop
noncomputable abbrev St:=List (Option V)
noncomputable abbrev VK:=V->Hp->Prop
noncomputable abbrev TE:=St->Hp->VK->Prop
noncomputable abbrev TT:=St->Hp->(Bool->Hp->Prop)->Prop
noncomputable abbrev TA:=St->Hp->(List V->Hp->Prop)->Prop
structure Ends where
 nx:St->Hp->Prop
 rt:VK
 bk:St->Hp->Prop:=λ _ _=>False
 ct:St->Hp->Prop:=λ _ _=>False
noncomputable abbrev TS:=Ends->St->Hp->Prop
noncomputable def EP(X:Cx)(pins:List (Addr×Obj))(σ:St)(Q:VK)(u:Value)(s':Shared):Prop:=∃v H',Inv X pins σ H' s'/\RelV v u/\Q v H'
noncomputable def TP(X:Cx)(pins:List (Addr×Obj))(σ:St)(Q:Bool->Hp->Prop)(b:Bool)(s':Shared):Prop:=∃H',Inv X pins σ H' s'/\Q b H'
noncomputable def AP(X:Cx)(pins:List (Addr×Obj))(σ:St)(Q:List V->Hp->Prop)(us:List Value)(s':Shared):Prop:=∃vs H',Inv X pins σ H' s'/\Vals vs us/\Q vs H'
noncomputable def SP(X:Cx)(pins:List (Addr×Obj))(D:Ends)(f:Flow)(s':Shared):Prop:=
 match f with
 | .next=>∃σ' H',Inv X pins σ' H' s'/\D.nx σ' H'
 | .brk=>∃σ' H',Inv X pins σ' H' s'/\D.bk σ' H'
 | .cont=>∃σ' H',Inv X pins σ' H' s'/\D.ct σ' H'
 | .ret u=>∃v σ' H',Inv X pins σ' H' s'/\RelV v u/\D.rt v H'
noncomputable def PE(X:Cx)(e:Expr)(t:TE):Prop:=
 ∀(pins:List (Addr×Obj))(s:Shared)(σ:St)(H:Hp)(Q:VK),Inv X pins σ H s->t σ H Q->wpAny (model X.prog X.w) X.A (eval e X.env) (EP X pins σ Q) X.xe s
noncomputable def PA(X:Cx)(es:List Expr)(t:TA):Prop:=
 ∀(pos:Pos)(pins:List (Addr×Obj))(s:Shared)(σ:St)(H:Hp)(Q:List V->Hp->Prop),Inv X pins σ H s->t σ H Q->wpAny (model X.prog X.w) X.A (spliced (backTo pos (starEach es X.env))) (AP X pins σ Q) X.xe s
noncomputable def PS(X:Cx)(st:Stmt)(t:TS):Prop:=
 ∀(pins:List (Addr×Obj))(s:Shared)(σ:St)(H:Hp)(D:Ends),Inv X pins σ H s->t D σ H->wpAny (model X.prog X.w) X.A (exec st X.env) (SP X pins D) X.xe s
noncomputable def PSs(X:Cx)(st:List Stmt)(t:TS):Prop:=
 ∀(pins:List (Addr×Obj))(s:Shared)(σ:St)(H:Hp)(D:Ends),Inv X pins σ H s->t D σ H->wpAny (model X.prog X.w) X.A (execs st X.env) (SP X pins D) X.xe s
theorem thn{α:Type}{t:Sem α}{Q Q':α->Shared->Prop}{M:Model}{A:Around}{E:Value->Shared->Prop}{s:Shared}(h:wpAny M A t Q E s)(hQ:∀a s,Q a s->Q' a s):wpAny M A t Q' E s:=wpAny_mono h hQ λ _ _ x=>x
end L2
namespace L2
open PySem PySem.Spec PyProof.Rows
variable {x : Str} {u : Value}
section
variable {X : Cx}
noncomputable def UJ(i:Nat):TE:=λ σ H Q=>∃v,σ[i]? =some (some v)/\Q v H
noncomputable def tC(v:V):TE:=λ _ H Q=>Q v H
theorem PL{i:Nat}{pos:Pos}(hN:X.N[i]? =some x)(hv:Vis X.env.scope x)(hd:(x==("__debug__":Str))=false:=by decide)(hcd:(x==("__classdict__":Str))=false:=by decide):PE X (.Name x pos) (UJ i):=by
 intro pins s σ H Q I h
 obtain⟨v,e,h⟩:=h
 obtain⟨m,hn,hl⟩:=I.loc
 obtain⟨u,r,l⟩:=hl i x v hN e hv
 have fin:EP X pins σ Q u s:=⟨v,H,I,r,h⟩
 rcases l with⟨hk,hm⟩ | ⟨hk,c,hc,hcell⟩
 . exact wpAny_Name (wpAny_loadName_local I.ok.kind hk hn hm fin) hd
 . rcases hk with hk | hk
   . exact wpAny_Name (wpAny_loadName_cell I.ok.kind hk hc hcell fin) hd
   . exact wpAny_Name (wpAny_loadName_free I.ok.kind hk hc hcell fin hcd) hd
theorem QS{i j pos}:PE X (.Constant (.int i) j pos) (tC (.int i)):=λ _ _ _ H _ I h=>wpAny_Constant_int ⟨.int i,H,I.tok _,⟨_,rfl⟩,h⟩
theorem Uk{b j pos}:PE X (.Constant (.bool b) j pos) (tC (.bl b)):=λ _ _ _ H _ I h=>Constant_bool ⟨.bl b,H,I,rfl,h⟩
theorem P0{j pos}:PE X (.Constant .none j pos) (tC .non):=λ _ _ _ H _ I h=>Constant_none ⟨.non,H,I,rfl,h⟩
noncomputable def Gl(X:Cx)(x:Str):Prop:=X.env.kindOf x=some .globalImplicit
theorem Du{E:Value->Shared->Prop}{pins:List (Addr×Obj)}{s:Shared}{σ:St}{H:Hp}{pos:Pos}{Q:Value->Shared->Prop}(I:Inv X pins σ H s)(hg:Gl X x)(hm:X.mg x=some u)(h:Q u s)
 (hd:(x==("__debug__":Str))=false:=by decide):wpAny (model X.prog X.w) X.A (eval (.Name x pos) X.env) Q E s:=
 Calls.Name_function_global I.ok.kind hg (Calls.loadGlobal_global (by rw[I.ok.glob];exact I.mod.glob.keeps I.bk) hm h) hd
theorem bL{E:Value->Shared->Prop}{pins:List (Addr×Obj)}{s:Shared}{σ:St}{H:Hp}{pos:Pos}{Q:Value->Shared->Prop}(I:Inv X pins σ H s)(hg:Gl X x)(hm:X.mg x=none)(hv:bootBuiltins x=some u)(h:Q u s)
 (hn:x≠"__name__":=by decide)(hd:(x==("__debug__":Str))=false:=by decide):wpAny (model X.prog X.w) X.A (eval (.Name x pos) X.env) Q E s:=by
 obtain⟨mb,h1,h2⟩:=I.mod.blt
 exact Calls.Name_function_global I.ok.kind hg (Calls.loadGlobal_builtin (by rw[I.ok.glob];exact I.mod.glob.keeps I.bk) hm (by rw[I.ok.blt];exact h1.keeps I.bk) ((h2 x hn).trans hv) h) hd
theorem Ox{v:V}{pos:Pos}(hg:Gl X x)(hm:X.mg x=some u)(r:RelV v u)(hd:(x==("__debug__":Str))=false:=by decide):PE X (.Name x pos) (tC v):=
 λ _ _ _ H _ I h=>Du I hg hm ⟨v,H,I,r,h⟩ hd
theorem NT{v:V}{pos:Pos}(hg:Gl X x)(hm:X.mg x=none)(hv:bootBuiltins x=some u)(r:RelV v u)(hn:x≠"__name__":=by decide)(hd:(x==("__debug__":Str))=false:=by decide):PE X (.Name x pos) (tC v):=
 λ _ _ _ H _ I h=>bL I hg hm hv ⟨v,H,I,r,h⟩ hn hd
variable {a b : Expr} {ta tb : TE} {pos : Pos}
variable {tA tB' : TT} {rest : List Expr}
end
end L2
namespace L2
open PySem PySem.Spec PyProof.Rows
variable {K : PySem.W.Frag} {tg : Expr}
noncomputable def SqL(K:PySem.W.Frag)(H:Hp)(a:Addr)(xs:List V):Prop:=
 Rd H a (.lst xs)∨
  ∃(o:Obj) (its:Array Value) (n:Nat),K.lookup a=some o/\o.cls=.type "list"/\o.dict=none/\o.data=.seq its n/\its.size≤sizeLine/\Vals xs its.toList
noncomputable def SqT(K:PySem.W.Frag)(H:Hp)(a:Addr)(xs:List V):Prop:=
 Rd H a (.tup xs)∨
  ∃(o:Obj) (its:Array Value) (n:Nat),K.lookup a=some o/\o.cls=.type "tuple"/\o.data=.seq its n/\its.size≤sizeLine/\Vals xs its.toList
noncomputable def U4:Value->Option V
 | .none=>some .non
 | .bool b=>some (.bl b)
 | .int i _=>some (.int i)
 | .str x _=>some (.str x)
 | .bytes b _=>some (.byt b)
 | .float b _=>some (.flt b)
 | .ref a=>some (.ref a)
 | .type n=>some (.ty n)
 | _=>none
theorem RelV.abs{x:V}{u:Value}(r:RelV x u):U4 u=some x:=by
 cases x with
 | non=>cases r;rfl
 | bl _=>cases r;rfl
 | int _=>obtain⟨t,rfl⟩:=r;rfl
 | str _=>obtain⟨t,rfl⟩:=r;rfl
 | byt _=>obtain⟨t,rfl⟩:=r;rfl
 | flt _=>obtain⟨t,rfl⟩:=r;rfl
 | ref _=>cases r;rfl
 | ty _=>cases r;rfl
theorem RelV.inj{x y:V}{u:Value}(r:RelV x u)(q:RelV y u):x=y:=Option.some.inj (r.abs.symm.trans q.abs)
theorem Vals.inj:∀{xs ys:List V}{us:List Value},Vals xs us->Vals ys us->xs=ys
 | _,_,_,.nil,.nil=>rfl
 | _,_,_,.cons r t,.cons r' t'=>by rw[r.inj r',Vals.inj t t']
section
variable {X : Cx} {pins : List (Addr × Obj)} {σ : St} {H : Hp} {s : Shared} {a : Addr} {xs ys : List V}
theorem SqL.of(h:H a=some (.lst xs)):SqL K H a xs:=.inl (.inl h)
theorem Inv.list(I:Inv X pins σ H s)(h:SqL X.K H a xs):∃its:List Value,Vals xs its/\PlainL s.heap a its.toArray/\xs.length≤sizeLine:=by
 rcases h with h | ⟨o,its,n,hk,hc,hd,hs,hz,r⟩
 . obtain⟨z,its,n,r,e⟩:=h.ok I.hok
   exact⟨its,r,⟨_,n,e,rfl,rfl,rfl⟩,z⟩
 . refine⟨its.toList,r,⟨o,n,I.kIn a o hk,hc,hd,by simpa using hs⟩,?_⟩
   have e:=r.length
   simp only[Array.length_toList]at e
   omega
theorem Inv.tuple(I:Inv X pins σ H s)(h:SqT X.K H a xs):∃its:List Value,Vals xs its/\IsTup s.heap a its.toArray/\xs.length≤sizeLine:=by
 rcases h with h | ⟨o,its,n,hk,hc,hs,hz,r⟩
 . obtain⟨z,its,r,p⟩:=h.ok I.hok
   exact⟨its,r,p,z⟩
 . refine⟨its.toList,r,⟨o,I.kIn a o hk,hc,n,by simpa using hs⟩,?_⟩
   have e:=r.length
   simp only[Array.length_toList]at e
   omega
theorem Inv.list_inj(I:Inv X pins σ H s)(h:SqL X.K H a xs)(h':SqL X.K H a ys):xs=ys:=by
 obtain⟨its,r,⟨o,n,e,_,_,d⟩,_⟩:=I.list h
 obtain⟨its',r',⟨o',n',e',_,_,d'⟩,_⟩:=I.list h'
 rw[e]at e';cases e'
 rw[d]at d'
 injection d' with d1 _
 have:its=its':=by simpa using congrArg Array.toList d1
 subst this
 exact r.inj r'
theorem Inv.tuple_inj(I:Inv X pins σ H s)(h:SqT X.K H a xs)(h':SqT X.K H a ys):xs=ys:=by
 obtain⟨its,r,⟨o,e,_,n,d⟩,_⟩:=I.tuple h
 obtain⟨its',r',⟨o',e',_,n',d'⟩,_⟩:=I.tuple h'
 rw[e]at e';cases e'
 rw[d]at d'
 injection d' with d1 _
 have:its=its':=by simpa using congrArg Array.toList d1
 subst this
 exact r.inj r'
end
noncomputable abbrev Cx.wish(X:Cx)(E:Value->Shared->Prop):Cx:={X with xe:=E}
noncomputable abbrev Cx.nox(X:Cx):Cx:=X.wish λ _ _=>False
theorem Cx.Ok.wish{X:Cx}(ok:X.Ok)(E:Value->Shared->Prop):(X.wish E).Ok:=
 ⟨ok.mod,ok.kind,ok.glob,ok.blt,ok.above,ok.inj,ok.has,ok.cab,ok.hd,ok.frames,ok.stk,ok.exf,ok.bs,ok.bsz,ok.noex,ok.exfs,ok.funs,ok.frf⟩
theorem Cx.Ok.unwish{X:Cx}{E:Value->Shared->Prop}(ok:(X.wish E).Ok):X.Ok:=
 ⟨ok.mod,ok.kind,ok.glob,ok.blt,ok.above,ok.inj,ok.has,ok.cab,ok.hd,ok.frames,ok.stk,ok.exf,ok.bs,ok.bsz,ok.noex,ok.exfs,ok.funs,ok.frf⟩
section
variable {X : Cx} {pins : List (Addr × Obj)} {σ : St} {H : Hp} {s : Shared} {E : Value -> Shared -> Prop}
theorem Inv.wish(I:Inv X pins σ H s)(E:Value->Shared->Prop):Inv (X.wish E) pins σ H s:=⟨I.ok.wish E,I.os,I.bare,I.base,I.loc,I.cell,I.free,I.freeC,I.pin,I.hok,I.len⟩
theorem Inv.unwish(I:Inv (X.wish E) pins σ H s):Inv X pins σ H s:=⟨I.ok.unwish,I.os,I.bare,I.base,I.loc,I.cell,I.free,I.freeC,I.pin,I.hok,I.len⟩
theorem SP.unwish{D:Ends}{f:Flow}{s':Shared}(h:SP (X.wish E) pins D f s'):SP X pins D f s':=by
 cases f with
 | next=>obtain⟨σ',H',I,q⟩:=h;exact⟨σ',H',I.unwish,q⟩
 | brk=>obtain⟨σ',H',I,q⟩:=h;exact⟨σ',H',I.unwish,q⟩
 | cont=>obtain⟨σ',H',I,q⟩:=h;exact⟨σ',H',I.unwish,q⟩
 | ret u=>obtain⟨v,σ',H',I,r,q⟩:=h;exact⟨v,σ',H',I.unwish,r,q⟩
theorem PSs.nox{st:List Stmt}{t:TS}(h:PSs X.nox st t):PSs X st t:=λ pins s σ H D I hw=>
 wpAny_mono (h pins s σ H D (I.wish _) hw) (λ _ _ q=>q.unwish) λ _ _ z=>False.elim z
end
section
variable {X : Cx} {st : Stmt} {rest : List Stmt} {t u : TS} {e : Expr} {te : TE} {pos : Pos}
theorem Inv.quiet{pins:List (Addr×Obj)}{σ:St}{H:Hp}{s:Shared}(I:Inv X pins σ H s):interactive X.env=false:=by simp[interactive,I.ok.kind]
end
noncomputable abbrev TG:=V->St->Hp->(St->Hp->Prop)->Prop
noncomputable def PG(X:Cx)(target:Expr)(t:TG):Prop:=
 ∀ (pins:List (Addr×Obj))(s:Shared)(σ:St)(H:Hp)(v:V)(u:Value)(Q:St->Hp->Prop),Inv X pins σ H s->RelV v u->t v σ H Q->
   wpAny (model X.prog X.w) X.A (assign target X.env u) (λ _ s'=>∃σ' H',Inv X pins σ' H' s'/\Q σ' H') X.xe s
noncomputable abbrev UL:=V->V->V->Hp->(Hp->Prop)->Prop
noncomputable def Uo(X:Cx)(t:UL):Prop:=
 ∀ (pins:List (Addr×Obj))(s:Shared)(σ:St)(H:Hp)(o i v:V)(ov iv u:Value)(Q:Hp->Prop),Inv X pins σ H s->RelV o ov->RelV i iv->RelV v u->t o i v H Q->
   wpAny (model X.prog X.w) X.A (setItem ov iv u) (λ _ s'=>∃H',Inv X pins σ H' s'/\Q H') X.xe s
structure It where
 go:Nat->Hp->Prop
 yld:Nat->Hp->V->Hp->Prop
 stop:Nat->Hp->Prop
noncomputable def eO(X:Cx)(pins:List (Addr×Obj))(H:Hp)(b:Addr):Prop:=
 H b=none/\b≠X.env.locals/\b∉X.fs/\(b∈X.ex∨X.s₀.heap.objs.size≤b)/\(∀x c,X.env.cells.lookup x=some c->c≠b)/\∀p∈X.pn++pins,p.1≠b
theorem Inv.fpOk{X:Cx}{pins:List (Addr×Obj)}{σ:St}{H H':Hp}{s:Shared}{b:Addr}(I:Inv X pins σ H s)(hb:s.heap.objs.size≤b)(hn:H' b=none):eO X pins H' b:=by
 refine⟨hn,Nat.ne_of_gt (x9 I.lt hb),I.nofs hb,.inr (Nat.le_trans I.sz hb),λ x c e z=>?_,λ p hp z=>?_⟩
 . obtain⟨v,q⟩:=I.cell x c e
   exact absurd (x9 q.lt (by rw[z];exact hb)) (Nat.lt_irrefl _)
 . exact absurd (x9 (Heap.lt_size (I.pin p hp).1) (by rw[z];exact hb)) (Nat.lt_irrefl _)
structure Turn(P:Program)(w:World)(K:PySem.W.Frag)(tg:Expr)(J:It)(fp:List Addr)(it:Addr)(tn:Nat->Heap->Prop):Prop where
 mem:it∈fp
 obj:∀i h,tn i h->∀b∈fp,∃o,h.get? b=some o/\∀v,o.data≠.cell v
 keep:∀i h h',tn i h->(∀b∈fp,∀o,h.get? b=some o->h'.get? b=some o)->tn i h'
 item:∀(X:Cx),X.prog=P->X.w=w->X.K=K->X.calm=true->∀(i:Nat)(pins:List (Addr×Obj))(s:Shared)(σ:St)(H:Hp)(E:Value->Shared->Prop),Inv X pins σ H s->(∀b∈fp,eO X pins H b)->tn i s.heap->J.go i H->
  wpAny (model P w) X.A (pyNext (.ref it)) (λ r s1=>∃u,r=some u/\
   wpAny (model P w) X.A (letOwnedTupleGo tg (.ref it) u) (λ _ s2=>∃x H',Inv X pins σ H' s2/\RelV x u/\J.yld i H x H'/\tn (i+1) s2.heap/\∀b∈fp,H' b=none) E s1) E s
 done:∀(X:Cx),X.prog=P->X.w=w->X.K=K->X.calm=true->∀(i:Nat)(pins:List (Addr×Obj))(s:Shared)(σ:St)(H:Hp)(E:Value->Shared->Prop),Inv X pins σ H s->(∀b∈fp,eO X pins H b)->tn i s.heap->J.stop i H->
  wpAny (model P w) X.A (pyNext (.ref it)) (λ r s1=>r=none/\Inv X pins σ H s1) E s
 self:∀(A:Around)(i:Nat)(s:Shared)(Q:Value->Shared->Prop)(E:Value->Shared->Prop),tn i s.heap->Q (.ref it) s->wpAny (model P w) A (pyIter (.ref it)) Q E s
noncomputable abbrev TI:=St->Hp->(It->Hp->Prop)->Prop
noncomputable def PIE(X:Cx)(pins:List (Addr×Obj))(σ:St)(tg:Expr)(R:It->Hp->Prop)(itv:Value)(s2:Shared):Prop:=
 ∃(it:Addr) (fp:List Addr) (tn:Nat->Heap->Prop) (J:It) (H':Hp),itv=.ref it/\Inv X pins σ H' s2/\Turn X.prog X.w X.K tg J fp it tn/\tn 0 s2.heap/\(∀b∈fp,eO X pins H' b)/\R J H'
noncomputable def PI(X:Cx)(tg iter:Expr)(wi:TI):Prop:=
 ∀ (pins:List (Addr×Obj))(s:Shared)(σ:St)(H:Hp)(R:It->Hp->Prop),Inv X pins σ H s->wi σ H R->
   wpAny (model X.prog X.w) X.A (eval iter X.env) (λ v s1=>wpAny (model X.prog X.w) X.A (pyIter v) (PIE X pins σ tg R) X.xe s1) X.xe s
theorem Gk{M:Model}{A:Around}{E:Value->Shared->Prop}{s:Shared}{it:Addr}{u:Value}{o:Obj}{n:String}{vs:Array Value}{Q:Unit->Shared->Prop}(ho:s.heap.get? it=some o)(hc:o.cls=.type n)(hd:o.data=.fields vs)
 (hn:["enumerate","zip","dict_itemiterator","dict_reverseitemiterator","odict_iterator","itertools.zip_longest","itertools.pairwise"].contains n=false)(hQ:Q () s):wpAny M A (letOwnedTupleGo tg (.ref it) u) Q E s:=by
 unfold letOwnedTupleGo
 cases tg<;>first
  | exact wpAny_pure hQ
  | (cases u<;>first
   | exact wpAny_pure hQ
   | (refine wpAny_bind (wpAny_load ho ?_)
      rw[hc,hd]
      show wpAny M A (if(["enumerate","zip","dict_itemiterator","dict_reverseitemiterator","odict_iterator","itertools.zip_longest","itertools.pairwise"].contains n&&vs[0]? ==some (rawInt _))=true then _ else _) Q E s
      rw[if_neg (by intro h;rw[hn,Bool.false_and]at h;cases h)]
      exact wpAny_pure hQ))
noncomputable def Itl(K:PySem.W.Frag)(a:Addr):It:=
 ⟨λ i H=>∃xs x,SqL K H a xs/\xs[i]? =some x,λ i H x H'=>H'=H/\∀xs,SqL K H a xs->xs[i]? =some x,λ i H=>∃xs,SqL K H a xs/\xs.length≤i⟩
noncomputable def Itt(K:PySem.W.Frag)(a:Addr):It:=
 ⟨λ i H=>∃xs x,SqT K H a xs/\xs[i]? =some x,λ i H x H'=>H'=H/\∀xs,SqT K H a xs->xs[i]? =some x,λ i H=>∃xs,SqT K H a xs/\xs.length≤i⟩
noncomputable def Itr(lo:Int)(n:Nat):It:=⟨λ i _=>i<n,λ i H x H'=>H'=H/\x=.int (lo+i),λ i _=>n≤i⟩
theorem mj{P:Program}{w:World}(a it:Addr):Turn P w K tg (Itl K a) [it] it (λ i h=>h.IsListIter it a i) where
 mem:=by simp
 obj:=λ i h st b hb=>by
  have e:b=it:=by simpa using hb
  subst e
  obtain⟨o,e,c,d⟩:=st
  exact⟨o,e,λ v z=>by rw[d]at z;cases z⟩
 keep:=λ i h h' st k=>st.at λ o e=>k it (by simp) o e
 item:=by
  intro X hP hw hK hc i pins s σ H E I hf st hg
  subst hP hw hK
  obtain⟨xs,x,hq,hx⟩:=hg
  obtain⟨its,rv,p,hz⟩:=I.list hq
  obtain⟨u,hu,ru⟩:=rv.get hx
  obtain⟨f0,f1,f2,f3,f4,f5⟩:=hf it (by simp)
  refine wpAny_pyNext_list_item st p.isList (x:=u) (by simpa using hu) λ h' st' sb=>?_
  have I1:Inv X pins σ H {s with heap:=h'}:=I.turned (t':=s.toks) (λ b o hb e=>(sb.2 b hb).trans e) f0 f1 f3 f4 f5
  obtain⟨o,e,c,d⟩:=id st'
  exact⟨u,rfl,Gk (s:={s with heap:=h'}) e c d (by decide) ⟨x,H,I1,ru,⟨rfl,λ ys hy=>by rw[I.list_inj hy hq];exact hx⟩,st',λ b hb=>(hf b hb).1⟩⟩
 done:=by
  intro X hP hw hK hc i pins s σ H E I hf st hg
  subst hP hw hK
  obtain⟨xs,hq,hx⟩:=hg
  obtain⟨its,rv,p,hz⟩:=I.list hq
  obtain⟨f0,f1,f2,f3,f4,f5⟩:=hf it (by simp)
  have hl:=rv.length
  exact wpAny_pyNext_list_end (I.ok.hd hc) st p.isList (by simp;omega) λ h' eb=>⟨rfl,I.turned (t':=s.toks) (λ b o hb e=>eb b o hb e) f0 f1 f3 f4 f5⟩
 self:=λ _ _ _ _ _ st h=>wpAny_pyIter_listiter st h
theorem qj{P:Program}{w:World}(a it:Addr):Turn P w K tg (Itt K a) [it] it (λ i h=>h.IsTupleIter it a i) where
 mem:=by simp
 obj:=λ i h st b hb=>by
  have e:b=it:=by simpa using hb
  subst e
  obtain⟨o,e,c,d⟩:=st
  exact⟨o,e,λ v z=>by rw[d]at z;cases z⟩
 keep:=λ i h h' st k=>st.at λ o e=>k it (by simp) o e
 item:=by
  intro X hP hw hK hc i pins s σ H E I hf st hg
  subst hP hw hK
  obtain⟨xs,x,hq,hx⟩:=hg
  obtain⟨its,rv,p,hz⟩:=I.tuple hq
  obtain⟨u,hu,ru⟩:=rv.get hx
  obtain⟨f0,f1,f2,f3,f4,f5⟩:=hf it (by simp)
  refine wpAny_pyNext_tuple_item st (show s.heap.IsTuple a its.toArray from p) (x:=u) (by simpa using hu) λ h' st' sb=>?_
  have I1:Inv X pins σ H {s with heap:=h'}:=I.turned (t':=s.toks) (λ b o hb e=>(sb.2 b hb).trans e) f0 f1 f3 f4 f5
  obtain⟨o,e,c,d⟩:=id st'
  exact⟨u,rfl,Gk (s:={s with heap:=h'}) e c d (by decide) ⟨x,H,I1,ru,⟨rfl,λ ys hy=>by rw[I.tuple_inj hy hq];exact hx⟩,st',λ b hb=>(hf b hb).1⟩⟩
 done:=by
  intro X hP hw hK hc i pins s σ H E I hf st hg
  subst hP hw hK
  obtain⟨xs,hq,hx⟩:=hg
  obtain⟨its,rv,p,hz⟩:=I.tuple hq
  obtain⟨f0,f1,f2,f3,f4,f5⟩:=hf it (by simp)
  have hl:=rv.length
  exact wpAny_pyNext_tuple_end (I.ok.hd hc) st (show s.heap.IsTuple a its.toArray from p) (by simp;omega) λ h' eb=>⟨rfl,I.turned (t':=s.toks) (λ b o hb e=>eb b o hb e) f0 f1 f3 f4 f5⟩
 self:=λ _ _ _ _ _ st h=>wpAny_pyIter_tupleiter st h
theorem Ft{P:Program}{w:World}(it:Addr)(lo:Int)(n:Nat):Turn P w K tg (Itr lo n) [it] it (λ i h=>IsRangeIter h it (lo+(i:Nat)*1) ((n:Int)-(i:Nat)) 1) where
 mem:=by simp
 obj:=λ i h st b hb=>by
  have e:b=it:=by simpa using hb
  subst e
  exact⟨_,st,λ v z=>by
   have z':Data.fields _=Data.cell v:=z
   cases z'⟩
 keep:=λ i h h' st k=>k it (by simp) _ st
 item:=by
  intro X hP hw hK hc i pins s σ H E I hf st hg
  subst hP hw hK
  obtain⟨f0,f1,f2,f3,f4,f5⟩:=hf it (by simp)
  have W:=Walks.range (prog:=X.prog) (w:=X.w) (I.ok.hd hc) it lo 1 n
  refine W.item i s _ _ hg st λ v h' tk hv st' kk=>?_
  obtain⟨t,rfl⟩:=hv
  have I1:Inv X pins σ H {s with heap:=h',toks:=tk}:=I.turned (λ b o hb e=>kk b o (by simpa using hb) e) f0 f1 f3 f4 f5
  refine⟨_,rfl,Gk (s:={s with heap:=h',toks:=tk}) (n:="range_iterator") st' rfl rfl (by decide) ⟨.int (lo+i),H,I1,⟨t,?_⟩,⟨rfl,rfl⟩,st',λ b hb=>(hf b hb).1⟩⟩
  rw[Int.mul_one]
 done:=by
  intro X hP hw hK hc i pins s σ H E I hf st hg
  subst hP hw hK
  obtain⟨f0,f1,f2,f3,f4,f5⟩:=hf it (by simp)
  exact wpAny_pyNext_range_end (I.ok.hd hc) st (by have:n≤i:=hg;omega) λ h' eb=>⟨rfl,I.turned (t':=s.toks) (λ b o hb e=>eb b o hb e) f0 f1 f3 f4 f5⟩
 self:=λ _ _ _ _ _ st h=>wpAny_pyIter_rangeiter st h
end L2
namespace L2
open PySem PySem.Spec PyProof.Rows
section
variable {X : Cx} {tg : Expr}
theorem yp{pins:List (Addr×Obj)}{σ:St}{H:Hp}{s:Shared}{R:It->Hp->Prop}{E:Value->Shared->Prop}{lo hi:Int}{t u v:Tok}{tk:Nat}(I:Inv X pins σ H s)(h1: -(2 ^ 62)≤lo)(h2:lo<2 ^ 62)(h3: -(2 ^ 62)≤hi)(h4:hi<2 ^ 62)
 (q:R (Itr lo (hi-lo).toNat) H):wpAny (model X.prog X.w) X.A (pyIter (.ref s.heap.objs.size)) (PIE X pins σ tg R) E {s with heap:=s.heap.push {cls:=.type "range",data:=.fields #[.int lo t,.int hi u,.int 1 v]},toks:=tk}:=by
 refine wpAny_pyIter_range (IsRange.new ..) (small_one h1 h2 h3 h4) ?_
 have I1:Inv X pins σ H {s with heap:=s.heap.push {cls:=.type "range",data:=.fields #[.int lo t,.int hi u,.int 1 v]},toks:=tk}:=I.kept λ b o e=>Heap.get?_push_of_some _ e
 refine⟨(s.heap.push {cls:=.type "range",data:=.fields #[.int lo t,.int hi u,.int 1 v]}).objs.size,[(s.heap.push {cls:=.type "range",data:=.fields #[.int lo t,.int hi u,.int 1 v]}).objs.size],_,_,H,rfl,
  I1.kept (t':=tk) λ b o e=>Heap.get?_push_of_some _ e,Ft _ lo (hi-lo).toNat,?_,λ b hb=>?_,q⟩
 . have e1:lo+((0:Nat):Int)*1=lo:=by simp
   have e2:(((hi-lo).toNat:Nat):Int)-((0:Nat):Int)=Builtin.Range.rangeSize lo hi 1:=by rw[rangeSize_one];split<;>omega
   show IsRangeIter _ _ (lo+((0:Nat):Int)*1) ((((hi-lo).toNat:Nat):Int)-((0:Nat):Int)) 1
   rw[e1,e2]
   exact Heap.get?_push_size _ rfl
 . have e:b=(s.heap.push {cls:=.type "range",data:=.fields #[.int lo t,.int hi u,.int 1 v]}).objs.size:=by simpa using hb
   subst e
   exact I1.fpOk (y9 _) (I1.hok.fresh (y9 _))
noncomputable def Th(ta:TA):TI:=λ σ H R=>ta σ H λ vs H1=>∃j:Int,vs=[.int j]/\ -(2 ^ 62)≤j/\j<2 ^ 62/\R (Itr 0 j.toNat) H1
noncomputable def Ug(ta:TA):TI:=λ σ H R=>ta σ H λ vs H1=>∃i j:Int,vs=[.int i,.int j]/\(-(2 ^ 62)≤i/\i<2 ^ 62/\ -(2 ^ 62)≤j/\j<2 ^ 62)/\R (Itr i (j-i).toNat) H1
theorem Ia{a:Expr}{ta:TA}{p pos:Pos}(hg:Gl X "range")(hm:X.mg "range"=none)(ha:PA X [a] ta)(hs:starEach [a] X.env=[(false,eval a X.env)]:=by rfl):PI X tg (.Call (.Name "range" p) [a] [] pos) (Th ta):=by
 intro pins s σ H R I h
 refine Call_ (bL I hg hm boot_range (PyProof.Rows.callWith_type1 (thn (ha pos pins s σ H _ I h) λ us s1 ⟨vs,H1,I1,r1,q1⟩=>?_) hs rfl))
 obtain⟨j,e,q1,q2,q⟩:=q1
 subst e
 cases r1 with
 | cons r rr=>
   cases rr
   obtain⟨t,rfl⟩:=r
   exact call_range_1 (yp I1 (by omega) (by omega) q1 q2 (by simpa using q))
theorem Jo{a b:Expr}{ta:TA}{p pos:Pos}(hg:Gl X "range")(hm:X.mg "range"=none)(ha:PA X [a,b] ta)(hs:starEach [a,b] X.env=[(false,eval a X.env),(false,eval b X.env)]:=by rfl)(hs2:starEach [b] X.env=[(false,eval b X.env)]:=by rfl):
 PI X tg (.Call (.Name "range" p) [a,b] [] pos) (Ug ta):=by
 intro pins s σ H R I h
 refine Call_ (bL I hg hm boot_range (PyProof.Rows.callWith_type1 (thn (ha pos pins s σ H _ I h) λ us s1 ⟨vs,H1,I1,r1,q1⟩=>?_) (by rw[hs,hs2]) (by rw[hs2];rfl)))
 obtain⟨i,j,e,⟨q1,q2,q3,q4⟩,q⟩:=q1
 subst e
 cases r1 with
 | cons r rr=>
   cases rr with
   | cons r' rr=>
     cases rr
     obtain⟨t,rfl⟩:=r
     obtain⟨t',rfl⟩:=r'
     exact call_range_2 (yp I1 q1 q2 q3 q4 q)
noncomputable def UV(wi:TI)(g:TG)(tb:TS):TS:=λ D σ H=>wi σ H λ J H1=>∃W:Nat->Nat->St->Hp->Prop,(∃m,W 0 m σ H1)/\∀i m σ H,W i m σ H->
 (J.stop i H/\D.nx σ H)∨(J.go i H/\∃N:St->Hp->Prop,(∀σ' H',N σ' H'->∃m',m'<m/\W (i+1) m' σ' H')/\∀x H',J.yld i H x H'->g x σ H' λ σ2 H2=>tb {D with nx:=N,ct:=N,bk:=D.nx} σ2 H2)
noncomputable def lA(fp:List Addr)(h:Heap):List (Addr×Obj):=fp.filterMap λ b=>(h.get? b).map λ o=>(b,o)
theorem fW{fp:List Addr}{h:Heap}{b:Addr}{o:Obj}(hb:b∈fp)(e:h.get? b=some o):(b,o)∈lA fp h:=List.mem_filterMap.mpr ⟨b,hb,by rw[e];rfl⟩
theorem HR{fp:List Addr}{h:Heap}{p:Addr×Obj}(hp:p∈lA fp h):p.1∈fp/\h.get? p.1=some p.2:=by
 obtain⟨b,hb,e⟩:=List.mem_filterMap.mp hp
 cases q:h.get? b with
 | none=>rw[q]at e;cases e
 | some o=>
   rw[q]at e
   have e':(b,o)=p:=Option.some.inj e
   subst e'
   exact⟨hb,q⟩
theorem Inv.pinned{pins:List (Addr×Obj)}{σ:St}{H:Hp}{s:Shared}{fp:List Addr}(I:Inv X pins σ H s)(hf:∀b∈fp,eO X pins H b)(ho:∀b∈fp,∃o,s.heap.get? b=some o/\∀v,o.data≠.cell v):Inv X (pins++lA fp s.heap) σ H s:=
 I.pins_of λ p hp=>(List.mem_append.mp hp).elim (λ z=>I.pin p (List.mem_append_right _ z)) λ z=>by
  obtain⟨hb,e⟩:=HR z
  obtain⟨f0,f1,f2,_⟩:=hf p.1 hb
  obtain⟨o,e',d⟩:=ho p.1 hb
  rw[e]at e';cases e'
  exact⟨e,f0,f1,f2,d⟩
theorem Inv.unpinned{pins pl:List (Addr×Obj)}{σ:St}{H:Hp}{s:Shared}(I:Inv X (pins++pl) σ H s):Inv X pins σ H s:=I.pins_of λ p hp=>I.pin p (List.mem_append_right _ (List.mem_append_left _ hp))
theorem JD{iter:Expr}{body:List Stmt}{wi:TI}{g:TG}{tb:TS}{pos:Pos}(hp:PassesOwn (model X.prog X.w) X.A X.env X.xe)(hc:X.calm=true)(hi:PI X tg iter wi)(hg:PG X tg g)(hb:PSs X body tb)
 (hs:∀x,foldedSetIterable iter X.env x=pure x:=by intro _;rfl):PS X (.For tg iter body [] pos) (UV wi g tb):=by
 intro pins s σ H D I h
 refine wpAny_For (thn (hi pins s σ H _ I h) λ v s1 h1=>thn h1 λ itv s2 h2=>?_) hs
 obtain⟨it,fp,tn,J,H2,e,I2,T,st2,f2,W,⟨m0,w0⟩,turn⟩:=h2
 subst e
 have stat:∀{H':Hp},(∀b∈fp,H' b=none)->∀b∈fp,eO X pins H' b:=λ hn b hb=>⟨hn b hb,(f2 b hb).2⟩
 refine codeAny_forLoop_any (λ n s'=>∃i σ' H',Inv X pins σ' H' s'/\tn i s'.heap/\(∀b∈fp,H' b=none)/\W i n σ' H') ?_ m0 ⟨0,σ,H2,I2,st2,λ b hb=>(f2 b hb).1,w0⟩
 rintro n s3 ⟨i,σ3,H3,I3,st3,fr3,w3⟩
 rcases turn i n σ3 H3 w3 with⟨stop,qn⟩ | ⟨go,N,hN,step⟩
 . refine wpAny_passesOwn hp (thn (T.done X rfl rfl rfl hc i pins s3 σ3 H3 X.xe I3 (stat fr3) st3 stop) λ r s4 ⟨hr,I4⟩=>?_)
   subst hr
   exact wpAny_execs_nil ⟨σ3,H3,I4,qn⟩
 . refine wpAny_passesOwn hp (thn (T.item X rfl rfl rfl hc i pins s3 σ3 H3 X.xe I3 (stat fr3) st3 go) λ r s4 ⟨u,hr,h4⟩=>?_)
   subst hr
   refine wpAny_passesOwn hp (thn h4 λ _ s5 ⟨x,H5,I5,r5,y5,st5,fr5⟩=>?_)
   have I5':=I5.pinned (stat fr5) (T.obj _ _ st5)
   refine wpAny_passesOwn hp (thn (hg _ s5 σ3 H5 x u _ I5' r5 (step x H5 y5)) λ _ s6 ⟨σ6,H6,I6,q6⟩=>?_)
   refine wpAny_passesOwn hp (thn (hb _ s6 σ6 H6 _ I6 q6) λ f s7 q7=>?_)
   have again:∀{σ7:St}{H7:Hp},Inv X (pins++lA fp s5.heap) σ7 H7 s7->N σ7 H7->∃m,m<n/\∃i σ' H',Inv X pins σ' H' s7/\tn i s7.heap/\(∀b∈fp,H' b=none)/\W i m σ' H':=λ{σ7 H7} I7 n7=>by
    obtain⟨m',hm,w7⟩:=hN σ7 H7 n7
    refine⟨m',hm,i+1,σ7,H7,I7.unpinned,T.keep _ _ _ st5 λ b hb o e=>(I7.pin (b,o) (List.mem_append_right _ (List.mem_append_right _ (fW hb e)))).1,λ b hb=>?_,w7⟩
    obtain⟨o,e,d⟩:=T.obj _ _ st5 b hb
    exact(I7.pin (b,o) (List.mem_append_right _ (List.mem_append_right _ (fW hb e)))).2.1
   cases f with
   | next=>obtain⟨σ7,H7,I7,n7⟩:=q7;exact again I7 n7
   | cont=>obtain⟨σ7,H7,I7,n7⟩:=q7;exact again I7 n7
   | brk=>obtain⟨σ7,H7,I7,q7⟩:=q7;exact⟨σ7,H7,I7.unpinned,q7⟩
   | ret v=>obtain⟨x7,σ7,H7,I7,r7,q7⟩:=q7;exact⟨x7,σ7,H7,I7.unpinned,r7,q7⟩
end
end L2
namespace L2
open PySem PySem.Spec PyProof.Rows
noncomputable abbrev R2:=V->V->Hp->VK->Prop
noncomputable def OpR(X:Cx)(f:Value->Value->Sem Value)(r:R2):Prop:=
 ∀ (pins:List (Addr×Obj))(s:Shared)(σ:St)(H:Hp)(x y:V)(v u:Value)(Q:VK),Inv X pins σ H s->RelV x v->RelV y u->r x y H Q->
   wpAny (model X.prog X.w) X.A (f v u) (EP X pins σ Q) X.xe s
noncomputable def UnR(X:Cx)(f:Value->Sem Value)(r:V->Hp->VK->Prop):Prop:=
 ∀ (pins:List (Addr×Obj))(s:Shared)(σ:St)(H:Hp)(x:V)(v:Value)(Q:VK),Inv X pins σ H s->RelV x v->r x H Q->
   wpAny (model X.prog X.w) X.A (f v) (EP X pins σ Q) X.xe s
noncomputable def eZ(X:Cx)(f:Value)(r:List V->Hp->VK->Prop):Prop:=
 ∀ (pins:List (Addr×Obj))(s:Shared)(σ:St)(H:Hp)(xs:List V)(us:List Value)(Q:VK),Inv X pins σ H s->Vals xs us->r xs H Q->
   wpAny (model X.prog X.w) X.A (call f us) (EP X pins σ Q) X.xe s
noncomputable def rI(C:Int->Int->Prop)(g:Int->Int->V):R2:=λ x y H Q=>∃i j,x=.int i/\y=.int j/\C i j/\Q (g i j) H
noncomputable def rI0(g:Int->Int->V):R2:=λ x y H Q=>∃i j,x=.int i/\y=.int j/\Q (g i j) H
noncomputable def rU(g:Int->V):V->Hp->VK->Prop:=λ x H Q=>∃i,x=.int i/\Q (g i) H
section
variable {X : Cx} {a b c : Expr} {ta tb tc : TE} {pos : Pos}
theorem opI{f:Value->Value->Sem Value}{C:Int->Int->Prop}{g:Int->Int->Int}
 (rule:∀(i j:Int)(t u:Tok)(s:Shared)(Q:Value->Shared->Prop)(E:Value->Shared->Prop),C i j->Q (.int (g i j) s.toks) {s with toks:=s.toks+1}->wpAny (model X.prog X.w) X.A (f (.int i t) (.int j u)) Q E s):
 OpR X f (rI C λ i j=>.int (g i j)):=by
 intro pins s σ H x y v u Q I rx ry h
 obtain⟨i,j,rfl,rfl,hc,q⟩:=h
 obtain⟨t,rfl⟩:=rx
 obtain⟨t',rfl⟩:=ry
 exact rule i j t t' s _ _ hc ⟨.int (g i j),H,I.tok _,⟨_,rfl⟩,q⟩
theorem Q9{f:Value->Value->Sem Value}{g:Int->Int->Int}
 (rule:∀(i j:Int)(t u:Tok)(s:Shared)(Q:Value->Shared->Prop)(E:Value->Shared->Prop),Q (.int (g i j) s.toks) {s with toks:=s.toks+1}->wpAny (model X.prog X.w) X.A (f (.int i t) (.int j u)) Q E s):
 OpR X f (rI0 λ i j=>.int (g i j)):=by
 intro pins s σ H x y v u Q I rx ry h
 obtain⟨i,j,rfl,rfl,q⟩:=h
 obtain⟨t,rfl⟩:=rx
 obtain⟨t',rfl⟩:=ry
 exact rule i j t t' s _ _ ⟨.int (g i j),H,I.tok _,⟨_,rfl⟩,q⟩
theorem Ec{f:Value->Value->Sem Value}{g:Int->Int->Bool}
 (rule:∀(i j:Int)(t u:Tok)(s:Shared)(Q:Value->Shared->Prop)(E:Value->Shared->Prop),Q (.bool (g i j)) s->wpAny (model X.prog X.w) X.A (f (.int i t) (.int j u)) Q E s):
 OpR X f (rI0 λ i j=>.bl (g i j)):=by
 intro pins s σ H x y v u Q I rx ry h
 obtain⟨i,j,rfl,rfl,q⟩:=h
 obtain⟨t,rfl⟩:=rx
 obtain⟨t',rfl⟩:=ry
 exact rule i j t t' s _ _ ⟨.bl (g i j),H,I,rfl,q⟩
noncomputable def U3(i j:Int):Prop:=0<j/\j<1073741824
noncomputable def CPow(i j:Int):Prop:=0≤j/\j≤1000000/\i.natAbs<2 ^ 64
noncomputable def CMul(i j:Int):Prop:=(-(2 ^ 64)<i/\i<2 ^ 64)∨(-(2 ^ 64)<j/\j<2 ^ 64)
theorem CMul.ok{i j:Int}(h:CMul i j):IntMulOk i j:=by
 rcases h with⟨h1,h2⟩ | ⟨h1,h2⟩
 . exact .of_left (intBits_le_64 h1 h2)
 . exact .of_right (intBits_le_64 h1 h2)
theorem R3:OpR X (binaryOp .Add) (rI0 λ i j=>.int (i+j)):=Q9 λ _ _ _ _ _ _ _ q=>add_int q
theorem Ql:OpR X (binaryOp .Sub) (rI0 λ i j=>.int (i-j)):=Q9 λ _ _ _ _ _ _ _ q=>sub_int q
theorem Qo:OpR X (binaryOp .Mult) (rI CMul λ i j=>.int (i*j)):=opI λ _ _ _ _ _ _ _ hc q=>mul_int q hc.ok
theorem M9:OpR X (binaryOp .FloorDiv) (rI U3 λ i j=>.int (i/j)):=opI λ i j _ _ _ _ _ hc q=>by
 have h1:(0:Int)<j:=hc.1
 have h2:j<1073741824:=hc.2
 exact floordiv_int (by omega) (by rw[Int.fdiv_eq_ediv_of_nonneg i (by omega)];exact q) (.inl (PyProof.noPylong_small (by omega)))
theorem Q6:OpR X (binaryOp .Mod) (rI (λ _ j=>0<j) λ i j=>.int (i % j)):=opI λ i j _ _ _ _ _ hc q=>by
 have h1:(0:Int)<j:=hc
 exact mod_int' (by omega) (by rw[Int.fmod_eq_emod_of_nonneg i (by omega)];exact q)
theorem Qi:OpR X (binaryOp .Pow) (rI CPow λ i j=>.int (i ^ j.toNat)):=opI λ _ _ _ _ _ _ _ hc q=>pow_int_small hc.1 hc.2.1 hc.2.2 q
theorem unI{f:Value->Sem Value}{g:Int->Int}
 (rule:∀(i:Int)(t:Tok)(s:Shared)(Q:Value->Shared->Prop)(E:Value->Shared->Prop),Q (.int (g i) s.toks) {s with toks:=s.toks+1}->wpAny (model X.prog X.w) X.A (f (.int i t)) Q E s):
 UnR X f (rU λ i=>.int (g i)):=by
 intro pins s σ H x v Q I rx h
 obtain⟨i,rfl,q⟩:=h
 obtain⟨t,rfl⟩:=rx
 exact rule i t s _ _ ⟨.int (g i),H,I.tok _,⟨_,rfl⟩,q⟩
theorem Q0:UnR X (unaryOp .USub) (rU λ i=>.int (-i)):=unI λ _ _ _ _ _ q=>neg_int q
end
noncomputable def Qj:V->V->Bool
 | .non,.non=>true | .non,.int _=>true | .int _,.non=>true | .non,.bl _=>true | .bl _,.non=>true | .non,.str _=>true | .str _,.non=>true
 | .int _,.int _=>true | .bl _,.bl _=>true | .str _,.str _=>true | .byt _,.byt _=>true
 | .int _,.str _=>true | .str _,.int _=>true | .bl _,.str _=>true | .str _,.bl _=>true
 | _,_=>false
noncomputable def rEq:R2:=λ x y H Q=>Qj x y=true/\Q (.bl (decide (x=y))) H
noncomputable def rNe:R2:=λ x y H Q=>Qj x y=true/\Q (.bl (!decide (x=y))) H
theorem nq{i j:Int}:decide (V.int i=V.int j)=(i==j):=by
 rw[Bool.eq_iff_iff]
 simp
theorem qb{i j:Bool}:decide (V.bl i=V.bl j)=(i==j):=by
 rw[Bool.eq_iff_iff]
 simp
theorem Df{i j:Str}:decide (V.str i=V.str j)=(i==j):=by
 rw[Bool.eq_iff_iff]
 simp
theorem Dv{i j:Array UInt8}:decide (V.byt i=V.byt j)=(i.toList==j.toList):=by
 rw[Bool.eq_iff_iff]
 cases i
 cases j
 simp
section
variable {X : Cx} {a b c : Expr} {ta tb tc : TE} {pos : Pos}
theorem aH{pins:List (Addr×Obj)}{σ:St}{H:Hp}{s:Shared}{Q:VK}{k k':Bool}(I:Inv X pins σ H s)(q:Q (.bl k) H)(e:k=k'):EP X pins σ Q (.bool k') s:=by
 subst e
 exact⟨.bl k,H,I,rfl,q⟩
theorem MK:OpR X (compareOp .Eq) rEq:=by
 intro pins s σ H x y v u Q I rx ry h
 obtain⟨hs,q⟩:=h
 cases x with
 | non=>
   cases rx
   cases y with
   | non=>cases ry;exact PySem.EqNone.eq_none_none (aH I q (by simp))
   | bl j=>cases ry;exact PySem.EqNone.eq_none_bool (aH I q (by simp))
   | int j=>obtain⟨t',rfl⟩:=ry;exact PySem.EqNone.eq_none_int (aH I q (by simp))
   | str j=>obtain⟨t',rfl⟩:=ry;exact PySem.EqNone.eq_none_str (aH I q (by simp))
   | _=>exact absurd (show false=true from hs) y6
 | bl i=>
   cases rx
   cases y with
   | non=>cases ry;exact PySem.EqNone.eq_bool_none (aH I q (by simp))
   | bl j=>cases ry;exact eq_bool (aH I q qb)
   | str j=>obtain⟨t',rfl⟩:=ry;exact PySem.EqMixed.eq_bool_str (aH I q (by simp))
   | _=>exact absurd (show false=true from hs) y6
 | int i=>
   obtain⟨t,rfl⟩:=rx
   cases y with
   | non=>cases ry;exact PySem.EqNone.eq_int_none (aH I q (by simp))
   | int j=>obtain⟨t',rfl⟩:=ry;exact eq_int (aH I q nq)
   | str j=>obtain⟨t',rfl⟩:=ry;exact PySem.EqMixed.eq_int_str (aH I q (by simp))
   | _=>exact absurd (show false=true from hs) y6
 | str i=>
   obtain⟨t,rfl⟩:=rx
   cases y with
   | non=>cases ry;exact PySem.EqNone.eq_str_none (aH I q (by simp))
   | bl j=>cases ry;exact PySem.EqMixed.eq_str_bool (aH I q (by simp))
   | int j=>obtain⟨t',rfl⟩:=ry;exact PySem.EqMixed.eq_str_int (aH I q (by simp))
   | str j=>obtain⟨t',rfl⟩:=ry;exact eq_str (aH I q Df)
   | _=>exact absurd (show false=true from hs) y6
 | byt i=>
   obtain⟨t,rfl⟩:=rx
   cases y with
   | byt j=>obtain⟨t',rfl⟩:=ry;exact PySem.W.eq_bytes (aH I q Dv)
   | _=>exact absurd (show false=true from hs) y6
 | _=>cases y<;>exact absurd (show false=true from hs) y6
theorem Mq:OpR X (compareOp .NotEq) rNe:=by
 intro pins s σ H x y v u Q I rx ry h
 obtain⟨hs,q⟩:=h
 cases x with
 | non=>
   cases rx
   cases y with
   | non=>cases ry;exact PySem.EqNone.ne_none_none (aH I q (by simp))
   | bl j=>cases ry;exact PySem.EqNone.ne_none_bool (aH I q (by simp))
   | int j=>obtain⟨t',rfl⟩:=ry;exact PySem.EqNone.ne_none_int (aH I q (by simp))
   | str j=>obtain⟨t',rfl⟩:=ry;exact PySem.EqNone.ne_none_str (aH I q (by simp))
   | _=>exact absurd (show false=true from hs) y6
 | bl i=>
   cases rx
   cases y with
   | non=>cases ry;exact PySem.EqNone.ne_bool_none (aH I q (by simp))
   | bl j=>cases ry;exact ne_bool (aH I q (congrArg not qb))
   | str j=>obtain⟨t',rfl⟩:=ry;exact PySem.EqMixed.ne_bool_str (aH I q (by simp))
   | _=>exact absurd (show false=true from hs) y6
 | int i=>
   obtain⟨t,rfl⟩:=rx
   cases y with
   | non=>cases ry;exact PySem.EqNone.ne_int_none (aH I q (by simp))
   | int j=>obtain⟨t',rfl⟩:=ry;exact ne_int (aH I q (congrArg not nq))
   | str j=>obtain⟨t',rfl⟩:=ry;exact PySem.EqMixed.ne_int_str (aH I q (by simp))
   | _=>exact absurd (show false=true from hs) y6
 | str i=>
   obtain⟨t,rfl⟩:=rx
   cases y with
   | non=>cases ry;exact PySem.EqNone.ne_str_none (aH I q (by simp))
   | bl j=>cases ry;exact PySem.EqMixed.ne_str_bool (aH I q (by simp))
   | int j=>obtain⟨t',rfl⟩:=ry;exact PySem.EqMixed.ne_str_int (aH I q (by simp))
   | str j=>obtain⟨t',rfl⟩:=ry;exact ne_str (aH I q (congrArg not Df))
   | _=>exact absurd (show false=true from hs) y6
 | byt i=>
   obtain⟨t,rfl⟩:=rx
   cases y with
   | byt j=>obtain⟨t',rfl⟩:=ry;exact PySem.W.ne_bytes (aH I q (congrArg not Dv))
   | _=>exact absurd (show false=true from hs) y6
 | _=>cases y<;>exact absurd (show false=true from hs) y6
theorem SQ:OpR X (compareOp .Lt) (rI0 λ i j=>.bl (decide (i<j))):=Ec λ _ _ _ _ _ _ _ q=>lt_int q
theorem TV:OpR X (compareOp .LtE) (rI0 λ i j=>.bl (decide (i≤j))):=Ec λ _ _ _ _ _ _ _ q=>le_int q
theorem R7:OpR X (compareOp .Gt) (rI0 λ i j=>.bl (decide (j<i))):=Ec λ _ _ _ _ _ _ _ q=>gt_int q
theorem Sx:OpR X (compareOp .GtE) (rI0 λ i j=>.bl (decide (j≤i))):=Ec λ _ _ _ _ _ _ _ q=>ge_int q
theorem Q8:OpR X (compareOp .Is) (λ x y H Q=>y=.non/\Q (.bl (decide (x=.non))) H):=by
 intro pins s σ H x y v u Q I rx ry h
 obtain⟨rfl,q⟩:=h
 cases ry
 refine is_none_gen (aH I q ?_)
 cases x<;>first
  | (cases rx;rfl)
  | (obtain⟨t,rfl⟩:=rx;rfl)
theorem Ol:OpR X (compareOp .IsNot) (λ x y H Q=>y=.non/\Q (.bl (!decide (x=.non))) H):=by
 intro pins s σ H x y v u Q I rx ry h
 obtain⟨rfl,q⟩:=h
 cases ry
 refine isnot_none_gen (aH I q ?_)
 cases x<;>first
  | (cases rx;rfl)
  | (obtain⟨t,rfl⟩:=rx;rfl)
theorem qF:(sizeLine:Nat)<2 ^ 63:=by rw[sizeLine_eq];decide
theorem vals1{x:V}{us:List Value}(r:Vals [x] us):∃u,us=[u]/\RelV x u:=by
 cases r with
 | cons r1 r2=>cases r2;exact⟨_,rfl,r1⟩
theorem vals2{x y:V}{us:List Value}(r:Vals [x,y] us):∃u w',us=[u,w']/\RelV x u/\RelV y w':=by
 cases r with
 | cons r1 r2=>
   cases r2 with
   | cons r3 r4=>cases r4;exact⟨_,_,rfl,r1,r3⟩
theorem Mf:eZ X (.builtin "abs") (λ xs H Q=>∃i,xs=[.int i]/\Q (.int (if i<0 then-i else i)) H):=by
 intro pins s σ H xs us Q I r h
 obtain⟨i,rfl,q⟩:=h
 obtain⟨u,rfl,t,rfl⟩:=vals1 r
 exact call_abs_int λ u tk=>⟨.int (if i<0 then-i else i),H,I.tok _,⟨_,rfl⟩,q⟩
theorem Gz(hc:X.calm=true):eZ X (.builtin "max") (λ xs H Q=>∃i j,xs=[.int i,.int j]/\Q (.int (if j>i then j else i)) H):=by
 intro pins s σ H xs us Q I r h
 obtain⟨i,j,rfl,q⟩:=h
 obtain⟨u,w',rfl,⟨t,rfl⟩,⟨t',rfl⟩⟩:=vals2 r
 refine max_two_ints (I.ok.hd hc) λ h' tk k=>⟨_,H,I.kept k,?_,q⟩
 by_cases hj:j>i
 . rw[if_pos hj,if_pos hj];exact⟨_,rfl⟩
 . rw[if_neg hj,if_neg hj];exact⟨_,rfl⟩
theorem Gx(hc:X.calm=true):eZ X (.builtin "min") (λ xs H Q=>∃i j,xs=[.int i,.int j]/\Q (.int (if j<i then j else i)) H):=by
 intro pins s σ H xs us Q I r h
 obtain⟨i,j,rfl,q⟩:=h
 obtain⟨u,w',rfl,⟨t,rfl⟩,⟨t',rfl⟩⟩:=vals2 r
 refine min_two_ints (I.ok.hd hc) λ h' tk k=>⟨_,H,I.kept k,?_,q⟩
 by_cases hj:j<i
 . rw[if_pos hj,if_pos hj];exact⟨_,rfl⟩
 . rw[if_neg hj,if_neg hj];exact⟨_,rfl⟩
theorem uw:eZ X (.type "int") (λ xs H Q=>(∃i,xs=[.int i]/\Q (.int i) H)∨∃k,xs=[.bl k]/\Q (.int (if k then 1 else 0)) H):=by
 intro pins s σ H xs us Q I r h
 rcases h with⟨i,rfl,q⟩ | ⟨k,rfl,q⟩
 . obtain⟨u,rfl,t,rfl⟩:=vals1 r
   exact call_int_int ⟨.int i,H,I,⟨_,rfl⟩,q⟩
 . obtain⟨u,rfl,r1⟩:=vals1 r
   cases r1
   exact call_int_bool ⟨.int (if k then 1 else 0),H,I.tok _,⟨_,rfl⟩,q⟩
end
end L2
namespace L2
open PySem PySem.Spec PyProof.Rows
structure Room(k:Nat)(A:Around):Prop where
 hd:A.handled=none
 dp:A.depth+3*k+5<recursionLimit
 un:A.units+16*k+200<cLine
theorem Room.mono{j k:Nat}{A:Around}(r:Room k A)(h:j≤k):Room j A:=⟨r.hd,by have:=r.dp;omega,by have:=r.un;omega⟩
theorem Room.deeper{k:Nat}{A:Around}(r:Room (k+1) A)(env:Env):Room k (A.deeper env):=
 ⟨r.hd,by have:=r.dp;show A.depth+1+3*k+5<_;omega,by have:=r.un;show A.units+3+16*k+200<_;omega⟩
theorem Room.depth{k:Nat}{A:Around}(r:Room k A):A.depth<recursionLimit:=by have:=r.dp;omega
noncomputable def U0:TA:=λ _ H Q=>Q [] H
noncomputable def Ul(ta:TE)(tr:TA):TA:=λ σ H Q=>ta σ H λ x H1=>tr σ H1 λ xs H2=>Q (x::xs) H2
section
variable {X : Cx} {e : Expr} {es : List Expr} {te : TE} {t : TA} {pos : Pos}
theorem zz:PA X [] U0:=λ _ _ _ _ H Q I h=>Calls.spliced_nil ⟨[],H,I,.nil,h⟩
theorem m7(ha:PE X e te)(hr:PA X es t)(hs:starEach (e::es) X.env=(false,eval e X.env)::starEach es X.env:=by rfl):PA X (e::es) (Ul te t):=by
 intro pos pins s σ H Q I h
 rw[hs]
 show wpAny _ _ (spliced ((false,eval e X.env)::backTo pos (starEach es X.env))) _ _ s
 refine Calls.spliced_cons (thn (ha pins s σ H _ I h) λ u s1 ⟨x,H1,I1,r1,q1⟩=>?_)
 exact thn (hr pos pins s1 σ H1 _ I1 q1) λ us s2 ⟨xs,H2,I2,r2,q2⟩=>⟨x::xs,H2,I2,.cons r1 r2,q2⟩
end
noncomputable abbrev Sp:=List V->Hp->VK->XK->Prop
noncomputable abbrev CXT:=List Env->Hp->Shared->XK->Value->Shared->Prop
structure Env0(P:Program)(w:World)(K:PySem.W.Frag)(mg:Str->Option Value)(base:Heap)(A:Around)(outer:List Env)(s:Shared)(H:Hp):Prop where
 frames:A.frames=some outer
 mod:Mod K mg base
 bs:∀b o,base.get? b=some o->s.heap.get? b=some o/\H b=none
 bsz:base.objs.size≤s.heap.objs.size
 funs:s.heap.FunFrames base outer
 frf:∀b∈frs outer,H b=none
 hok:HOk P w H s.heap
 bare:AllBare s.gens
noncomputable def CE(outer:List Env)(P:Program)(w:World)(H:Hp)(s:Shared)(Q:VK)(u:Value)(s':Shared):Prop:=
 ∃v H',s'.os=s.os/\AllBare s'.gens/\Un (frs outer) [] H H' s.heap s'.heap/\HOk P w H' s'.heap/\RelV v u/\Q v H'
noncomputable def CR(CX:CXT)(outer:List Env)(P:Program)(w:World)(H:Hp)(s:Shared)(Q:VK)(E:XK)(r:Result)(s':Shared):Prop:=
 match r with
 | .ok (.ret u)=>CE outer P w H s Q u s'
 | .ok _=>False
 | .error e=>CX outer H s E e s'
structure FnOk(P:Program)(w:World)(K:PySem.W.Frag)(mg:Str->Option Value)(base:Heap)(CX:CXT)(k:Nat)(f:Addr)(fd:FuncData)(ps:List Str)(sp:Sp):Prop where
 len:∀vs H Q E,sp vs H Q E->vs.length=ps.length
 run:∀(A:Around)(outer:List Env)(s:Shared)(H:Hp)(args:Args)(us:List Value)(vs:List V)(Q:VK)(E:XK),Room k A->Env0 P w K mg base A outer s H->BindsTo s fd args (ps.zip us)->Vals vs us->sp vs H Q E->
  codeAny (model P w) A (.call (.ref f) args) (CR CX outer P w H s Q E) s
section
variable {X : Cx} {pins : List (Addr × Obj)} {σ : St} {H : Hp} {s s' : Shared}
theorem Inv.env0(I:Inv X pins σ H s):Env0 X.prog X.w X.K X.mg X.base X.A X.stack s H:=
 ⟨I.ok.frames,I.ok.mod,I.bs,Nat.le_trans I.ok.bsz I.sz,I.stack,I.stkFree,I.hok,I.bare⟩
theorem Inv.after{Q:VK}{u:Value}(I:Inv X pins σ H s)(h:CE X.stack X.prog X.w H s Q u s'):EP X pins σ Q u s':=by
 obtain⟨v,H',os,bare,un,hok,r,q⟩:=h
 obtain⟨hh,g,d,t,os'⟩:=s'
 obtain rfl:os'=s.os:=os
 exact⟨v,H',I.call (h':=hh) (g':=g) (d':=d) (t':=t) (ch:=[]) un hok bare (λ b z=>absurd z (by simp)),r,q⟩
end
noncomputable def Binds(K:PySem.W.Frag)(fd:FuncData)(ps:List Str)(ds:List Value):Prop:=
 ∀(s:Shared)(us:List Value),K.In s.heap->(us++ds).length=ps.length->BindsTo s fd ⟨us,[]⟩ (ps.zip (us++ds))
theorem Binds.all{K:PySem.W.Frag}{fd:FuncData}{ps:List Str}(h:∀us:List Value,us.length=ps.length->bindArgs fd ⟨us,[]⟩=pure (ps.zip us)):Binds K fd ps []:=λ s us _ hl=>by
 rw[List.append_nil]at hl ⊢
 exact .of_eq (h us hl)
noncomputable def Ij(CX:CXT)(X:Cx)(E:XK):Prop:=∀(pins:List (Addr×Obj))(σ:St)(H:Hp)(s:Shared)(e:Value)(s':Shared),Inv X pins σ H s->CX X.stack H s E e s'->X.xe e s'
section
variable {X : Cx} {CX : CXT} {k : Nat} {f C : Addr} {fd : FuncData} {ps : List Str} {sp : Sp} {dvs : List V} {ds : List Value} {E : XK} {x m : Str} {p pos apos : Pos} {e o : Expr} {es : List Expr} {ta : TE} {t : TA}
theorem Q4{pins:List (Addr×Obj)}{σ:St}{H:Hp}{s:Shared}{Q:VK}{us:List Value}{vs:List V}(F:FnOk X.prog X.w X.K X.mg X.base CX k f fd ps sp)(hr:Room k X.A)(hb:Binds X.K fd ps ds)(hd:Vals dvs ds)(hx:Ij CX X E)
 (I:Inv X pins σ H s)(r:Vals vs us)(h:sp (vs++dvs) H Q E):wpAny (model X.prog X.w) X.A (call (.ref f) us) (EP X pins σ Q) X.xe s:=by
 have r2:Vals (vs++dvs) (us++ds):=r.append hd
 have hl:(us++ds).length=ps.length:=by rw[←r2.length];exact F.len _ _ _ _ h
 refine wpAny_call (codeAny_mono (F.run X.A X.stack s H ⟨us,[]⟩ (us++ds) (vs++dvs) Q E hr I.env0 (hb s us I.kIn hl) r2 h) λ r s' hq=>?_)
 cases r with
 | error e=>exact hx pins σ H s e s' I hq
 | ok fl=>
   cases fl with
   | ret u=>exact I.after hq
   | next=>exact False.elim hq
   | brk=>exact False.elim hq
   | cont=>exact False.elim hq
end
structure FnScope(N P:List Str)(sc:Scope):Prop where
 kind:sc.kind=.function
 co:sc.isCoroutine=false
 gen:sc.isGenerator=false
 nd:N.Nodup
 pre:N.take P.length=P
 par:∀x∈P,sc.names.lookup x=some .local∨sc.names.lookup x=some .cell
 nofree:∀y∈sc.names,y.2≠.free
theorem uv{kindOf:Str->Option NameKind}{x:Str}:∀{binds:List (Str×Value)}{m:Str->Option Value},(∀v,(x,v)∉binds)->bindL kindOf binds m x=m x
 | [],_,_=>rfl
 | (n,v)::r,m,h=>by
   unfold bindL
   rw[uv λ w hw=>h w (x3 _ hw)]
   split
   . have:x≠n:=by rintro rfl;exact h v x5
     simp[this]
   . rfl
theorem t8{kindOf:Str->Option NameKind}{x:Str}:∀{binds:List (Str×Value)}{m:Str->Option Value},(∀v,(x,v)∉binds)->bindC kindOf binds m x=m x
 | [],_,_=>rfl
 | (n,v)::r,m,h=>by
   unfold bindC
   rw[t8 λ w hw=>h w (x3 _ hw)]
   split
   . rfl
   . have:x≠n:=by rintro rfl;exact h v x5
     simp[this]
theorem ug{kindOf:Str->Option NameKind}{x:Str}{v:Value}:∀{P:List Str}{vs:List Value}{i:Nat}{m:Str->Option Value},P.Nodup->P[i]? =some x->vs[i]? =some v->kindOf x=some .local->
 bindL kindOf (P.zip vs) m x=some v
 | [],_,_,_,_,h,_,_=>by simp at h
 | _::_,[],_,_,_,_,h,_=>by simp at h
 | p::P,w::vs,0,m,nd,h1,h2,hk=>by
   simp at h1 h2;subst h1;subst h2
   show bindL kindOf ((p,w)::P.zip vs) m p=_
   unfold bindL
   rw[uv λ v hv=>(List.nodup_cons.mp nd).1 (List.of_mem_zip hv).1,if_pos hk]
   simp
 | p::P,w::vs,i+1,m,nd,h1,h2,hk=>by
   show bindL kindOf ((p,w)::P.zip vs) m x=_
   unfold bindL
   exact ug (i:=i) (List.nodup_cons.mp nd).2 (by simpa using h1) (by simpa using h2) hk
theorem tV{kindOf:Str->Option NameKind}{x:Str}{v:Value}:∀{P:List Str}{vs:List Value}{i:Nat}{m:Str->Option Value},P.Nodup->P[i]? =some x->vs[i]? =some v->kindOf x≠some .local->
 bindC kindOf (P.zip vs) m x=some v
 | [],_,_,_,_,h,_,_=>by simp at h
 | _::_,[],_,_,_,_,h,_=>by simp at h
 | p::P,w::vs,0,m,nd,h1,h2,hk=>by
   simp at h1 h2;subst h1;subst h2
   show bindC kindOf ((p,w)::P.zip vs) m p=_
   unfold bindC
   rw[t8 λ v hv=>(List.nodup_cons.mp nd).1 (List.of_mem_zip hv).1,if_neg hk]
   simp
 | p::P,w::vs,i+1,m,nd,h1,h2,hk=>by
   show bindC kindOf ((p,w)::P.zip vs) m x=_
   unfold bindC
   exact tV (i:=i) (List.nodup_cons.mp nd).2 (by simpa using h1) (by simpa using h2) hk
noncomputable def start(N:List Str)(vs:List V):St:=vs.map some++List.replicate (N.length-vs.length) none
noncomputable def mO(CX:CXT)(P:Program)(w:World)(K:PySem.W.Frag)(mg:Str->Option Value)(base:Heap)(N:List Str)(qual:Str)(scope:Scope)(f:Addr)(cd:Value)(A:Around)(outer:List Env)(s:Shared)(H:Hp)(E:XK):Cx where
 prog:=P
 w:=w
 K:=K
 mg:=mg
 base:=base
 A:=A.deeper (envOfC qual scope s.heap.objs.size f cd)
 N:=N
 s₀:=s
 H₀:=H
 env:=envOfC qual scope s.heap.objs.size f cd
 outer:=outer
 stack:=envOfC qual scope s.heap.objs.size f cd::outer
 ex:=[]
 calm:=true
 fn:=λ _=>true
 pn:=[]
 xe:=λ e s'=>wpAny (model P w) (A.deeper (envOfC qual scope s.heap.objs.size f cd)) (leaving (envOfC qual scope s.heap.objs.size f cd) e) (λ _ s''=>CX outer H s E e s'') (λ e' s''=>CX outer H s E e' s'') s'
theorem wH{sc:Scope}{n:Nat}{x:Str}(h:sc.names.lookup x=some .cell):∃c,(cellsFrom n sc.names []).lookup x=some c:=by
 have q:=PySem.W.cellsFrom_some sc.names n [] (.inl h)
 exact Option.isSome_iff_exists.mp q
theorem Ie{CX:CXT}{P:Program}{w:World}{K:PySem.W.Frag}{mg:Str->Option Value}{base:Heap}{N ps:List Str}{qual:Str}{scope:Scope}{f:Addr}{cd:Value}{A:Around}{outer:List Env}{s s1:Shared}{H:Hp}{E:XK}{us:List Value}{vs:List V}
 (S:FnScope N ps scope)(hd:A.handled=none)(e0:Env0 P w K mg base A outer s H)(hl:vs.length=ps.length)(r:Vals vs us)
 (x:InCallC s s.heap.objs.size (bindL (envOfC qual scope s.heap.objs.size f cd).kindOf (ps.zip us) λ _=>none) (cellsFrom (s.heap.objs.size+1) scope.names []) (bindC (envOfC qual scope s.heap.objs.size f cd).kindOf (ps.zip us) λ _=>none) s1):
 Inv (mO CX P w K mg base N qual scope f cd A outer s H E) [] (start N vs) H s1:=by
 have hpl:ps.length≤N.length:=by have:=congrArg List.length S.pre;rw[List.length_take]at this;omega
 obtain⟨h1,tk,rfl,hk⟩:=x.done
 have noA:∀b:Addr,b∉(mO CX P w K mg base N qual scope f cd A outer s H E).ex:=λ b z=>absurd (show b∈([]:List Addr)from z) (by simp)
 refine⟨⟨e0.mod,S.kind,rfl,rfl,y9 _,λ y z c h1 h2=>?_,λ y hy=>?_,λ y c _ h=>?_,λ _=>hd,Around.frames_deeper e0.frames,.inr ⟨rfl,rfl⟩,λ b z=>absurd z (noA b),e0.bs,e0.bsz,λ b _ _=>noA b,λ b z=>absurd z (noA b),e0.funs,e0.frf⟩,
  rfl,e0.bare,Un.kept hk,⟨_,x.toInCall.ns,λ i y v h1 h2 h3=>?_⟩,λ y c h=>⟨_,x.cell y c h⟩,e0.hok.fresh (y9 _),λ y c h=>?_,λ p hp=>absurd (show p∈([]:List (Addr×Obj))from hp) (by simp),e0.hok.kept hk,?_⟩
 . exact name_of_addr x.apart (PySem.mem_of_lookup h1) (PySem.mem_of_lookup h2)
 . have hy:scope.names.lookup y=some .cell∨scope.names.lookup y=some .free:=hy
   rcases hy with hy | hy
   . exact wH hy
   . exact absurd rfl (S.nofree _ (PySem.mem_of_lookup hy))
 . exact Nat.le_of_lt (x.above y c (PySem.mem_of_lookup h))
 . have hi:i<vs.length:=by
    unfold start at h2
    by_cases hi:i<vs.length
    . exact hi
    . rw[List.getElem?_append_right (by simpa using hi)]at h2
      rw[List.getElem?_replicate]at h2
      split at h2<;>cases h2
   have ha:vs[i]? =some v:=by
    unfold start at h2
    rw[x8 (by simpa using hi),y8]at h2
    cases e:vs[i]? with
    | none=>rw[e]at h2;cases h2
    | some a=>rw[e]at h2;cases h2;rfl
   obtain⟨u,hu,rv⟩:=r.get ha
   have hp:ps[i]? =some y:=by
    rw[←S.pre,List.getElem?_take_of_lt (by omega)];exact h1
   have ndP:ps.Nodup:=by rw[←S.pre];exact S.nd.sublist (List.take_sublist _ _)
   refine⟨u,rv,?_⟩
   rcases S.par y (y4 hp)with k | k
   . exact .inl ⟨k,ug ndP hp hu k⟩
   . obtain⟨c,e⟩:=wH (n:=s.heap.objs.size+1) k
     refine .inr ⟨.inl k,c,e,?_⟩
     have q:=x.cell y c e
     rw[tV ndP hp hu (by show scope.names.lookup y≠_;rw[k];decide)]at q
     exact q
 . exact e0.hok.fresh (Nat.le_of_lt (x.above y c (PySem.mem_of_lookup h)))
 . unfold start
   show _=N.length
   rw[x6,y7,List.length_replicate]
   omega
theorem Tw{CX:CXT}{P:Program}{w:World}{K:PySem.W.Frag}{mg:Str->Option Value}{base:Heap}{k:Nat}{f:Addr}{name qual:Str}{params:Arguments}{body:List Stmt}{scope:Scope}{dV kV doc pm cdv ct oc:Value}{an od:Option Addr}
 {osl:Array (Option Value)}{N ps:List Str}{sp:Sp}(lk:K.lookup f=some ⟨oc,od,.func (PySem.W.fnOf name qual params body scope dV kV doc pm an cdv ct),osl⟩)(hcd:PySem.W.codeIn K cdv qual=true)(S:FnScope N ps scope)
 (len:∀vs H Q E,sp vs H Q E->vs.length=ps.length)
 (hbody:∀(A:Around)(outer:List Env)(s:Shared)(H:Hp)(vs:List V)(Q:VK)(E:XK),Room k (A.deeper (envOfC qual scope s.heap.objs.size f cdv))->sp vs H Q E->
  ∃t,PSs (mO CX P w K mg base N qual scope f cdv A outer s H E) body t/\t {nx:=λ _ H'=>Q .non H',rt:=Q} (start N vs) H):
 FnOk P w K mg base CX (k+1) f (PySem.W.fnOf name qual params body scope dV kV doc pm an cdv ct) ps sp:=by
 refine⟨len,λ A outer s H args us vs Q E hr e0 hb r hsp=>?_⟩
 have hl:=len _ _ _ _ hsp
 have KX:K.In s.heap:=e0.mod.kin.keeps λ b o e=>(e0.bs b o e).1
 have lim:s.heap.NoLimit:=e0.mod.nolimit.keeps λ b o e=>(e0.bs b o e).1
 have hkind:∀y∈ps.zip us,scope.names.lookup y.1=some .local∨(scope.names.lookup y.1=some .cell/\((cellsFrom (s.heap.objs.size+1) scope.names []).lookup y.1).isSome=true):=λ⟨n,v⟩ hy=>by
  rcases S.par n (List.of_mem_zip hy).1 with q | q
  . exact .inl q
  . exact .inr ⟨q,PySem.W.cellsFrom_some _ _ _ (.inl q)⟩
 refine codeAny_call_function hr.depth (KX _ _ lk) rfl S.co S.gen rfl (PySem.W.codeRec_of KX hcd) (hb _ _ _ _ ?_)
 refine wpAny_newFunctionEnv_cells S.kind hkind λ env he s1 x=>?_
 subst he
 refine⟨lim.keeps x.toInCall.keep,codeAny_func ?_⟩
 obtain⟨t,ht,hq⟩:=hbody A outer s H vs Q E (hr.deeper _) hsp
 have I:Inv (mO CX P w K mg base N qual scope f cdv A outer s H E) [] (start N vs) H s1:=Ie S hr.hd e0 hl r x
 refine wpAny_mono (ht [] s1 (start N vs) H _ I hq) (λ fl s' hs=>?_) λ e s' hs=>hs
 have fin:∀{σ':St}{H':Hp}{v:V}{u:Value},Inv (mO CX P w K mg base N qual scope f cdv A outer s H E) [] σ' H' s'->RelV v u->Q v H'->CE outer P w H s Q u s':=
  λ{σ' H' v u} J rv q=>⟨v,H',J.os,J.bare,J.base,J.hok,rv,q⟩
 cases fl with
 | ret u=>
   obtain⟨v,σ',H',J,rv,q⟩:=hs
   exact fin J rv q
 | next=>
   obtain⟨σ',H',J,q⟩:=hs
   exact fin (v:=V.non) (u:=Value.none) J rfl q
 | brk=>
   obtain⟨_,_,_,q⟩:=hs
   exact False.elim q
 | cont=>
   obtain⟨_,_,_,q⟩:=hs
   exact False.elim q
end L2
namespace L2
open PySem PySem.Spec PyProof.Rows
section
variable {X : Cx} {x : Str} {p pos : Pos} {e : Expr} {es : List Expr} {t : TA} {id T : String} {r : List V -> Hp -> VK -> Prop}
noncomputable def tCB(r:List V->Hp->VK->Prop)(t:TA):TE:=λ σ H Q=>t σ H λ vs H1=>r vs H1 Q
theorem La(hc:eZ X (.builtin id) r)(hg:Gl X x)(hm:X.mg x=none)(hv:bootBuiltins x=some (.builtin id))(ha:PA X (e::es) t)(hn:x≠"__name__":=by decide)(hdb:(x==("__debug__":Str))=false:=by decide)
 (he:starEach (e::es) X.env=(false,eval e X.env)::starEach es X.env:=by rfl)(hpl:(backTo pos (starEach es X.env)).any (·.1)=false:=by rfl):PE X (.Call (.Name x p) (e::es) [] pos) (tCB r t):=by
 intro pins s σ H Q I h
 refine wpAny_Call_Name_kw (bL I hg hm hv ?_ hn hdb)
 exact PyProof.Rows.callWith_builtin1 (thn (ha pos pins s σ H _ I h) λ us s1 ⟨vs,H1,I1,r1,q1⟩=>hc pins s1 σ H1 vs us Q I1 r1 q1) he hpl
end
end L2
namespace HT
open PySem PyProof.Rows
section
variable {prog : Program} {w : World} {A : Around} {E : Value -> Shared -> Prop} {s : Shared}
theorem cat_tup{t b:Addr}{vs ws:List Value}{Q:Value->Shared->Prop}(ht:IsTup s.heap t vs.toArray)(hb:IsTup s.heap b ws.toArray)(hv:vs≠[])
 (h1:ws=[]->Q (.ref t) s)(h2:ws≠[]->Q (.ref s.heap.objs.size) {s with heap:=s.heap.push {cls:=.type "tuple",data:=.seq (vs++ws).toArray}})
 (hsz:vs.length+ws.length≤sizeLine):wpAny (model prog w) A (binaryOp .Add (.ref t) (.ref b)) Q E s:=by
 obtain⟨⟨cls,dd,data,sl⟩,ho,hc,n,hd⟩:=id ht
 obtain⟨⟨cls2,dd2,data2,sl2⟩,ho2,hc2,n2,hd2⟩:=id hb
 simp only at hc hd hc2 hd2
 subst hc hd hc2 hd2
 have e:vs.toArray++ws.toArray=(vs++ws).toArray:=by simp
 by_cases hw:ws=[]
 . exact concat_meets ⟨_,ho,rfl⟩ ⟨_,ho2,rfl⟩ noFill_tuple_add seq_tuple_add PySem.F.slot_tuple_add PySem.F.entry_tuple_add (PySem.F.args_tuple_add_2 _ _)
    (tuple_addW1 t b vs.toArray ws.toArray n n2 dd dd2 sl sl2 (by simpa using hv) (by simp[hw])) ⟨ho,ho2,h1 hw⟩
 . refine concat_meets ⟨_,ho,rfl⟩ ⟨_,ho2,rfl⟩ noFill_tuple_add seq_tuple_add PySem.F.slot_tuple_add PySem.F.entry_tuple_add (PySem.F.args_tuple_add_2 _ _)
    (tuple_addW2 t b vs.toArray ws.toArray n n2 dd dd2 sl sl2 (by simpa using hv) (by simpa using hw) (by rw[x4,x4];exact hsz)) ⟨ho,ho2,?_⟩
   rw[e]
   exact h2 hw
noncomputable def sIx(n d:Nat):Option Int->Nat
 | none=>d
 | some v=>if v<0 then(v+(n:Int)).toNat else min v.toNat n
theorem sIx_none(n d:Nat):sIx n d none=d:=rfl
theorem sIx_nat(n d k:Nat):sIx n d (some (k:Int))=min k n:=by
 show(if(k:Int)<0 then((k:Int)+(n:Int)).toNat else min (k:Int).toNat n)=min k n
 rw[if_neg (by omega),Int.toNat_natCast]
theorem Rj(n d:Nat)(hd:d≤n)(o:Option Int):sIx n d o≤n:=by
 cases o with
 | none=>exact hd
 | some v=>
   show(if v<0 then(v+(n:Int)).toNat else min v.toNat n)≤n
   by_cases hv:v<0
   . rw[if_pos hv];omega
   . rw[if_neg hv];exact Nat.min_le_right _ _
theorem Cu(v:Int)(n d:Nat):(if v<0 then max (v+(n:Int)) 0 else min v (n:Int))=((sIx n d (some v):Nat):Int):=by
 show(if v<0 then max (v+(n:Int)) 0 else min v (n:Int))=(((if v<0 then(v+(n:Int)).toNat else min v.toNat n):Nat):Int)
 by_cases hv:v<0
 . simp only[if_pos hv];omega
 . simp only[if_neg hv];omega
theorem Gi(lo hi:Option Int)(n:Nat):Builtin.Slice.sliceAdjust lo hi 1 (n:Int)=(((sIx n 0 lo:Nat):Int),((sIx n n hi:Nat):Int)):=by
 have h1:¬((1:Int)<0):=by omega
 unfold Builtin.Slice.sliceAdjust
 simp only[h1,if_false]
 refine Prod.ext ?_ ?_
 . cases lo with
   | none=>rfl
   | some v=>exact Cu v n 0
 . cases hi with
   | none=>rfl
   | some v=>exact Cu v n n
theorem Gh(i j:Nat):Builtin.Slice.slicePlaces (i:Int) (j:Int) 1=j-i:=by
 unfold Builtin.Slice.slicePlaces
 have h1:(1:Int)>0:=by omega
 simp only[h1,if_true,Int.ediv_one]
 split<;>omega
theorem qx{v:Value}{o:Option Int}{Q:Option Int->Shared->Prop}(p:IsPart v o)(h:Q o s):wpAny (model prog w) A (Builtin.Slice.slicePartIndex v) Q E s:=by
 cases p with
 | none=>exact slicePart_none h
 | int i t=>exact slicePart_int h
theorem sliceApplied_gen{sl:Addr}{vl vu:Value}{lo hi:Option Int}{n:Nat}{Q:Int×Int×Nat->Shared->Prop}(hs:s.heap.IsSliceOf sl vl vu .none)(pl:IsPart vl lo)(pu:IsPart vu hi)
 (h:Q (((sIx n 0 lo:Nat):Int),1,sIx n n hi-sIx n 0 lo) s):wpAny (model prog w) A (Builtin.Slice.sliceApplied (.ref sl) (pure (n:Int))) Q E s:=by
 obtain⟨os,hos,hcs,hds⟩:=id hs
 unfold Builtin.Slice.sliceApplied Builtin.Slice.sliceFields
 refine wpAny_bind (wpAny_bind (wpAny_field hos hds (x:=vl) rfl (wpAny_bind (wpAny_field hos hds (x:=vu) rfl (wpAny_bind (wpAny_field hos hds (x:=.none) rfl (wpAny_pure ?_)))))))
 refine wpAny_bind (slicePart_none ?_)
 show wpAny _ _ (if((1:Int)==0)=true then _ else _) _ _ s
 rw[if_neg (by decide)]
 refine wpAny_bind (qx pl (wpAny_bind (qx pu (wpAny_bind (wpAny_pure ?_)))))
 show wpAny _ _ (match Builtin.Slice.sliceAdjust lo hi 1 (n:Int)with | (lo,hi)=>pure (lo,(1:Int),Builtin.Slice.slicePlaces lo hi 1)) _ _ s
 rw[Gi lo hi n]
 show wpAny _ _ (pure (((sIx n 0 lo:Nat):Int),(1:Int),Builtin.Slice.slicePlaces ((sIx n 0 lo:Nat):Int) ((sIx n n hi:Nat):Int) 1)) _ _ s
 rw[Gh]
 exact wpAny_pure h
theorem JZ(xs:Array Value)(i k:Nat):((List.range k).filterMap λ(m:Nat)=>xs[((i:Int)+(m:Int)*1).toNat]?).toArray=((xs.toList.drop i).take k).toArray:=by
 have e:(λ(m:Nat)=>xs[((i:Int)+(m:Int)*1).toNat]?)=λ m=>xs[i+m]?:=by
  funext m
  have:((i:Int)+(m:Int)*1).toNat=i+m:=by omega
  rw[this]
 rw[e]
 have:=pick_run xs i k
 rw[List.filterMap_map]at this
 have e2:((λ x=>xs[x]?) ∘ λ x=>i+x)=λ m=>xs[i+m]?:=rfl
 rw[e2]at this
 rw[this]
theorem getItem_tuple_cut{t sl:Addr}{items:Array Value}{vl vu:Value}{lo hi:Option Int}{Q:Value->Shared->Prop}(ht:IsTup s.heap t items)(hs:s.heap.IsSliceOf sl vl vu .none)(pl:IsPart vl lo)(pu:IsPart vu hi)
 (hw:¬(sIx items.size 0 lo=0/\sIx items.size items.size hi=items.size))
 (h:Q (.ref s.heap.objs.size) {s with heap:=s.heap.push {cls:=.type "tuple",data:=.seq ((items.toList.drop (sIx items.size 0 lo)).take (sIx items.size items.size hi-sIx items.size 0 lo)).toArray}})
 (hsz:items.size≤sizeLine):wpAny (model prog w) A (getItem (.ref t) (.ref sl)) Q E s:=by
 have htake:sizeOk (.seq ((items.toList.drop (sIx items.size 0 lo)).take (sIx items.size items.size hi-sIx items.size 0 lo)).toArray):=by
  show((items.toList.drop (sIx items.size 0 lo)).take (sIx items.size items.size hi-sIx items.size 0 lo)).toArray.size≤sizeLine
  rw[x4,List.length_take,List.length_drop,Array.length_toList]
  omega
 have hj:sIx items.size items.size hi≤items.size:=Rj _ _ (y9 _) hi
 obtain⟨os,hos,hcs,hds⟩:=id hs
 have hTs:s.TypeIs (.ref sl) "slice":=⟨os,hos,hcs⟩
 unfold getItem
 try with_reducible refine wpAny_holding ?_
 first | refine wpAny_bind (wpAny_pure ?_) | skip
 refine wpAny_bind (wpAny_sequenceKey ht.typeIs (by decide) ?_)
 refine wpAny_bind (wpAny_callSpecial?_slot (name:=Str.ofString "__getitem__") ht.typeIs PyProof.Rows.slot_tuple_getitem
  (wpAny_call_entry PyProof.Rows.slot_tuple_getitem ht.typeIs entry_tuple_getitem ?_ (args_tuple_getitem _ _)))
 show wpAny _ _ (Builtin.Tuple.tupleItemsOf (.ref t)>>=_) _ _ s
 refine wpAny_bind (tupleItemsOf_ ht ?_)
 refine wpAny_bind (wpAny_typeOf hTs ?_)
 rw[if_pos (by decide)]
 refine wpAny_bind (sliceApplied_gen hs pl pu ?_)
 have hno:¬((((sIx items.size 0 lo:Nat):Int)==0&&(1:Int)==1&&(sIx items.size items.size hi-sIx items.size 0 lo)==items.size)=true):=by
  intro q
  rw[Bool.and_eq_true,Bool.and_eq_true]at q
  have q1:((sIx items.size 0 lo:Nat):Int)=0:=eq_of_beq q.1.1
  have q2:sIx items.size items.size hi-sIx items.size 0 lo=items.size:=eq_of_beq q.2
  exact hw ⟨by omega,by omega⟩
 show wpAny _ _ (if(((sIx items.size 0 lo:Nat):Int)==0&&(1:Int)==1&&(sIx items.size items.size hi-sIx items.size 0 lo)==items.size)=true then _ else _) _ _ s
 rw[if_neg hno,JZ]
 first
  | exact wpAny_bind (m:=Builtin.Tuple.tupleExact _) (wpAny_newObj_type (wpAny_pure ⟨_,rfl,wpAny_pure h⟩) htake)
  | exact wpAny_bind (m:=Builtin.Tuple.tupleExact _) (wpAny_newObj_type (wpAny_bind (wpAny_pure (wpAny_pure ⟨_,rfl,wpAny_pure h⟩))) htake)
  | exact wpAny_bind (wpAny_bind (m:=Builtin.Tuple.tupleExact _) (wpAny_newObj_type (wpAny_pure (wpAny_pure ⟨_,rfl,wpAny_pure h⟩)) htake))
  | exact wpAny_bind (wpAny_bind (m:=Builtin.Tuple.tupleExact _) (wpAny_newObj_type (wpAny_pure ⟨_,rfl,wpAny_pure h⟩) htake))
end
end HT
namespace L2
open PySem PySem.Spec PyProof.Rows
noncomputable abbrev TO:=St->Hp->(Option Int->Hp->Prop)->Prop
theorem intsAre_of{ns:List Int}:∀{us:List Value},Vals (ns.map V.int) us->IntsAre us ns:=by
 induction ns with
 | nil=>intro us r;rw[List.map_nil]at r;cases r;exact .nil
 | cons n ns ih=>
   intro us r
   rw[List.map_cons]at r
   cases r with
   | cons r1 r2=>
     obtain⟨t,e⟩:=r1
     subst e
     exact .cons n t (ih r2)
section
variable {X : Cx} {e : Expr} {te : TE} {lo hi : Option Expr} {tl th : TO} {pos p2 : Pos}
noncomputable def SlR(X:Cx)(r:V->Option Int->Option Int->Hp->VK->Prop):Prop:=
 ∀ (pins:List (Addr×Obj))(s:Shared)(σ:St)(H:Hp)(x:V)(v vl vu:Value)(lo hi:Option Int)(sl:Addr)(Q:VK),Inv X pins σ H s->RelV x v->s.heap.IsSliceOf sl vl vu .none->IsPart vl lo->IsPart vu hi->r x lo hi H Q->
   ∃T id,typeLookup (.type T) "__getitem__"=pure (some (.builtin id))/\s.TypeIs v T/\wpAny (model X.prog X.w) X.A (getItem v (.ref sl)) (EP X pins σ Q) X.xe s
noncomputable def mC(xs:List V)(lo hi:Option Int):List V:=(xs.drop (HT.sIx xs.length 0 lo)).take (HT.sIx xs.length xs.length hi-HT.sIx xs.length 0 lo)
theorem nZ(xs:List V)(lo hi:Option Int):(mC xs lo hi).length≤xs.length:=by
 unfold mC
 rw[List.length_take,List.length_drop]
 omega
noncomputable def UW(K:PySem.W.Frag):V->Option Int->Option Int->Hp->VK->Prop:=λ x lo hi H Q=>∃a xs,x=.ref a/\SqT K H a xs/\
 ¬(HT.sIx xs.length 0 lo=0/\HT.sIx xs.length xs.length hi=xs.length)/\∀p,H p=none->Q (.ref p) (upd H p (.tup (mC xs lo hi)))
theorem Qs:SlR X (UW X.K):=by
 intro pins s σ H x v vl vu lo hi sl Q I rx hs pl pu h
 obtain⟨a,xs,rfl,hx,hw,q⟩:=h
 cases rx
 obtain⟨its,r,ht,hz⟩:=I.tuple hx
 have hlen:its.toArray.size=xs.length:=by rw[x4];exact r.length.symm
 refine⟨"tuple",_,PyProof.Rows.slot_tuple_getitem.lookup,ht.typeIs,?_⟩
 refine HT.getItem_tuple_cut ht hs pl pu (by rw[hlen];exact hw) ?_ (by rw[hlen];exact hz)
 rw[hlen]
 refine⟨.ref s.heap.objs.size,_,I.laid (t':=s.toks) (o:=.tup (mC xs lo hi)) (λ b ob q=>Heap.get?_push_of_some _ q) (y9 _) ?_,rfl,q _ (I.hok.fresh (y9 _))⟩
 exact⟨Nat.le_trans (nZ xs lo hi) hz,_,(r.drop (HT.sIx xs.length 0 lo)).take (HT.sIx xs.length xs.length hi-HT.sIx xs.length 0 lo),IsTup.new _ _⟩
noncomputable def R6(K:PySem.W.Frag):R2:=λ x y H Q=>∃a b xs ys,x=.ref a/\y=.ref b/\SqT K H a xs/\SqT K H b ys/\xs≠[]/\xs.length+ys.length≤sizeLine/\
 (ys=[]->Q (.ref a) H)/\(ys≠[]->∀p,H p=none->Q (.ref p) (upd H p (.tup (xs++ys))))
theorem Vals.nil_iff{xs:List V}{us:List Value}(r:Vals xs us):us=[]↔xs=[]:=by
 cases r with
 | nil=>simp
 | cons _ _=>simp
theorem Nf:OpR X (binaryOp .Add) (R6 X.K):=by
 intro pins s σ H x y v u Q I rx ry h
 obtain⟨a,b,xs,ys,rfl,rfl,ha,hb,hx,hz,q1,q2⟩:=h
 cases rx
 cases ry
 obtain⟨its,r1,p1,_⟩:=I.tuple ha
 obtain⟨its2,r2,p2,_⟩:=I.tuple hb
 refine HT.cat_tup p1 p2 (λ z=>hx (r1.nil_iff.mp z)) (λ z=>⟨.ref a,H,I,rfl,q1 (r2.nil_iff.mp z)⟩) (λ z=>?_) (by rw[←r1.length,←r2.length];exact hz)
 refine⟨.ref s.heap.objs.size,_,I.laid (t':=s.toks) (o:=.tup (xs++ys)) (λ b ob q=>Heap.get?_push_of_some _ q) (y9 _) ?_,rfl,q2 (λ w=>z (r2.nil_iff.mpr w)) _ (I.hok.fresh (y9 _))⟩
 exact⟨by rw[x6];exact hz,_,r1.append r2,IsTup.new _ _⟩
end
end L2
namespace L2
open PySem PySem.Spec PyProof.Rows
noncomputable def ixN(n:Nat)(i:Int):Option Nat:=if 0≤i then(if i<n then some i.toNat else none)else if-(n:Int)≤i then some (i+n).toNat else none
noncomputable def atI{α:Type}(xs:List α)(i:Int):Option α:=(ixN xs.length i).bind λ j=>xs[j]?
theorem DP{n:Nat}{i:Int}{j:Nat}(h:ixN n i=some j):seqIndex? i n=some j/\j<n/\ -(n:Int)≤i/\i<n:=by
 unfold ixN at h
 by_cases h0:0≤i
 . rw[if_pos h0]at h
   by_cases h1:i<n
   . rw[if_pos h1]at h
     have e:i.toNat=j:=Option.some.inj h
     exact⟨by rw[seqIndex_of h0 h1,e],by omega,by omega,h1⟩
   . rw[if_neg h1]at h;cases h
 . rw[if_neg h0]at h
   by_cases h1: -(n:Int)≤i
   . rw[if_pos h1]at h
     have e:(i+n).toNat=j:=Option.some.inj h
     exact⟨by rw[seqIndex_neg (by omega) h1,e],by omega,h1,by omega⟩
   . rw[if_neg h1]at h;cases h
theorem Cr{α:Type}{xs:List α}{i:Int}{v:α}(h:atI xs i=some v):∃j,seqIndex? i xs.length=some j/\xs[j]? =some v/\j<xs.length/\ -(xs.length:Int)≤i/\i<xs.length:=by
 unfold atI at h
 cases e:ixN xs.length i with
 | none=>rw[e]at h;cases h
 | some j=>
   rw[e]at h
   obtain⟨h1,h2,h3,h4⟩:=DP e
   exact⟨j,h1,h,h2,h3,h4⟩
theorem aY{α:Type}{xs:List α}{j:Nat}{v:α}(h:xs[j]? =some v):atI xs (j:Int)=some v:=by
 have hj:j<xs.length:=(z0.mp h).1
 have e:ixN xs.length (j:Int)=some j:=by
  unfold ixN
  rw[if_pos (by omega),if_pos (by omega)];simp
 unfold atI;rw[e];exact h
noncomputable def Dj(b:Expr):Prop:=∀o i,subscripted b false o i=operate [o,i] (getItem o i)
noncomputable def IxR(X:Cx)(r:R2):Prop:=
 ∀ (value slice:Expr)(pins:List (Addr×Obj))(s:Shared)(σ:St)(H:Hp)(x y:V)(v u:Value)(Q:VK),Inv X pins σ H s->RelV x v->RelV y u->r x y H Q->
   subscripted slice false v u=operate [v,u] (getItem v u)->wpAny (model X.prog X.w) X.A (subscriptTail value slice v u) (EP X pins σ Q) X.xe s
noncomputable def MtR(X:Cx)(id:String)(r:V->List V->Hp->VK->Prop):Prop:=
 ∀ (pins:List (Addr×Obj))(s:Shared)(σ:St)(H:Hp)(x:V)(xs:List V)(v:Value)(us:List Value)(Q:VK),Inv X pins σ H s->RelV x v->Vals xs us->r x xs H Q->
   wpAny (model X.prog X.w) X.A (call (.builtin id) (v::us)) (EP X pins σ Q) X.xe s
section
variable {X : Cx} {a b : Expr} {ta tb : TE} {pos : Pos}
noncomputable def Uz(K:PySem.W.Frag):R2:=λ x y H Q=>∃p xs i v,x=.ref p/\y=.int i/\SqL K H p xs/\atI xs i=some v/\Q v H
noncomputable def Uu(K:PySem.W.Frag):R2:=λ x y H Q=>∃p xs i v,x=.ref p/\y=.int i/\SqT K H p xs/\atI xs i=some v/\Q v H
theorem CJ:IxR X (Uz X.K):=by
 intro value slice pins s σ H x y v u Q I rx ry h hs
 obtain⟨p,xs,i,z,rfl,rfl,hq,he,q⟩:=h
 cases rx
 obtain⟨t,rfl⟩:=ry
 obtain⟨its,r,pl,hz⟩:=I.list hq
 obtain⟨j,h1,h2,h3,h4,h5⟩:=Cr he
 obtain⟨w,ew,rw'⟩:=r.get h2
 have hl:=r.length
 have hn:=qF
 have fin:EP X pins σ Q w s:=⟨z,H,I,rw',q⟩
 by_cases h0:0≤i
 . have hj:i.toNat=j:=by
    rw[seqIndex_of h0 h5]at h1
    exact Option.some.inj h1
   exact item_listR pl.isList h0 (by omega) (by rw[hj];simpa using ew) fin hs
 . have hj:(i+(its.toArray.size:Int)).toNat=j:=by
    rw[seqIndex_neg (by omega) h4]at h1
    rw[x4,←hl]
    exact Option.some.inj h1
   exact subscriptTail_builtinR (x:=w) pl.isList.typeIs slot_list_getitem.lookup
    (wpAny_getItem_list_neg (Q:=λ r s'=>r=w/\EP X pins σ Q r s') pl.isList (by omega) (by rw[x4]<;>omega) (by omega) (by rw[hj];simpa using ew) ⟨rfl,fin⟩) hs
theorem R0:IxR X (Uu X.K):=by
 intro value slice pins s σ H x y v u Q I rx ry h hs
 obtain⟨p,xs,i,z,rfl,rfl,hq,he,q⟩:=h
 cases rx
 obtain⟨t,rfl⟩:=ry
 obtain⟨its,r,pl,hz⟩:=I.tuple hq
 obtain⟨j,h1,h2,h3,h4,h5⟩:=Cr he
 obtain⟨w,ew,rw'⟩:=r.get h2
 have hl:=r.length
 have hn:=qF
 have fin:EP X pins σ Q w s:=⟨z,H,I,rw',q⟩
 exact subscriptTail_builtinR (x:=w) pl.typeIs slot_tuple_getitem.lookup
  (getItem_tuple (j:=j) (Q:=λ r s'=>r=w/\EP X pins σ Q r s') pl (by omega) (by omega) (by rw[x4,←hl];exact h1) (by simpa using ew) ⟨rfl,fin⟩) hs
theorem Fz(its:List Value)(n j:Nat)(u:Value):Obj.mapSeq (·.setIfInBounds j u) {cls:=.type "list",data:=.seq its.toArray n}={cls:=.type "list",data:=.seq (its.set j u).toArray n}:=by
 simp[Obj.mapSeq]
theorem Inv.lst{pins:List (Addr×Obj)}{σ:St}{H:Hp}{s:Shared}{p:Addr}{xs:List V}(I:Inv X pins σ H s)(h:H p=some (.lst xs)):
 ∃(its:List Value) (n:Nat),Vals xs its/\s.heap.get? p=some {cls:=.type "list",data:=.seq its.toArray n}/\xs.length≤sizeLine:=by
 obtain⟨z,its,n,r,e⟩:=I.hok p _ h
 exact⟨its,n,r,e,z⟩
theorem Inv.lstUpd{pins:List (Addr×Obj)}{σ:St}{H:Hp}{s:Shared}{p:Addr}{xs ys:List V}{its its':List Value}{n n':Nat}{f:Obj->Obj}(I:Inv X pins σ H s)(h:H p=some (.lst xs))
 (ho:s.heap.get? p=some {cls:=.type "list",data:=.seq its.toArray n})(hf:f {cls:=.type "list",data:=.seq its.toArray n}={cls:=.type "list",data:=.seq its'.toArray n'})(r:Vals ys its')(hz:ys.length≤sizeLine)(t:Nat):
 Inv X pins σ (upd H p (.lst ys)) {s with heap:=s.heap.update p f,toks:=t}:=by
 have e:(s.heap.update p f).get? p=some {cls:=.type "list",data:=.seq its'.toArray n'}:=by
  rw[Heap.get?_update_self f ho (by rw[hf]<;>rfl),hf]
 refine I.write (x:=p) (e:=p) (by rw[h];trivial) (.inl rfl) (λ b u hb q=>(Heap.get?_update_other _ _ (Ne.symm hb)).trans q) ⟨_,e⟩ ?_
 exact⟨hz,its',n',r,e⟩
noncomputable def Uc:V->V->V->Hp->(Hp->Prop)->Prop:=λ o i v H Q=>∃p xs k j,o=.ref p/\i=.int k/\H p=some (.lst xs)/\ixN xs.length k=some j/\Q (upd H p (.lst (xs.set j v)))
theorem set_list:Uo X Uc:=by
 intro pins s σ H o i v ov iv u Q I ro ri rv h
 obtain⟨p,xs,k,j,rfl,rfl,hp,hj,q⟩:=h
 cases ro
 obtain⟨t,rfl⟩:=ri
 obtain⟨its,n,r,ho,hz⟩:=I.lst hp
 obtain⟨h1,h2,h3,h4⟩:=DP hj
 have hl:=r.length
 have hn:=qF
 have I':Inv X pins σ (upd H p (.lst (xs.set j v))) {s with heap:=s.heap.update p (Obj.mapSeq (·.setIfInBounds j u))}:=
  I.lstUpd hp ho (Fz its n j u) (r.set rv j) (by rw[List.length_set];exact hz) s.toks
 by_cases h0:0≤k
 . have hk:k.toNat=j:=by
    rw[seqIndex_of h0 h4]at h1
    exact Option.some.inj h1
   exact PySem.W.ki_setAt ho h0 (by omega) (by rw[x4,←hl];exact h4) (by rw[hk];exact⟨_,I',q⟩)
 . have hk:(k+(its.toArray.size:Int)).toNat=j:=by
    rw[seqIndex_neg (by omega) h3]at h1
    rw[x4,←hl]
    exact Option.some.inj h1
   exact PySem.W.ki_setBack ho (by omega) (by rw[x4,←hl];exact h3) (by omega) (by rw[hk];exact⟨_,I',q⟩)
theorem yR(lo hi:Option Int)(n:Nat):(sliceBounds lo hi none n).1=((HT.sIx n 0 lo:Nat):Int)/\(sliceBounds lo hi none n).2.1=((HT.sIx n n hi:Nat):Int)/\(sliceBounds lo hi none n).2.2=1:=by
 refine⟨?_,?_,rfl⟩
 . cases lo with
   | none=>simp[sliceBounds,HT.sIx]
   | some i=>
     simp only[sliceBounds,HT.sIx,Option.getD_none,show(1:Int)>0 by decide,if_true]
     by_cases h:i<0
     . simp only[h,if_true]<;>omega
     . simp only[h,if_false]<;>omega
 . cases hi with
   | none=>simp[sliceBounds,HT.sIx]
   | some i=>
     simp only[sliceBounds,HT.sIx,Option.getD_none,show(1:Int)>0 by decide,if_true]
     by_cases h:i<0
     . simp only[h,if_true]<;>omega
     . simp only[h,if_false]<;>omega
theorem uX(its:List Value)(lo hi:Option Int):slicePick its.toArray lo hi none=((its.drop (HT.sIx its.length 0 lo)).take (HT.sIx its.length its.length hi-HT.sIx its.length 0 lo)).toArray:=by
 obtain⟨h1,h2,h3⟩:=yR lo hi its.toArray.size
 unfold slicePick
 rw[h1,h2,h3]
 simp only[sliceRange_one,pick_run,x4]<;>rfl
noncomputable def Uv(K:PySem.W.Frag):V->Option Int->Option Int->Hp->VK->Prop:=λ x lo hi H Q=>∃a xs,x=.ref a/\SqL K H a xs/\∀p,H p=none->Q (.ref p) (upd H p (.lst (mC xs lo hi)))
theorem CT:SlR X (Uv X.K):=by
 intro pins s σ H x v vl vu lo hi sl Q I rx hs pl pu h
 obtain⟨a,xs,rfl,hx,q⟩:=h
 cases rx
 obtain⟨its,r,ht,hz⟩:=I.list hx
 have hlen:=r.length
 refine⟨"list",_,slot_list_getitem.lookup,ht.isList.typeIs,?_⟩
 refine wpAny_getItem_list_slice ht.isList hs pl pu .none (by simp) ?_ (by rw[x4]<;>omega)
 rw[uX,←hlen]
 refine⟨.ref s.heap.objs.size,_,I.laid (t':=s.toks) (o:=.lst (mC xs lo hi)) (λ b ob q=>Heap.get?_push_of_some _ q) (y9 _) ?_,rfl,q _ (I.hok.fresh (y9 _))⟩
 exact⟨Nat.le_trans (nZ xs lo hi) hz,_,0,(r.drop (HT.sIx xs.length 0 lo)).take (HT.sIx xs.length xs.length hi-HT.sIx xs.length 0 lo),Heap.get?_push_size _ rfl⟩
theorem gM:eZ X (.builtin "len") (λ xs H Q=>∃p ys,xs=[.ref p]/\(SqL X.K H p ys∨SqT X.K H p ys)/\Q (.int ys.length) H):=by
 intro pins s σ H xs us Q I r h
 obtain⟨p,ys,rfl,hq,q⟩:=h
 obtain⟨u,rfl,rx⟩:=vals1 r
 cases rx
 have hn:=qF
 rcases hq with hq | hq
 . obtain⟨its,r',pl,hz⟩:=I.list hq
   have hlen:=r'.length
   exact Calls.call_len_list pl.isList (by simp only[x4]<;>omega) ⟨.int ys.length,H,I.tok _,⟨s.toks+1,by rw[x4,hlen]⟩,q⟩
 . obtain⟨its,r',pl,hz⟩:=I.tuple hq
   have hlen:=r'.length
   exact len_tuple pl (by simp only[x4]<;>omega) ⟨.int ys.length,H,I.tok _,⟨s.toks+1,by rw[x4,hlen]⟩,q⟩
theorem gR:eZ X (.type "list") (λ xs H Q=>∃p ys,xs=[.ref p]/\(SqL X.K H p ys∨SqT X.K H p ys)/\∀l,H l=none->Q (.ref l) (upd H l (.lst ys))):=by
 intro pins s σ H xs us Q I r h
 obtain⟨p,ys,rfl,hq,q⟩:=h
 obtain⟨u,rfl,rx⟩:=vals1 r
 cases rx
 have fin:∀(its:List Value),Vals ys its->ys.length≤sizeLine->∀(h':Heap)(c':Nat),(∀b o',s.heap.get? b=some o'->h'.get? b=some o')->
  h'.get? s.heap.objs.size=some {cls:=.type "list",dict:=none,data:=.seq its.toArray c',slots:=#[]}->EP X pins σ Q (.ref s.heap.objs.size) {s with heap:=h'}:=λ its r' hz h' c' kp e=>
  ⟨.ref s.heap.objs.size,_,I.laid (t':=s.toks) kp (y9 _) (show aX X.prog X.w _ h' _ (.lst ys)from⟨hz,its,c',r',e⟩),rfl,q _ (I.hok.fresh (y9 _))⟩
 rcases hq with hq | hq
 . obtain⟨its,r',pl,hz⟩:=I.list hq
   have hlen:=r'.length
   obtain⟨o,ho,hc,n,hd⟩:=pl.isList
   exact call_list_seq p (.inl rfl) ho hc hd (λ h' c' kp e=>fin its r' hz h' c' kp e) (by simp only[x4]<;>omega)
 . obtain⟨its,r',pl,hz⟩:=I.tuple hq
   have hlen:=r'.length
   obtain⟨o,ho,hc,n,hd⟩:=pl
   exact call_list_seq p (.inr rfl) ho hc hd (λ h' c' kp e=>fin its r' hz h' c' kp e) (by simp only[x4]<;>omega)
theorem j5:eZ X (.type "tuple") (λ xs H Q=>∃p ys,xs=[.ref p]/\((SqL X.K H p ys/\∀l,H l=none->Q (.ref l) (upd H l (.tup ys)))∨(SqT X.K H p ys/\Q (.ref p) H))):=by
 intro pins s σ H xs us Q I r h
 obtain⟨p,ys,rfl,h⟩:=h
 obtain⟨u,rfl,rx⟩:=vals1 r
 cases rx
 rcases h with⟨hq,q⟩ | ⟨hq,q⟩
 . obtain⟨its,r',pl,hz⟩:=I.list hq
   have hlen:=r'.length
   refine call_tuple_list pl.isList (λ h' kp=>?_) (by simp only[x4]<;>omega)
   have I1:Inv X pins σ H {s with heap:=h'}:=I.kept (t':=s.toks) kp
   have I2:Inv X pins σ (upd H h'.objs.size (.tup ys)) {s with heap:=h'.push {cls:=.type "tuple",data:=.seq its.toArray}}:=
    I1.laid (t':=s.toks) (λ b o e=>Heap.get?_push_of_some _ e) (y9 _) (show aX X.prog X.w _ _ _ (.tup ys)from⟨hz,its,r',IsTup.new _ _⟩)
   exact⟨.ref h'.objs.size,_,I2,rfl,q _ (I1.hok.fresh (y9 _))⟩
 . obtain⟨its,r',pl,hz⟩:=I.tuple hq
   exact call_tuple_same pl ⟨.ref p,H,I,rfl,q⟩
noncomputable def tyV(K:PySem.W.Frag)(T:String)(x:V)(H:Hp):Prop:=match x with
 | .str _=>T="str"
 | .int _=>T="int"
 | .ref p=>(T="list"/\∃xs,SqL K H p xs)∨(T="tuple"/\∃o,K.lookup p=some o/\o.cls=.type "tuple"/\o.dict=none)∨
  (T="dict"/\((∃kvs,H p=some (.dK kvs))∨∃kvs,H p=some (.dT kvs)))∨(T="set"/\∃S n,H p=some (.set S n))
 | _=>False
theorem QH{pins:List (Addr×Obj)}{σ:St}{H:Hp}{s:Shared}{T:String}{x:V}{v:Value}(I:Inv X pins σ H s)(r:RelV x v)(ty:tyV X.K T x H):
 s.TypeIs v T/\∀a,v=.ref a->∃ob,s.heap.get? a=some ob/\ob.dict=none:=by
 cases x with
 | str z=>
   obtain⟨t,rfl⟩:=r
   cases (show T="str" from ty)
   exact⟨typeIs_str s z t,λ _ e=>nomatch e⟩
 | int i=>
   obtain⟨t,rfl⟩:=r
   cases (show T="int" from ty)
   exact⟨typeIs_int s i t,λ _ e=>nomatch e⟩
 | ref p=>
   cases r
   rcases ty with⟨rfl,xs,hq⟩ | ⟨rfl,o,hk,hc,hd⟩ | ⟨rfl,hk⟩ | ⟨rfl,S,n,hk⟩
   . obtain⟨its,_,pl,_⟩:=I.list hq
     refine⟨pl.isList.typeIs,λ a e=>?_⟩
     cases e
     obtain⟨o,n,e,c,hd,_⟩:=pl
     exact⟨o,e,hd⟩
   . refine⟨⟨o,I.kIn p o hk,hc⟩,λ a e=>?_⟩
     cases e
     exact⟨o,I.kIn _ o hk,hd⟩
   . have z:∃o,s.heap.get? p=some o/\o.ExactDict:=by
      rcases hk with⟨kvs,hk⟩ | ⟨kvs,hk⟩
      . obtain⟨_,_,_,_,o,_,_,e,ex,_⟩:=I.hok p _ hk
        exact⟨o,e,ex⟩
      . obtain⟨_,_,_,_,o,_,_,e,ex,_⟩:=I.hok p _ hk
        exact⟨o,e,ex⟩
     obtain⟨o,e,ex⟩:=z
     refine⟨⟨o,e,ex.1⟩,λ a e2=>?_⟩
     cases e2
     exact⟨o,e,ex.2.1⟩
   . obtain⟨o,_,_,_,e,ex,_⟩:=I.hok p _ hk
     refine⟨⟨o,e,ex.1⟩,λ a e2=>?_⟩
     cases e2
     exact⟨o,e,ex.2.1⟩
 | _=>exact False.elim ty
noncomputable def tBM(K:PySem.W.Frag)(T:String)(r:V->List V->Hp->VK->Prop)(to:TE)(t:TA):TE:=λ σ H Q=>to σ H λ x H1=>tyV K T x H1/\t σ H1 λ xs H2=>r x xs H2 Q
variable {o e : Expr} {es : List Expr} {to : TE} {t : TA} {name : Str} {apos cpos : Pos} {T id : String} {r : V -> List V -> Hp -> VK -> Prop}
theorem FN(pa:PlainAttrs T)(slot:Slot T name id)(hty:typeOf (.builtin id)=pure (.type "method_descriptor"))(hm:MtR X id r)(ho:PE X o to)(ha:PA X (e::es) t)
 (hbase:attributeBase o name X.env (eval o X.env)=eval o X.env:=by rfl)
 (hfew:((backTo cpos (starEach (e::es) X.env)).all (λ x=>!x.1)&&(backToKw cpos (keywordEach [] X.env)).all (λ x=>x.1.isSome)
  &&decide ((e::es).length+([]:List Keyword).length+(if([]:List Keyword).isEmpty then 0 else 1)<30))=true:=by rfl)
 (hline:(apos.endLine==cpos.line)=true:=by rfl)(hs:starEach (e::es) X.env=(false,eval e X.env)::starEach es X.env:=by rfl)(hplain:(backTo cpos (starEach es X.env)).any (·.1)=false:=by rfl):
 PE X (.Call (.Attribute o name apos) (e::es) [] cpos) (tBM X.K T r to t):=by
 intro pins s σ H Q I h
 refine wpAny_Call_method_late hbase hfew hline rfl (thn (ho pins s σ H _ I h) λ v s1 ⟨x,H1,I1,r1,ty,q1⟩=>?_)
 obtain⟨h1,h2⟩:=QH I1 r1 ty
 refine⟨T,id,pa,slot,hty,h1,h2,?_⟩
 have hA:=ha cpos pins s1 σ H1 _ I1 q1
 rw[hs]at hA ⊢
 refine Calls.callWith_builtin (by show(false||(backTo cpos (starEach es X.env)).any (·.1))=false;rw[hplain]<;>rfl) (Calls.evalArgs_plain ?_)
 exact thn hA λ us s2 ⟨vs,H2,I2,r2,q2⟩=>hm pins s2 σ H2 x vs v us Q I2 r1 r2 q2
end
end L2
namespace L2
open PySem PySem.Spec PyProof.Rows
noncomputable def MtM(X:Cx)(id:String)(r:V->List V->Hp->VK->Prop):Prop:=
 ∀ (pins:List (Addr×Obj))(s:Shared)(σ:St)(H:Hp)(x:V)(xs:List V)(v:Value)(us:List Value)(Q:VK),Inv X pins σ H s->RelV x v->Vals xs us->r x xs H Q->
   wpAny (model X.prog X.w) X.A (call (.builtin id) (v::us)) (EP X pins σ Q) X.xe s
theorem Vals.one:∀{x:V}{us:List Value},Vals [x] us->∃u,us=[u]/\RelV x u
 | _,_,.cons r .nil=>⟨_,rfl,r⟩
theorem Vals.eraseIdx:∀{xs:List V}{us:List Value}(i:Nat),Vals xs us->Vals (xs.eraseIdx i) (us.eraseIdx i)
 | _,_,_,.nil=>.nil
 | _,_,0,.cons _ t=>t
 | _,_,i+1,.cons r t=>.cons r (Vals.eraseIdx i t)
theorem Vals.rep{xs:List V}{us:List Value}(h:Vals xs us):∀k:Nat,Vals (List.replicate k xs).flatten (List.replicate k us).flatten
 | 0=>.nil
 | k+1=>by
   rw[List.replicate_succ,List.replicate_succ,List.flatten_cons,List.flatten_cons]
   exact Vals.append h (Vals.rep h k)
theorem uc{α:Type}:∀(l:List α)(i:Nat),(l.eraseIdx i).length≤l.length
 | [],_=>y9 _
 | _::_,0=>Nat.le_succ _
 | _::r,i+1=>Nat.succ_le_succ (uc r i)
theorem foldl_rep(its:List Value):∀(k:Nat)(acc:List Value),
 List.foldl (λ x1 x2=>x1++x2) acc.toArray (List.replicate k its.toArray)=(acc++(List.replicate k its).flatten).toArray
 | 0,acc=>by simp
 | k+1,acc=>by
   have e:acc.toArray++its.toArray=(acc++its).toArray:=by simp
   have e2:(acc++its)++(List.replicate k its).flatten=acc++(List.replicate (k+1) its).flatten:=by
    rw[List.replicate_succ,List.flatten_cons,List.append_assoc]
   rw[←e2,←foldl_rep its k (acc++its),←e,List.replicate_succ,List.foldl_cons]
section
variable {X : Cx} {pins : List (Addr × Obj)} {σ : St} {H : Hp} {s : Shared} {l b : Addr} {xs ys zs : List V}
theorem Inv.lset{its its':List Value}{n:Nat}{f:Array Value->Array Value}{t':Nat}(I:Inv X pins σ H s)(hH:H l=some (.lst xs))
 (e:s.heap.get? l=some {cls:=.type "list",data:=.seq its.toArray n})(hf:f its.toArray=its'.toArray)(hv:Vals ys its')(hz:ys.length≤sizeLine):
 Inv X pins σ (upd H l (.lst ys)) {s with heap:=s.heap.update l (Obj.mapSeq f),toks:=t'}:=by
 have q:=PySem.IsL.update e f
 rw[hf]at q
 refine I.write (x:=l) (e:=l) (by rw[hH];exact trivial) (.inl rfl) (λ b' u hb hu=>(Heap.get?_update_other s.heap (Obj.mapSeq f) (Ne.symm hb)).trans hu) ⟨_,q⟩ ?_
 exact⟨hz,its',_,hv,q⟩
theorem Inv.lnew{its:List Value}{t':Nat}(I:Inv X pins σ H s)(hv:Vals ys its)(hz:ys.length≤sizeLine):
 Inv X pins σ (upd H s.heap.objs.size (.lst ys)) {s with heap:=s.heap.push {cls:=.type "list",data:=.seq its.toArray},toks:=t'}:=
 I.laid (λ _ _ q=>Heap.get?_push_of_some _ q) (y9 _) ⟨hz,its,0,hv,Heap.get?_push_size _ rfl⟩
theorem Inv.fresh(I:Inv X pins σ H s):H s.heap.objs.size=none:=I.hok.fresh (y9 _)
theorem Inv.lstM(I:Inv X pins σ H s)(hH:H l=some (.lst xs)):xs.length≤sizeLine/\∃(its:List Value) (n:Nat),Vals xs its/\xs.length=its.length/\s.heap.get? l=some {cls:=.type "list",data:=.seq its.toArray n}:=by
 obtain⟨z,its,n,r,e⟩:=I.hok l _ hH
 exact⟨z,its,n,r,r.length,e⟩
theorem Li{n:Nat}(h:n≤sizeLine):Builtin.List.listTooLong n=false:=by
 unfold Builtin.List.listTooLong
 exact decide_eq_false (by omega)
end
section
variable {X : Cx}
noncomputable def M6:V->List V->Hp->VK->Prop:=λ x vs H Q=>∃l xs y,x=.ref l/\vs=[y]/\H l=some (.lst xs)/\xs.length<sizeLine/\Q .non (upd H l (.lst (xs++[y])))
theorem t6:MtM X "list.append" M6:=by
 intro pins s σ H x vs v us Q I rx rv h
 obtain⟨l,xs,y,rfl,rfl,hH,hz,q⟩:=h
 cases rx
 obtain⟨u,rfl,ru⟩:=rv.one
 obtain⟨z,its,n,r,hl,e⟩:=I.lstM hH
 refine call_meets F.slot_list_append ⟨_,e,rfl⟩ F.entry_list_append (F.args_list_append_2 _ _) (PySem.list_append l its.toArray n u (by rw[x4];omega)) ⟨e,?_⟩
 refine⟨.non,_,I.lset (its':=its++[u]) hH e (by simp) (r.append (.cons ru .nil)) ?_,rfl,q⟩
 rw[x6,List.length_singleton]
 omega
noncomputable def xO:V->List V->Hp->VK->Prop:=λ x vs H Q=>∃l xs i k y,x=.ref l/\vs=[.int i]/\H l=some (.lst xs)/\ -(2 ^ 63)≤i/\i<2 ^ 63/\seqIndex? i xs.length=some k/\xs[k]? =some y/\Q y (upd H l (.lst (xs.eraseIdx k)))
theorem K1:MtM X "list.pop" xO:=by
 intro pins s σ H x vs v us Q I rx rv h
 obtain⟨l,xs,i,k,y,rfl,rfl,hH,h1,h2,hk,hy,q⟩:=h
 cases rx
 obtain⟨u,rfl,ru⟩:=rv.one
 obtain⟨t,rfl⟩:=ru
 obtain⟨z,its,n,r,hl,e⟩:=I.lstM hH
 obtain⟨w,hw,rw'⟩:=r.get hy
 refine call_meets F.slot_list_pop ⟨_,e,rfl⟩ F.entry_list_pop (F.args_list_pop_2 _ _)
  (MeetsSeq.list_pop_at l its.toArray n i t k w (fitsIndex_both h1 h2) (by rw[x4,←hl];exact hk) (by rw[←Array.getElem?_toList];exact hw) (by rw[x4];omega)) ⟨e,?_⟩
 refine⟨y,_,I.lset (its':=its.eraseIdx k) hH e ?_ (r.eraseIdx k) ?_,rw',q⟩
 . show its.toArray.eraseIdxIfInBounds k=(its.eraseIdx k).toArray
   rw[List.eraseIdxIfInBounds_toArray]
 . have:=uc xs k
   omega
theorem len_rep{α:Type}(xs:List α)(k:Nat):(List.replicate k xs).flatten.length=k*xs.length:=by
 induction k with
 | zero=>simp
 | succ k ih=>rw[List.replicate_succ,List.flatten_cons,x6,ih,Nat.succ_mul,Nat.add_comm]
end
end L2
namespace Att
open PySem PySem.W PySem.Calls PyProof.Rows
theorem qP{P:Params}{h:Heap}:∀(ns:List Int)(vs:List Value),WellAll P h vs (ns.map WData.int)->IntsAre vs ns:=by
 intro ns
 induction ns with
 | nil=>
   intro vs w
   rw[List.map_nil]at w
   cases w
   exact .nil
 | cons n ns ih=>
   intro vs w
   rw[List.map_cons]at w
   cases w with
   | cons a b=>
     cases a
     exact .cons _ _ (ih _ b)
theorem Iz{l:OpenLaw}{n:Nat}(hn:l.most=some n){P:Params}{h:Heap}{args:List WData}{vals:List Value}
 (hpre:l.row.toRowW.claim.pre args=true)(hwl:WellAll P h vals args):
 ∃a vs ns,vals=[Value.ref a]/\args=[WData.list (ns.map WData.int)]/\h.get? a=some {cls:=.type "list",data:=.seq vs.toArray}/\IntsAre vs ns/\ns.length≤n:=by
 have hsh:WShape.hasAll [] args [.list .int]=true:=(pre_splitW hpre).1
 have hc:l.pre.holds [] {args:=args}=true:=(pre_splitW hpre).2
 obtain⟨d,r,rfl,h1,h2⟩:=hasAllW_cons hsh
 obtain rfl:=hasAllW_nil h2
 obtain⟨xs,rfl,h3⟩:=hasW_list h1
 obtain⟨ns,rfl⟩:=items_int h3
 have hlen:ns.length≤n:=by
  unfold OpenLaw.pre at hc
  have h4:(WTm.not (.lt (.lit (.int (n:Int))) (.len (.arg 0)))).holds [] {args:=[.list (ns.map .int)]}=true:=by
   have h4:=(holds_andW hc).1
   rw[hn]at h4
   exact h4
  have h5:=condW_of h4 (w_not (w_lt w_lit (w_len_list (w_arg rfl))))
  rw[y7]at h5
  refine Nat.le_of_not_lt λ q=>?_
  have q':(n:Int)<((ns.length:Nat):Int):=by omega
  first
   | (rw[decide_eq_true q']at h5;exact absurd h5 (by decide))
   | (simp at h5;omega)
 cases hwl with
 | cons w1 w2=>
   cases w2
   cases w1 with
   | list ho hall=>exact⟨_,_,ns,rfl,rfl,ho,qP ns _ hall,hlen⟩
theorem G3(l:OpenLaw)(args:List WData):l.row.toRowW.claim.post args (.bool true) args=true:=
 postW_of (r:=l.row.toRowW) (X:=(true==true))
  (show WShape.has [] (.bool true) .bool=true by first | rfl | decide | simp[WShape.has,WShape.arms,WShape.armsAll])
  (show(WTm.eq .res (.lit (.bool true))).value [] {args:=args,res:=some (.bool true),after:=args}=some (.bool (true==true))from w_eq_bool (w_res rfl) w_lit) rfl
theorem attach_call{l:OpenLaw}{n:Nat}{q:Program}{loose:List Str}{XP:(Str->Option Value)->Heap->Prop}{YP:World->Heap->Prop}{d:DefRec}
 (hn:l.most=some n)(hdf:d.params.defaults=[])
 (call:∀(w:World)(s₀ s₁:Shared)(mg mb:Str->Option Value)(fa:Addr)(o:Obj)(pm cd doc:Value)(a:Addr)(vs:List Value)(ns:List Int),
  Ground q loose [] XP w s₀ mg mb s₁.heap->YP w s₁.heap->
  s₁.heap.get? fa=some o->o.data=.func (docDef d.name d.params d.body d.scope pm cd doc)->s₁.heap.CodeRec cd d.name->mg d.name=some (.ref fa)->
  s₁.heap.get? a=some {cls:=.type "list",data:=.seq vs.toArray}->IntsAre vs ns->ns.length≤n->s₁.gens=#[]->
  codeAny (model l.prog w) callerA (.call (.ref fa) ⟨[.ref a],[]⟩) (λ r s'=>r=.ok (.ret (.bool true))/\OldK s₁.heap s'.heap/\s'.os=s₁.os/\AllBare s'.gens) s₁):
 WalkO q loose XP YP l.row.toRowW d [] (λ f vs=>PySem.call f vs):=by
 intro w s₀ s₁ mg mb G Y fa o pm cd doc dV kV ho hd hcd hD hmg hg args vals as hpre hlay hrd hwl hlo
 obtain rfl:dV=.none:=Dflts.none hD hdf
 obtain rfl:kV=.none:=Dflts.noKw hD
 obtain⟨a,vs,ns,rfl,rfl,hobj,hints,hlen⟩:=Iz hn hpre hwl
 refine enter_call (codeAny_mono (call w s₀ s₁ mg mb fa o pm cd doc a vs ns G Y ho (fd_plain hd) hcd hmg hobj hints hlen hg) λ r s' hq=>?_)
 obtain⟨rfl,h2,h3,h4⟩:=hq
 exact⟨.inl ⟨.bool true,.bool true,[],rfl,λ _=>rfl,.bool true,G3 l _,λ _=>⟨List.Pairwise.nil,λ _ hm=>(nomatch hm)⟩⟩,h2,h3,h4⟩
end Att
namespace L2
open PySem PySem.Spec PyProof.Rows
theorem dM:∀{vs:List Value}{ns:List Int},IntsAre vs ns->Vals (ns.map V.int) vs
 | _,_,.nil=>.nil
 | _,_,.cons n t h=>.cons ⟨t,rfl⟩ (dM h)
noncomputable def Only(H:Hp):Prop:=∀b,H b=none∨∃o xs,H b=some (.frz o (.lst xs))
theorem JN{P:Program}{w:World}{K:PySem.W.Frag}{mg mb:Str->Option Value}{CX:CXT}{k:Nat}{fa a:Addr}{fd:FuncData}{x:Str}{sp:Sp}{s₁:Shared}{vs:List Value}{ns:List Int}
 (KX:K.In s₁.heap)(hns:s₁.heap.Ns mainGlobals mg)(hb:s₁.heap.Ns builtinsNs mb)(hbb:∀x:Str,x≠"__name__"->mb x=bootBuiltins x)(hlim:s₁.heap.NoLimit)(hg:s₁.gens=#[])
 (ha:s₁.heap.get? a=some {cls:=.type "list",data:=.seq vs.toArray})(hi:IntsAre vs ns)(hl:ns.length≤sizeLine)(hr:Room k callerA)
 (F:∀base:Heap,K.In base->base.Ns mainGlobals mg->FnOk P w K mg base CX k fa fd [x] sp)(hbind:∀(s:Shared)(u:Value),BindsTo s fd ⟨[u],[]⟩ [(x,u)])
 (hsp:∀H:Hp,Only H->SqL K H a (ns.map V.int)->sp [.ref a] H (λ v _=>v=.bl true) λ _ _ _=>False)
 (hCX:∀H e s',CX [] H s₁ (λ _ _ _=>False) e s'->False):
 codeAny (model P w) callerA (.call (.ref fa) ⟨[.ref a],[]⟩) (λ r s'=>r=.ok (.ret (.bool true))/\OldK s₁.heap s'.heap/\s'.os=s₁.os/\AllBare s'.gens) s₁:=by
 have rv:=dM hi
 have lenV:=hi.length
 have core:∀H:Hp,Only H->SqL K H a (ns.map V.int)->HOk P w H s₁.heap->(∀b,H b≠none->b=a)->(H a≠none->K.lookup a=none)->
  codeAny (model P w) callerA (.call (.ref fa) ⟨[.ref a],[]⟩) (λ r s'=>r=.ok (.ret (.bool true))/\OldK s₁.heap s'.heap/\s'.os=s₁.os/\AllBare s'.gens) s₁:=by
  intro H hO hS hok hA hK
  have base_of:∀{b:Addr}{o:Obj},s₁.heap.get? b=some o->H b=none->(jF s₁.heap H).get? b=some o:=λ e n=>Kw e n
  have noA:∀{b:Addr}{o:Obj}{es:Array DictEntry}{ep:Nat},s₁.heap.get? b=some o->o.data=.dict es ep->H b=none:=λ{b o es ep} e d=>by
   cases q:H b with
   | none=>rfl
   | some u=>
     have e':b=a:=hA b (by rw[q];simp)
     subst e'
     rw[ha]at e;cases e
     have d':Data.seq vs.toArray _=Data.dict es ep:=d
     cases d'
  have nsK:∀{b:Addr}{m:Str->Option Value},s₁.heap.Ns b m->(jF s₁.heap H).Ns b m:=λ{b m} ⟨o,es,ep,e,d,r⟩=>⟨o,es,ep,base_of e (noA e d),d,r⟩
  have hKb:K.In (jF s₁.heap H):=λ b o e=>base_of (KX b o e) (by
   cases q:H b with
   | none=>rfl
   | some u=>
     have e':b=a:=hA b (by rw[q];simp)
     subst e'
     rw[hK (by rw[q];simp)]at e;cases e)
  have hM:Mod K mg (jF s₁.heap H):=⟨hKb,nsK hns,⟨mb,nsK hb,hbb⟩,let ⟨mc,h1,h2⟩:=hlim;⟨mc,nsK h1,h2⟩⟩
  have e0:Env0 P w K mg (jF s₁.heap H) callerA [] s₁ H:=⟨rfl,hM,λ b o e=>Nt e,Nat.le_of_eq (Hg _ _),trivial,λ b hb=>absurd (show b∈([]:List Addr)from hb) (by simp),hok,.of_eq hg⟩
  refine codeAny_mono ((F _ hKb (nsK hns)).run callerA [] s₁ H ⟨[.ref a],[]⟩ [.ref a] [.ref a] _ _ hr e0 (hbind s₁ (.ref a)) (.cons rfl .nil) (hsp H hO hS)) λ r s' h=>?_
  cases r with
  | error e=>exact(hCX H e s' h).elim
  | ok fl =>
    cases fl with
    | next=>exact False.elim h
    | brk=>exact False.elim h
    | cont=>exact False.elim h
    | ret u=>
      obtain⟨v,H',os,bare,un,hok',r',q⟩:=h
      have q':v=.bl true:=q
      subst q'
      obtain rfl:u=Value.bool true:=r'
      refine⟨rfl,OldK.of_keep λ b o e=>?_,os,bare⟩
      cases q:H b with
      | none=>exact un.keep b o e q (by intro z;exact absurd (show b∈([]:List Addr)from z) (by simp)) (by simp)
      | some u=>
        rcases hO b with z | ⟨ob,xs,z⟩
        . rw[q]at z;cases z
        . have z2:=un.frzs b ob _ z
          obtain⟨e1,_⟩:=hok b _ z
          obtain⟨e2,_⟩:=hok' b _ z2
          rw[e]at e1;cases e1
          exact e2
 cases hk:K.lookup a with
 | some o=>
   have e:=KX a o hk
   rw[ha]at e
   cases e
   refine core (λ _=>none) (λ _=>.inl rfl) (.inr ⟨_,vs.toArray,_,hk,rfl,rfl,rfl,by rw[x4,lenV];exact hl,by simpa using rv⟩) (λ b u z=>by have z':(none:Option HO)=some u:=z;cases z') (λ b z=>absurd rfl z) λ z=>absurd rfl z
 | none=>
   refine core (λ b=>if b=a then some (.frz {cls:=.type "list",data:=.seq vs.toArray} (.lst (ns.map V.int)))else none) (λ b=>?_) (.inl (.inr ⟨{cls:=.type "list",data:=.seq vs.toArray},if_pos rfl⟩)) (λ b u z=>?_) (λ b z=>?_) λ _=>hk
   . by_cases hb:b=a
     . exact .inr ⟨_,_,if_pos hb⟩
     . exact .inl (if_neg hb)
   . by_cases hb:b=a
     . have z':=(if_pos hb).symm.trans z
       cases z'
       subst hb
       exact⟨ha,by rw[y7];exact hl,vs,_,rv,ha⟩
     . have z':=(if_neg hb).symm.trans z
       cases z'
   . by_cases hb:b=a
     . exact hb
     . exact absurd (if_neg hb) z
end L2
namespace L2
open PySem PySem.Spec PyProof.Rows
noncomputable abbrev KOf{K:PySem.W.Frag}{h:Heap}(_:K.In h):PySem.W.Frag:=K
theorem walk_of{l:PySem.W.OpenLaw}{n k:Nat}{q:Program}{loose:List Str}{XP:(Str->Option Value)->Heap->Prop}{YP:World->Heap->Prop}{d:DefRec}{K:Params->PySem.W.Frag}{CX:World->CXT}{sp:World->Sp}{x:Str}
 (hn:l.most=some n)(hn2:n≤sizeLine)(hdf:d.params.defaults=[])(hr:Room k callerA)
 (hY:∀(w:World)(h:Heap),YP w h->(K w.params).In h)
 (F :∀(w:World)(mg:Str->Option Value)(fa:Addr)(h:Heap),(K w.params).In h->h.Ns mainGlobals mg->mg d.name=some (.ref fa)->
  ∃ fd:FuncData,(∀(s:Shared)(u:Value),BindsTo s fd ⟨[u],[]⟩ [(x,u)])/\
    ∀base:Heap,(K w.params).In base->base.Ns mainGlobals mg->FnOk l.prog w (K w.params) mg base (CX w) k fa fd [x] (sp w))
 (hsp:∀(w:World)(H:Hp)(a:Addr)(ns:List Int),ns.length≤n->Only H->SqL (K w.params) H a (ns.map V.int)->sp w [.ref a] H (λ v _=>v=.bl true) λ _ _ _=>False)
 (hCX:∀(w:World)(H:Hp)(s:Shared)(e:Value)(s':Shared),CX w [] H s (λ _ _ _=>False) e s'->False):
 PySem.W.WalkO q loose XP YP l.row.toRowW d [] (λ f vs=>PySem.call f vs):=by
 refine Att.attach_call hn hdf λ w s₀ s₁ mg mb fa o pm cd doc a vs ns G Y ho hd hcd hmg hobj hints hlen hg=>?_
 have KX:=hY w _ Y
 obtain⟨fd,hb,hF⟩:=F w mg fa _ KX G.T.g hmg
 exact JN KX G.T.g G.T.b G.T.builtins G.T.nolimit hg hobj hints (Nat.le_trans hlen hn2) hr hF hb (λ H hO hS=>hsp w H a ns hlen hO hS) λ H e s'=>hCX w H s₁ e s'
end L2
namespace L2
open PySem PySem.Spec PyProof.Rows
noncomputable def eX(s:Stmt):Arguments:=match s with
 | .FunctionDef _ a _ _ _ _ _ _ _ _=>a
 | _=>{posonlyargs:=[],args:=[],vararg:=none,kwonlyargs:=[],kw_defaults:=[],kwarg:=none,defaults:=[]}
noncomputable def cj(s:Stmt):List Stmt:=match s with
 | .FunctionDef _ _ b _ _ _ _ _ _ _=>b
 | _=>[]
noncomputable def aL(s:Stmt):Scope:=match s with
 | .FunctionDef _ _ _ _ _ _ sc _ _ _=>sc
 | _=>{kind:=.function,names:=[],isGenerator:=false,isCoroutine:=false}
noncomputable abbrev CX0:CXT:=λ _ _ _ _ _ _=>False
noncomputable abbrev E0:XK:=λ _ _ _=>False
theorem TY{X:Cx}:Ij CX0 X E0:=λ _ _ _ _ _ _ _ h=>h.elim
structure Fun(K:PySem.W.Frag)(x qual:Str)(st:Stmt)(f:Addr)(fd:FuncData):Prop where
 ex:∃(oc:Value) (od:Option Addr) (kV doc pm:Value) (an:Option Addr) (cdv ct:Value) (osl:Array (Option Value)),
  fd=PySem.W.fnOf x qual (eX st) (cj st) (aL st) .none kV doc pm an cdv ct/\K.lookup f=some ⟨oc,od,.func fd,osl⟩/\PySem.W.codeIn K cdv qual=true
 kp:PySem.W.keepIn K (.ref f)=true
section
variable {P : Program} {w : World} {K : PySem.W.Frag} {mg : Str -> Option Value} {base : Heap}
theorem Fun.ok{x qual:Str}{st:Stmt}{f:Addr}{fd:FuncData}{N ps:List Str}{k:Nat}{sp:Sp}(F:Fun K x qual st f fd)(S:FnScope N ps (aL st))(len:∀vs H Q E,sp vs H Q E->vs.length=ps.length)
 (hbody:∀(cdv:Value)(A:Around)(outer:List Env)(s:Shared)(H:Hp)(vs:List V)(Q:VK)(E:XK),Room k (A.deeper (envOfC qual (aL st) s.heap.objs.size f cdv))->sp vs H Q E->
  ∃t,PSs (mO CX0 P w K mg base N qual (aL st) f cdv A outer s H E).nox (cj st) t/\t {nx:=λ _ H'=>Q .non H',rt:=Q} (start N vs) H):FnOk P w K mg base CX0 (k+1) f fd ps sp:=by
 obtain⟨oc,od,kV,doc,pm,an,cdv,ct,osl,rfl,lk,hcd⟩:=F.ex
 refine Tw lk hcd S len λ A outer s H vs Q E hr hsp=>?_
 obtain⟨t,h,q⟩:=hbody cdv A outer s H vs Q E hr hsp
 exact⟨t,h.nox,q⟩
theorem Fun.binds{x qual:Str}{st:Stmt}{f:Addr}{fd:FuncData}{ps:List Str}(F:Fun K x qual st f fd)
 (h:∀(kV doc pm:Value)(an:Option Addr)(cdv ct:Value)(us:List Value),us.length=ps.length->bindArgs (PySem.W.fnOf x qual (eX st) (cj st) (aL st) .none kV doc pm an cdv ct) ⟨us,[]⟩=pure (ps.zip us)):Binds K fd ps []:=by
 obtain⟨oc,od,kV,doc,pm,an,cdv,ct,osl,rfl,lk,hcd⟩:=F.ex
 exact .all (h kV doc pm an cdv ct)
theorem Io{x qual:Str}{st:Stmt}{f:Addr}{oc:Value}{od an:Option Addr}{osl:Array (Option Value)}{kV doc pm cdv ct:Value}(l:K.lookup f=some ⟨oc,od,.func (PySem.W.fnOf x qual (eX st) (cj st) (aL st) .none kV doc pm an cdv ct),osl⟩)
 (c:PySem.W.codeIn K cdv qual=true)(k:PySem.W.keepIn K (.ref f)=true):Fun K x qual st f (PySem.W.fnOf x qual (eX st) (cj st) (aL st) .none kV doc pm an cdv ct):=⟨⟨oc,od,kV,doc,pm,an,cdv,ct,osl,rfl,l,c⟩,k⟩
end
noncomputable def dG(H H':Hp):Prop:=∀b o,H b=some o->H' b=some o
theorem dG.refl(H:Hp):dG H H:=λ _ _ h=>h
end L2
namespace L2
open PySem PySem.Spec PyProof.Rows
section
variable {X : Cx} {pins : List (Addr × Obj)} {σ : St} {H : Hp} {s : Shared} {a : Addr} {y v : V} {u r : Value} {o : Option V} {A : Around} {E : Value -> Shared -> Prop}
theorem Inv.big(I:Inv X pins σ H s):sysModules<s.heap.objs.size:=by
 have h:mainGlobals<s.heap.objs.size:=(I.mod.glob.keeps I.bk).lt
 exact Nat.lt_trans (by decide) h
theorem Nr{h':Heap}{t':Nat}{ob:HO}(I:Inv X pins σ H s)(mu:Mut (H a))(hs:Heap.SameBut a s.heap h')(he:∃q,h'.get? a=some q)(new:aX X.prog X.w (upd H a ob) h' a ob):
 Inv X pins σ (upd H a ob) {s with heap:=h',toks:=t'}:=
 I.write (x:=a) (e:=a) mu (.inl rfl) (λ b q hb z=>(hs.2 b hb).trans z) he new
end
noncomputable def RC(i:Expr):Prop:=∀ov iv,subscripted i false ov iv=operate [ov,iv] (getItem ov iv)
theorem Nv{prog:Program}{w:World}{A:Around}{E:Value->Shared->Prop}{s:Shared}{env:Env}{value slice:Expr}{pos:Pos}{T id:String}{Q:Value->Shared->Prop}
 (hl:typeLookup (.type T) "__getitem__"=pure (some (.builtin id)))(hs:RC slice)
 (h:wpAny (model prog w) A (eval value env) (λ o s₁=>wpAny (model prog w) A (eval slice env) (λ i s₂=>s₂.TypeIs o T/\wpAny (model prog w) A (getItem o i) Q E s₂) E s₁) E s):
 wpAny (model prog w) A (eval (.Subscript value slice pos) env) Q E s:=by
 refine Subscript_ (wpAny_mono h (λ o s₁ h₁=>wpAny_mono h₁ (λ i s₂ h₂=>?_) λ _ _ x=>x) λ _ _ x=>x)
 obtain⟨hT,h₂⟩:=h₂
 unfold subscriptTail
 refine wpAny_bind ?_
 rw[getitemInPython_of_ne hT.not_modules]
 refine wpAny_bind (wpAny_specialOf hT hl ?_)
 have fin:wpAny (model prog w) A (subscripted slice false o i) (λ r s₃=>wpAny (model prog w) A (letTemporaryGo value o r>>=λ _=>pure r) Q E s₃) E s₂:=by
  rw[hs o i]
  exact wpAny_operating (wpAny_mono h₂ (λ r s₃ h₃=>wpAny_bind (wpAny_letTemporaryGo (wpAny_pure h₃))) λ _ _ x=>x)
 first
  | exact wpAny_pure (wpAny_bind fin)
  | exact wpAny_bind (wpAny_pure (wpAny_bind fin))
  | exact wpAny_bind fin
theorem Kl{P:Program}{w:World}{H:Hp}(h:Heap)(hb:sysModules<h.objs.size):aX P w H (h.push {cls:=.type "dict",data:=.dict #[]}) h.objs.size (.dT []):=
 ⟨Nat.zero_le _,beq_eq_false_iff_ne.mpr (Ne.symm (w9 hb)),[],.nil,_,#[],0,Heap.get?_push_size _ rfl,⟨rfl,rfl,rfl⟩,rfl,rfl,List.nodup_nil⟩
noncomputable def RG:TE:=λ _ H Q=>∀p,H p=none->Q (.ref p) (upd H p (.dT []))
section
variable {X : Cx} {pos : Pos}
theorem Kd:PE X (.Dict [] [] pos) RG:=λ pins s σ H Q I h=>
 wpAny_Dict_empty ⟨.ref s.heap.objs.size,_,I.laid (a:=s.heap.objs.size) (o:=.dT []) (t':=s.toks) (λ _ _ q=>Heap.get?_push_of_some _ q) (y9 _) (Kl s.heap I.big),rfl,h _ (I.hok.fresh (y9 _))⟩
end
end L2
set_option maxHeartbeats 4000000
namespace DL
open PySem PySem.Spec L2
open PyProof.Rows
variable {a p : Addr} {K : PySem.W.Frag} {O O' : Own} {H H' : Hp} {xs : List V} {S : Store}
noncomputable abbrev St:=L2.St
inductive D where
 | non | bl(b:Bool) | int(i:Int) | str(x:Str) | tup(ds:List D) | lst(ds:List D) | loc(k:Nat) | dic | dlo(k:Nat)
noncomputable abbrev Store:=List (List D)
noncomputable abbrev Gam:=List (Option D)
structure Own where
 A:List (Addr×Bool)
 B:List Addr
noncomputable abbrev adr(A:List (Addr×Bool)):List Addr:=A.map Prod.fst
theorem bK{A:List (Addr×Bool)}{k:Nat}{q:Bool}(h:A[k]? =some (a,q)):a∈adr A:=List.mem_map.mpr ⟨_,y4 h,rfl⟩
theorem bU(A N:List (Addr×Bool)):adr (A++N)=adr A++adr N:=v3
noncomputable abbrev Own.has(O:Own)(a:Addr):Prop:=a∈adr O.A∨a∈O.B
noncomputable def Tp(K:PySem.W.Frag)(O:Own)(H:Hp)(a:Addr)(xs:List V):Prop:=¬O.has a/\H a=some (.tup xs)
noncomputable def Ls(K:PySem.W.Frag)(O:Own)(H:Hp)(a:Addr)(xs:List V):Prop:=(¬O.has a/\Rd H a (.lst xs))∨SqL K (λ _=>none) a xs
theorem Tp.sq(h:Tp K O H a xs):SqT K H a xs:=.inl (.inl h.2)
theorem Ls.sq(h:Ls K O H a xs):SqL K H a xs:=by
 rcases h with⟨_,h⟩ | (h | h)
 . exact .inl h
 . rcases h with h | ⟨_,h⟩<;>cases h
 . exact .inr h
mutual
inductive Rep(K:PySem.W.Frag)(O:Own)(H:Hp):V->D->Prop
 | non:Rep K O H .non .non
 | bl(b:Bool):Rep K O H (.bl b) (.bl b)
 | int(i:Int):Rep K O H (.int i) (.int i)
 | str(x:Str):Rep K O H (.str x) (.str x)
 | tup{a:Addr}{xs:List V}{ds:List D}(h:Tp K O H a xs)(r:Reps K O H xs ds):Rep K O H (.ref a) (.tup ds)
 | lst{a:Addr}{xs:List V}{ds:List D}(h:Ls K O H a xs)(r:Reps K O H xs ds):Rep K O H (.ref a) (.lst ds)
 | loc{a:Addr}{k:Nat}(h:O.A[k]? =some (a,false)):Rep K O H (.ref a) (.loc k)
 | dlo{a:Addr}{k:Nat}(h:O.A[k]? =some (a,true)):Rep K O H (.ref a) (.dlo k)
 | dic{a:Addr}(h:¬O.has a)(e:H a=some (.dK [])):Rep K O H (.ref a) .dic
inductive Reps(K:PySem.W.Frag)(O:Own)(H:Hp):List V->List D->Prop
 | nil:Reps K O H [] []
 | cons{v:V}{d:D}{vs:List V}{ds:List D}(r:Rep K O H v d)(t:Reps K O H vs ds):Reps K O H (v::vs) (d::ds)
end
structure Step(O O':Own)(H H':Hp):Prop where
 kept:∀b o,b∉adr O.A->H b=some o->H' b=some o
 dom:∀b,H b≠none->H' b≠none
 ext:∃N,O'.A=O.A++N/\∀b∈adr N,H b=none
 hid:O'.B=O.B
theorem Step.refl(O:Own)(H:Hp):Step O O H H:=⟨λ _ _ _ h=>h,λ _ h=>h,⟨[],by simp,λ _ h=>nomatch h⟩,rfl⟩
theorem Step.trans{O1 O2:Own}{H1 H2:Hp}(a:Step O O1 H H1)(b:Step O1 O2 H1 H2):Step O O2 H H2:=by
 obtain⟨N1,e1,f1⟩:=a.ext
 obtain⟨N2,e2,f2⟩:=b.ext
 refine⟨λ c o hc h=>b.kept c o (λ z=>?_) (a.kept c o hc h),λ c h=>b.dom c (a.dom c h),⟨N1++N2,by rw[e2,e1,List.append_assoc],λ c hc=>?_⟩,b.hid.trans a.hid⟩
 . rw[e1,bU]at z
   rcases List.mem_append.mp z with z | z
   . exact hc z
   . rw[f1 c z]at h;cases h
 . rw[bU]at hc
   rcases List.mem_append.mp hc with z | z
   . exact f1 c z
   . cases q:H c with
     | none=>rfl
     | some o=>exact absurd (f2 c z) (a.dom c (by rw[q];simp))
theorem Step.nothas(s:Step O O' H H'){a:Addr}(h:¬O.has a)(t:H a≠none):¬O'.has a:=by
 obtain⟨N,e,f⟩:=s.ext
 rintro(z | z)
 . rw[e,bU]at z
   rcases List.mem_append.mp z with z | z
   . exact h (.inl z)
   . exact t (f a z)
 . rw[s.hid]at z;exact h (.inr z)
structure Conv(O O':Own)(H H':Hp):Prop where
 tr:∀a u,¬O.has a->H a=some u->¬O'.has a/\H' a=some u
 lc:∀(k:Nat)(a:Addr×Bool),O.A[k]? =some a->O'.A[k]? =some a
theorem Step.conv(s:Step O O' H H'):Conv O O' H H':=
 ⟨λ a u h t=>⟨s.nothas h (by rw[t];simp),s.kept a u (λ z=>h (.inl z)) t⟩,λ k a h=>by
  obtain⟨N,e,_⟩:=s.ext
  rw[e,x8 (z0.mp h).1];exact h⟩
theorem Rd.conv(s:Conv O O' H H'){a:Addr}{u:HO}(h:¬O.has a)(r:Rd H a u):¬O'.has a/\Rd H' a u:=by
 rcases r with r | ⟨o,r⟩
 . obtain⟨x,y⟩:=s.tr a _ h r
   exact⟨x,.inl y⟩
 . obtain⟨x,y⟩:=s.tr a _ h r
   exact⟨x,.inr ⟨o,y⟩⟩
theorem Tp.conv(h:Tp K O H a xs)(s:Conv O O' H H'):Tp K O' H' a xs:=s.tr a _ h.1 h.2
theorem Ls.conv(h:Ls K O H a xs)(s:Conv O O' H H'):Ls K O' H' a xs:=by
 rcases h with⟨n,r⟩ | h
 . exact .inl (Rd.conv s n r)
 . exact .inr h
mutual
theorem Rep.conv{K:PySem.W.Frag}{O O':Own}{H H':Hp}(s:Conv O O' H H'):∀{v:V}{d:D},Rep K O H v d->Rep K O' H' v d
 | _,_,.non=>.non
 | _,_,.bl b=>.bl b
 | _,_,.int i=>.int i
 | _,_,.str x=>.str x
 | _,_,.tup h r=>.tup (h.conv s) (Reps.conv s r)
 | _,_,.lst h r=>.lst (h.conv s) (Reps.conv s r)
 | _,_,.loc h=>.loc (s.lc _ _ h)
 | _,_,.dlo h=>.dlo (s.lc _ _ h)
 | _,_,.dic h e=>.dic (s.tr _ _ h e).1 (s.tr _ _ h e).2
theorem Reps.conv{K:PySem.W.Frag}{O O':Own}{H H':Hp}(s:Conv O O' H H'):∀{vs:List V}{ds:List D},Reps K O H vs ds->Reps K O' H' vs ds
 | _,_,.nil=>.nil
 | _,_,.cons r t=>.cons (Rep.conv s r) (Reps.conv s t)
end
theorem Rep.mono{v:V}{d:D}(h:Rep K O H v d)(s:Step O O' H H'):Rep K O' H' v d:=h.conv s.conv
theorem Reps.mono{v:List V}{d:List D}(h:Reps K O H v d)(s:Step O O' H H'):Reps K O' H' v d:=h.conv s.conv
noncomputable abbrev Own.hide(O:Own)(p:Addr):Own:=⟨O.A,p::O.B⟩
theorem Conv.hide(h:H p=none)(o:HO):Conv O (O.hide p) H (upd H p o):=
 ⟨λ a u n t=>by
  have ne:a≠p:=aG t h
  refine⟨λ z=>?_,by rw[aq ne];exact t⟩
  rcases z with z | z
  . exact n (.inl z)
  . rcases List.mem_cons.mp z with z | z
    . exact ne z
    . exact n (.inr z),λ _ _ h=>h⟩
theorem Conv.unhide{A:List (Addr×Bool)}{B:List Addr}:Conv ⟨A,p::B⟩ ⟨A,B⟩ H H:=
 ⟨λ a u n t=>⟨λ z=>n (z.elim .inl λ z=>.inr (x3 _ z)),t⟩,λ _ _ h=>h⟩
theorem Conv.updHid(h:p∈O.B)(o:HO):Conv O O H (upd H p o):=
 ⟨λ a u n t=>⟨n,by rw[aq (λ e=>n (.inr (by rw[e];exact h)))];exact t⟩,λ _ _ h=>h⟩
theorem Reps.length{K:PySem.W.Frag}{O:Own}{H:Hp}:∀{vs:List V}{ds:List D},Reps K O H vs ds->vs.length=ds.length
 | _,_,.nil=>rfl
 | _,_,.cons _ t=>by simp[Reps.length t]
theorem Reps.get{K:PySem.W.Frag}{O:Own}{H:Hp}:∀{vs:List V}{ds:List D}{i:Nat}{d:D},Reps K O H vs ds->ds[i]? =some d->∃v,vs[i]? =some v/\Rep K O H v d
 | _,_,_,_,.nil,e=>by simp at e
 | _,_,0,_,.cons r _,e=>by simp at e;subst e;exact⟨_,rfl,r⟩
 | _,_,i+1,d,.cons _ t,e=>by
   obtain⟨v,h1,h2⟩:=Reps.get (i:=i) (d:=d) t (by simpa using e)
   exact⟨v,by simpa using h1,h2⟩
theorem Reps.append{K:PySem.W.Frag}{O:Own}{H:Hp}:∀{vs ws:List V}{ds es:List D},Reps K O H vs ds->Reps K O H ws es->Reps K O H (vs++ws) (ds++es)
 | _,_,_,_,.nil,s=>s
 | _,_,_,_,.cons r t,s=>.cons r (Reps.append t s)
theorem Reps.take{K:PySem.W.Frag}{O:Own}{H:Hp}:∀{vs:List V}{ds:List D}(n:Nat),Reps K O H vs ds->Reps K O H (vs.take n) (ds.take n)
 | _,_,0,_=>.nil
 | _,_,_+1,.nil=>.nil
 | _,_,n+1,.cons r t=>.cons r (Reps.take n t)
theorem Reps.drop{K:PySem.W.Frag}{O:Own}{H:Hp}:∀{vs:List V}{ds:List D}(n:Nat),Reps K O H vs ds->Reps K O H (vs.drop n) (ds.drop n)
 | _,_,0,r=>r
 | _,_,_+1,.nil=>.nil
 | _,_,n+1,.cons _ t=>Reps.drop n t
theorem Reps.set{K:PySem.W.Frag}{O:Own}{H:Hp}{v:V}{d:D}(r:Rep K O H v d):∀{vs:List V}{ds:List D}(i:Nat),Reps K O H vs ds->Reps K O H (vs.set i v) (ds.set i d)
 | _,_,_,.nil=>.nil
 | _,_,0,.cons _ t=>.cons r t
 | _,_,i+1,.cons q t=>.cons q (Reps.set r i t)
theorem Reps.ints{K:PySem.W.Frag}{O:Own}{H:Hp}:∀{vs:List V}{ns:List Int},Reps K O H vs (ns.map D.int)->vs=ns.map V.int
 | _,[],.nil=>rfl
 | _,_::_,.cons r t=>by cases r;simp[Reps.ints t]
theorem Reps.of_ints{K:PySem.W.Frag}{O:Own}{H:Hp}:∀ns:List Int,Reps K O H (ns.map V.int) (ns.map D.int)
 | []=>.nil
 | n::ns=>.cons (.int n) (Reps.of_ints ns)
theorem Reps.bools{K:PySem.W.Frag}{O:Own}{H:Hp}:∀{vs:List V}{ns:List Bool},Reps K O H vs (ns.map D.bl)->vs=ns.map V.bl
 | _,[],.nil=>rfl
 | _,_::_,.cons r t=>by cases r;simp[Reps.bools t]
noncomputable def Ux(ns:List Int):List Key:=ns.map Sum.inl
inductive Kps(K:PySem.W.Frag)(O:Own)(H:Hp):List (List Key×V)->List D->Prop
 | nil:Kps K O H [] []
 | cons{ns:List Int}{v:V}{d:D}{kvs:List (List Key×V)}{ds:List D}(r:Rep K O H v d)(t:Kps K O H kvs ds):Kps K O H ((Ux ns,v)::kvs) (.tup [.tup (ns.map .int),d]::ds)
theorem Kps.conv{K:PySem.W.Frag}{O O':Own}{H H':Hp}(s:Conv O O' H H'):∀{kvs:List (List Key×V)}{ds:List D},Kps K O H kvs ds->Kps K O' H' kvs ds
 | _,_,.nil=>.nil
 | _,_,.cons r t=>.cons (r.conv s) (Kps.conv s t)
noncomputable def hC0(c:Int×List Int):Int:=reduceHash (Builtin.Tuple.tupleHashOf [hashInt c.1,reduceHash (Builtin.Tuple.tupleHashOf (c.2.map hashInt))])
noncomputable abbrev Cy:=List ((Int×List Int)×Addr×Value)
noncomputable def RQ(a:Addr)(ys:Cy)(h:Heap):Prop:=ys.length≤sizeLine/\(a==sysModules)=false/\(ys.map (·.1)).Nodup/\
 ∃o es ep,h.get? a=some o/\o.ExactDict/\o.data=.dict es ep/\es.toList=ys.map λ y=>(⟨hC0 y.1,.ref y.2.1,y.2.2⟩:DictEntry)
inductive Kcs(K:PySem.W.Frag)(O:Own)(H:Hp):Cy->List D->Prop
 | nil:Kcs K O H [] []
 | cons{c:Int×List Int}{b:Addr}{u:Value}{v:V}{k d:D}{ys:Cy}{ds:List D}(e:k=.tup [.int c.1,.tup (c.2.map .int)])(rk:Rep K O H (.ref b) k)(rv:RelV v u)(r:Rep K O H v d)(t:Kcs K O H ys ds):Kcs K O H ((c,b,u)::ys) (.tup [k,d]::ds)
theorem Kcs.conv{K:PySem.W.Frag}{O O':Own}{H H':Hp}(s:Conv O O' H H'):∀{ys:Cy}{ds:List D},Kcs K O H ys ds->Kcs K O' H' ys ds
 | _,_,.nil=>.nil
 | _,_,.cons e rk rv r t=>.cons e (rk.conv s) rv (r.conv s) (Kcs.conv s t)
noncomputable def isO:Option Int->Value->Bool
 | some i,.int j _=>decide (i=j)
 | none,.none=>true
 | _,_=>false
noncomputable def hO0:Option Int->Int
 | some i=>hashInt i
 | none=>4238894112
noncomputable abbrev Oy:=List (Option Int×Value)
inductive OEs:List DictEntry->Oy->Prop
 | nil:OEs [] []
 | cons{e:DictEntry}{k:Option Int}{v:Value}{es:List DictEntry}{ys:Oy}(i:isO k e.key=true)(h:e.hash=hO0 k)(q:e.val=v)(t:OEs es ys):OEs (e::es) ((k,v)::ys)
noncomputable def jN(a:Addr)(ys:Oy)(h:Heap):Prop:=ys.length≤sizeLine/\(a==sysModules)=false/\(ys.map (·.1)).Nodup/\
 ∃o es ep,h.get? a=some o/\o.ExactDict/\o.data=.dict es ep/\OEs es.toList ys
noncomputable def oD:Option Int->D
 | some i=>.int i
 | none=>.non
inductive Kos(K:PySem.W.Frag)(O:Own)(H:Hp):Oy->List D->Prop
 | nil:Kos K O H [] []
 | cons{c:Option Int}{u:Value}{v:V}{k d:D}{ys:Oy}{ds:List D}(e:k=oD c)(rv:RelV v u)(r:Rep K O H v d)(t:Kos K O H ys ds):Kos K O H ((c,u)::ys) (.tup [k,d]::ds)
theorem Kos.conv{K:PySem.W.Frag}{O O':Own}{H H':Hp}(s:Conv O O' H H'):∀{ys:Oy}{ds:List D},Kos K O H ys ds->Kos K O' H' ys ds
 | _,_,.nil=>.nil
 | _,_,.cons e rv r t=>.cons e rv (r.conv s) (Kos.conv s t)
inductive DOb(K:PySem.W.Frag)(O:Own)(H:Hp)(a:Addr)(ds:List D):Prop
 | t(kvs:List (List Key×V))(e:H a=some (.dT kvs))(r:Kps K O H kvs ds):DOb K O H a ds
 | c(ys:Cy)(n:ys≠[])(e:H a=some (.ext (RQ a ys)))(r:Kcs K O H ys ds):DOb K O H a ds
 | o(ys:Oy)(n:ys≠[])(e:H a=some (.ext (jN a ys)))(r:Kos K O H ys ds):DOb K O H a ds
theorem DOb.move{ds:List D}(s:Conv O O' H H')(b:DOb K O H a ds)(h:∀o,H a=some o->H' a=some o):DOb K O' H' a ds:=by
 cases b with
 | t kvs e r=>exact .t kvs (h _ e) (r.conv s)
 | c ys n e r=>exact .c ys n (h _ e) (r.conv s)
 | o ys n e r=>exact .o ys n (h _ e) (r.conv s)
theorem DOb.there{ds:List D}(b:DOb K O H a ds):H a≠none:=by
 cases b with
 | t kvs e r=>rw[e];simp
 | c ys n e r=>rw[e];simp
 | o ys n e r=>rw[e];simp
structure StOk(K:PySem.W.Frag)(O:Own)(H:Hp)(S:Store):Prop where
 nd:(adr O.A).Nodup
 len:O.A.length=S.length
 obj:∀(k:Nat)(a:Addr)(ds:List D),O.A[k]? =some (a,false)->S[k]? =some ds->∃xs,H a=some (.lst xs)/\Reps K O H xs ds
 dob:∀(k:Nat)(a:Addr)(ds:List D),O.A[k]? =some (a,true)->S[k]? =some ds->DOb K O H a ds
 apart:∀a∈adr O.A,a∉O.B
 hidden:∀b∈O.B,H b≠none
structure EnvOk(K:PySem.W.Frag)(O:Own)(H:Hp)(σ:St)(Γ:Gam):Prop where
 len:σ.length=Γ.length
 at_:∀(i:Nat)(d:D),Γ[i]? =some (some d)->∃v,σ[i]? =some (some v)/\Rep K O H v d
theorem EnvOk.mono{σ:St}{Γ:Gam}(e:EnvOk K O H σ Γ)(s:Step O O' H H'):EnvOk K O' H' σ Γ:=
 ⟨e.len,λ i d h=>let ⟨v,a,b⟩:=e.at_ i d h;⟨v,a,b.mono s⟩⟩
theorem EnvOk.set{σ:St}{Γ:Gam}(e:EnvOk K O H σ Γ){v:V}{d:D}(r:Rep K O H v d)(i:Nat):EnvOk K O H (σ.set i (some v)) (Γ.set i (some d)):=by
 refine⟨by simp[e.len],λ j c h=>?_⟩
 by_cases hj:i=j
 . subst hj
   have hl:i<Γ.length:=by
    have:=(z0.mp h).1
    simpa using this
   rw[List.getElem?_set_self hl]at h
   cases h
   exact⟨v,List.getElem?_set_self (by rw[e.len];exact hl),r⟩
 . rw[List.getElem?_set_ne hj]at h
   rw[List.getElem?_set_ne hj]
   exact e.at_ j c h
theorem StOk.tracked(s:StOk K O H S){a:Addr}(h:O.has a):H a≠none:=by
 rcases h with h | h
 . obtain⟨⟨a',c⟩,hm,rfl⟩:=List.mem_map.mp h
   obtain⟨k,hk⟩:=List.getElem?_of_mem hm
   have hl:k<S.length:=by rw[←s.len];exact(z0.mp hk).1
   cases c with
   | false=>
     obtain⟨xs,q,_⟩:=s.obj k a' S[k] hk (y3 hl)
     rw[show(a',false).1=a' from rfl,q];simp
   | true=>
     exact(s.dob k a' S[k] hk (y3 hl)).there
 . exact s.hidden a h
theorem Step.fresh(h:H p=none)(o:HO):Step O O H (upd H p o):=
 ⟨λ b u _ q=>by rw[aq (aG q h)];exact q,λ b q=>by
  by_cases e:b=p
  . subst e;rw[aO];simp
  . rw[aq e];exact q,⟨[],by simp,λ _ z=>nomatch z⟩,rfl⟩
theorem Step.same(h:dG H H'):Step O O H H':=
 ⟨λ b o _ q=>h b o q,λ b q=>by
  cases e:H b with
  | none=>exact absurd e q
  | some o=>rw[h b o e];simp,⟨[],by simp,λ _ z=>nomatch z⟩,rfl⟩
theorem dG.fresh(h:H p=none)(o:HO):dG H (upd H p o):=λ b u q=>by rw[aq (aG q h)];exact q
theorem StOk.same(s:StOk K O H S)(h:dG H H'):StOk K O H' S:=
 ⟨s.nd,s.len,λ k a ds e1 e2=>let ⟨xs,q,r⟩:=s.obj k a ds e1 e2;⟨xs,h _ _ q,r.mono (Step.same h)⟩,λ k a ds e1 e2=>(s.dob k a ds e1 e2).move (Step.same h).conv λ o q=>h _ _ q,s.apart,λ b hb=>(Step.same (O:=O) h).dom b (s.hidden b hb)⟩
theorem StOk.fresh_not(s:StOk K O H S){p:Addr}(h:H p=none):¬O.has p:=λ z=>s.tracked z h
theorem StOk.fresh(s:StOk K O H S){p:Addr}(h:H p=none)(o:HO):StOk K O (upd H p o) S:=s.same (dG.fresh h o)
noncomputable abbrev Own.more(O:Own)(p:Addr)(q:Bool:=false):Own:=⟨O.A++[(p,q)],O.B⟩
theorem Step.own(h:H p=none)(o:HO)(q:Bool:=false):Step O (O.more p q) H (upd H p o):=
 ⟨(Step.fresh (O:=O) h o).kept,(Step.fresh (O:=O) h o).dom,⟨[(p,q)],rfl,λ b z=>by rw[List.mem_singleton.mp z];exact h⟩,rfl⟩
theorem jh{A:List (Addr×Bool)}{p:Addr×Bool}{k:Nat}{x:Addr×Bool}(h:(A++[p])[k]? =some x):A[k]? =some x∨(k=A.length/\x=p):=by
 by_cases hk:k<A.length
 . rw[x8 hk]at h;exact .inl h
 . rw[List.getElem?_append_right (by omega)]at h
   have hk0:k-A.length=0:=by
    have:=(z0.mp h).1
    simp at this;omega
   rw[hk0]at h
   exact .inr ⟨by omega,(Option.some.inj h).symm⟩
theorem wj{A:List (Addr×Bool)}{q:Bool}(h:(adr A).Nodup)(n:p∉adr A):(adr (A++[(p,q)])).Nodup:=by
 rw[bU]
 refine List.nodup_append.mpr ⟨h,by simp,λ a ha b hb e=>?_⟩
 rw[List.mem_singleton.mp hb]at e;rw[e]at ha;exact n ha
theorem StOk.own(s:StOk K O H S){p:Addr}(h:H p=none){xs:List V}{ds:List D}(r:Reps K O H xs ds):
 StOk K (O.more p) (upd H p (.lst xs)) (S++[ds]):=by
 have st:=Step.own (O:=O) h (.lst xs)
 have np:=s.fresh_not h
 refine⟨wj s.nd λ z=>np (.inl z),by simp[s.len],λ k a es e1 e2=>?_,λ k a es e1 e2=>?_,λ a ha=>?_,λ b hb=>st.dom b (s.hidden b hb)⟩
 . rcases jh e1 with e1 | ⟨rfl,e⟩
   . have hk:=(z0.mp e1).1
     rw[x8 (by rw[←s.len];exact hk)]at e2
     obtain⟨ys,q,r'⟩:=s.obj k a es e1 e2
     exact⟨ys,by rw[aq (aG q h)];exact q,r'.mono st⟩
   . cases e
     rw[List.getElem?_append_right (by rw[s.len];exact y9 _),s.len,Nat.sub_self]at e2
     cases e2
     exact⟨xs,aO,r.mono st⟩
 . rcases jh e1 with e1 | ⟨rfl,e⟩
   . have hk:=(z0.mp e1).1
     rw[x8 (by rw[←s.len];exact hk)]at e2
     exact(s.dob k a es e1 e2).move st.conv λ o q=>by rw[aq (aG q h)];exact q
   . cases e
 . rw[bU]at ha
   rcases List.mem_append.mp ha with z | z
   . exact s.apart a z
   . rw[List.mem_singleton.mp z];exact λ q=>np (.inr q)
theorem StOk.ownD(s:StOk K O H S){p:Addr}(h:H p=none){kvs:List (List Key×V)}{ds:List D}(r:Kps K O H kvs ds):
 StOk K (O.more p true) (upd H p (.dT kvs)) (S++[ds]):=by
 have st:=Step.own (O:=O) h (.dT kvs) true
 have np:=s.fresh_not h
 refine⟨wj s.nd λ z=>np (.inl z),by simp[s.len],λ k a es e1 e2=>?_,λ k a es e1 e2=>?_,λ a ha=>?_,λ b hb=>st.dom b (s.hidden b hb)⟩
 . rcases jh e1 with e1 | ⟨rfl,e⟩
   . have hk:=(z0.mp e1).1
     rw[x8 (by rw[←s.len];exact hk)]at e2
     obtain⟨ys,q,r'⟩:=s.obj k a es e1 e2
     exact⟨ys,by rw[aq (aG q h)];exact q,r'.mono st⟩
   . cases e
 . rcases jh e1 with e1 | ⟨rfl,e⟩
   . have hk:=(z0.mp e1).1
     rw[x8 (by rw[←s.len];exact hk)]at e2
     exact(s.dob k a es e1 e2).move st.conv λ o q=>by rw[aq (aG q h)];exact q
   . cases e
     rw[List.getElem?_append_right (by rw[s.len];exact y9 _),s.len,Nat.sub_self]at e2
     cases e2
     exact .t kvs aO (r.conv st.conv)
 . rw[bU]at ha
   rcases List.mem_append.mp ha with z | z
   . exact s.apart a z
   . rw[List.mem_singleton.mp z];exact λ q=>np (.inr q)
theorem Step.put(h:a∈adr O.A)(o:HO):Step O O H (upd H a o):=
 ⟨λ b u hb q=>by rw[aq (λ e=>hb (by rw[e];exact h))];exact q,λ b q=>by
  by_cases e:b=a
  . subst e;rw[aO];simp
  . rw[aq e];exact q,⟨[],by simp,λ _ z=>nomatch z⟩,rfl⟩
theorem qN{A:List (Addr×Bool)}(nd:(adr A).Nodup){k j:Nat}{a b:Addr}{p q:Bool}(h:A[k]? =some (a,p))(h2:A[j]? =some (b,q))(hj:k≠j):b≠a:=λ e=>hj (by
 have g1:(adr A)[k]? =some a:=by rw[y8,h];rfl
 have g2:(adr A)[j]? =some b:=by rw[y8,h2];rfl
 obtain⟨h1,e1'⟩:=z0.mp g1
 obtain⟨h2,e2'⟩:=z0.mp g2
 exact(List.getElem_inj nd).mp (e1'.trans (e.symm.trans e2'.symm)))
theorem StOk.put(s:StOk K O H S){k:Nat}{a:Addr}(h:O.A[k]? =some (a,false)){xs:List V}{ds:List D}(r:Reps K O H xs ds):
 StOk K O (upd H a (.lst xs)) (S.set k ds):=by
 have st:=Step.put (O:=O) (H:=H) (bK h) (.lst xs)
 refine⟨s.nd,by simp[s.len],λ j b es e1 e2=>?_,λ j b es e1 e2=>?_,s.apart,λ b hb=>st.dom b (s.hidden b hb)⟩
 . by_cases hj:k=j
   . subst hj
     rw[h]at e1;cases e1
     have hl:=(z0.mp e2).1
     rw[List.getElem?_set_self (by simpa using hl)]at e2
     cases e2
     exact⟨xs,aO,r.mono st⟩
   . rw[List.getElem?_set_ne hj]at e2
     obtain⟨ys,q,r'⟩:=s.obj j b es e1 e2
     exact⟨ys,by rw[aq (qN s.nd h e1 hj)];exact q,r'.mono st⟩
 . have hj:k≠j:=λ e=>by subst e;rw[h]at e1;cases e1
   rw[List.getElem?_set_ne hj]at e2
   exact(s.dob j b es e1 e2).move st.conv λ o q=>by rw[aq (qN s.nd h e1 hj)];exact q
theorem StOk.putO(s:StOk K O H S){k:Nat}{a:Addr}(h:O.A[k]? =some (a,true)){o:HO}{ds:List D}(r:DOb K O (upd H a o) a ds):
 StOk K O (upd H a o) (S.set k ds):=by
 have st:=Step.put (O:=O) (H:=H) (bK h) o
 refine⟨s.nd,by simp[s.len],λ j b es e1 e2=>?_,λ j b es e1 e2=>?_,s.apart,λ b hb=>st.dom b (s.hidden b hb)⟩
 . have hj:k≠j:=λ e=>by subst e;rw[h]at e1;cases e1
   rw[List.getElem?_set_ne hj]at e2
   obtain⟨ys,q,r'⟩:=s.obj j b es e1 e2
   exact⟨ys,by rw[aq (qN s.nd h e1 hj)];exact q,r'.mono st⟩
 . by_cases hj:k=j
   . subst hj
     rw[h]at e1;cases e1
     have hl:=(z0.mp e2).1
     rw[List.getElem?_set_self (by simpa using hl)]at e2
     cases e2
     exact r
   . rw[List.getElem?_set_ne hj]at e2
     exact(s.dob j b es e1 e2).move st.conv λ o q=>by rw[aq (qN s.nd h e1 hj)];exact q
theorem StOk.hide(s:StOk K O H S){p:Addr}(h:H p=none)(o:HO):StOk K (O.hide p) (upd H p o) S:=by
 have st:=Step.fresh (O:=O) h o
 refine⟨s.nd,s.len,λ k a ds e1 e2=>?_,λ k a ds e1 e2=>?_,λ a ha z=>?_,λ b hb=>?_⟩
 . obtain⟨xs,q,r⟩:=s.obj k a ds e1 e2
   exact⟨xs,by rw[aq (aG q h)];exact q,r.conv (Conv.hide h o)⟩
 . exact(s.dob k a ds e1 e2).move (Conv.hide h o) λ o q=>by rw[aq (aG q h)];exact q
 . rcases List.mem_cons.mp z with z | z
   . exact s.tracked (.inl ha) (z▸h)
   . exact s.apart a ha z
 . rcases List.mem_cons.mp hb with z | z
   . subst z;rw[aO];simp
   . exact st.dom b (s.hidden b z)
theorem StOk.unhide{A:List (Addr×Bool)}{B:List Addr}(s:StOk K ⟨A,p::B⟩ H S):StOk K ⟨A,B⟩ H S:=
 ⟨s.nd,s.len,λ k a ds e1 e2=>let ⟨xs,q,r⟩:=s.obj k a ds e1 e2;⟨xs,q,r.conv Conv.unhide⟩,λ k a ds e1 e2=>(s.dob k a ds e1 e2).move Conv.unhide λ _ q=>q,λ a ha z=>s.apart a ha (x3 _ z),λ b hb=>s.hidden b (x3 _ hb)⟩
theorem StOk.updHid(s:StOk K O H S){p:Addr}(h:p∈O.B)(o:HO):StOk K O (upd H p o) S:=
 ⟨s.nd,s.len,λ k a ds e1 e2=>by
  obtain⟨xs,q,r⟩:=s.obj k a ds e1 e2
  have ne:a≠p:=λ e=>s.apart a (bK e1) (e▸h)
  exact⟨xs,by rw[aq ne];exact q,r.conv (Conv.updHid h o)⟩,λ k a ds e1 e2=>by
  have ne:a≠p:=λ e=>s.apart a (bK e1) (e▸h)
  exact(s.dob k a ds e1 e2).move (Conv.updHid h o) λ _ q=>by rw[aq ne];exact q,s.apart,λ b hb=>by
  by_cases e:b=p
  . subst e;rw[aO];simp
  . rw[aq e];exact s.hidden b hb⟩
theorem Step.adopt{A:List (Addr×Bool)}(s:Step O ⟨A,O.B⟩ H H')(h:H p=none):Step O ⟨A++[(p,false)],O.B⟩ H H':=by
 obtain⟨N,e,f⟩:=s.ext
 refine⟨s.kept,s.dom,⟨N++[(p,false)],?_,λ b hb=>?_⟩,rfl⟩
 . show A++[(p,false)]=_
   rw[show A=O.A++N from e,List.append_assoc]
 . rw[bU]at hb
   rcases List.mem_append.mp hb with z | z
   . exact f b z
   . rw[List.mem_singleton.mp z];exact h
theorem Conv.adopt{A:List (Addr×Bool)}{B:List Addr}:Conv ⟨A,p::B⟩ ⟨A++[(p,false)],B⟩ H H:=
 ⟨λ a u n t=>⟨λ z=>n (z.elim (λ z=>(List.mem_append.mp (by rw[←bU];exact z)).elim .inl λ z=>.inr (by rw[List.mem_singleton.mp z];exact x5)) λ z=>.inr (x3 _ z)),t⟩,
  λ k a h=>by
   show(A++[(p,false)])[k]? =some a
   rw[x8 (z0.mp h).1];exact h⟩
theorem StOk.adopt{A:List (Addr×Bool)}{B:List Addr}{ds:List D}(s:StOk K ⟨A,p::B⟩ H S)(hp:p∉B)(h:H p=some (.lst xs))(r:Reps K ⟨A,p::B⟩ H xs ds):StOk K ⟨A++[(p,false)],B⟩ H (S++[ds]):=by
 have np:p∉adr A:=λ z=>s.apart p z x5
 have sl:A.length=S.length:=s.len
 refine⟨wj s.nd np,by simp[sl],λ k a es e1 e2=>?_,λ k a es e1 e2=>?_,λ a ha=>?_,λ b hb=>s.hidden b (x3 _ hb)⟩
 . rcases jh e1 with e1 | ⟨rfl,e⟩
   . have hk:=(z0.mp e1).1
     rw[x8 (by omega)]at e2
     obtain⟨ys,q,r'⟩:=s.obj k a es e1 e2
     exact⟨ys,q,r'.conv Conv.adopt⟩
   . cases e
     rw[List.getElem?_append_right (by omega),sl,Nat.sub_self]at e2
     cases e2
     exact⟨xs,h,r.conv Conv.adopt⟩
 . rcases jh e1 with e1 | ⟨rfl,e⟩
   . have hk:=(z0.mp e1).1
     rw[x8 (by omega)]at e2
     exact(s.dob k a es e1 e2).move Conv.adopt λ _ q=>q
   . cases e
 . have ha:a∈adr (A++[(p,false)]):=ha
   rw[bU]at ha
   rcases List.mem_append.mp ha with z | z
   . exact λ q=>s.apart a z (x3 _ q)
   . rw[List.mem_singleton.mp z];exact hp
theorem Step.inner{A1 A2:List (Addr×Bool)}{B:List Addr}{H1 H2:Hp}(a:Step O ⟨A1,B⟩ H H1)(b:Step ⟨A1,p::B⟩ ⟨A2,p::B⟩ H1 H2)(h:H p=none)(o:HO):Step O ⟨A2,B⟩ H (upd H2 p o):=by
 have b':Step ⟨A1,B⟩ ⟨A2,B⟩ H1 H2:=⟨b.kept,b.dom,b.ext,rfl⟩
 have c:=a.trans b'
 refine⟨λ x u hx t=>?_,λ x t=>?_,c.ext,c.hid⟩
 . rw[aq (aG t h)];exact c.kept x u hx t
 . by_cases e:x=p
   . subst e;rw[aO];simp
   . rw[aq e];exact c.dom x t
end DL
namespace DL
open PySem PySem.Spec L2
open PyProof.Rows
variable {K : PySem.W.Frag} {O : Own} {H : Hp} {x : D} {ds : List D} {i j : Int} {p : Addr} {xs : List V}
noncomputable abbrev Pins:=List (Addr×Obj)
noncomputable abbrev WD:=D->Store->Prop
noncomputable def QG(K:PySem.W.Frag)(O:Own)(H:Hp)(W:WD):VK:=λ v H'=>∃O' d S',W d S'/\Step O O' H H'/\StOk K O' H' S'/\Rep K O' H' v d
noncomputable def QA(K:PySem.W.Frag)(O:Own)(H:Hp)(W:List D->Store->Prop):List V->Hp->Prop:=λ vs H'=>∃O' ds S',W ds S'/\Step O O' H H'/\StOk K O' H' S'/\Reps K O' H' vs ds
noncomputable def QT(K:PySem.W.Frag)(O:Own)(H:Hp)(W:Bool->Store->Prop):Bool->Hp->Prop:=λ b H'=>∃O' S',W b S'/\Step O O' H H'/\StOk K O' H' S'
noncomputable def Ev(X:Cx)(Γ:Gam)(S:Store)(e:Expr)(W:WD):Prop:=
 ∀ (pins:Pins)(s:Shared)(σ:St)(H:Hp)(O:Own),Inv X pins σ H s->EnvOk X.K O H σ Γ->StOk X.K O H S->
   wpAny (model X.prog X.w) X.A (eval e X.env) (EP X pins σ (QG X.K O H W)) X.xe s
noncomputable def EvA(X:Cx)(Γ:Gam)(S:Store)(es:List Expr)(W:List D->Store->Prop):Prop:=
 ∀ (pos:Pos)(pins:Pins)(s:Shared)(σ:St)(H:Hp)(O:Own),Inv X pins σ H s->EnvOk X.K O H σ Γ->StOk X.K O H S->
   wpAny (model X.prog X.w) X.A (spliced (backTo pos (starEach es X.env))) (AP X pins σ (QA X.K O H W)) X.xe s
noncomputable def TsW(X:Cx)(Γ:Gam)(S:Store)(e:Expr)(W:Bool->Store->Prop):Prop:=
 ∀ (whole:Sem Value)(pins:Pins)(s:Shared)(σ:St)(H:Hp)(O:Own),Inv X pins σ H s->EnvOk X.K O H σ Γ->StOk X.K O H S->
   wpAny (model X.prog X.w) X.A (isTrue e X.env whole) (TP X pins σ (QT X.K O H W)) X.xe s
noncomputable def Ts(X:Cx)(Γ:Gam)(S:Store)(e:Expr)(W:Bool->Store->Prop):Prop:=
 ∀ (pins:Pins)(s:Shared)(σ:St)(H:Hp)(O:Own),Inv X pins σ H s->EnvOk X.K O H σ Γ->StOk X.K O H S->
   wpAny (model X.prog X.w) X.A (isTrue e X.env (eval e X.env)) (TP X pins σ (QT X.K O H W)) X.xe s
noncomputable def OpW(X:Cx)(f:Value->Value->Sem Value)(x y:D)(S:Store)(W:WD):Prop:=
 ∀ (pins:Pins)(s:Shared)(σ:St)(H:Hp)(O:Own)(v w:V)(u u':Value),Inv X pins σ H s->StOk X.K O H S->Rep X.K O H v x->Rep X.K O H w y->RelV v u->RelV w u'->
   wpAny (model X.prog X.w) X.A (f u u') (EP X pins σ (QG X.K O H W)) X.xe s
noncomputable def cO(X:Cx)(f:Value)(ds:List D)(S:Store)(W:WD):Prop:=
 ∀ (pins:Pins)(s:Shared)(σ:St)(H:Hp)(O:Own)(vs:List V)(us:List Value),Inv X pins σ H s->StOk X.K O H S->Reps X.K O H vs ds->Vals vs us->
   wpAny (model X.prog X.w) X.A (call f us) (EP X pins σ (QG X.K O H W)) X.xe s
noncomputable abbrev du(X:Cx)(op:Operator):=OpW X (binaryOp op)
noncomputable abbrev bw(X:Cx)(op:CmpOp):=OpW X (compareOp op)
section
variable {X : Cx} {Γ : Gam} {S S1 : Store} {W : WD} {a b e : Expr} {es rest : List Expr} {pos : Pos}
theorem QG.pre{O1:Own}{H1:Hp}(st:Step O O1 H H1){v:V}{H':Hp}(q:QG K O1 H1 W v H'):QG K O H W v H':=by
 obtain⟨O',d,S',w,s',ok,r⟩:=q
 exact⟨O',d,S',w,st.trans s',ok,r⟩
theorem cY{pins:Pins}{σ:St}{O1:Own}{H1:Hp}(st:Step O O1 H H1){u:Value}{s':Shared}(q:EP X pins σ (QG X.K O1 H1 W) u s'):EP X pins σ (QG X.K O H W) u s':=by
 obtain⟨v,H',I,r,q⟩:=q
 exact⟨v,H',I,r,q.pre st⟩
theorem MN{pins:Pins}{σ:St}{O1:Own}{H1:Hp}(st:Step O O1 H H1){W:Bool->Store->Prop}{u:Bool}{s':Shared}(q:TP X pins σ (QT X.K O1 H1 W) u s'):TP X pins σ (QT X.K O H W) u s':=by
 obtain⟨H',I,O',S',w,s2,ok⟩:=q
 exact⟨H',I,O',S',w,st.trans s2,ok⟩
theorem Ev.mono{W':WD}(h:Ev X Γ S e W)(k:∀d S',W d S'->W' d S'):Ev X Γ S e W':=λ pins s σ H O I env st=>
 thn (h pins s σ H O I env st) λ _ _ ⟨v,H',I',r,O',d,S',w,q⟩=>⟨v,H',I',r,O',d,S',k d S' w,q⟩
theorem OpW.mono{f:Value->Value->Sem Value}{y:D}{W':WD}(h:OpW X f x y S W)(k:∀d S',W d S'->W' d S'):OpW X f x y S W':=λ pins s σ H O v w u u' I st r1 r2 r3 r4=>
 thn (h pins s σ H O v w u u' I st r1 r2 r3 r4) λ _ _ ⟨v,H',I',r,O',d,S',w,q⟩=>⟨v,H',I',r,O',d,S',k d S' w,q⟩
theorem dU{f:Value->Value->Sem Value}{r:R2}{y:D}(ho:OpR X f r)(h:∀O H v w,StOk X.K O H S->Rep X.K O H v x->Rep X.K O H w y->r v w H (QG X.K O H W)):OpW X f x y S W:=
 λ pins s σ H O v w u u' I st r1 r2 r3 r4=>ho pins s σ H v w u u' _ I r3 r4 (h O H v w st r1 r2)
theorem bR{f:Value}{r:List V->Hp->VK->Prop}(hc:eZ X f r)(h:∀O H vs,StOk X.K O H S->Reps X.K O H vs ds->r vs H (QG X.K O H W)):cO X f ds S W:=
 λ pins s σ H O vs us I st r1 r2=>hc pins s σ H vs us _ I r2 (h O H vs st r1)
theorem QG.here{v:V}{d:D}(w:W d S)(st:StOk K O H S)(r:Rep K O H v d):QG K O H W v H:=⟨O,d,S,w,Step.refl O H,st,r⟩
theorem Qv(i:Nat){x:Str}{d:D}(hΓ:Γ[i]? =some (some d))(w:W d S)(hN:X.N[i]? =some x:=by rfl)
 (hv:Vis X.env.scope x:=by first | exact Or.inl rfl | exact Or.inr (Or.inl rfl) | exact Or.inr (Or.inr rfl))(hd:(x==("__debug__":Str))=false:=by decide)(hcd:(x==("__classdict__":Str))=false:=by decide):
 Ev X Γ S (.Name x pos) W:=by
 intro pins s σ H O I env st
 obtain⟨v,e,r⟩:=env.at_ i d hΓ
 exact PL hN hv hd hcd pins s σ H _ I ⟨v,e,QG.here w st r⟩
theorem Qz{j}(w:W (.int i) S):Ev X Γ S (.Constant (.int i) j pos) W:=λ pins s σ H O I _ st=>QS pins s σ H _ I (QG.here w st (.int i))
theorem SJ{i:Bool}{j}(w:W (.bl i) S):Ev X Γ S (.Constant (.bool i) j pos) W:=λ pins s σ H O I _ st=>Uk pins s σ H _ I (QG.here w st (.bl i))
theorem Qy{j}(w:W .non S):Ev X Γ S (.Constant .none j pos) W:=λ pins s σ H O I _ st=>P0 pins s σ H _ I (QG.here w st .non)
theorem LQ{x:Str}{t:Tok}(hm:X.mg x=some (.int i t))(w:W (.int i) S)(hg:Gl X x:=by rfl)(hd:(x==("__debug__":Str))=false:=by decide):Ev X Γ S (.Name x pos) W:=
 λ pins s σ H O I _ st=>Ox hg hm (v:=.int i) ⟨t,rfl⟩ hd pins s σ H _ I (QG.here w st (.int i))
theorem wu{op:Operator}(h:Ev X Γ S a λ x S1=>Ev X Γ S1 b λ y S2=>du X op x y S2 W):Ev X Γ S (.BinOp a op b pos) W:=by
 intro pins s σ H O I env st
 refine wpAny_BinOp (thn (h pins s σ H O I env st) λ u s1 hq_=>?_)
 obtain⟨v,H1,I1,r1,O1,x,S1,hb,st1,ok1,rep1⟩:=hq_
 refine thn (hb pins s1 σ H1 O1 I1 (env.mono st1) ok1) λ u' s2 hq_=>?_
 obtain⟨w,H2,I2,r2,O2,y,S2,hw,st2,ok2,rep2⟩:=hq_
 exact thn (hw pins s2 σ H2 O2 v w u u' I2 ok2 (rep1.mono st2) rep2 r1 r2) λ _ _ q=>cY (st1.trans st2) q
theorem Qg{op:CmpOp}(h:Ev X Γ S a λ x S1=>Ev X Γ S1 b λ y S2=>bw X op x y S2 W)(hm:behindInMarks op b=false:=by first | exact nomark _ | (with_unfolding_all rfl)):Ev X Γ S (.Compare a [op] [b] pos) W:=by
 intro pins s σ H O I env st
 refine wpAny_Compare1 (thn (h pins s σ H O I env st) λ u s1 hq_=>?_) hm
 obtain⟨v,H1,I1,r1,O1,x,S1,hb,st1,ok1,rep1⟩:=hq_
 refine thn (hb pins s1 σ H1 O1 I1 (env.mono st1) ok1) λ u' s2 hq_=>?_
 obtain⟨w,H2,I2,r2,O2,y,S2,hw,st2,ok2,rep2⟩:=hq_
 exact thn (hw pins s2 σ H2 O2 v w u u' I2 ok2 (rep1.mono st2) rep2 r1 r2) λ _ _ q=>cY (st1.trans st2) q
noncomputable abbrev asB(W:Bool->Store->Prop):WD:=λ d S=>∃c,d=.bl c/\W c S
theorem Hx{op:CmpOp}{W:Bool->Store->Prop}(h:Ev X Γ S a λ x S1=>Ev X Γ S1 b λ y S2=>bw X op x y S2 (asB W))(hm:behindInMarks op b=false:=by first | exact nomark _ | (with_unfolding_all rfl)):Ts X Γ S (.Compare a [op] [b] pos) W:=by
 intro pins s σ H O I env st
 refine wpAny_isTrue_Compare1 (thn (h pins s σ H O I env st) λ u s1 hq_=>?_) hm
 obtain⟨v,H1,I1,r1,O1,x,S1,hb,st1,ok1,rep1⟩:=hq_
 refine thn (hb pins s1 σ H1 O1 I1 (env.mono st1) ok1) λ u' s2 hq_=>?_
 obtain⟨w,H2,I2,r2,O2,y,S2,hw,st2,ok2,rep2⟩:=hq_
 refine thn (hw pins s2 σ H2 O2 v w u u' I2 ok2 (rep1.mono st2) rep2 r1 r2) λ _ _ hq_=>?_
 obtain⟨z,H3,I3,r3,O3,d,S3,⟨c,hd,wc⟩,st3,ok3,rep3⟩:=hq_
 subst hd
 cases rep3
 cases r3
 exact wpAny_truthy_bool ⟨H3,I3,O3,S3,wc,(st1.trans st2).trans st3,ok3⟩
theorem Qx{W:Bool->Store->Prop}(h:Ev X Γ S e (asB W))(he:∀whole,isTrue e X.env whole=(do let v ←whole;standAt e.pos;holding [v] (truthy v)):=by intro _;rfl):Ts X Γ S e W:=by
 intro pins s σ H O I env st
 refine isTrue_plain (thn (h pins s σ H O I env st) λ _ _ hq_=>?_) (he _)
 obtain⟨z,H3,I3,r3,O3,d,S3,⟨c,hd,wc⟩,st3,ok3,rep3⟩:=hq_
 subst hd
 cases rep3
 cases r3
 exact wpAny_truthy_bool ⟨H3,I3,O3,S3,wc,st3,ok3⟩
theorem TsW.ts{W:Bool->Store->Prop}(h:TsW X Γ S e W):Ts X Γ S e W:=λ pins s σ H O I env st=>h _ pins s σ H O I env st
theorem tw_and1{W:Bool->Store->Prop}(h:Ts X Γ S a W):TsW X Γ S (.BoolOp .And [a] pos) W:=by
 intro wh pins s σ H O I env st
 refine isTrue_and (thn (h pins s σ H O I env st) λ c s1 e=>?_)
 cases c with
 | true=>exact isTrue_and_nil e
 | false=>exact e
theorem tw_or1{W:Bool->Store->Prop}(h:Ts X Γ S a W):TsW X Γ S (.BoolOp .Or [a] pos) W:=by
 intro wh pins s σ H O I env st
 refine isTrue_or (thn (h pins s σ H O I env st) λ c s1 e=>?_)
 cases c with
 | false=>exact isTrue_or_nil e
 | true=>exact e
theorem tw_and{W:Bool->Store->Prop}(h:Ts X Γ S a λ c S1=>(c=true->TsW X Γ S1 (.BoolOp .And (b::rest) pos) W)/\(c=false->W false S1)):TsW X Γ S (.BoolOp .And (a::b::rest) pos) W:=by
 intro wh pins s σ H O I env st
 refine isTrue_and (thn (h pins s σ H O I env st) λ c s1 hq_=>?_)
 obtain⟨H1,I1,O1,S1,w1,st1,ok1⟩:=hq_
 cases c with
 | true=>exact thn (w1.1 rfl wh pins s1 σ H1 O1 I1 (env.mono st1) ok1) λ _ _ q=>MN st1 q
 | false=>exact⟨H1,I1,O1,S1,w1.2 rfl,st1,ok1⟩
theorem tw_or{W:Bool->Store->Prop}(h:Ts X Γ S a λ c S1=>(c=true->W true S1)/\(c=false->TsW X Γ S1 (.BoolOp .Or (b::rest) pos) W)):TsW X Γ S (.BoolOp .Or (a::b::rest) pos) W:=by
 intro wh pins s σ H O I env st
 refine isTrue_or (thn (h pins s σ H O I env st) λ c s1 hq_=>?_)
 obtain⟨H1,I1,O1,S1,w1,st1,ok1⟩:=hq_
 cases c with
 | false=>exact thn (w1.2 rfl wh pins s1 σ H1 O1 I1 (env.mono st1) ok1) λ _ _ q=>MN st1 q
 | true=>exact⟨H1,I1,O1,S1,w1.1 rfl,st1,ok1⟩
theorem PN{W:Bool->Store->Prop}(h:Ts X Γ S a λ c S1=>W (!c) S1):Ts X Γ S (.UnaryOp .Not a pos) W:=by
 intro pins s σ H O I env st
 exact isTrue_not (thn (h pins s σ H O I env st) λ c s1 ⟨H1,I1,O1,S1,w1,st1,ok1⟩=>⟨H1,I1,O1,S1,w1,st1,ok1⟩)
theorem HH{op}(h:Ev X Γ S a W):Ev X Γ S (.BoolOp op [a] pos) W:=λ pins s σ H O I env st=>BoolOp_one (h pins s σ H O I env st)
theorem QL(h:Ev X Γ S a λ x S1=>∃c,x=.bl c/\(c=true->Ev X Γ S1 (.BoolOp .And (b::rest) pos) W)/\(c=false->W (.bl false) S1)):Ev X Γ S (.BoolOp .And (a::b::rest) pos) W:=by
 intro pins s σ H O I env st
 refine BoolOp_and (thn (h pins s σ H O I env st) λ u s1 hq_=>?_)
 obtain⟨v,H1,I1,r1,O1,x,S1,⟨c,hx,h1,h2⟩,st1,ok1,rep1⟩:=hq_
 subst hx
 cases rep1
 cases r1
 refine wpAny_truthy_bool ?_
 cases c with
 | true=>exact thn (h1 rfl pins s1 σ H1 O1 I1 (env.mono st1) ok1) λ _ _ q=>cY st1 q
 | false=>exact⟨.bl false,H1,I1,rfl,O1,.bl false,S1,h2 rfl,st1,ok1,.bl false⟩
theorem Tt(h:Ev X Γ S a λ x S1=>∃c,x=.bl c/\(c=true->W (.bl true) S1)/\(c=false->Ev X Γ S1 (.BoolOp .Or (b::rest) pos) W)):Ev X Γ S (.BoolOp .Or (a::b::rest) pos) W:=by
 intro pins s σ H O I env st
 refine BoolOp_or (thn (h pins s σ H O I env st) λ u s1 hq_=>?_)
 obtain⟨v,H1,I1,r1,O1,x,S1,⟨c,hx,h1,h2⟩,st1,ok1,rep1⟩:=hq_
 subst hx
 cases rep1
 cases r1
 refine wpAny_truthy_bool ?_
 cases c with
 | false=>exact thn (h2 rfl pins s1 σ H1 O1 I1 (env.mono st1) ok1) λ _ _ q=>cY st1 q
 | true=>exact⟨.bl true,H1,I1,rfl,O1,.bl true,S1,h1 rfl,st1,ok1,.bl true⟩
theorem RM(h:Ev X Γ S a λ x S1=>∃c,x=.bl c/\W (.bl (!c)) S1):Ev X Γ S (.UnaryOp .Not a pos) W:=by
 intro pins s σ H O I env st
 refine UnaryOp_ (thn (h pins s σ H O I env st) λ u s1 hq_=>?_)
 obtain⟨v,H1,I1,r1,O1,x,S1,⟨c,hx,h1⟩,st1,ok1,rep1⟩:=hq_
 subst hx
 cases rep1
 cases r1
 exact not_of (wpAny_truthy_bool ⟨.bl (!c),H1,I1,rfl,O1,.bl (!c),S1,h1,st1,ok1,.bl (!c)⟩)
theorem Rg(h:Ev X Γ S a λ x S1=>∃i,x=.int i/\W (.int (-i)) S1):Ev X Γ S (.UnaryOp .USub a pos) W:=by
 intro pins s σ H O I env st
 refine UnaryOp_ (thn (h pins s σ H O I env st) λ u s1 hq_=>?_)
 obtain⟨v,H1,I1,r1,O1,x,S1,⟨c,hx,h1⟩,st1,ok1,rep1⟩:=hq_
 subst hx
 cases rep1
 exact Q0 pins s1 σ H1 _ _ _ I1 r1 ⟨c,rfl,O1,.int (-c),S1,h1,st1,ok1,.int (-c)⟩
theorem Ly{c:Expr}{op op':CmpOp}(h:Ev X Γ S a λ x S1=>Ev X Γ S1 b λ y S2=>bw X op x y S2 λ z S3=>∃k,z=.bl k/\(k=false->W (.bl false) S3)/\(k=true->Ev X Γ S3 c λ t S4=>bw X op' y t S4 W))
 (hm:lastMarks [op,op'] [b,c]=false:=by with_unfolding_all rfl):Ev X Γ S (.Compare a [op,op'] [b,c] pos) W:=by
 intro pins s σ H O I env st
 refine Compare_chain (thn (h pins s σ H O I env st) λ u s1 ⟨v,H1,I1,r1,O1,x,S1,hb,st1,ok1,rep1⟩=>chain_link (thn (hb pins s1 σ H1 O1 I1 (env.mono st1) ok1) λ u' s2 hq_=>?_)) hm
 obtain⟨w,H2,I2,r2,O2,y,S2,hw,st2,ok2,rep2⟩:=hq_
 refine thn (hw pins s2 σ H2 O2 v w u u' I2 ok2 (rep1.mono st2) rep2 r1 r2) λ _ s3 hq_=>?_
 obtain⟨z,H3,I3,r3,O3,d,S3,⟨k,hd,k1,k2⟩,st3,ok3,rep3⟩:=hq_
 subst hd
 cases rep3
 cases r3
 refine wpAny_truthy_bool ?_
 cases k with
 | false=>exact ite_ff ⟨.bl false,H3,I3,rfl,O3,.bl false,S3,k1 rfl,(st1.trans st2).trans st3,ok3,.bl false⟩
 | true=>
   refine ite_tt (chain_last (thn (k2 rfl pins s3 σ H3 O3 I3 (((env.mono st1).mono st2).mono st3) ok3) λ u4 s4 hq_=>?_))
   obtain⟨w4,H4,I4,r4,O4,t,S4,h4,st4,ok4,rep4⟩:=hq_
   exact thn (h4 pins s4 σ H4 O4 w w4 u' u4 I4 ok4 ((rep2.mono st3).mono st4) rep4 r2 r4) λ _ _ q=>cY (((st1.trans st2).trans st3).trans st4) q
theorem dI{W:List D->Store->Prop}(w:W [] S):EvA X Γ S [] W:=λ _ pins s σ H O I _ st=>Calls.spliced_nil ⟨[],H,I,.nil,O,[],S,w,Step.refl O H,st,.nil⟩
theorem bA{W:List D->Store->Prop}(h:Ev X Γ S e λ d S1=>EvA X Γ S1 es λ ds S2=>W (d::ds) S2)(hs:starEach (e::es) X.env=(false,eval e X.env)::starEach es X.env:=by rfl):EvA X Γ S (e::es) W:=by
 intro pos pins s σ H O I env st
 rw[hs]
 show wpAny _ _ (spliced ((false,eval e X.env)::backTo pos (starEach es X.env))) _ _ s
 refine Calls.spliced_cons (thn (h pins s σ H O I env st) λ u s1 hq_=>?_)
 obtain⟨v,H1,I1,r1,O1,x,S1,hb,st1,ok1,rep1⟩:=hq_
 exact thn (hb pos pins s1 σ H1 O1 I1 (env.mono st1) ok1) λ us s2 ⟨xs,H2,I2,r2,O2,ds,S2,w,st2,ok2,rep2⟩=>⟨v::xs,H2,I2,.cons r1 r2,O2,x::ds,S2,w,st1.trans st2,ok2,.cons (rep1.mono st2) rep2⟩
theorem small{n:Nat}(h:n≤1000000):n≤sizeLine:=Nat.le_trans h (by decide)
theorem QW(st:StOk K O H S)(h:H p=none):Tp K O (upd H p (.tup xs)) p xs:=⟨st.fresh_not h,aO⟩
theorem RX(st:StOk K O H S)(h:H p=none):Ls K O (upd H p (.lst xs)) p xs:=.inl ⟨st.fresh_not h,.inl aO⟩
theorem jd(w:W (.tup ds) S)(st:StOk K O H S)(h:H p=none)(r:Reps K O H xs ds):QG K O H W (.ref p) (upd H p (.tup xs)):=
 ⟨O,.tup ds,S,w,Step.fresh h _,st.fresh h _,.tup (QW st h) (r.mono (Step.fresh h _))⟩
theorem dw(w:W (.lst ds) S)(st:StOk K O H S)(h:H p=none)(r:Reps K O H xs ds):QG K O H W (.ref p) (upd H p (.lst xs)):=
 ⟨O,.lst ds,S,w,Step.fresh h _,st.fresh h _,.lst (RX st h) (r.mono (Step.fresh h _))⟩
theorem qg(w:W (.loc S.length) (S++[ds]))(st:StOk K O H S)(h:H p=none)(r:Reps K O H xs ds):QG K O H W (.ref p) (upd H p (.lst xs)):=
 ⟨O.more p,.loc S.length,S++[ds],w,Step.own h _,st.own h r,.loc (by show(O.A++[(p,false)])[S.length]? =some (p,false);rw[←st.len];simp)⟩
theorem Qd{x1}(h:EvA X Γ S es λ ds S1=>ds.length≤1000000/\W (.tup ds) S1):Ev X Γ S (.Tuple es x1 pos) W:=by
 intro pins s σ H O I env st
 refine wpAny_Tuple_spliced (thn (h pos pins s σ H O I env st) λ us s1 ⟨xs,H1,I1,r,O1,ds,S1,⟨z,w⟩,st1,ok1,rep⟩=>⟨by rw[←r.length,rep.length];exact small z,?_⟩)
 have hf:H1 s1.heap.objs.size=none:=I1.hok.fresh (y9 _)
 refine⟨.ref s1.heap.objs.size,upd H1 s1.heap.objs.size (.tup xs),I1.laid (t':=s1.toks) (λ b u e=>Heap.get?_push_of_some _ e) (y9 _) ?_,rfl,(jd w ok1 hf rep).pre st1⟩
 exact⟨by rw[rep.length];exact small z,us,r,⟨_,Heap.get?_push_size _ rfl,rfl,_,rfl⟩⟩
theorem Qa(h:EvA X Γ S es λ ds S1=>ds.length≤1000000/\W (.lst ds) S1):Ev X Γ S (.List es pos) W:=by
 intro pins s σ H O I env st
 refine wpAny_List_spliced (thn (h pos pins s σ H O I env st) λ us s1 ⟨xs,H1,I1,r,O1,ds,S1,⟨z,w⟩,st1,ok1,rep⟩=>⟨by rw[←r.length,rep.length];exact small z,?_⟩)
 have hf:H1 s1.heap.objs.size=none:=I1.hok.fresh (y9 _)
 refine⟨.ref s1.heap.objs.size,upd H1 s1.heap.objs.size (.lst xs),I1.laid (t':=s1.toks) (λ b u e=>Heap.get?_push_of_some _ e) (y9 _) ?_,rfl,(dw w ok1 hf rep).pre st1⟩
 exact⟨by rw[rep.length];exact small z,us,0,r,Heap.get?_push_size _ rfl⟩
theorem Oh(h:EvA X Γ S es λ ds S1=>ds.length≤1000000/\W (.loc S1.length) (S1++[ds])):Ev X Γ S (.List es pos) W:=by
 intro pins s σ H O I env st
 refine wpAny_List_spliced (thn (h pos pins s σ H O I env st) λ us s1 ⟨xs,H1,I1,r,O1,ds,S1,⟨z,w⟩,st1,ok1,rep⟩=>⟨by rw[←r.length,rep.length];exact small z,?_⟩)
 have hf:H1 s1.heap.objs.size=none:=I1.hok.fresh (y9 _)
 refine⟨.ref s1.heap.objs.size,upd H1 s1.heap.objs.size (.lst xs),I1.laid (t':=s1.toks) (λ b u e=>Heap.get?_push_of_some _ e) (y9 _) ?_,rfl,(qg w ok1 hf rep).pre st1⟩
 exact⟨by rw[rep.length];exact small z,us,0,r,Heap.get?_push_size _ rfl⟩
theorem jo{op:Operator}{C:Int->Int->Prop}{g:Int->Int->Int}(ho:OpR X (binaryOp op) (rI C λ i j=>.int (g i j))){i j:Int}(c:C i j)(w:W (.int (g i j)) S):du X op (.int i) (.int j) S W:=
 dU ho λ O H v w' st r1 r2=>by cases r1;cases r2;exact⟨i,j,rfl,rfl,c,QG.here w st (.int _)⟩
theorem xR{op:Operator}{g:Int->Int->Int}(ho:OpR X (binaryOp op) (rI0 λ i j=>.int (g i j))){i j:Int}(w:W (.int (g i j)) S):du X op (.int i) (.int j) S W:=
 dU ho λ O H v w' st r1 r2=>by cases r1;cases r2;exact⟨i,j,rfl,rfl,QG.here w st (.int _)⟩
theorem TF(w:W (.int (i+j)) S):du X .Add (.int i) (.int j) S W:=xR R3 w
theorem Tz(w:W (.int (i-j)) S):du X .Sub (.int i) (.int j) S W:=xR Ql w
theorem Su(c:CMul i j)(w:W (.int (i*j)) S):du X .Mult (.int i) (.int j) S W:=jo Qo c w
theorem TQ(c:0<j)(w:W (.int (i % j)) S):du X .Mod (.int i) (.int j) S W:=jo Q6 c w
theorem Qu(c:0<j/\j<1073741824)(w:W (.int (i/j)) S):du X .FloorDiv (.int i) (.int j) S W:=jo M9 c w
theorem Tq(c:CPow i j)(w:W (.int (i ^ j.toNat)) S):du X .Pow (.int i) (.int j) S W:=jo Qi c w
theorem m5{op:CmpOp}{g:Int->Int->Bool}(ho:OpR X (compareOp op) (rI0 λ i j=>.bl (g i j))){i j:Int}(w:W (.bl (g i j)) S):bw X op (.int i) (.int j) S W:=
 dU ho λ O H v w' st r1 r2=>by cases r1;cases r2;exact⟨i,j,rfl,rfl,QG.here w st (.bl _)⟩
theorem U6(w:W (.bl (decide (i<j))) S):bw X .Lt (.int i) (.int j) S W:=m5 SQ w
theorem UG(w:W (.bl (decide (i≤j))) S):bw X .LtE (.int i) (.int j) S W:=m5 TV w
theorem Up(w:W (.bl (decide (j<i))) S):bw X .Gt (.int i) (.int j) S W:=m5 R7 w
theorem U7(w:W (.bl (decide (j≤i))) S):bw X .GtE (.int i) (.int j) S W:=m5 Sx w
theorem Ss(w:W (.bl (decide (i=j))) S):bw X .Eq (.int i) (.int j) S W:=
 dU MK λ O H v w' st r1 r2=>by
  cases r1;cases r2
  have e:decide (V.int i=V.int j)=decide (i=j):=by rw[nq];exact(Bool.beq_eq_decide_eq i j)
  exact⟨rfl,by rw[e];exact QG.here w st (.bl _)⟩
theorem Um(w:W (.bl (!decide (i=j))) S):bw X .NotEq (.int i) (.int j) S W:=
 dU Mq λ O H v w' st r1 r2=>by
  cases r1;cases r2
  have e:decide (V.int i=V.int j)=decide (i=j):=by rw[nq];exact(Bool.beq_eq_decide_eq i j)
  exact⟨rfl,by rw[e];exact QG.here w st (.bl _)⟩
theorem T4{i j:Bool}(w:W (.bl (i==j)) S):bw X .Eq (.bl i) (.bl j) S W:=
 dU MK λ O H v w' st r1 r2=>by
  cases r1;cases r2
  exact⟨rfl,by rw[qb];exact QG.here w st (.bl _)⟩
theorem SM{i j:Bool}(w:W (.bl (!(i==j))) S):bw X .NotEq (.bl i) (.bl j) S W:=
 dU Mq λ O H v w' st r1 r2=>by
  cases r1;cases r2
  exact⟨rfl,by rw[qb];exact QG.here w st (.bl _)⟩
theorem Ub(w:W (.bl (match x with | .non=>true | _=>false)) S):bw X .Is x .non S W:=
 dU Q8 λ O H v w' st r1 r2=>by
  cases r2
  refine⟨rfl,?_⟩
  cases r1<;>exact QG.here w st (.bl _)
theorem Pk(w:W (.bl (match x with | .non=>false | _=>true)) S):bw X .IsNot x .non S W:=
 dU Ol λ O H v w' st r1 r2=>by
  cases r2
  refine⟨rfl,?_⟩
  cases r1<;>exact QG.here w st (.bl _)
theorem RZ{es:List D}(hz:ds.length+es.length≤1000000)(w:W (.tup (ds++es)) S):du X .Add (.tup ds) (.tup es) S W:=by
 intro pins s σ H O v w' u u' I st r1 r2 r3 r4
 cases r1 with
 | @tup a xs _ h1 q1=>
   cases r2 with
   | @tup b ys _ h2 q2=>
     by_cases hx:xs=[]
     . subst hx
       have e:ds=[]:=by have:=q1.length;simpa using this.symm
       subst e
       cases r3
       cases r4
       obtain⟨its,v1,p1,_⟩:=I.tuple h1.sq
       obtain⟨its2,v2,p2,_⟩:=I.tuple h2.sq
       cases v1
       obtain⟨⟨cls,dd,data,sl⟩,ho,hc,n,hd⟩:=id p1
       obtain⟨⟨cls2,dd2,data2,sl2⟩,ho2,hc2,n2,hd2⟩:=id p2
       simp only at hc hd hc2 hd2
       subst hc hd hc2 hd2
       exact concat_meets ⟨_,ho,rfl⟩ ⟨_,ho2,rfl⟩ noFill_tuple_add seq_tuple_add PySem.F.slot_tuple_add PySem.F.entry_tuple_add (PySem.F.args_tuple_add_2 _ _)
        (tuple_addW0 a b ([]:List Value).toArray its2.toArray n n2 dd dd2 sl sl2 rfl) ⟨ho,ho2,⟨.ref b,H,I,rfl,QG.here w st (.tup h2 q2)⟩⟩
     . refine Nf pins s σ H _ _ u u' _ I r3 r4 ⟨a,b,xs,ys,rfl,rfl,h1.sq,h2.sq,hx,by rw[q1.length,q2.length];exact small hz,λ e=>?_,λ _ p hp=>jd w st hp (q1.append q2)⟩
       subst e
       have e:es=[]:=by have:=q2.length;simpa using this.symm
       subst e
       rw[List.append_nil]at w
       exact QG.here w st (.tup h1 q1)
theorem QZ{es:List D}(hz:ds.length+es.length≤1000000)(w:W (.lst (ds++es)) S):du X .Add (.lst ds) (.lst es) S W:=by
 intro pins s σ H O v w' u u' I st r1 r2 r3 r4
 cases r1 with
 | @lst a xs _ h1 q1=>
   cases r2 with
   | @lst b ys _ h2 q2=>
     cases r3
     cases r4
     obtain⟨its,v1,p1,_⟩:=I.list h1.sq
     obtain⟨its2,v2,p2,_⟩:=I.list h2.sq
     obtain⟨⟨cls,dd,data,sl⟩,n,ho,hc,hdd,hd⟩:=id p1
     obtain⟨⟨cls2,dd2,data2,sl2⟩,n2,ho2,hc2,hdd2,hd2⟩:=id p2
     simp only at hc hd hc2 hd2
     subst hc hd hc2 hd2
     have z:its.length+its2.length≤sizeLine:=by rw[←v1.length,←v2.length,q1.length,q2.length];exact small hz
     refine concat_meets ⟨_,ho,rfl⟩ ⟨_,ho2,rfl⟩ noFill_list_add seq_list_add PySem.F.slot_list_add PySem.F.entry_list_add (PySem.F.args_list_add_2 _ _)
      (list_addW a b its.toArray its2.toArray n n2 dd dd2 sl sl2 (by simpa using z)) ⟨ho,ho2,?_⟩
     have ea:its.toArray++its2.toArray=(its++its2).toArray:=by simp
     rw[ea]
     refine⟨.ref s.heap.objs.size,_,I.lnew (t':=s.toks) (v1.append v2) (by rw[x6,q1.length,q2.length];exact small hz),rfl,dw w st I.fresh (q1.append q2)⟩
end
end DL
namespace DL
open PySem PySem.Spec L2
open PyProof.Rows
variable {K : PySem.W.Frag} {O : Own} {H : Hp} {xs : List V} {ds : List D} {i : Int} {d : D} {k : Nat} {x : Str} {p : Pos}
section
variable {X : Cx} {Γ : Gam} {S : Store} {W : WD} {a b e : Expr} {es : List Expr} {pos : Pos}
noncomputable def IxW(X:Cx)(a b:Expr)(x y:D)(S:Store)(W:WD):Prop:=
 ∀ (pins:Pins)(s:Shared)(σ:St)(H:Hp)(O:Own)(v w:V)(u u':Value),Inv X pins σ H s->StOk X.K O H S->Rep X.K O H v x->Rep X.K O H w y->RelV v u->RelV w u'->
   subscripted b false u u'=operate [u,u'] (getItem u u')->wpAny (model X.prog X.w) X.A (subscriptTail a b u u') (EP X pins σ (QG X.K O H W)) X.xe s
theorem Tu(h:Ev X Γ S a λ x S1=>Ev X Γ S1 b λ y S2=>IxW X a b x y S2 W)(hs:Dj b:=by intro _ _;rfl):Ev X Γ S (.Subscript a b pos) W:=by
 intro pins s σ H O I env st
 refine Subscript_ (thn (h pins s σ H O I env st) λ u s1 hq_=>?_)
 obtain⟨v,H1,I1,r1,O1,x,S1,hb,st1,ok1,rep1⟩:=hq_
 refine thn (hb pins s1 σ H1 O1 I1 (env.mono st1) ok1) λ u' s2 hq_=>?_
 obtain⟨w,H2,I2,r2,O2,y,S2,hw,st2,ok2,rep2⟩:=hq_
 exact thn (hw pins s2 σ H2 O2 v w u u' I2 ok2 (rep1.mono st2) rep2 r1 r2 (hs _ _)) λ _ _ q=>cY (st1.trans st2) q
theorem sG(r:Reps K O H xs ds)(h:atI ds i=some d):∃v,atI xs i=some v/\Rep K O H v d:=by
 unfold atI at h ⊢
 rw[r.length]
 cases e:ixN ds.length i with
 | none=>rw[e]at h;cases h
 | some j=>
   rw[e]at h
   exact r.get (i:=j) h
theorem SX(h:atI ds i=some d)(w:W d S):IxW X a b (.tup ds) (.int i) S W:=by
 intro pins s σ H O v w' u u' I st r1 r2 r3 r4 hs
 cases r2
 cases r1 with
 | @tup p xs _ h1 q1=>
   obtain⟨z,hz,rz⟩:=sG q1 h
   exact R0 a b pins s σ H _ _ u u' _ I r3 r4 ⟨p,xs,i,z,rfl,rfl,h1.sq,hz,QG.here w st rz⟩ hs
theorem TX(h:atI ds i=some d)(w:W d S):IxW X a b (.lst ds) (.int i) S W:=by
 intro pins s σ H O v w' u u' I st r1 r2 r3 r4 hs
 cases r2
 cases r1 with
 | @lst p xs _ h1 q1=>
   obtain⟨z,hz,rz⟩:=sG q1 h
   exact CJ a b pins s σ H _ _ u u' _ I r3 r4 ⟨p,xs,i,z,rfl,rfl,h1.sq,hz,QG.here w st rz⟩ hs
theorem Sh(hk:S[k]? =some ds)(h:atI ds i=some d)(w:W d S):IxW X a b (.loc k) (.int i) S W:=by
 intro pins s σ H O v w' u u' I st r1 r2 r3 r4 hs
 cases r2
 cases r1 with
 | @loc p _ h1=>
   obtain⟨xs,hx,q1⟩:=st.obj k p ds h1 hk
   obtain⟨z,hz,rz⟩:=sG q1 h
   exact CJ a b pins s σ H _ _ u u' _ I r3 r4 ⟨p,xs,i,z,rfl,rfl,SqL.of hx,hz,QG.here w st rz⟩ hs
noncomputable def PoD(X:Cx)(Γ:Gam)(S:Store)(o:Option Expr)(W:Option Int->Store->Prop):Prop:=match o with
 | none=>W none S
 | some e=>Ev X Γ S e λ d S1=>∃i,d=.int i/\W (some i) S1
noncomputable def SlW(X:Cx)(x:D)(lo hi:Option Int)(S:Store)(W:WD):Prop:=
 ∀ (pins:Pins)(s:Shared)(σ:St)(H:Hp)(O:Own)(v:V)(u vl vu:Value)(sl:Addr),Inv X pins σ H s->StOk X.K O H S->Rep X.K O H v x->RelV v u->s.heap.IsSliceOf sl vl vu .none->IsPart vl lo->IsPart vu hi->
   ∃T id,typeLookup (.type T) "__getitem__"=pure (some (.builtin id))/\s.TypeIs u T/\wpAny (model X.prog X.w) X.A (getItem u (.ref sl)) (EP X pins σ (QG X.K O H W)) X.xe s
theorem Hd{W:Option Int->Store->Prop}{o:Option Expr}(h:PoD X Γ S o W){pins:Pins}{s:Shared}{σ:St}{H:Hp}{O:Own}(I:Inv X pins σ H s)(env:EnvOk X.K O H σ Γ)(st:StOk X.K O H S):
 wpAny (model X.prog X.w) X.A (evalPart o X.env) (λ u s'=>∃p H' O' S',Inv X pins σ H' s'/\IsPart u p/\W p S'/\Step O O' H H'/\StOk X.K O' H' S') X.xe s:=by
 cases o with
 | none=>
   rw[evalPart_none]
   exact wpAny_pure ⟨none,H,O,S,I,.none,h,Step.refl O H,st⟩
 | some e=>
   rw[evalPart_some]
   refine thn (h pins s σ H O I env st) λ u s1 hq_=>?_
   obtain⟨v,H1,I1,r1,O1,x,S1,⟨i,hx,w⟩,st1,ok1,rep1⟩:=hq_
   subst hx
   cases rep1
   obtain⟨t,rfl⟩:=r1
   exact⟨some i,H1,O1,S1,I1,.int i t,w,st1,ok1⟩
theorem LC{lo hi:Option Expr}{p2:Pos}(h:Ev X Γ S e λ x S1=>PoD X Γ S1 lo λ l S2=>PoD X Γ S2 hi λ r S3=>SlW X x l r S3 W):Ev X Γ S (.Subscript e (.Slice lo hi none p2) pos) W:=by
 intro pins s σ H O I env st
 refine Subscript_ (thn (h pins s σ H O I env st) λ v s1 hq_=>?_)
 obtain⟨y,H1,I1,r1,O1,x,S1,hb,st1,ok1,rep1⟩:=hq_
 refine wpAny_Slice (thn (Hd hb I1 (env.mono st1) ok1) λ vl s2 ⟨l,H2,O2,S2,I2,pl,hc,st2,ok2⟩=>thn (Hd hc I2 ((env.mono st1).mono st2) ok2) λ vu s3 hq_=>?_)
 obtain⟨r,H3,O3,S3,I3,pu,hd,st3,ok3⟩:=hq_
 rw[evalPart_none]
 refine wpAny_pure ?_
 have I4:Inv X pins σ H3 {s3 with heap:=s3.heap.push {cls:=.type "slice",data:=.fields #[vl,vu,.none]}}:=I3.kept (t':=s3.toks) λ b ob q=>Heap.get?_push_of_some _ q
 obtain⟨T,id,hT,ht,hg⟩:=hd pins {s3 with heap:=s3.heap.push {cls:=.type "slice",data:=.fields #[vl,vu,.none]}} σ H3 O3 y v vl vu s3.heap.objs.size I4 ok3 ((rep1.mono st2).mono st3) r1 (Heap.IsSliceOf.new ..) pl pu
 show wpAny (model X.prog X.w) X.A (subscriptTail e (.Slice lo hi none p2) v (.ref s3.heap.objs.size)) _ X.xe {s3 with heap:=s3.heap.push {cls:=.type "slice",data:=.fields #[vl,vu,.none]}}
 exact tail_any (ops:=[.ref s3.heap.objs.size,v]) ht hT (thn hg λ _ _ q=>cY ((st1.trans st2).trans st3) q) (by with_unfolding_all rfl)
noncomputable def cutD(ds:List D)(lo hi:Option Int):List D:=(ds.drop (HT.sIx ds.length 0 lo)).take (HT.sIx ds.length ds.length hi-HT.sIx ds.length 0 lo)
theorem tu(r:Reps K O H xs ds)(lo hi:Option Int):Reps K O H (mC xs lo hi) (cutD ds lo hi):=by
 unfold mC cutD
 rw[r.length]
 exact(r.drop _).take _
theorem Bq{prog:Program}{w:World}{A:Around}{E:Value->Shared->Prop}{s:Shared}{t sl:Addr}{items:Array Value}{vl vu:Value}{lo hi:Option Int}{Q:Value->Shared->Prop}(ht:IsTup s.heap t items)(hs:s.heap.IsSliceOf sl vl vu .none)(pl:IsPart vl lo)(pu:IsPart vu hi)
 (h0:HT.sIx items.size 0 lo=0)(h1:HT.sIx items.size items.size hi=items.size)(h:Q (.ref t) s):wpAny (model prog w) A (getItem (.ref t) (.ref sl)) Q E s:=by
 obtain⟨os,hos,hcs,hds⟩:=id hs
 have isS:s.TypeIs (.ref sl) "slice":=⟨os,hos,hcs⟩
 unfold getItem
 try with_reducible refine wpAny_holding ?_
 first | refine wpAny_bind (wpAny_pure ?_) | skip
 refine wpAny_bind (wpAny_sequenceKey ht.typeIs (by decide) ?_)
 refine wpAny_bind (wpAny_callSpecial?_slot (name:=Str.ofString "__getitem__") ht.typeIs PyProof.Rows.slot_tuple_getitem
  (wpAny_call_entry PyProof.Rows.slot_tuple_getitem ht.typeIs entry_tuple_getitem ?_ (args_tuple_getitem _ _)))
 show wpAny _ _ (Builtin.Tuple.tupleItemsOf (.ref t)>>=_) _ _ s
 refine wpAny_bind (tupleItemsOf_ ht (wpAny_bind (wpAny_typeOf isS ?_)))
 rw[if_pos (by decide)]
 refine wpAny_bind (HT.sliceApplied_gen hs pl pu ?_)
 rw[h0,h1]
 show wpAny _ _ (if(((0:Nat):Int)==0&&(1:Int)==1&&(items.size-0)==items.size)=true then _ else _) _ _ s
 rw[if_pos (by simp)]
 unfold Builtin.Tuple.tupleIsExact
 first
  | exact wpAny_bind (wpAny_bind (wpAny_typeOf ht.typeIs (wpAny_pure (by rw[if_pos (by decide)];exact wpAny_bind (wpAny_rule (wpAny_pure ⟨_,rfl,wpAny_pure h⟩))))))
  | (refine wpAny_bind (wpAny_bind (wpAny_typeOf ht.typeIs (wpAny_pure ?_)))
     simp only[beq_self_eq_true,if_true]
     exact wpAny_bind (wpAny_rule (wpAny_pure ⟨_,rfl,wpAny_pure h⟩)))
theorem Sg{lo hi:Option Int}(w:W (.tup (cutD ds lo hi)) S):SlW X (.tup ds) lo hi S W:=by
 intro pins s σ H O v u vl vu sl I st r1 r3 hs pl pu
 cases r1 with
 | @tup p xs _ h1 q1=>
   by_cases hw:HT.sIx xs.length 0 lo=0/\HT.sIx xs.length xs.length hi=xs.length
   . cases r3
     obtain⟨its,r,ht,hz⟩:=I.tuple h1.sq
     have hlen:its.toArray.size=xs.length:=by rw[x4];exact r.length.symm
     refine⟨"tuple",_,PyProof.Rows.slot_tuple_getitem.lookup,ht.typeIs,Bq ht hs pl pu (by rw[hlen];exact hw.1) (by rw[hlen];exact hw.2) ⟨.ref p,H,I,rfl,?_⟩⟩
     have e:cutD ds lo hi=ds:=by
      unfold cutD
      rw[←q1.length,hw.1,hw.2,List.drop_zero,List.take_of_length_le (by rw[←q1.length];omega)]
     rw[e]at w
     exact QG.here w st (.tup h1 q1)
   . exact Qs pins s σ H _ u vl vu lo hi sl _ I r3 hs pl pu ⟨p,xs,rfl,h1.sq,hw,λ p' hp=>jd w st hp (tu q1 lo hi)⟩
theorem TJ{lo hi:Option Int}(w:W (.lst (cutD ds lo hi)) S):SlW X (.lst ds) lo hi S W:=by
 intro pins s σ H O v u vl vu sl I st r1 r3 hs pl pu
 cases r1 with
 | @lst p xs _ h1 q1=>exact CT pins s σ H _ u vl vu lo hi sl _ I r3 hs pl pu ⟨p,xs,rfl,h1.sq,λ p' hp=>dw w st hp (tu q1 lo hi)⟩
theorem JV{id:String}(h:EvA X Γ S (e::es) λ ds S1=>cO X (.builtin id) ds S1 W)(hm:X.mg x=none)(hv:bootBuiltins x=some (.builtin id))(hg:Gl X x:=by rfl)(hn:x≠"__name__":=by decide)(hdb:(x==("__debug__":Str))=false:=by decide)
 (he:starEach (e::es) X.env=(false,eval e X.env)::starEach es X.env:=by rfl)(hpl:(backTo pos (starEach es X.env)).any (·.1)=false:=by rfl):Ev X Γ S (.Call (.Name x p) (e::es) [] pos) W:=by
 intro pins s σ H O I env st
 refine wpAny_Call_Name_kw (bL I hg hm hv ?_ hn hdb)
 exact PyProof.Rows.callWith_builtin1 (thn (h pos pins s σ H O I env st) λ us s1 ⟨vs,H1,I1,r1,O1,ds,S1,w,st1,ok1,rep⟩=>thn (w pins s1 σ H1 O1 vs us I1 ok1 rep r1) λ _ _ q=>cY st1 q) he hpl
theorem K6{T:String}(h:EvA X Γ S (e::es) λ ds S1=>cO X (.type T) ds S1 W)(hm:X.mg x=none)(hv:bootBuiltins x=some (.type T))(hg:Gl X x:=by rfl)(hn:x≠"__name__":=by decide)(hdb:(x==("__debug__":Str))=false:=by decide)
 (he:starEach (e::es) X.env=(false,eval e X.env)::starEach es X.env:=by rfl)(hpl:(backTo pos (starEach es X.env)).any (·.1)=false:=by rfl):Ev X Γ S (.Call (.Name x p) (e::es) [] pos) W:=by
 intro pins s σ H O I env st
 refine wpAny_Call_Name_kw (bL I hg hm hv ?_ hn hdb)
 exact PyProof.Rows.callWith_type1 (thn (h pos pins s σ H O I env st) λ us s1 ⟨vs,H1,I1,r1,O1,ds,S1,w,st1,ok1,rep⟩=>thn (w pins s1 σ H1 O1 vs us I1 ok1 rep r1) λ _ _ q=>cY st1 q) he hpl
theorem cC{vs:List V}(r:Reps K O H vs [d]):∃v,vs=[v]/\Rep K O H v d:=by
 cases r with
 | cons a t=>cases t;exact⟨_,rfl,a⟩
theorem Qp(w:W (.int ds.length) S):cO X (.builtin "len") [.tup ds] S W:=bR gM λ O H vs st r=>by
 obtain⟨v,rfl,r'⟩:=cC r
 cases r' with
 | @tup p xs _ h1 q1=>exact⟨p,xs,rfl,.inr h1.sq,by rw[q1.length];exact QG.here w st (.int _)⟩
theorem Rx(w:W (.int ds.length) S):cO X (.builtin "len") [.lst ds] S W:=bR gM λ O H vs st r=>by
 obtain⟨v,rfl,r'⟩:=cC r
 cases r' with
 | @lst p xs _ h1 q1=>exact⟨p,xs,rfl,.inl h1.sq,by rw[q1.length];exact QG.here w st (.int _)⟩
theorem Qm(hk:S[k]? =some ds)(w:W (.int ds.length) S):cO X (.builtin "len") [.loc k] S W:=bR gM λ O H vs st r=>by
 obtain⟨v,rfl,r'⟩:=cC r
 cases r' with
 | @loc p _ h1=>
   obtain⟨xs,hx,q1⟩:=st.obj k p ds h1 hk
   exact⟨p,xs,rfl,.inl (SqL.of hx),by rw[q1.length];exact QG.here w st (.int _)⟩
theorem QQ(w:W (.tup ds) S):cO X (.type "tuple") [.lst ds] S W:=bR j5 λ O H vs st r=>by
 obtain⟨v,rfl,r'⟩:=cC r
 cases r' with
 | @lst p xs _ h1 q1=>exact⟨p,xs,rfl,.inl ⟨h1.sq,λ l hl=>jd w st hl q1⟩⟩
theorem QF(hk:S[k]? =some ds)(w:W (.tup ds) S):cO X (.type "tuple") [.loc k] S W:=bR j5 λ O H vs st r=>by
 obtain⟨v,rfl,r'⟩:=cC r
 cases r' with
 | @loc p _ h1=>
   obtain⟨xs,hx,q1⟩:=st.obj k p ds h1 hk
   exact⟨p,xs,rfl,.inl ⟨SqL.of hx,λ l hl=>jd w st hl q1⟩⟩
theorem RL(w:W (.lst ds) S):cO X (.type "list") [.tup ds] S W:=bR gR λ O H vs st r=>by
 obtain⟨v,rfl,r'⟩:=cC r
 cases r' with
 | @tup p xs _ h1 q1=>exact⟨p,xs,rfl,.inr h1.sq,λ l hl=>dw w st hl q1⟩
theorem RT(w:W (.lst ds) S):cO X (.type "list") [.lst ds] S W:=bR gR λ O H vs st r=>by
 obtain⟨v,rfl,r'⟩:=cC r
 cases r' with
 | @lst p xs _ h1 q1=>exact⟨p,xs,rfl,.inl h1.sq,λ l hl=>dw w st hl q1⟩
noncomputable abbrev Ct:=List D->Store->WD->Prop
noncomputable def spC(K:PySem.W.Frag)(n:Nat)(F:Ct):Sp:=λ vs H Q _=>∃O ds S W,ds.length=n/\Reps K O H vs ds/\StOk K O H S/\F ds S W/\∀v H',QG K O H W v H'->Q v H'
structure Callee(P:Program)(w:World)(K:PySem.W.Frag)(mg:Str->Option Value)(base:Heap)(x:Str)(k n:Nat)(F:Ct):Prop where
 ex:∃f fd ps,FnOk P w K mg base CX0 k f fd ps (spC K n F)/\mg x=some (.ref f)/\PySem.W.keepIn K (.ref f)=true/\Binds K fd ps []
theorem Nq{n:Nat}{F:Ct}(C:Callee X.prog X.w X.K X.mg X.base x k n F)(hr:Room k X.A)(h:EvA X Γ S (e::es) λ ds S1=>ds.length=n/\F ds S1 W)(hg:Gl X x:=by rfl)(hdb:(x==("__debug__":Str))=false:=by decide)
 (he:starEach (e::es) X.env=(false,eval e X.env)::starEach es X.env:=by rfl)(hpl:(backTo pos (starEach es X.env)).any (·.1)=false:=by rfl):Ev X Γ S (.Call (.Name x p) (e::es) [] pos) W:=by
 intro pins s σ H O I env st
 obtain⟨f,fd,ps,hF,hm,hk,hb⟩:=C.ex
 refine wpAny_Call_Name_kw (Du I hg hm ?_ hdb)
 refine PySem.W.callWith_K (h₀:=X.base) I.ok.mod.kin hk (thn (h pos pins s σ H O I env st) λ us s1 ⟨vs,H1,I1,r1,O1,ds,S1,⟨hl,w⟩,st1,ok1,rep⟩=>⟨I1.kIn,?_⟩) he hpl
 refine Q4 hF hr hb .nil TY I1 r1 ?_
 rw[List.append_nil]
 exact⟨O1,ds,S1,W,hl,rep,ok1,w,λ v H' q=>q.pre st1⟩
structure Fin where
 nx:Gam->Store->Prop
 rt:WD
 bk:Gam->Store->Prop:=λ _ _=>False
 ct:Gam->Store->Prop:=λ _ _=>False
noncomputable def QN(K:PySem.W.Frag)(O:Own)(H:Hp)(W:Gam->Store->Prop):St->Hp->Prop:=λ σ' H'=>∃O' Γ' S',W Γ' S'/\Step O O' H H'/\StOk K O' H' S'/\EnvOk K O' H' σ' Γ'
noncomputable def ends(K:PySem.W.Frag)(O:Own)(H:Hp)(W:Fin):Ends:={nx:=QN K O H W.nx,rt:=QG K O H W.rt,bk:=QN K O H W.bk,ct:=QN K O H W.ct}
noncomputable def Rn(X:Cx)(Γ:Gam)(S:Store)(st:Stmt)(W:Fin):Prop:=
 ∀ (pins:Pins)(s:Shared)(σ:St)(H:Hp)(O:Own),Inv X pins σ H s->EnvOk X.K O H σ Γ->StOk X.K O H S->
   wpAny (model X.prog X.w) X.A (exec st X.env) (SP X pins (ends X.K O H W)) X.xe s
noncomputable def Rns(X:Cx)(Γ:Gam)(S:Store)(sts:List Stmt)(W:Fin):Prop:=
 ∀ (pins:Pins)(s:Shared)(σ:St)(H:Hp)(O:Own),Inv X pins σ H s->EnvOk X.K O H σ Γ->StOk X.K O H S->
   wpAny (model X.prog X.w) X.A (execs sts X.env) (SP X pins (ends X.K O H W)) X.xe s
theorem QN.pre{O1:Own}{H1:Hp}(st:Step O O1 H H1){W:Gam->Store->Prop}{v:St}{H':Hp}(q:QN K O1 H1 W v H'):QN K O H W v H':=by
 obtain⟨O',d,S',w,s',ok,r⟩:=q
 exact⟨O',d,S',w,st.trans s',ok,r⟩
theorem EY{pins:Pins}{O1:Own}{H1:Hp}{W:Fin}(st:Step O O1 H H1){f:Flow}{s':Shared}(q:SP X pins (ends X.K O1 H1 W) f s'):SP X pins (ends X.K O H W) f s':=by
 cases f with
 | next=>obtain⟨σ,H',I,q⟩:=q;exact⟨σ,H',I,QN.pre st q⟩
 | brk=>obtain⟨σ,H',I,q⟩:=q;exact⟨σ,H',I,QN.pre st q⟩
 | cont=>obtain⟨σ,H',I,q⟩:=q;exact⟨σ,H',I,QN.pre st q⟩
 | ret u=>obtain⟨v,σ,H',I,r,q⟩:=q;exact⟨v,σ,H',I,r,QG.pre st q⟩
variable {W : Fin} {st : Stmt} {sts : List Stmt}
theorem Ro(w:W.nx Γ S):Rns X Γ S [] W:=λ pins s σ H O I env st=>wpAny_execs_nil ⟨σ,H,I,O,Γ,S,w,Step.refl O H,st,env⟩
theorem NK(h:Rn X Γ S st {W with nx:=λ Γ1 S1=>Rns X Γ1 S1 sts W}):Rns X Γ S (st::sts) W:=by
 intro pins s σ H O I env ok
 refine wpAny_execs_cons (thn (h pins s σ H O I env ok) λ f s1 q=>?_)
 cases f with
 | next=>
   obtain⟨σ',H',I',O1,Γ1,S1,w,st1,ok1,env1⟩:=q
   exact thn (w pins s1 σ' H' O1 I' env1 ok1) λ _ _ q=>EY st1 q
 | ret v=>exact q
 | brk=>exact q
 | cont=>exact q
theorem R9(h:Ev X Γ S e W.rt):Rn X Γ S (.Return (some e) pos) W:=by
 intro pins s σ H O I env ok
 exact wpAny_Return_some (thn (h pins s σ H O I env ok) λ v s1 ⟨x,H1,I1,r1,q1⟩=>⟨x,σ,H1,I1,r1,q1⟩)
theorem Ut{c:Expr}{xs ys:List Stmt}(h:Ts X Γ S c λ k S1=>(k=true->Rns X Γ S1 xs W)/\(k=false->Rns X Γ S1 ys W)):Rn X Γ S (.If c xs ys pos) W:=by
 intro pins s σ H O I env ok
 refine wpAny_If (thn (h pins s σ H O I env ok) λ d s1 hq_=>?_)
 obtain⟨H1,I1,O1,S1,w,st1,ok1⟩:=hq_
 cases d with
 | true=>exact thn (w.1 rfl pins s1 σ H1 O1 I1 (env.mono st1) ok1) λ _ _ q=>EY st1 q
 | false=>exact thn (w.2 rfl pins s1 σ H1 O1 I1 (env.mono st1) ok1) λ _ _ q=>EY st1 q
theorem MT(i:Nat){x:Str}{pos':Pos}(h:Ev X Γ S e λ d S1=>W.nx (Γ.set i (some d)) S1)(hN:X.N.Nodup)(hi:X.N[i]? =some x:=by rfl)(hx:Loc X.env.scope x:=by first | exact Or.inl rfl | exact Or.inr rfl)
 (hs:swapsWith e (some (.Name x pos')) pos.line X.env=pure false:=by rfl)(hf:X.fn x=true∨X.env.scope.names.lookup x=some .local:=by first | exact .inl rfl | exact .inr rfl):Rn X Γ S (.Assign [.Name x pos'] e pos) W:=by
 intro pins s σ H O I env ok
 refine wpAny_Assign_Name (thn (h pins s σ H O I env ok) λ v s1 hq_=>?_) hs
 obtain⟨y,H1,I1,r1,O1,d,S1,w,st1,ok1,rep1⟩:=hq_
 exact wk I1 hN hi hx r1 (λ s2 I2=>⟨_,H1,I2,O1,_,S1,w,st1,ok1,(env.mono st1).set rep1 i⟩) hf
theorem Ru(h:Ev X Γ S e λ d S1=>W.nx Γ S1)(hs:swapsWith e none pos.line X.env=pure false:=by rfl):Rn X Γ S (.Expr e pos) W:=by
 intro pins s σ H O I env ok
 exact wpAny_Expr_any (thn (h pins s σ H O I env ok) λ v s1 ⟨x,H1,I1,r1,O1,d,S1,w,st1,ok1,rep1⟩=>⟨σ,H1,I1,O1,Γ,S1,w,st1,ok1,env.mono st1⟩) I.quiet hs
noncomputable def tE(K:PySem.W.Frag)(Γ:Gam)(S:Store)(W:WD):TE:=λ σ H Q=>∃O,EnvOk K O H σ Γ/\StOk K O H S/\∀v H',QG K O H W v H'->Q v H'
theorem RN{pins:Pins}{σ:St}{Q Q':VK}{u:Value}{s':Shared}(q:EP X pins σ Q u s')(k:∀v H',Q v H'->Q' v H'):EP X pins σ Q' u s':=by
 obtain⟨v,H',I,r,q⟩:=q
 exact⟨v,H',I,r,k v H' q⟩
theorem Ev.pe{W:WD}(h:Ev X Γ S e W):PE X e (tE X.K Γ S W):=λ pins s σ H Q I ⟨O,env,st,k⟩=>thn (h pins s σ H O I env st) λ _ _ q=>RN q k
noncomputable def tEA(K:PySem.W.Frag)(Γ:Gam)(S:Store)(W:List D->Store->Prop):TA:=λ σ H Q=>∃O,EnvOk K O H σ Γ/\StOk K O H S/\∀v H',QA K O H W v H'->Q v H'
theorem EvA.pa{W:List D->Store->Prop}(h:EvA X Γ S es W):PA X es (tEA X.K Γ S W):=λ pos pins s σ H Q I ⟨O,env,st,k⟩=>thn (h pos pins s σ H O I env st) λ _ _ ⟨v,H',I',r,q⟩=>⟨v,H',I',r,k v H' q⟩
theorem Pa{o i:Expr}{tpos:Pos}(h:Ev X Γ S e λ d S1=>Ev X Γ S1 o λ x S2=>Ev X Γ S2 i λ y S3=>∃k n ds j,x=.loc k/\y=.int n/\S3[k]? =some ds/\ixN ds.length n=some j/\W.nx Γ (S3.set k (ds.set j d)))
 (ha:∀v,assign (.Subscript o i tpos) X.env v=(do
  let ov ←holding [v] (eval o X.env)
  let iv ←holding [v,ov] (eval i X.env)
  standAt tpos
  holding [v,ov,iv] (setItem ov iv v)
  release [v,ov,iv] []):=by intro _;rfl)(hs:swapsWithSole [.Subscript o i tpos] e pos.line X.env=pure false:=by rfl)(hw:swappedStores [.Subscript o i tpos] e X.env=pure none:=by rfl)
 (h1:(assignEach [.Subscript o i tpos] X.env).map (·.2)=[assign (.Subscript o i tpos) X.env]:=by rfl):Rn X Γ S (.Assign [.Subscript o i tpos] e pos) W:=by
 intro pins s σ H O I env ok
 refine wpAny_Assign_stores (thn (h pins s σ H O I env ok) λ u s1 hq_=>?_) hs hw
 obtain⟨v,H1,I1,r1,O1,d,S1,w1,st1,ok1,rep1⟩:=hq_
 rw[h1]
 show wpAny _ _ (assign (.Subscript o i tpos) X.env u) _ _ _
 rw[ha]
 refine wpAny_bind (wpAny_holding (thn (w1 pins s1 σ H1 O1 I1 (env.mono st1) ok1) λ ov s2 hq_=>?_))
 obtain⟨x,H2,I2,r2,O2,dx,S2,w2,st2,ok2,rep2⟩:=hq_
 refine wpAny_bind (wpAny_holding (thn (w2 pins s2 σ H2 O2 I2 ((env.mono st1).mono st2) ok2) λ iv s3 hq_=>?_))
 obtain⟨y,H3,I3,r3,O3,dy,S3,⟨k,n,ds,j,ex,ey,hk,hj,w⟩,st3,ok3,rep3⟩:=hq_
 subst ex
 subst ey
 have rx:=rep2.mono st3
 cases rx with
 | @loc p _ hp=>
   cases rep3
   obtain⟨xs,hx,q⟩:=ok3.obj k p ds hp hk
   have rd:=(rep1.mono st2).mono st3
   refine wpAny_bind (wpAny_standAt (wpAny_bind (wpAny_holding (thn (set_list pins s3 σ H3 _ _ v ov iv u (λ H'=>H'=upd H3 p (.lst (xs.set j v))) I3 r2 r3 r1 ⟨p,xs,n,j,rfl,rfl,hx,by rw[q.length];exact hj,rfl⟩) λ _ s4 hq_=>?_))))
   obtain⟨H4,I4,e4⟩:=hq_
   subst e4
   refine wpAny_release ⟨σ,_,I4,O3,Γ,_,w,((st1.trans st2).trans st3).trans (Step.put (bK hp) _),ok3.put hp (q.set rd j),(((env.mono st1).mono st2).mono st3).mono (Step.put (bK hp) _)⟩
noncomputable def BdW(X:Cx)(tg:Expr)(d:D)(Γ:Gam)(S:Store)(W:Gam->Store->Prop):Prop:=
 ∀ (pins:Pins)(s:Shared)(σ:St)(H:Hp)(O:Own)(v:V)(u:Value),Inv X pins σ H s->EnvOk X.K O H σ Γ->StOk X.K O H S->Rep X.K O H v d->RelV v u->
   wpAny (model X.prog X.w) X.A (assign tg X.env u) (λ _ s'=>∃σ' H',Inv X pins σ' H' s'/\QN X.K O H W σ' H') X.xe s
noncomputable def zG(X:Cx)(ts:List Expr)(ds:List D)(Γ:Gam)(S:Store)(W:Gam->Store->Prop):Prop:=
 ∀ (pins:Pins)(s:Shared)(σ:St)(H:Hp)(O:Own)(vs:List V)(us:List Value),Inv X pins σ H s->EnvOk X.K O H σ Γ->StOk X.K O H S->Reps X.K O H vs ds->Vals vs us->
   wpAny (model X.prog X.w) X.A (assignInOrder ((assignEach ts X.env).map (·.2)) us) (λ _ s'=>∃σ' H',Inv X pins σ' H' s'/\QN X.K O H W σ' H') X.xe s
theorem Og(i:Nat){x:Str}{d:D}{W:Gam->Store->Prop}(w:W (Γ.set i (some d)) S)(hN:X.N.Nodup)(hi:X.N[i]? =some x:=by rfl)(hx:Loc X.env.scope x:=by first | exact Or.inl rfl | exact Or.inr rfl)
 (hf:X.fn x=true∨X.env.scope.names.lookup x=some .local:=by first | exact .inl rfl | exact .inr rfl):BdW X (.Name x pos) d Γ S W:=λ pins s σ H O v u I env st r ru=>
 wpAny_assign_Name (wk I hN hi hx ru (λ s' I'=>⟨_,H,I',O,_,S,w,Step.refl O H,st,env.set r i⟩) hf)
theorem Py{W:Gam->Store->Prop}(w:W Γ S):zG X [] [] Γ S W:=λ pins s σ H O vs us I env st r ru=>by
 cases r
 cases ru
 exact assignInOrder_nil ⟨σ,H,I,O,Γ,S,w,Step.refl O H,st,env⟩
theorem K7{t:Expr}{ts:List Expr}{W:Gam->Store->Prop}(h:BdW X t d Γ S λ Γ1 S1=>zG X ts ds Γ1 S1 W)
 (hs:(assignEach (t::ts) X.env).map (·.2)=assign t X.env::(assignEach ts X.env).map (·.2):=by rfl):zG X (t::ts) (d::ds) Γ S W:=λ pins s σ H O vs us I env st r ru=>by
 cases r with
 | cons r rr=>
   cases ru with
   | cons ru rru=>
     rw[hs]
     refine assignInOrder_cons (thn (h pins s σ H O _ _ I env st r ru) λ _ s1 hq_=>?_)
     obtain⟨σ1,H1,I1,O1,Γ1,S1,w,st1,ok1,env1⟩:=hq_
     refine thn (w pins s1 σ1 H1 O1 _ _ I1 env1 ok1 (rr.mono st1) rru) λ _ s2 ⟨σ2,H2,I2,q⟩=>⟨σ2,H2,I2,QN.pre st1 q⟩
theorem QX{ts:List Expr}{W:Gam->Store->Prop}(h:zG X ts ds Γ S W)(hc:X.calm=true:=by rfl)(hn:(assignEach ts X.env).length=ds.length:=by rfl)(hst:(assignEach ts X.env).findIdx? (·.1)=none:=by rfl):BdW X (.Tuple ts k pos) (.tup ds) Γ S W:=λ pins s σ H O v u I env st r ru=>by
 cases r with
 | @tup p xs _ h1 q1=>
   cases ru
   obtain⟨its,rv,ht,hz⟩:=I.tuple h1.sq
   refine assign_Tuple_tuple (I.ok.hd hc) ht (by simp[hn,←q1.length,rv.length]) hst λ h' hx=>?_
   have I1:Inv X pins σ H {s with heap:=h'}:=I.kept (t':=s.toks) λ b o e=>hx b o (w9 (Heap.lt_size e)) e
   exact h pins _ σ H O xs _ I1 env st q1 (by simpa using rv)
noncomputable def gB(K:PySem.W.Frag)(J:It)(O:Own)(H:Hp)(ds:List D):Prop:=
 ∀(O':Own)(H':Hp),Conv O O' H H'->(∀a,O'.has a->H' a≠none)->∀i:Nat,(∀d,ds[i]? =some d->J.go i H'/\∀x H'',J.yld i H' x H''->dG H' H''/\Rep K O' H'' x d)/\(i=ds.length->J.stop i H')
noncomputable def QI(K:PySem.W.Frag)(O:Own)(H:Hp)(W:List D->Store->Prop):It->Hp->Prop:=λ J H'=>∃O' ds S',W ds S'/\Step O O' H H'/\StOk K O' H' S'/\gB K J O' H' ds
noncomputable def ItW(X:Cx)(Γ:Gam)(S:Store)(tg iter:Expr)(W:List D->Store->Prop):Prop:=
 ∀ (pins:Pins)(s:Shared)(σ:St)(H:Hp)(O:Own),Inv X pins σ H s->EnvOk X.K O H σ Γ->StOk X.K O H S->
   wpAny (model X.prog X.w) X.A (eval iter X.env) (λ v s1=>wpAny (model X.prog X.w) X.A (pyIter v) (PIE X pins σ tg (QI X.K O H W)) X.xe s1) X.xe s
theorem ou{a:Addr}(h:Ls K O H a xs)(r:Reps K O H xs ds):gB K (Itl K a) O H ds:=by
 intro O' H' st _ i
 have hq:=(h.conv st).sq
 refine⟨λ d hd=>?_,λ hi=>⟨xs,hq,by rw[r.length];exact Nat.le_of_eq hi.symm⟩⟩
 obtain⟨v,hv,rv⟩:=r.get hd
 refine⟨⟨xs,v,hq,hv⟩,λ x H'' y=>?_⟩
 obtain⟨e,y⟩:=y
 subst e
 have e:=y xs hq
 rw[hv]at e
 cases e
 exact⟨dG.refl _,rv.conv st⟩
theorem qH{a:Addr}(h:Tp K O H a xs)(r:Reps K O H xs ds):gB K (Itt K a) O H ds:=by
 intro O' H' st _ i
 have hq:=(h.conv st).sq
 refine⟨λ d hd=>?_,λ hi=>⟨xs,hq,by rw[r.length];exact Nat.le_of_eq hi.symm⟩⟩
 obtain⟨v,hv,rv⟩:=r.get hd
 refine⟨⟨xs,v,hq,hv⟩,λ x H'' y=>?_⟩
 obtain⟨e,y⟩:=y
 subst e
 have e:=y xs hq
 rw[hv]at e
 cases e
 exact⟨dG.refl _,rv.conv st⟩
noncomputable def upTo(lo:Int)(n:Nat):List D:=(List.range n).map λ(k:Nat)=>D.int (lo+(k:Int))
theorem au(lo:Int)(n:Nat):(upTo lo n).length=n:=by simp[upTo]
theorem bB{lo:Int}{n i:Nat}(h:(upTo lo n)[i]? =some d):i<n/\d=.int (lo+i):=by
 unfold upTo at h
 rw[y8]at h
 cases e:(List.range n)[i]? with
 | none=>rw[e]at h;cases h
 | some k=>
   rw[e]at h
   obtain⟨hl,hk⟩:=z0.mp e
   simp at hl hk
   subst hk
   cases h
   exact⟨hl,rfl⟩
theorem lO(lo:Int)(n:Nat):gB K (Itr lo n) O H (upTo lo n):=by
 intro O' H' st _ i
 refine⟨λ d hd=>?_,λ hi=>by rw[au]at hi;exact Nat.le_of_eq hi.symm⟩
 obtain⟨hi,ed⟩:=bB hd
 subst ed
 refine⟨hi,λ x H'' y=>?_⟩
 obtain⟨e,ex⟩:=y
 subst e
 subst ex
 exact⟨dG.refl _,.int _⟩
theorem Je{tg a:Expr}{W:List D->Store->Prop}(h:Ev X Γ S a λ d S1=>∃j:Int,d=.int j/\ -(2 ^ 62)≤j/\j<2 ^ 62/\W (upTo 0 j.toNat) S1)(hm:X.mg "range"=none)(hg:Gl X "range":=by rfl)(hs:starEach [a] X.env=[(false,eval a X.env)]:=by rfl):
 ItW X Γ S tg (.Call (.Name "range" p) [a] [] pos) W:=by
 intro pins s σ H O I env st
 refine Ia hg hm (m7 h.pe zz hs) hs pins s σ H _ I ⟨O,env,st,λ v H' q=>?_⟩
 obtain⟨O',d,S',⟨j,ed,h1,h2,w⟩,st1,ok1,rep⟩:=q
 subst ed
 cases rep
 exact⟨j,rfl,h1,h2,O',_,S',w,st1,ok1,lO 0 _⟩
theorem Ji{tg a b:Expr}{W:List D->Store->Prop}(h:Ev X Γ S a λ d S1=>Ev X Γ S1 b λ d' S2=>∃i j:Int,d=.int i/\d'=.int j/\(-(2 ^ 62)≤i/\i<2 ^ 62/\ -(2 ^ 62)≤j/\j<2 ^ 62)/\W (upTo i (j-i).toNat) S2)(hm:X.mg "range"=none)(hg:Gl X "range":=by rfl)
 (hs:starEach [a,b] X.env=[(false,eval a X.env),(false,eval b X.env)]:=by rfl)(hs2:starEach [b] X.env=[(false,eval b X.env)]:=by rfl):
 ItW X Γ S tg (.Call (.Name "range" p) [a,b] [] pos) W:=by
 intro pins s σ H O I env st
 have hA:EvA X Γ S [a,b] λ ds S2=>∃i j:Int,ds=[.int i,.int j]/\(-(2 ^ 62)≤i/\i<2 ^ 62/\ -(2 ^ 62)≤j/\j<2 ^ 62)/\W (upTo i (j-i).toNat) S2:=
  bA (h.mono λ d S1 h1=>bA (h1.mono λ d' S2 ⟨i,j,e1,e2,hb,w⟩=>dI ⟨i,j,by rw[e1,e2],hb,w⟩) hs2) (by rw[hs,hs2])
 refine Jo hg hm hA.pa hs hs2 pins s σ H _ I ⟨O,env,st,λ v H' q=>?_⟩
 obtain⟨O',ds,S',⟨i,j,ed,hb,w⟩,st1,ok1,rep⟩:=q
 subst ed
 cases rep with
 | cons r1 r2=>
   cases r2 with
   | cons r2 r3=>
     cases r3
     cases r1
     cases r2
     exact⟨i,j,rfl,hb,O',_,S',w,st1,ok1,lO i _⟩
theorem R8{tg iter:Expr}{body:List Stmt}(h:ItW X Γ S tg iter λ ds S1=>∃Pv:Nat->Gam->Store->Prop,Pv 0 Γ S1/\
 (∀i d Γ' S',ds[i]? =some d->Pv i Γ' S'->BdW X tg d Γ' S' λ Γ2 S2=>Rns X Γ2 S2 body {W with nx:=Pv (i+1),ct:=Pv (i+1),bk:=W.nx})/\(∀Γ' S',Pv ds.length Γ' S'->W.nx Γ' S'))
 (hp:PassesOwn (model X.prog X.w) X.A X.env X.xe:=by exact PassesOwn.never)(hc:X.calm=true:=by rfl)(hs:∀x,foldedSetIterable iter X.env x=pure x:=by intro _;rfl):Rn X Γ S (.For tg iter body [] pos) W:=by
 intro pins s σ H O I env ok
 let WI:List D->Store->Prop:=λ ds S1=>∃Pv:Nat->Gam->Store->Prop,Pv 0 Γ S1/\
     (∀i d Γ' S',ds[i]? =some d->Pv i Γ' S'->BdW X tg d Γ' S' λ Γ2 S2=>Rns X Γ2 S2 body {W with nx:=Pv (i+1),ct:=Pv (i+1),bk:=W.nx})/\(∀Γ' S',Pv ds.length Γ' S'->W.nx Γ' S')
 have hI:PI X tg iter (λ σ H R=>∃O,EnvOk X.K O H σ Γ/\StOk X.K O H S/\∀J H',QI X.K O H WI J H'->R J H'):=λ pins s σ H R I hh=>by
  obtain⟨O,env,st,k⟩:=hh
  refine thn (h pins s σ H O I env st) λ _ _ q=>thn q λ _ _ q2=>?_
  obtain⟨it,fp,tn,J,H',e1,e2,e3,e4,e5,e6⟩:=q2
  exact⟨it,fp,tn,J,H',e1,e2,e3,e4,e5,k J H' e6⟩
 have hG:PG X tg (λ v σ H Q=>∃O d Γ S W',EnvOk X.K O H σ Γ/\StOk X.K O H S/\Rep X.K O H v d/\BdW X tg d Γ S W'/\∀σ' H',QN X.K O H W' σ' H'->Q σ' H'):=λ pins s σ H v u Q I ru hh=>by
  obtain⟨O,d,Γ,S,W',env,st,r,b,k⟩:=hh
  refine thn (b pins s σ H O v u I env st r ru) λ _ _ q2=>?_
  obtain⟨σ',H',I',q⟩:=q2
  exact⟨σ',H',I',k σ' H' q⟩
 have hB:PSs X body (λ D σ H=>∃O Γ S W',EnvOk X.K O H σ Γ/\StOk X.K O H S/\Rns X Γ S body W'/\(∀σ' H',QN X.K O H W'.nx σ' H'->D.nx σ' H')/\(∀v H',QG X.K O H W'.rt v H'->D.rt v H')/\(∀σ' H',QN X.K O H W'.bk σ' H'->D.bk σ' H')/\∀σ' H',QN X.K O H W'.ct σ' H'->D.ct σ' H'):=
  λ pins s σ H D I hh=>by
   obtain⟨O,Γ,S,W',env,st,b,k1,k2,k3,k4⟩:=hh
   refine thn (b pins s σ H O I env st) λ f s' q=>?_
   cases f with
   | next=>obtain⟨σ',H',I',q⟩:=q;exact⟨σ',H',I',k1 σ' H' q⟩
   | brk=>obtain⟨σ',H',I',q⟩:=q;exact⟨σ',H',I',k3 σ' H' q⟩
   | cont=>obtain⟨σ',H',I',q⟩:=q;exact⟨σ',H',I',k4 σ' H' q⟩
   | ret u=>obtain⟨v,σ',H',I',r,q⟩:=q;exact⟨v,σ',H',I',r,k2 v H' q⟩
 refine JD hp hc hI hG hB hs pins s σ H _ I ⟨O,env,ok,λ J H1 q=>?_⟩
 obtain⟨O1,ds,S1,⟨Pv,p0,pt,pe⟩,st1,ok1,yl⟩:=q
 refine⟨λ i m σ' H'=>m=ds.length-i/\i≤ds.length/\∃O' Γ' S',Pv i Γ' S'/\Step O1 O' H1 H'/\StOk X.K O' H' S'/\EnvOk X.K O' H' σ' Γ',⟨ds.length,by simp,Nat.zero_le _,O1,Γ,S1,p0,Step.refl _ _,ok1,env.mono st1⟩,?_⟩
 rintro i m σ2 H2 ⟨rfl,hi,O2,Γ2,S2,p2,st2,ok2,env2⟩
 obtain⟨y1,y2⟩:=yl O2 H2 st2.conv (λ a ha=>ok2.tracked ha) i
 by_cases hlt:i<ds.length
 . obtain⟨go,yy⟩:=y1 ds[i] (y3 hlt)
   refine .inr ⟨go,λ σ' H'=>i+1≤ds.length/\∃O' Γ' S',Pv (i+1) Γ' S'/\Step O1 O' H1 H'/\StOk X.K O' H' S'/\EnvOk X.K O' H' σ' Γ',λ σ' H' q=>⟨ds.length-(i+1),by omega,rfl,q.1,q.2⟩,λ x H3 y=>?_⟩
   obtain⟨sm,rx⟩:=yy x H3 y
   have st3:=Step.same (O:=O2) sm
   refine⟨O2,ds[i],Γ2,S2,_,env2.mono st3,ok2.same sm,rx,pt i ds[i] Γ2 S2 (y3 hlt) p2,λ σ4 H4 q4=>?_⟩
   obtain⟨O4,Γ4,S4,w4,st4,ok4,env4⟩:=q4
   have stA:=(st2.trans st3).trans st4
   refine⟨O4,Γ4,S4,_,env4,ok4,w4,?_,?_,?_,?_⟩
   . rintro σ5 H5 ⟨O5,Γ5,S5,w5,st5,ok5,env5⟩
     exact⟨hlt,O5,Γ5,S5,w5,stA.trans st5,ok5,env5⟩
   . exact λ v H' q=>QG.pre (st1.trans stA) q
   . exact λ σ' H' q=>QN.pre (st1.trans stA) q
   . rintro σ5 H5 ⟨O5,Γ5,S5,w5,st5,ok5,env5⟩
     exact⟨hlt,O5,Γ5,S5,w5,stA.trans st5,ok5,env5⟩
 . have e:i=ds.length:=by omega
   subst e
   exact .inl ⟨y2 rfl,O2,Γ2,S2,pe Γ2 S2 p2,st1.trans st2,ok2,env2⟩
theorem Tf {P:Program}{w:World}{mg:Str->Option Value}{base:Heap}{qual:Str}{sm:Stmt}{f:Addr}{fd:FuncData}{N ps:List Str}{F:Ct}(FF:Fun K x qual sm f fd)(SC:FnScope N ps (aL sm))
 (body:∀(cdv:Value)(A:Around)(outer:List Env)(s:Shared)(H:Hp)(E:XK)(ds:List D)(S:Store)(W:WD),Room k (A.deeper (envOfC qual (aL sm) s.heap.objs.size f cdv))->ds.length=ps.length->F ds S W->
  Rns (mO CX0 P w K mg base N qual (aL sm) f cdv A outer s H E).nox (ds.map some++List.replicate (N.length-ds.length) none) S (cj sm) {nx:=λ _ S1=>W .non S1,rt:=W}):FnOk P w K mg base CX0 (k+1) f fd ps (spC K ps.length F):=by
 refine FF.ok SC (λ vs H Q E h=>?_) (λ cdv A outer s H vs Q E hr h=>?_)
 . obtain⟨O,ds,S,W,hl,r,_⟩:=h
   rw[r.length,hl]
 . obtain ⟨O,ds,S,W,hl,r,st,hF,q⟩:=h
   have hB:=body cdv A outer s H E ds S W hr hl hF
   refine⟨λ D σ H'=>∃O Γ S W',EnvOk K O H' σ Γ/\StOk K O H' S/\Rns (mO CX0 P w K mg base N qual (aL sm) f cdv A outer s H E).nox Γ S (cj sm) W'/\(∀σ' H2,QN K O H' W'.nx σ' H2->D.nx σ' H2)/\(∀v H2,QG K O H' W'.rt v H2->D.rt v H2)/\(∀σ' H2,QN K O H' W'.bk σ' H2->D.bk σ' H2)/\∀σ' H2,QN K O H' W'.ct σ' H2->D.ct σ' H2,?_,?_⟩
   . intro pins s σ H' D I ⟨O,Γ,S,W',env,st,b,k1,k2,k3,k4⟩
     refine thn (b pins s σ H' O I env st) λ f s' q=>?_
     cases f with
     | next=>obtain⟨σ',H',I',q⟩:=q;exact⟨σ',H',I',k1 σ' H' q⟩
     | brk=>obtain⟨σ',H',I',q⟩:=q;exact⟨σ',H',I',k3 σ' H' q⟩
     | cont=>obtain⟨σ',H',I',q⟩:=q;exact⟨σ',H',I',k4 σ' H' q⟩
     | ret u=>obtain⟨v,σ',H',I',r,q⟩:=q;exact⟨v,σ',H',I',r,k2 v H' q⟩
   . refine⟨O,_,S,_,?_,st,hB,?_,?_,?_,?_⟩
     . have hv:vs.length=ds.length:=r.length
       refine⟨by simp[L2.start,hv],λ i d h=>?_⟩
       by_cases hi:i<ds.length
       . rw[x8 (by simpa using hi),y8]at h
         cases e:ds[i]? with
         | none=>rw[e]at h;cases h
         | some d'=>
           rw[e]at h
           cases h
           obtain⟨v,hv',rv⟩:=r.get e
           refine⟨v,?_,rv⟩
           unfold L2.start
           rw[x8 (by rw[y7,hv];exact hi),y8,hv']
           rfl
       . rw[List.getElem?_append_right (by simpa using hi),List.getElem?_replicate]at h
         split at h<;>cases h
     . rintro σ' H2 ⟨O',Γ',S',w,st',ok',_⟩
       exact q _ _ ⟨O',.non,S',w,st',ok',.non⟩
     . exact λ v H2 z=>q v H2 z
     . rintro σ' H2 ⟨_,_,_,w,_⟩
       exact w.elim
     . rintro σ' H2 ⟨_,_,_,w,_⟩
       exact w.elim
end
end DL
namespace DL
open PySem PySem.Spec L2
open PyProof.Rows
variable {K : PySem.W.Frag} {O : Own} {H : Hp} {s : Shared}
noncomputable def rk(env:Env)(n:Str)(k:NameKind):NameKind:=if(k==NameKind.free&&env.scope.kind==.function&&env.kindOf n==some .cell)=true then .cell else k
theorem jU(sc:Scope)(env:Env):(relabel sc env).names=sc.names.map λ p=>(p.1,rk env p.1 p.2):=by
 show sc.names.map _=_
 congr 1
 funext p
 obtain⟨n,k⟩:=p
 unfold rk
 by_cases h:(k==NameKind.free&&env.scope.kind==.function&&env.kindOf n==some .cell)=true
 . simp only[h,if_true]
 . simp only[h,if_false,Bool.false_eq_true]
theorem d7(g:Str->NameKind->NameKind)(x:Str):∀names:List (Str×NameKind),(names.map λ p=>(p.1,g p.1 p.2)).lookup x=(names.lookup x).map (g x)
 | []=>rfl
 | (n,k)::r=>by
   have ih:=d7 g x r
   rw[List.map_cons,List.lookup_cons,List.lookup_cons]
   cases hx:x==n with
   | true=>rw[eq_of_beq hx];rfl
   | false=>exact ih
theorem pD(env:Env)(n:Str)(k:NameKind):rk env n k=k∨(k=.free/\rk env n k=.cell):=by
 unfold rk
 by_cases h:(k==NameKind.free&&env.scope.kind==.function&&env.kindOf n==some .cell)=true
 . rw[if_pos h]
   rw[Bool.and_eq_true,Bool.and_eq_true]at h
   exact .inr ⟨eq_of_beq h.1.1,rfl⟩
 . rw[if_neg h];exact .inl rfl
theorem jf{env:Env}{sc:Scope}{x:Str}{k:NameKind}(h:(relabel sc env).names.lookup x=some k):∃k0,sc.names.lookup x=some k0/\(k=k0∨(k0=.free/\k=.cell)):=by
 rw[jU,d7]at h
 cases e:sc.names.lookup x with
 | none=>rw[e]at h;cases h
 | some k0=>
   rw[e]at h
   have h':rk env x k0=k:=Option.some.inj h
   refine⟨k0,rfl,?_⟩
   rcases pD env x k0 with q | ⟨q1,q2⟩
   . exact .inl (h'.symm.trans q)
   . exact .inr ⟨q1,h'.symm.trans q2⟩
theorem yj{env:Env}{sc:Scope}{x:Str}(h:sc.names.lookup x=some .free):(relabel sc env).names.lookup x=some .cell∨(relabel sc env).names.lookup x=some .free:=by
 rw[jU,d7,h]
 rcases pD env x .free with q | ⟨_,q⟩
 . exact .inr (congrArg some q)
 . exact .inl (congrArg some q)
noncomputable def closes(env:Env):List (Str×NameKind)->List (Str×Addr)->List (Str×Addr)
 | [],cs=>cs
 | (n,k)::r,cs=>closes env r (if k==.free then(n,(env.cells.lookup n).getD 0)::cs else cs)
theorem oh{env:Env}:∀(names:List (Str×NameKind))(cs:List (Str×Addr)),(∀y∈names,y.2=.free->∃c,env.cells.lookup y.1=some c)->
 (forIn (m:=Sem) names cs λ x r=>if(x.2==.free)=true then do let a ←cellOf env x.1;pure (ForInStep.yield ((x.1,a)::r))else pure (ForInStep.yield r))=pure (closes env names cs)
 | [],cs,_=>by rw[List.forIn_nil];rfl
 | (n,k)::r,cs,h=>by
   rw[List.forIn_cons]
   have ih:=λ cs=>oh (env:=env) r cs λ y hy=>h y (x3 _ hy)
   by_cases hk:(k==NameKind.free)=true
   . obtain⟨c,hc⟩:=h (n,k) x5 (eq_of_beq hk)
     have hc':env.cells.lookup n=some c:=hc
     have e:cellOf env n=pure c:=by unfold cellOf;rw[hc']
     have q:=ih ((n,c)::cs)
     simp only[hk,if_true,e,pure_bind]
     rw[q]
     simp[closes,hk,hc']
   . have q:=ih cs
     simp only[hk,if_false,pure_bind,Bool.false_eq_true]
     rw[q]
     simp[closes,hk]
theorem j6{env:Env}{sc:Scope}(h:∀y∈sc.names,y.2=.free->∃c,env.cells.lookup y.1=some c):closureFor sc env=pure (closes env sc.names []):=by
 have q:=oh (env:=env) sc.names [] h
 unfold closureFor
 first
  | (simp only[bind_pure];exact q)
  | (rw[show(forIn sc.names ([]:List (Str×Addr)) _:Sem _)=_ from q];rfl)
  | (refine Eq.trans (congrArg (λ t=>t>>=pure) q) ?_;simp)
theorem nQ{env:Env}{x:Str}{c:Addr}:∀(names:List (Str×NameKind))(cs:List (Str×Addr)),(∀y∈names,y.2=.free->∃c,env.cells.lookup y.1=some c)->(∀c,cs.lookup x=some c->env.cells.lookup x=some c)->(closes env names cs).lookup x=some c->env.cells.lookup x=some c
 | [],cs,_,hc,h=>hc c h
 | (n, k)::r,cs,hf,hc,h=>by
   refine nQ r _ (λ y hy=>hf y (x3 _ hy)) ?_ h
   intro c' h'
   by_cases hk:(k==NameKind.free)=true
   . rw[if_pos hk]at h'
     obtain⟨c2,h2⟩:=hf (n,k) x5 (eq_of_beq hk)
     have h2:env.cells.lookup n=some c2:=h2
     rw[List.lookup_cons]at h'
     cases hx:x==n with
     | true=>
       rw[hx,h2]at h'
       have e:x=n:=eq_of_beq hx
       subst e
       simp only[Option.getD_some]at h'
       cases h'
       exact h2
     | false=>rw[hx]at h';exact hc c' h'
   . rw[if_neg hk]at h'
     exact hc c' h'
theorem fV{env:Env}{x:Str}:∀(names:List (Str×NameKind))(cs:List (Str×Addr)),((∃c,cs.lookup x=some c)∨names.lookup x=some .free)->∃c,(closes env names cs).lookup x=some c
 | [],cs,h=>by
   rcases h with h | h
   . exact h
   . simp at h
 | (n, k)::r,cs,h=>by
   refine fV r _ ?_
   rcases h with⟨c,h⟩ | h
   . refine .inl ?_
     by_cases hk:(k==NameKind.free)=true
     . rw[if_pos hk,List.lookup_cons]
       cases hx:x==n with
       | true=>exact⟨_,rfl⟩
       | false=>exact⟨c,h⟩
     . rw[if_neg hk];exact⟨c,h⟩
   . rw[List.lookup_cons]at h
     cases hx:x==n with
     | true=>
       rw[hx]at h
       simp only at h
       cases h
       refine .inl ⟨(env.cells.lookup n).getD 0,?_⟩
       simp[List.lookup_cons,hx]
     | false=>rw[hx]at h;exact .inr h
noncomputable def fB(X:Cx)(sc:Scope)(N:List Str)(C:Addr)(s:Shared)(H:Hp)(ex:List Addr)(cl:List (Str×Addr)):Cx:=
 {X with N:=N,s₀:=s,H₀:=H,env:=compEnvC sc cl C X.env,outer:=X.stack,stack:=X.stack,ex:=ex,fn:=λ x=>sc.names.lookup x==some .cell,pn:=[]}
noncomputable def capt{α:Type}(cap:List (Option Nat))(xs:List (Option α)):List (Option α):=cap.map λ o=>o.bind λ j=>(xs[j]?).join
noncomputable def aZ(N:List Str)(names:List (Str×NameKind))(N':List Str)(names':List (Str×NameKind)):List (Option Nat)->List Str->Bool
 | [],[]=>true
 | none::r,_::t=>aZ N names N' names' r t
 | some j::r,x::t=>(N[j]? ==some x)&&(names.lookup x==some .cell||names.lookup x==some .free)&&(names'.lookup x==some .free)&&aZ N names N' names' r t
 | _,_=>false
theorem lX{N:List Str}{names:List (Str×NameKind)}{N':List Str}{names':List (Str×NameKind)}:∀{cap:List (Option Nat)}{t:List Str},aZ N names N' names' cap t=true->cap.length=t.length
 | [],[],_=>rfl
 | [],_::_,h=>by simp[aZ]at h
 | _::_,[],h=>by
   rename_i o r
   cases o<;>simp[aZ]at h
 | none::r,_::t,h=>by simp only[aZ]at h;simp[lX h]
 | some j::r,x::t,h=>by
   simp only[aZ,Bool.and_eq_true]at h
   simp[lX h.2]
theorem pq{N:List Str}{names:List (Str×NameKind)}{N':List Str}{names':List (Str×NameKind)}:∀{cap:List (Option Nat)}{t:List Str}{i j:Nat},aZ N names N' names' cap t=true->cap[i]? =some (some j)->
 ∃x,t[i]? =some x/\N[j]? =some x/\(names.lookup x=some .cell∨names.lookup x=some .free)/\names'.lookup x=some .free
 | [],_,_,_,_,h=>by simp at h
 | none::r,[],_,_,h,_=>by simp[aZ]at h
 | some _::r,[],_,_,h,_=>by simp[aZ]at h
 | none::r,x::t,0,j,_,h=>by simp at h
 | none::r,x::t,i+1,j,h,e=>by
   simp only[aZ]at h
   obtain⟨y,a,b⟩:=pq (i:=i) h (by simpa using e)
   exact⟨y,by simpa using a,b⟩
 | some k::r,x::t,0,j,h,e=>by
   simp only[aZ,Bool.and_eq_true,Bool.or_eq_true,beq_iff_eq]at h
   simp at e
   subst e
   exact⟨x,rfl,h.1.1.1,h.1.1.2,h.1.2⟩
 | some k::r,x::t,i+1,j,h,e=>by
   simp only[aZ,Bool.and_eq_true]at h
   obtain⟨y,a,b⟩:=pq (i:=i) h.2 (by simpa using e)
   exact⟨y,by simpa using a,b⟩
theorem DG{α:Type}{cap:List (Option Nat)}{xs:List (Option α)}{i:Nat}{d:α}(h:(capt cap xs)[i]? =some (some d)):∃j,cap[i]? =some (some j)/\xs[j]? =some (some d):=by
 unfold capt at h
 rw[y8]at h
 cases e:cap[i]? with
 | none=>rw[e]at h;cases h
 | some o=>
   rw[e]at h
   cases o with
   | none=>simp at h
   | some j=>
     simp at h
     refine⟨j,rfl,?_⟩
     cases q:xs[j]? with
     | none=>rw[q]at h;cases h
     | some z=>rw[q]at h;simp at h;rw[h]
theorem EnvOk.capt{σ:St}{Γ:Gam}(e:EnvOk K O H σ Γ)(cap:List (Option Nat)):EnvOk K O H (capt cap σ) (capt cap Γ):=by
 refine⟨by simp[DL.capt],λ i d h=>?_⟩
 obtain⟨j,hj,hd⟩:=DG h
 obtain⟨v,hv,r⟩:=e.at_ j d hd
 refine⟨v,?_,r⟩
 unfold DL.capt
 rw[y8,hj]
 simp[hv]
noncomputable def Sub(Γ Γ':Gam):Prop:=Γ.length=Γ'.length/\∀(i:Nat)(d:D),Γ[i]? =some (some d)->Γ'[i]? =some (some d)
theorem Sub.refl(Γ:Gam):Sub Γ Γ:=⟨rfl,λ _ _ h=>h⟩
theorem Sub.set{Γ Γ':Gam}(s:Sub Γ Γ')(i:Nat)(d:Option D)(h:Γ[i]? =some none:=by rfl):Sub Γ (Γ'.set i d):=⟨by rw[List.length_set];exact s.1,λ j c hj=>by
 have ne:i≠j:=λ e=>by subst e;rw[h]at hj;cases hj
 rw[List.getElem?_set_ne ne];exact s.2 j c hj⟩
theorem EnvOk.sub{σ:St}{Γ Γ':Gam}(e:EnvOk K O H σ Γ')(s:Sub Γ Γ'):EnvOk K O H σ Γ:=⟨e.len.trans s.1.symm,λ i d h=>e.at_ i d (s.2 i d h)⟩
theorem EnvOk.conv{O':Own}{H':Hp}{σ:St}{Γ:Gam}(e:EnvOk K O H σ Γ)(s:Conv O O' H H'):EnvOk K O' H' σ Γ:=
 ⟨e.len,λ i d h=>let ⟨v,a,b⟩:=e.at_ i d h;⟨v,a,b.conv s⟩⟩
noncomputable def freeOk(names names':List (Str×NameKind)):Bool:=names'.all λ y=>!(y.2==.free)||(names.lookup y.1==some .cell||names.lookup y.1==some .free)
theorem lH{names names':List (Str×NameKind)}(h:freeOk names names'=true):∀y∈names',y.2=.free->names.lookup y.1=some .cell∨names.lookup y.1=some .free:=λ y hy e=>by
 have q:=List.all_eq_true.mp h y hy
 simp only[e,beq_self_eq_true,Bool.not_true,Bool.false_or,Bool.or_eq_true,beq_iff_eq]at q
 exact q
noncomputable def zR(names:List (Str×NameKind)):Bool:=match names.filter (λ y=>y.2==.cell)with
 | []=>true
 | [y]=>names.lookup y.1==some .cell
 | _=>false
theorem xj{names:List (Str×NameKind)}(h:names.filter (λ y=>y.2==.cell)=[])(n:Nat)(acc:List (Str×Addr))(hp:Heap):cellsFrom n names acc=acc/\pushCells hp names=hp:=by
 induction names with
 | nil=>exact⟨rfl,rfl⟩
 | cons y r ih=>
   obtain⟨x,k⟩:=y
   rw[List.filter_cons]at h
   by_cases hk:(k==NameKind.cell)=true
   . rw[if_pos hk]at h;cases h
   . rw[if_neg hk]at h
     obtain⟨i1,i2⟩:=ih h
     unfold cellsFrom pushCells
     rw[if_neg hk,if_neg hk]
     exact⟨i1,i2⟩
theorem uf{names:List (Str×NameKind)}{t:Str×NameKind}(h:names.filter (λ y=>y.2==.cell)=[t])(n:Nat)(acc:List (Str×Addr))(hp:Heap):cellsFrom n names acc=(t.1,n)::acc/\pushCells hp names=hp.push {cls:=.type "cell",data:=.cell none}:=by
 induction names with
 | nil=>cases h
 | cons y r ih=>
   obtain⟨x,k⟩:=y
   rw[List.filter_cons]at h
   by_cases hk:(k==NameKind.cell)=true
   . rw[if_pos hk]at h
     have e:=List.cons.inj h
     obtain⟨i1,i2⟩:=xj e.2 (n+1) ((x,n)::acc) (hp.push {cls:=.type "cell",data:=.cell none})
     unfold cellsFrom pushCells
     rw[if_pos hk,if_pos hk,i1,i2,←e.1]
     exact⟨rfl,rfl⟩
   . rw[if_neg hk]at h
     obtain⟨i1,i2⟩:=ih h
     unfold cellsFrom pushCells
     rw[if_neg hk,if_neg hk]
     exact⟨i1,i2⟩
theorem OD{M:Model}{A:Around}{E:Value->Shared->Prop}{scope:Scope}{globals:Addr}{closure:List (Str×Addr)}{qual:Str}{outer:Env}{Q:Env->Shared->Prop}
 (hQ:Q (newEnv scope s.heap.objs.size globals (cellsFrom (s.heap.objs.size+1) scope.names closure) qual none .none (some outer) builtinsNs) {s with heap:=pushCells (s.heap.push {cls:=.type "dict",data:=.dict #[]}) scope.names}):
 wpAny M A (newFunctionEnv scope globals closure [] qual none .none (some outer)) Q E s:=by
 simp only[newFunctionEnv,Option.isSome_some,if_true]
 refine wpAny_bind (wpAny_alloc ?_)
 refine wpAny_bind (wpAny_layCells _ (λ name kind cells=>by cases hkc:kind==NameKind.cell<;>simp[hkc]) _ _ _ _ ?_)
 rw[show({s with heap:=s.heap.push {cls:=.type "dict",data:=.dict #[]}}:Shared).heap.objs.size=s.heap.objs.size+1 from Heap.size_push ..]
 rw[List.forIn_nil]
 exact wpAny_bind (wpAny_pure (wpAny_pure hQ))
structure CelsB(X:Cx)(sc:Scope)(cl:List (Str×Addr))(z:Nat)(h1:Heap):Prop where
 lk:∀x c,cl.lookup x=some c->X.env.cells.lookup x=some c∨(c=z/\sc.names.lookup x=some .cell/\h1.IsCell c none/\∀y,cl.lookup y=some c->y=x)
 has:∀x,sc.names.lookup x=some .cell∨sc.names.lookup x=some .free->∃c,cl.lookup x=some c
 cp:∀x c,sc.names.lookup x=some .free->X.env.cells.lookup x=some c->cl.lookup x=some c
 ow:∀x c,sc.names.lookup x=some .cell->cl.lookup x=some c->z≤c
section
variable {X : Cx}
theorem Pz{pins:Pins}{σ:St}{sc:Scope}{N':List Str}{cap:List (Option Nat)}{fp:List Addr}{h1:Heap}{t:Nat}(I:Inv X pins σ H s)(hfp:∀b∈fp,eO X pins H b)(hob:∀b∈fp,∃o,s.heap.get? b=some o)
 {cl:List (Str×Addr)}(hkind:sc.kind=.function)(hcl:CelsB X sc cl (s.heap.objs.size+2) h1)(hfree:∀y∈sc.names,y.2=.free->X.env.kindOf y.1=some .cell∨X.env.kindOf y.1=some .free)(hcap:aZ X.N X.env.scope.names N' sc.names cap N'=true)
 (k:∀b u,s.heap.get? b=some u->h1.get? b=some u)(hD:h1.get? s.heap.objs.size=some {cls:=.type "list",data:=.seq #[] 0})(hC:∃m,h1.Ns (s.heap.objs.size+1) m):
 Inv (fB X sc N' (s.heap.objs.size+1) s H fp cl) [] (capt cap σ) (upd H s.heap.objs.size (.lst [])) {s with heap:=h1,toks:=t}:=by
 have fr0:H s.heap.objs.size=none:=I.hok.fresh (y9 _)
 have fr1:H (s.heap.objs.size+1)=none:=I.hok.fresh (Nat.le_succ _)
 have fr2:H (s.heap.objs.size+2)=none:=I.hok.fresh (by omega)
 have lt:∀b∈fp,b<s.heap.objs.size:=λ b hb=>let ⟨o,e⟩:=hob b hb;Heap.lt_size e
 have clt:∀{x c},X.env.cells.lookup x=some c->c<s.heap.objs.size:=λ{x c} h=>by
  obtain⟨v,q⟩:=I.cell x c h
  exact q.lt
 refine⟨⟨I.ok.mod,hkind,I.ok.glob,I.ok.blt,Nat.le_succ _,λ x y c a b=>?_,λ x hx=>?_,λ x c z e=>?_,I.ok.hd,I.ok.frames,.inl rfl,λ b hb=>⟨w9 (Nat.lt_succ_of_lt (lt b hb)),λ x c h=>?_⟩,
  I.bs,Nat.le_trans I.ok.bsz I.sz,λ b o e hb=>?_,λ b hb z=>?_,I.stack,I.stkFree⟩,rfl,I.bare,Un.laid k (y9 _) fr0,?_,λ x c h=>?_,?_,λ x c h=>?_,λ p hp=>absurd (show p∈([]:Pins)from hp) (by simp),I.hok.laid k (y9 _) ⟨Nat.zero_le _,[],0,.nil,hD⟩,?_⟩
 . rcases hcl.lk x c a with q | ⟨_,_,_,q⟩
   . rcases hcl.lk y c b with q' | ⟨_,_,_,q'⟩
     . exact I.ok.inj x y c q q'
     . exact q' x a
   . exact(q y b).symm
 . have hx':(relabel sc X.env).names.lookup x=some .cell∨(relabel sc X.env).names.lookup x=some .free:=hx
   have z:sc.names.lookup x=some .cell∨sc.names.lookup x=some .free:=by
    rcases hx' with q | q
    . obtain⟨k0,e,r⟩:=jf q
      rcases r with r | r
      . exact .inl (by rw[e,r])
      . exact .inr (by rw[e,r.1])
    . obtain⟨k0,e,r⟩:=jf q
      rcases r with r | r
      . exact .inr (by rw[e,r])
      . exact absurd r.2 (by decide)
   exact hcl.has x z
 . have z':sc.names.lookup x=some .cell:=eq_of_beq z
   have:=hcl.ow x c z' e
   show s.heap.objs.size≤c
   omega
 . rcases hcl.lk x c h with q | ⟨q,_⟩
   . exact(hfp b hb).2.2.2.2.1 x c q
   . exact λ e=>Nat.lt_irrefl _ (x9 (lt b hb) (by rw[←e,q];exact Nat.le_add_right _ _))
 . rcases(hfp b hb).2.2.2.1 with z | z
   . exact I.ok.noex b o e z
   . exact absurd (x9 (Heap.lt_size e) (Nat.le_trans I.ok.bsz z)) (Nat.lt_irrefl _)
 . rcases List.mem_cons.mp (I.stkSub b z)with q | q
   . exact(hfp b hb).2.1 q
   . exact(hfp b hb).2.2.1 q
 . obtain⟨m,hm⟩:=hC
   refine⟨m,hm,λ i x v e1 e2 e3=>?_⟩
   obtain⟨j,hj,hv⟩:=DG e2
   obtain⟨y,a,b,c,d⟩:=pq hcap hj
   have e1':N'[i]? =some x:=e1
   rw[a]at e1'
   cases e1'
   obtain⟨m0,hn0,hl⟩:=I.loc
   have vis:Vis X.env.scope x:=by
    rcases c with c | c
    . exact .inr (.inl c)
    . exact .inr (.inr c)
   obtain⟨u,r,l⟩:=hl j x v b hv vis
   refine⟨u,r,?_⟩
   rcases l with⟨q,_⟩ | ⟨q,cc,hc,hcell'⟩
   . exfalso
     have q':X.env.scope.names.lookup x=some .local:=q
     rcases c with c | c<;>· rw[c]at q';cases q'
   . have h2:=hcl.cp x cc d hc
     obtain⟨o,ho,hd⟩:=hcell'
     refine .inr ⟨?_,cc,h2,⟨o,k _ _ ho,hd⟩⟩
     exact yj d
 . rcases hcl.lk x c h with q | ⟨_,_,q,_⟩
   . obtain⟨v,o,ho,hd⟩:=I.cell x c q
     exact⟨v,o,k _ _ ho,hd⟩
   . exact⟨_,q⟩
 . show upd H s.heap.objs.size (.lst []) (s.heap.objs.size+1)=none
   rw[aq (Nat.succ_ne_self _)];exact fr1
 . rcases hcl.lk x c h with q | ⟨q,_⟩
   . rw[aq (w9 (clt q))];exact I.freeC x c q
   . subst q
     rw[aq (Nat.ne_of_gt (Nat.lt_add_of_pos_right (by decide)))];exact fr2
 . show(capt cap σ).length=N'.length
   rw[←lX hcap]
   simp[capt]
theorem sO{α:Type}{t:Sem α}{Q:α->Shared->Prop}{M:Model}{A:Around}{E E':Value->Shared->Prop}(hx:E=λ _ _=>False)(h:wpAny M A t Q E s):wpAny M A t Q E' s:=wpAny_mono h (λ _ _ q=>q) λ _ _ z=>by rw[hx]at z;exact z.elim
noncomputable def TsA(X:Cx)(Γ:Gam)(S:Store):List Expr->(Bool->Store->Prop)->Prop
 | [],W=>W true S
 | [c],W=>Ts X Γ S c W
 | _,_=>False
theorem Ng{X:Cx}{Γ:Gam}{S:Store}{ifs:List Expr}{W:Bool->Store->Prop}(h:TsA X Γ S ifs W){pins:Pins}{s:Shared}{σ:St}{H:Hp}{O:Own}(I:Inv X pins σ H s)(env:EnvOk X.K O H σ Γ)(st:StOk X.K O H S):
 wpAny (model X.prog X.w) X.A (forIn ifs true λ c r=>if r=true then do let ok ←isTrue c X.env (eval c X.env);pure (ForInStep.yield ok)else pure (ForInStep.yield r)) (TP X pins σ (QT X.K O H W)) X.xe s:=by
 match ifs,h with
 | [],h=>exact wpAny_tests_nil ⟨H,I,O,S,h,Step.refl O H,st⟩
 | [c],h=>exact wpAny_tests_one (h pins s σ H O I env st)
 | _::_::_,h=>exact h.elim
noncomputable def tG(K:PySem.W.Frag)(J:It)(O:Own)(H:Hp)(C:Store->Prop)(ds:List D):Prop:=
 ∀(O':Own)(H':Hp)(S':Store),Conv O O' H H'->StOk K O' H' S'->C S'->∀i:Nat,(∀d,ds[i]? =some d->J.go i H'/\∀x H'',J.yld i H' x H''->dG H' H''/\Rep K O' H'' x d)/\(i=ds.length->J.stop i H')
noncomputable def QIc(K:PySem.W.Frag)(O:Own)(H:Hp)(W:List D->(Store->Prop)->Store->Prop):It->Hp->Prop:=λ J H'=>∃O' ds C S',W ds C S'/\Step O O' H H'/\StOk K O' H' S'/\tG K J O' H' C ds
noncomputable def ItC(X:Cx)(Γ:Gam)(S:Store)(tg iter:Expr)(W:List D->(Store->Prop)->Store->Prop):Prop:=
 ∀ (pins:Pins)(s:Shared)(σ:St)(H:Hp)(O:Own),Inv X pins σ H s->EnvOk X.K O H σ Γ->StOk X.K O H S->
   wpAny (model X.prog X.w) X.A (eval iter X.env) (λ v s1=>wpAny (model X.prog X.w) X.A (pyIter v) (PIE X pins σ tg (QIc X.K O H W)) X.xe s1) X.xe s
theorem pK{J:It}{ds:List D}(y:gB K J O H ds):tG K J O H (λ _=>True) ds:=λ O' H' S' st ok _ i=>y O' H' st (λ a ha=>ok.tracked ha) i
theorem ItW.toC{X:Cx}{Γ:Gam}{S:Store}{tg iter:Expr}{W:List D->(Store->Prop)->Store->Prop}(h:ItW X Γ S tg iter λ ds S1=>W ds (λ _=>True) S1):ItC X Γ S tg iter W:=λ pins s σ H O I env st=>
 thn (h pins s σ H O I env st) λ _ _ q=>thn q λ _ _ hq_=>by
  obtain⟨it,fp,tn,J,H',e1,e2,e3,e4,e5,O',ds,S',w,z1,z2,z3⟩:=hq_
  exact⟨it,fp,tn,J,H',e1,e2,e3,e4,e5,O',ds,_,S',w,z1,z2,pK z3⟩
noncomputable abbrev vO(X:Cx)(sc:Scope)(N':List Str)(cap:List (Option Nat))(Γ:Gam)(elt tg:Expr)(ifs:List Expr)(W:WD):List D->(Store->Prop)->Store->Prop:=λ ds C0 S1=>
 ds.length≤1000000/\∃Pv:Nat->List D->Store->Prop,Pv 0 [] S1/\(∀i acc S',Pv i acc S'->C0 S')/\
  (∀i d acc S',ds[i]? =some d->Pv i acc S'->∀(C:Addr)(s:Shared)(H:Hp)(ex:List Addr)(cl:List (Str×Addr)),BdW (fB X sc N' C s H ex cl) tg d (capt cap Γ) S' λ Γ2 S2=>Sub (capt cap Γ) Γ2/\
   TsA (fB X sc N' C s H ex cl) Γ2 S2 ifs λ ok S3=>(ok=true->Ev (fB X sc N' C s H ex cl) Γ2 S3 elt λ y S4=>Pv (i+1) (acc++[y]) S4)/\(ok=false->Pv (i+1) acc S3))/\
  ∀acc S',Pv ds.length acc S'->W (.lst acc) S'∨W (.loc S'.length) (S'++[acc])
theorem tU{Γ:Gam}{S:Store}{elt tg iter:Expr}{ifs:List Expr}{sc:Scope}{cpos:Pos}{N':List Str}{cap:List (Option Nat)}{W:WD}{E:Value->Shared->Prop}{pins:Pins}{σ:St}
 {RR:Value->Addr->Result->Shared->Prop}
 (hx:X.xe=λ _ _=>False)(hc:X.calm=true)(hkind:sc.kind=.function)(hcell:zR sc.names=true)(hfree:∀y∈sc.names,y.2=.free->X.env.kindOf y.1=some .cell∨X.env.kindOf y.1=some .free)
 (hcap:aZ X.N X.env.scope.names N' sc.names cap N'=true)(h:ItC X Γ S tg iter (vO X sc N' cap Γ elt tg ifs W))(I:Inv X pins σ H s)(env:EnvOk X.K O H σ Γ)(st:StOk X.K O H S)
 (fin:∀(s':Shared)(Hc:Hp)(D0 C:Addr)(m:Str->Option Value),Inv X pins σ Hc s'->s'.heap.Ns C m->eO X pins Hc C->D0≠C->QG X.K O H W (.ref D0) Hc->RR (.ref D0) C (.ok .next) s'):
 wpAny (model X.prog X.w) X.A (eval iter X.env) (λ x s₁=>wpAny (model X.prog X.w) X.A (pyIter x) (λ it s₂=>wpAny (model X.prog X.w) X.A (newList []) (λ acc s₃=>
  wpAny (model X.prog X.w) X.A (newFunctionEnv sc X.env.globals (closes X.env sc.names []) [] X.env.qual none .none (some X.env)) (λ cenv s₄=>
   codeAny (model X.prog X.w) X.A (.compStart (.ListComp elt [⟨tg,iter,ifs,0⟩] sc cpos) 0 it acc {cenv with scope:=relabel sc X.env}) (RR acc cenv.locals) s₄) E s₃) E s₂) E s₁) E s:=by
 refine thn (sO hx (h pins s σ H O I env st)) λ xv s1 h1=>thn (sO hx h1) λ itv s2 h2=>?_
 obtain⟨it,fp,tn,J,H2,e,I2,T,st2,f2,O2,ds,C0,S2,⟨hz,Pv,p0,pC,pt,pe⟩,stp,ok2,yl⟩:=h2
 subst e
 refine wpAny_newObj_type (OD ?_)
 dsimp only
 have hD0:H2 s2.heap.objs.size=none:=I2.hok.fresh (y9 _)
 have hsz:(s2.heap.push {cls:=.type "list",dict:=none,data:=.seq ([]:List Value).toArray}).objs.size=s2.heap.objs.size+1:=Heap.size_push ..
 rw[hsz]
 have ns0:=Heap.Ns.new (s2.heap.push {cls:=.type "list",dict:=none,data:=.seq ([]:List Value).toArray}) (.type "dict")
 rw[hsz]at ns0
 obtain⟨cl,hcleq⟩:∃cl,cellsFrom (s2.heap.objs.size+1+1) sc.names (closes X.env sc.names [])=cl:=⟨_,rfl⟩
 obtain⟨h₁,hh1⟩:∃h₁,pushCells ((s2.heap.push {cls:=.type "list",dict:=none,data:=.seq ([]:List Value).toArray}).push {cls:=.type "dict",data:=.dict #[]}) sc.names=h₁:=⟨_,rfl⟩
 have hns₁:h₁.Ns (s2.heap.objs.size+1) (λ _=>none):=by rw[←hh1];exact ns0.keeps (pushCells_keeps _ _)
 have kp0:∀b u,(s2.heap.push {cls:=.type "list",dict:=none,data:=.seq ([]:List Value).toArray}).get? b=some u->h₁.get? b=some u:=λ b u e=>by rw[←hh1];exact pushCells_keeps _ _ b u (Heap.get?_push_of_some _ e)
 have kp:∀b u,s2.heap.get? b=some u->h₁.get? b=some u:=λ b u e=>kp0 b u (Heap.get?_push_of_some _ e)
 have hD1:h₁.get? s2.heap.objs.size=some {cls:=.type "list",data:=.seq #[] 0}:=kp0 _ _ (Heap.get?_push_size _ rfl)
 have hf:∀y∈sc.names,y.2=.free->∃c,X.env.cells.lookup y.1=some c:=λ y hy e=>I.ok.has y.1 (hfree y hy e)
 have hcl :CelsB X sc cl (s2.heap.objs.size+2) h₁:=by
  have look:∀{x c},(closes X.env sc.names []).lookup x=some c->X.env.cells.lookup x=some c:=λ{x c} h=>nQ sc.names [] hf (λ c h=>by simp at h) h
  have cpy:∀x c,sc.names.lookup x=some .free->X.env.cells.lookup x=some c->(closes X.env sc.names []).lookup x=some c:=λ x c d hc=>by
   obtain⟨c2,h2⟩:=fV (env:=X.env) sc.names [] (.inr d)
   have e:=look h2
   rw[hc]at e
   cases e
   exact h2
  unfold zR at hcell
  split at hcell
  . rename_i hfl
    have e1:=(xj hfl (s2.heap.objs.size+1+1) (closes X.env sc.names []) s2.heap).1
    rw[hcleq]at e1
    have no:∀x,sc.names.lookup x≠some .cell:=λ x z=>by
     have:(x,NameKind.cell)∈sc.names.filter (λ y=>y.2==.cell):=List.mem_filter.mpr ⟨PySem.mem_of_lookup z,rfl⟩
     rw[hfl]at this
     cases this
    rw[e1]
    exact⟨λ x c h=>.inl (look h),λ x hx=>hx.elim (λ z=>absurd z (no x)) λ z=>fV sc.names [] (.inr z),cpy,λ x c z=>absurd z (no x)⟩
  . rename_i y hfl
    have hy:sc.names.lookup y.1=some .cell:=eq_of_beq hcell
    obtain⟨e1,_⟩:=uf hfl (s2.heap.objs.size+1+1) (closes X.env sc.names []) s2.heap
    rw[hcleq]at e1
    have e2:=(uf hfl 0 [] ((s2.heap.push {cls:=.type "list",dict:=none,data:=.seq ([]:List Value).toArray}).push {cls:=.type "dict",data:=.dict #[]})).2
    rw[hh1]at e2
    have e3:((s2.heap.push {cls:=.type "list",dict:=none,data:=.seq ([]:List Value).toArray}).push {cls:=.type "dict",data:=.dict #[]}).objs.size=s2.heap.objs.size+2:=by rw[Heap.size_push,hsz]
    have cel:h₁.IsCell (s2.heap.objs.size+2) none:=by
     rw[e2,←e3]
     exact⟨_,Heap.get?_push_size _ rfl,rfl⟩
    have only:∀x,sc.names.lookup x=some .cell->x=y.1:=λ x z=>by
     have:(x,NameKind.cell)∈sc.names.filter (λ y=>y.2==.cell):=List.mem_filter.mpr ⟨PySem.mem_of_lookup z,rfl⟩
     rw[hfl]at this
     have:=List.mem_singleton.mp this
     rw[←this]
    have lt0:∀{x c},(closes X.env sc.names []).lookup x=some c->c<s2.heap.objs.size:=λ{x c} h=>by
     obtain⟨v,q⟩:=I2.cell x c (look h)
     exact q.lt
    have lk2:∀x,cl.lookup x=if x=y.1 then some (s2.heap.objs.size+1+1)else(closes X.env sc.names []).lookup x:=λ x=>by
     rw[e1,List.lookup_cons]
     by_cases z:x=y.1
     . subst z;simp
     . rw[if_neg z,beq_eq_false_iff_ne.mpr z]
    refine⟨λ x c h=>?_,λ x hx=>?_,λ x c d hc=>?_,λ x c z h=>?_⟩
    . rw [lk2]at h
      by_cases z:x=y.1
      . rw[if_pos z]at h
        cases h
        refine .inr ⟨rfl,by rw[z];exact hy,cel,λ u hu=>?_⟩
        rw[lk2]at hu
        by_cases z2:u=y.1
        . rw[z2,z]
        . rw[if_neg z2]at hu
          exact(Nat.lt_irrefl _ (Nat.lt_of_le_of_lt (Nat.le_add_right _ 2) (lt0 hu))).elim
      . rw[if_neg z]at h
        exact .inl (look h)
    . rw[lk2]
      by_cases z:x=y.1
      . exact⟨_,if_pos z⟩
      . rw[if_neg z]
        exact hx.elim (λ q=>absurd (only x q) z) λ q=>fV sc.names [] (.inr q)
    . rw[lk2,if_neg (λ z=>by rw[z,hy]at d;cases d)]
      exact cpy x c d hc
    . rw[lk2,if_pos (only x z)]at h
      cases h
      exact y9 _
  . cases hcell
 rw[hcleq,hh1]
 have hob:∀b∈fp,∃o,s2.heap.get? b=some o:=λ b hb=>let ⟨o,e,_⟩:=T.obj _ _ st2 b hb;⟨o,e⟩
 have I4:=Pz (t:=s2.toks) (h1:=h₁) I2 f2 hob hkind hcl hfree hcap kp hD1 ⟨_,hns₁⟩
 generalize hX':fB X sc N' (s2.heap.objs.size+1) s2 H2 fp cl=X' at I4
 have pt':=λ i d acc S' a b=>pt i d acc S' a b (s2.heap.objs.size+1) s2 H2 fp cl
 rw[hX']at pt'
 have eP:X'.prog=X.prog:=by rw[←hX'];rfl
 have ew:X'.w=X.w:=by rw[←hX'];rfl
 have eK:X'.K=X.K:=by rw[←hX'];rfl
 have eA:X'.A=X.A:=by rw[←hX'];rfl
 have ec:X'.calm=true:=by rw[←hX'];exact hc
 have ex':X'.xe=λ _ _=>False:=by rw[←hX'];exact hx
 have eenv:X'.env=compEnvC sc cl (s2.heap.objs.size+1) X.env:=by rw[←hX'];rfl
 have eex:X'.ex=fp:=by rw[←hX'];rfl
 have eout:X'.outer=X.stack:=by rw[←hX'];rfl
 have es0:X'.s₀=s2:=by rw[←hX'];rfl
 have eH0:X'.H₀=H2:=by rw[←hX'];rfl
 have epn:X'.pn=[]:=by rw[←hX'];rfl
 have stat:∀{H':Hp},(∀b∈fp,H' b=none)->∀b∈fp,eO X' [] H' b:=λ hn b hb=>by
  refine⟨hn b hb,(I4.ok.exf b (by rw[eex];exact hb)).1,I4.ok.exfs b (by rw[eex];exact hb),.inl (by rw[eex];exact hb),(I4.ok.exf b (by rw[eex];exact hb)).2,λ p hp=>?_⟩
  rw[epn]at hp
  exact absurd hp (by simp)
 have loop:∀s₃:Shared,s₃={s2 with heap:=h₁}->
  codeAny (model X.prog X.w) X.A (.compLoop (.ListComp elt [⟨tg,iter,ifs,0⟩] sc cpos) 0 (.ref it) (.ref s2.heap.objs.size) (compEnvC sc cl (s2.heap.objs.size+1) X.env))
   (RR (.ref s2.heap.objs.size) (s2.heap.objs.size+1)) s₃:=by
  intro s₃ es
  rw[←eenv]
  refine codeAny_loop rfl (λ n s'=>∃i acc xs Hc Ac Sc σc,n=ds.length-i/\i≤ds.length/\Inv X' [] σc Hc s'/\tn i s'.heap/\(∀b∈fp,Hc b=none)/\Pv i acc Sc/\Hc s2.heap.objs.size=some (.lst xs)/\xs.length≤i/\
   Reps X.K ⟨Ac,s2.heap.objs.size::O2.B⟩ Hc xs acc/\Step O2 ⟨Ac,O2.B⟩ H2 Hc/\StOk X.K ⟨Ac,s2.heap.objs.size::O2.B⟩ Hc Sc/\EnvOk X.K ⟨Ac,s2.heap.objs.size::O2.B⟩ Hc σc (capt cap Γ)) ?_ ds.length ?_
  . rintro n s' ⟨i,acc,xs,Hc,Ac,Sc,σc,rfl,hi,Ic,stc,frc,pc,hxs,hxl,rc,sc',okc,envc⟩
    show wpAny _ _ ((compTurn (.ListComp elt [⟨tg,iter,ifs,0⟩] sc cpos) 0 (.ref it) (.ref s2.heap.objs.size) X'.env).onRaise (λ x=>do noteFrame x X'.env;theTreesLotGoes x)) _ _ s'
    refine wpAny_noted ?_
    rw[compTurn_list]
    refine wpAny_bind (wpAny_standAt (wpAny_bind ?_))
    have cv:Conv O2 ⟨Ac,s2.heap.objs.size::O2.B⟩ H2 Hc:=by
     refine⟨λ a u n t=>?_,sc'.conv.lc⟩
     obtain⟨x1,x2⟩:=sc'.conv.tr a u n t
     refine⟨λ z=>?_,x2⟩
     rcases z with z | z
     . exact x1 (.inl z)
     . rcases List.mem_cons.mp z with z | z
       . subst z;rw[hD0]at t;cases t
       . exact x1 (.inr z)
    obtain⟨y1,y2⟩:=yl _ _ _ cv okc (pC _ _ _ pc) i
    by_cases hlt:i<ds.length
    . obtain⟨go,yy⟩:=y1 ds[i] (y3 hlt)
      have it1:=T.item X' eP ew eK ec i [] s' σc Hc (λ _ _=>False) Ic (stat frc) stc go
      rw[eA]at it1
      refine wpAny_mono it1 (λ r s3 hq_=>?_) λ _ _ z=>z.elim
      obtain⟨u,hr,h3⟩:=hq_
      subst hr
      refine wpAny_bind (wpAny_mono h3 (λ _ s5 hq_=>?_) λ _ _ z=>z.elim)
      obtain⟨x,H5,I5,r5,y5,st5,fr5⟩:=hq_
      obtain⟨sm,rx⟩:=yy x H5 y5
      have I5':=I5.pinned (stat fr5) (T.obj _ _ st5)
      have st35:=Step.same (O:=⟨Ac,s2.heap.objs.size::O2.B⟩) sm
      have bd:=pt' i ds[i] acc Sc (y3 hlt) pc _ s5 σc H5 ⟨Ac,s2.heap.objs.size::O2.B⟩ x u I5' (by rw[eK];exact envc.mono st35) (by rw[eK];exact okc.same sm) (by rw[eK];exact rx) r5
      rw[eP,ew,eA]at bd
      refine wpAny_bind (wpAny_mono (sO (E':=λ _ _=>False) ex' bd) (λ _ s6 hq_=>?_) λ _ _ z=>z.elim)
      obtain⟨σ6,H6,I6,O6,Γ6,S6,⟨sub6,w6⟩,st6,ok6,env6⟩:=hq_
      have tst:=Ng w6 I6 env6 ok6
      rw[eP,ew,eA]at tst
      refine wpAny_bind (wpAny_mono (sO (E':=λ _ _=>False) ex' tst) (λ ok s7 hq_=>?_) λ _ _ z=>z.elim)
      obtain⟨H7,I7,O7,S7,w7,st7,ok7⟩:=hq_
      have st57:Step ⟨Ac,s2.heap.objs.size::O2.B⟩ O7 Hc H7:=st35.trans (st6.trans st7)
      have eB7:O7.B=s2.heap.objs.size::O2.B:=st57.hid
      have next:∀(s9:Shared)(H8:Hp)(O8:Own)(S8:Store)(ys:List V)(acc':List D),Step ⟨Ac,s2.heap.objs.size::O2.B⟩ O8 Hc H8->
       StOk X.K O8 H8 S8->EnvOk X.K O8 H8 σ6 (capt cap Γ)->Pv (i+1) acc' S8->Inv X' ([]++lA fp s5.heap) σ6 (upd H8 s2.heap.objs.size (.lst ys)) s9->Reps X.K O8 H8 ys acc'->ys.length≤i+1->
       ∃ m,m<ds.length-i/\∃i acc xs Hc Ac Sc σc,m=ds.length-i/\i≤ds.length/\Inv X' [] σc Hc s9/\tn i s9.heap/\(∀b∈fp,Hc b=none)/\Pv i acc Sc/\Hc s2.heap.objs.size=some (.lst xs)/\xs.length≤i/\
         Reps X.K ⟨Ac,s2.heap.objs.size::O2.B⟩ Hc xs acc/\Step O2 ⟨Ac,O2.B⟩ H2 Hc/\StOk X.K ⟨Ac,s2.heap.objs.size::O2.B⟩ Hc Sc/\EnvOk X.K ⟨Ac,s2.heap.objs.size::O2.B⟩ Hc σc (capt cap Γ):=by
       intro s9 H8 O8 S8 ys acc' st8 ok8 env8 p8 I8 r8 hl8
       have eB:O8.B=s2.heap.objs.size::O2.B:=st8.hid
       obtain⟨A8,B8⟩:=O8
       have eB':B8=s2.heap.objs.size::O2.B:=eB
       subst eB'
       have mem:s2.heap.objs.size∈(⟨A8,s2.heap.objs.size::O2.B⟩:Own).B:=x5
       refine⟨ds.length-(i+1),by omega,i+1,acc',ys,_,A8,S8,σ6,rfl,hlt,I8.unpinned,T.keep _ _ _ st5 λ b hb o e=>(I8.pin (b,o) (List.mem_append_right _ (List.mem_append_right _ (fW hb e)))).1,λ b hb=>?_,p8,aO,hl8,
        r8.conv (Conv.updHid mem _),sc'.inner st8 hD0 _,ok8.updHid mem _,env8.conv (Conv.updHid mem _)⟩
       obtain⟨o,e,d⟩:=T.obj _ _ st5 b hb
       exact(I8.pin (b,o) (List.mem_append_right _ (List.mem_append_right _ (fW hb e)))).2.1
      rw[eK]at ok7 env6 ok6
      have hid:∀{O':Own}{H':Hp}{S':Store},Step ⟨Ac,s2.heap.objs.size::O2.B⟩ O' Hc H'->H' s2.heap.objs.size=some (.lst xs):=λ st'=>
       st'.kept _ _ (λ z=>okc.apart _ z x5) hxs
      cases ok with
      | false=>
        refine wpAny_pure ⟨rfl,?_⟩
        have hx7:=hid (S':=S7) st57
        have eq7:upd H7 s2.heap.objs.size (.lst xs)=H7:=by
         funext b
         by_cases hb:b=s2.heap.objs.size
         . subst hb;rw[aO];exact hx7.symm
         . exact aq hb
        exact next s7 H7 O7 S7 xs acc st57 ok7 ((env6.mono st7).sub sub6) (w7.2 rfl) (by rw[eq7];exact I7) (rc.mono st57) (Nat.le_succ_of_le hxl)
      | true=>
        have el:=w7.1 rfl _ s7 σ6 H7 O7 I7 (by rw[eK];exact env6.mono st7) (by rw[eK];exact ok7)
        rw[eP,ew,eA]at el
        refine wpAny_bind (wpAny_bind (wpAny_mono (sO (E':=λ _ _=>False) ex' el) (λ xe s8 hq_=>?_) λ _ _ z=>z.elim))
        obtain⟨v8,H8,I8,r8,O8,y,S8,w8,st8,ok8,rep8⟩:=hq_
        rw[eK]at ok8 rep8
        have st58:=st57.trans st8
        have hx8:=hid (S':=S8) st58
        have ap:=t6 (X:=X') _ s8 σ6 H8 (.ref s2.heap.objs.size) [v8] (.ref s2.heap.objs.size) [xe] (λ v H'=>H'=upd H8 s2.heap.objs.size (.lst (xs++[v8]))) I8 rfl (.cons r8 .nil)
         ⟨s2.heap.objs.size,xs,v8,rfl,rfl,hx8,Nat.lt_of_le_of_lt (Nat.le_trans hxl (Nat.le_trans hi hz)) (by decide),rfl⟩
        rw[eP,ew,eA]at ap
        refine wpAny_bind (wpAny_mono (sO (E':=λ _ _=>False) ex' ap) (λ _ s9 hq_=>wpAny_pure (wpAny_pure ⟨rfl,?_⟩)) λ _ _ z=>z.elim)
        obtain⟨_,H9,I9,_,e9⟩:=hq_
        subst e9
        exact next s9 H8 O8 S8 (xs++[v8]) (acc++[y]) st58 ok8 (((env6.mono st7).mono st8).sub sub6) w8 I9 ((rc.mono st58).append (.cons rep8 .nil)) (by rw[x6,List.length_singleton];omega)
    . have e:i=ds.length:=by omega
      subst e
      have dn:=T.done X' eP ew eK ec ds.length [] s' σc Hc (λ _ _=>False) Ic (stat frc) stc (y2 rfl)
      rw[eA]at dn
      refine wpAny_mono dn (λ r s3 hq_=>?_) λ _ _ z=>z.elim
      obtain⟨hr,I3⟩:=hq_
      subst hr
      refine wpAny_pure ?_
      obtain⟨m,hm,_⟩:=I3.loc
      have un:Un (frs X.stack) fp H2 Hc s2.heap s3.heap:=by
       have:=I3.base
       rw[eex,eH0,es0]at this
       show Un (frs X.stack) fp H2 Hc s2.heap s3.heap
       rw[←eout]
       exact this
      have os:s3.os=s2.os:=by
       have:=I3.os
       rw[es0]at this
       exact this
      have hok3:HOk X.prog X.w Hc s3.heap:=by
       have:=I3.hok
       rw[eP,ew]at this
       exact this
      have IX:Inv X pins σ Hc s3:=I2.call' os un hok3 I3.bare (λ b hb=>⟨(f2 b hb).2.2.2.1,(f2 b hb).2.1,(f2 b hb).2.2.2.2.1,(f2 b hb).2.2.2.2.2⟩)
      have hCn:Hc (s2.heap.objs.size+1)=none:=by
       have:=I3.free
       rw[eenv]at this
       exact this
      refine fin s3 Hc _ _ m IX (by rw[eenv]at hm;exact hm) (I2.fpOk (Nat.le_succ _) hCn) (w9 (Nat.lt_succ_self _)) ?_
      rcases pe acc Sc pc with w | w
      . refine⟨⟨Ac,O2.B⟩,.lst acc,Sc,w,stp.trans sc',okc.unhide,.lst (.inl ⟨λ z=>?_,.inl hxs⟩) (rc.conv Conv.unhide)⟩
        rcases z with z | z
        . exact okc.apart _ z x5
        . exact ok2.hidden _ z hD0
      . refine⟨⟨Ac++[(s2.heap.objs.size,false)],O2.B⟩,.loc Sc.length,Sc++[acc],w,stp.trans (sc'.adopt hD0),okc.adopt (λ z=>ok2.hidden _ z hD0) hxs rc,.loc ?_⟩
        have el:Ac.length=Sc.length:=okc.len
        show(Ac++[(s2.heap.objs.size,false)])[Sc.length]? =some _
        rw[←el];simp
  . refine⟨0,[],[],upd H2 s2.heap.objs.size (.lst []),O2.A,S2,capt cap σ,rfl,Nat.zero_le _,by rw[es];exact I4,by rw[es];exact T.keep 0 s2.heap h₁ st2 λ b hb o e=>kp b o e,λ b hb=>?_,p0,aO,y9 0,.nil,Step.fresh hD0 _,ok2.hide hD0 _,((env.mono stp).capt cap).conv (Conv.hide hD0 _)⟩
    obtain⟨o,e⟩:=hob b hb
    rw[aq (w9 (Heap.lt_size e))]
    exact(f2 b hb).1
 exact codeAny_compStart_list (loop _ rfl) (T.self _ 0 _ _ _ (T.keep 0 s2.heap h₁ st2 λ b hb o e=>kp b o e) (loop _ rfl))
variable {Γ : Gam} {S : Store} {elt tg iter : Expr} {ifs : List Expr} {sc : Scope} {pos : Pos} {N' : List Str} {cap : List (Option Nat)}
theorem Pu(N':List Str)(cap:List (Option Nat)){W:WD}(h:ItC X Γ S tg iter (vO X sc N' cap Γ elt tg ifs W))(hx:X.xe=λ _ _=>False:=by rfl)(hc:X.calm=true:=by rfl)(hkind:sc.kind=.function:=by rfl)
 (hcell:zR sc.names=true:=by rfl)(hfr:freeOk X.env.scope.names sc.names=true:=by rfl)
 (hnames:∀y∈sc.names,y.2=.local->sc.names.lookup y.1=some .local:=by decide+kernel)(hcap:aZ X.N X.env.scope.names N' sc.names cap N'=true:=by rfl)(hs:∀x,foldedSetIterable iter X.env x=pure x:=by intro _;rfl):
 Ev X Γ S (.ListComp elt [⟨tg,iter,ifs,0⟩] sc pos) W:=by
 intro pins s σ H O I env st
 have hfree:∀y∈sc.names,y.2=.free->X.env.kindOf y.1=some .cell∨X.env.kindOf y.1=some .free:=lH hfr
 have hf:∀y∈sc.names,y.2=.free->∃c,X.env.cells.lookup y.1=some c:=λ y hy e=>I.ok.has y.1 (hfree y hy e)
 rw[eval_ListComp]
 refine wpAny_comprehension_free (use:=none) (g:=⟨tg,iter,ifs,0⟩) (gs:=[]) rfl hs (j6 hf) hkind hnames ?_
 refine tU (RR:=λ acc C=>compPost (model X.prog X.w) X.A X.xe none (EP X pins σ (QG X.K O H W)) acc C) hx hc hkind hcell hfree hcap h I env st ?_
 intro s' Hc D0 C m I' hm fp ne q
 refine⟨m,hm,λ h' sb=>⟨.ref D0,Hc,?_,rfl,q⟩⟩
 obtain⟨f0,f1,f2,f3,f4,f5⟩:=fp
 exact I'.turned (t':=s'.toks) (λ b o hb e=>(sb.2 b hb).trans e) f0 f1 f3 f4 f5
theorem GZ(i:Nat){x:Str}{pos' spos:Pos}{W:Fin}(N':List Str)(cap:List (Option Nat))(h:ItC X Γ S tg iter (vO X sc N' cap Γ elt tg ifs λ d S1=>W.nx (Γ.set i (some d)) S1))(hN:X.N.Nodup)(hi:X.N[i]? =some x:=by rfl)
 (hl:Loc X.env.scope x:=by first | exact Or.inl rfl | exact Or.inr rfl)(hsw:swapsWith (.ListComp elt [⟨tg,iter,ifs,0⟩] sc pos) (some (.Name x pos')) spos.line X.env=pure true:=by rfl)
 (hfn:X.fn x=true∨X.env.scope.names.lookup x=some .local:=by first | exact .inl rfl | exact .inr rfl)(hx:X.xe=λ _ _=>False:=by rfl)(hc:X.calm=true:=by rfl)(hkind:sc.kind=.function:=by rfl)
 (hcell:zR sc.names=true:=by rfl)(hfr:freeOk X.env.scope.names sc.names=true:=by rfl)
 (hnames:∀y∈sc.names,y.2=.local->sc.names.lookup y.1=some .local:=by decide+kernel)(hcap:aZ X.N X.env.scope.names N' sc.names cap N'=true:=by rfl)(hs:∀x,foldedSetIterable iter X.env x=pure x:=by intro _;rfl):
 Rn X Γ S (.Assign [.Name x pos'] (.ListComp elt [⟨tg,iter,ifs,0⟩] sc pos) spos) W:=by
 intro pins s σ H O I env st
 have hfree:∀y∈sc.names,y.2=.free->X.env.kindOf y.1=some .cell∨X.env.kindOf y.1=some .free:=lH hfr
 have hf:∀y∈sc.names,y.2=.free->∃c,X.env.cells.lookup y.1=some c:=λ y hy e=>I.ok.has y.1 (hfree y hy e)
 rw[exec_Assign_Name_used _ _ _ _ hsw]
 refine wpAny_bind (wpAny_standAt (wpAny_bind ?_))
 show wpAny _ X.A (do let _ ←comprehension (.ListComp elt [⟨tg,iter,ifs,0⟩] sc pos) sc X.env _ (newList []) false (eval iter X.env) (some (assign (.Name x pos') X.env))) _ _ s
 refine wpAny_bind (wpAny_mono (wpAny_comprehension_free (use:=some (assign (.Name x pos') X.env)) (g:=⟨tg,iter,ifs,0⟩) (gs:=[]) (Q:=λ _ s'=>SP X pins (ends X.K O H W) .next s') rfl hs (j6 hf) hkind hnames ?_) (λ _ s' hq=>wpAny_pure (wpAny_pure hq)) λ _ _ e=>e)
 refine tU (RR:=λ acc C=>compPost (model X.prog X.w) X.A X.xe (some (assign (.Name x pos') X.env)) (λ _ s'=>SP X pins (ends X.K O H W) .next s') acc C) hx hc hkind hcell hfree hcap h I env st ?_
 intro s' Hc D0 C m I' hm fp ne q
 show wpAny _ X.A (assign (.Name x pos') X.env (.ref D0)) _ _ _
 refine wpAny_assign_Name (ud I' hN hi hl (show RelV (.ref D0) (.ref D0)from rfl) (λ s2 I2 hq_=>?_) hfn)
 obtain⟨a,sa,ha⟩:=hq_
 obtain⟨f0,f1,f2,f3,f4,f5⟩:=fp
 have neC:C≠a:=by
  rcases ha with z | z
  . rw[z];exact f1
  . exact(f4 x a z).symm
 refine⟨m,hm.sameBut sa neC,λ h' sb=>?_⟩
 obtain⟨O',d,S',w,stp,okp,rep⟩:=q
 exact⟨_,Hc,I2.turned (t':=s2.toks) (λ b o hb e=>(sb.2 b hb).trans e) f0 f1 f3 f4 f5,O',_,S',w,stp,okp,(env.mono stp).set rep i⟩
end
end DL
namespace DL
open PySem PySem.Spec L2
open PyProof.Rows
noncomputable def tyD:D->String
 | .non=>"NoneType" | .bl _=>"bool" | .int _=>"int" | .str _=>"str" | .tup _=>"tuple" | .lst _=>"list" | .loc _=>"list" | .dic=>"dict" | .dlo _=>"dict"
noncomputable def isi(t c:String):Bool:=t==c||(t=="bool"&&c=="int")
noncomputable def isT(c:String):Bool:=c=="int"||c=="bool"||c=="tuple"||c=="list"
theorem kit_at(K:PySem.W.Frag)(d:D){c:String}(hc:isT c=true):PySem.W.kitOne K (.type (tyD d)) (.type c)=some (isi (tyD d) c):=by
 have h:c="int"∨c="bool"∨c="tuple"∨c="list":=by
  simp only[isT,Bool.or_eq_true,beq_iff_eq]at hc
  rcases hc with((h | h) | h) | h
  . exact .inl h
  . exact .inr (.inl h)
  . exact .inr (.inr (.inl h))
  . exact .inr (.inr (.inr h))
 rcases h with h | h | h | h<;>subst h<;>cases d<;>kernel_rfl
section
variable {X : Cx} {Γ : Gam} {S : Store} {W : WD} {a b e : Expr} {es : List Expr} {pos : Pos}
theorem NB{pins:Pins}{s:Shared}{σ:St}{H:Hp}{O:Own}{v:V}{u c:Value}{d:D}{A:Around}{E:Value->Shared->Prop}{Q:Value->Shared->Prop}(I:Inv X pins σ H s)(st:StOk X.K O H S)(r:Rep X.K O H v d)(ru:RelV v u)
 (go:∀{x t:Value}{Hh:Heap->Prop},PySem.W.KitX X.K x t Hh->t=.type (tyD d)->Hh s.heap->x≠.builtin "__main__.__loader__#opaque"->wpAny (model X.prog X.w) A (call (.builtin "isinstance") [x,c]) Q E s):
 wpAny (model X.prog X.w) A (call (.builtin "isinstance") [u,c]) Q E s:=by
 cases r with
 | non=>cases ru;exact go PySem.W.kitx_none rfl True.intro (λ z=>nomatch z)
 | bl y=>cases ru;exact go PySem.W.kitx_bool rfl True.intro (λ z=>nomatch z)
 | int y=>obtain⟨t,rfl⟩:=ru;exact go PySem.W.kitx_int rfl True.intro (λ z=>nomatch z)
 | str y=>obtain⟨t,rfl⟩:=ru;exact go PySem.W.kitx_str rfl True.intro (λ z=>nomatch z)
 | tup h1 q1=>
   cases ru
   obtain⟨its,_,⟨o,h2,h3,_⟩,_⟩:=I.tuple h1.sq
   exact go PySem.W.kitx_tuple rfl ⟨o,h2,h3⟩ (λ z=>nomatch z)
 | lst h1 q1=>
   cases ru
   obtain⟨its,_,pl,_⟩:=I.list h1.sq
   obtain⟨o,h2,h3,_⟩:=pl.isList
   exact go PySem.W.kitx_list rfl ⟨o,h2,h3⟩ (λ z=>nomatch z)
 | @loc p k hk=>
   cases ru
   have hl:k<S.length:=by rw[←st.len];exact(z0.mp hk).1
   obtain⟨xs,hx,_⟩:=st.obj k p S[k] hk (y3 hl)
   obtain⟨its,_,pl,_⟩:=I.list (SqL.of hx)
   obtain⟨o,h2,h3,_⟩:=pl.isList
   exact go PySem.W.kitx_list rfl ⟨o,h2,h3⟩ (λ z=>nomatch z)
 | @dic p h1 h2=>
   cases ru
   obtain⟨_,_,vs,_,o,es,ep,h3,h4,_⟩:=(show aX X.prog X.w H s.heap p (.dK [])from I.hok p _ h2)
   exact go PySem.W.kitx_dict rfl ⟨o,h3,h4.1⟩ (λ z=>nomatch z)
 | @dlo p k hk=>
   cases ru
   have hl:k<S.length:=by rw[←st.len];exact(z0.mp hk).1
   cases st.dob k p S[k] hk (y3 hl)with
   | t kvs hx _=>
     obtain⟨_,_,xs,_,o,es,ep,h3,h4,_⟩:=(show aX X.prog X.w H s.heap p (.dT kvs)from I.hok p _ hx)
     exact go PySem.W.kitx_dict rfl ⟨o,h3,h4.1⟩ (λ z=>nomatch z)
   | c ys _ hx _=>
     obtain⟨⟨_,_,_,o,es,ep,h3,h4,_⟩,_,_⟩:=(show aX X.prog X.w H s.heap p (.ext (RQ p ys))from I.hok p _ hx)
     exact go PySem.W.kitx_dict rfl ⟨o,h3,h4.1⟩ (λ z=>nomatch z)
   | o ys _ hx _=>
     obtain⟨⟨_,_,_,o,es,ep,h3,h4,_⟩,_,_⟩:=(show aX X.prog X.w H s.heap p (.ext (jN p ys))from I.hok p _ hx)
     exact go PySem.W.kitx_dict rfl ⟨o,h3,h4.1⟩ (λ z=>nomatch z)
theorem Qk{T:Str}{Tn:String}{p q:Pos}(h:Ev X Γ S a λ x S1=>W (.bl (isi (tyD x) Tn)) S1)(hT:isT Tn=true)(hb:bootBuiltins T=some (.type Tn))(hm1:X.mg "isinstance"=none)(hm:X.mg T=none)(hg1:Gl X "isinstance":=by rfl)(hg:Gl X T:=by rfl)
 (hn:T≠"__name__":=by decide)(hdb:(T==("__debug__":Str))=false:=by decide)(hs1:starEach [a,.Name T q] X.env=(false,eval a X.env)::starEach [.Name T q] X.env:=by rfl)(hs2:starEach [.Name T q] X.env=[(false,eval (.Name T q) X.env)]:=by rfl):
 Ev X Γ S (.Call (.Name "isinstance" p) [a,.Name T q] [] pos) W:=by
 intro pins s σ H O I env st
 have hc:eZ X (.builtin "isinstance") (λ xs H' Q=>∃v,xs=[v,.ty Tn]/\∃O' d S',StOk X.K O' H' S'/\Rep X.K O' H' v d/\Q (.bl (isi (tyD d) Tn)) H'):=by
  intro pins s σ H xs us Q I r h
  obtain⟨v,rfl,O',d,S',st',rep,q⟩:=h
  obtain⟨u,u2,rfl,r1,r2⟩:=vals2 r
  cases r2
  refine NB I st' rep r1 λ Z e p ne=>?_
  subst e
  exact PySem.W.kia_one Z I.kIn p (kit_at X.K d hT) ne λ tk=>⟨.bl _,H,I.tok tk,rfl,q⟩
 refine La hc hg1 hm1 PyProof.Rows.boot_isinstance (m7 h.pe (m7 (NT hg hm hb (v:=.ty Tn) rfl hn hdb) zz hs2) hs1) (by decide) (by decide) hs1 (by rw[hs2];rfl) pins s σ H _ I ⟨O,env,st,λ v H' q=>?_⟩
 obtain⟨O',d,S',w,st1,ok1,rep⟩:=q
 exact⟨v,rfl,O',d,S',ok1,rep,O',_,S',w,st1,ok1,.bl _⟩
theorem range_all{α:Type}(f:α->Bool)(d:α):∀(bs:List α)(k:Nat),((List.range' k bs.length).all λ i=>f ((List.replicate k d++bs).getD i d))=bs.all f
 | [],_=>by simp
 | b ::bs,k=>by
   have ih:=range_all f d bs (k+1)
   rw[List.length_cons,List.range'_succ,List.all_cons,List.all_cons]
   congr 1
   . simp[List.getD]
   . rw[←ih]
     have e:List.replicate k d++b::bs=(List.replicate k d++[b])++bs:=by simp
     rw[List.all_eq,List.all_eq]
     congr 1
     apply propext
     constructor
     . intro h i hi
       have:=h i hi
       rw[List.mem_range']at hi
       obtain⟨j,hj,rfl⟩:=hi
       simp only[List.getD,List.getElem?_append,List.length_replicate]at this ⊢
       have g1:¬(k+1+1*j<k):=by omega
       have g2:¬(k+1+1*j<k+1):=by omega
       rw[if_neg g1]at this
       rw[if_neg g2]
       have e1:k+1+1*j-k=(k+1+1*j-(k+1))+1:=by omega
       rw[e1,List.getElem?_cons_succ]at this
       exact this
     . intro h i hi
       have:=h i hi
       rw[List.mem_range']at hi
       obtain⟨j,hj,rfl⟩:=hi
       simp only[List.getD,List.getElem?_append,List.length_replicate]at this ⊢
       have g1:¬(k+1+1*j<k):=by omega
       have g2:¬(k+1+1*j<k+1):=by omega
       rw[if_neg g2]at this
       rw[if_neg g1]
       have e1:k+1+1*j-k=(k+1+1*j-(k+1))+1:=by omega
       rw[e1,List.getElem?_cons_succ]
       exact this
theorem Eh(bs:List Bool):((List.range bs.length).all λ i=>bs.getD i false)=bs.all id:=by
 have:=range_all id false bs 0
 simpa[List.range_eq_range']using this
theorem k_all{bs:List Bool}(w:W (.bl (bs.all id)) S)(hc:X.calm=true:=by rfl):cO X (.builtin "all") [.lst (bs.map .bl)] S W:=by
 intro pins s σ H O vs us I st r ru
 obtain⟨v,rfl,r'⟩:=cC r
 obtain⟨u,rfl,ru'⟩:=vals1 ru
 cases r' with
 | @lst a xs _ h1 q1=>
   cases ru'
   obtain⟨its,rv,pl,hz⟩:=I.list h1.sq
   have ex:=q1.bools
   subst ex
   have hlen:its.length=bs.length:=by rw[←rv.length];simp
   refine call_all_walk (wpAny_pyIter_list pl.isList ?_)
   have ne:a≠s.heap.objs.size:=by
    obtain⟨o,e,_⟩:=pl.isList
    exact w9 (Heap.lt_size e)
   refine⟨_,_,_,_,_,_,λ i=>bs.getD i false,rfl,Walks.list (A:=X.A.in1) (I.ok.hd hc) _ a ne its.toArray,⟨⟨_,Heap.get?_push_size _ rfl,rfl,rfl⟩,pl.isList.push _⟩,λ i v s' Q' E' hv hq=>?_,λ h' tk hk=>?_⟩
   . have hv:its[i]? =some v:=by simpa using hv
     have hi:i<bs.length:=by rw[←hlen];exact(z0.mp hv).1
     obtain⟨z,hz',rz⟩:=rv.get (i:=i) (x:=V.bl bs[i]) (by rw[y8,y3 hi];rfl)
     rw[hv]at hz'
     cases hz'
     cases rz
     have e:bs.getD i false=bs[i]:=by simp[List.getD,hi]
     have hq':Q' (bs.getD i false) s':=hq
     rw[e]at hq'
     exact wpAny_truthy_bool hq'
   . have e:(List.range its.toArray.size).all (λ i=>bs.getD i false)=bs.all id:=by rw[x4,hlen];exact Eh bs
     rw[e]
     refine⟨.bl _,H,I.kept (λ b o q=>hk b o (λ z=>?_) (Heap.get?_push_of_some _ q)),rfl,QG.here w st (.bl _)⟩
     have z':b=s.heap.objs.size:=by simpa using z
     exact absurd (Heap.lt_size q) (by rw[z'];exact Nat.lt_irrefl _)
theorem Sy{ns:List Int}(w:W (.int ns.sum) S)(hc:X.calm=true:=by rfl):cO X (.builtin "sum") [.lst (ns.map .int)] S W:=by
 intro pins s σ H O vs us I st r ru
 obtain⟨v,rfl,r'⟩:=cC r
 obtain⟨u,rfl,ru'⟩:=vals1 ru
 cases r' with
 | @lst a xs _ h1 q1=>
   cases ru'
   obtain⟨its,rv,pl,hz⟩:=I.list h1.sq
   have ex:=q1.ints
   subst ex
   have hi:IntsAre its ns:=intsAre_of rv
   obtain⟨zs,ez⟩:=hi.allInts.items
   have hL:=pl.isList
   rw[ez]at hL
   refine sum_intListG (I.ok.hd hc) hL λ h' tk t' hk=>?_
   have e:preSum (numAt zs) zs.size=ns.sum:=by
    rw[preSum_eq,List.take_of_length_le (by simp),←nums_intItems,←ez]
    exact congrArg List.sum hi.numsOf
   rw[e]
   exact⟨.int _,H,I.kept hk,⟨_,rfl⟩,QG.here w st (.int _)⟩
mutual
noncomputable def deep:D->Nat
 | .tup ds=>aR ds+1
 | .lst ds=>aR ds+1
 | .dic=>1
 | _=>0
noncomputable def aR:List D->Nat
 | []=>0
 | d::ds=>max (deep d) (aR ds)
end
mutual
noncomputable def ao:D->Bool
 | .tup ds=>ak ds
 | .lst ds=>ak ds
 | .loc _=>false
 | .dlo _=>false
 | _=>true
noncomputable def ak:List D->Bool
 | []=>true
 | d::ds=>ao d&&ak ds
end
theorem cV{d:D}:∀{ds:List D}{i:Nat},ds[i]? =some d->deep d≤aR ds
 | [],_,h=>by simp at h
 | c::ds,0,h=>by simp at h;subst h;simp[aR];omega
 | c::ds,i+1,h=>by
   have:=cV (ds:=ds) (i:=i) (by simpa using h)
   simp[aR];omega
theorem fD{d:D}:∀{ds:List D}{i:Nat},ak ds=true->ds[i]? =some d->ao d=true
 | [],_,_,h=>by simp at h
 | c::ds,0,n,h=>by simp at h;subst h;simp[ak]at n;exact n.1
 | c::ds,i+1,n,h=>by
   simp[ak]at n
   exact fD (ds:=ds) (i:=i) n.2 (by simpa using h)
theorem jM{pins:Pins}{s:Shared}{σ:St}{H:Hp}{a:Addr}(I:Inv X pins σ H s)(h:H a=some (.dK [])):(a==sysModules)=false/\s.heap.DictOf (dO X.prog X.w) a []:=by
 obtain⟨_,h2,vs,h3,h4⟩:=(show aX X.prog X.w H s.heap a (.dK [])from I.hok a _ h)
 cases h3
 exact⟨h2,h4⟩
theorem Mx{P P':Program}{w w':World}{h:Heap}{a:Addr}(d:h.DictOf (dO P w) a []):h.DictOf (dO P' w') a []:=by
 obtain⟨o,es,ep,h1,h2,h3,h4,h5,h6⟩:=d
 have e:es=#[]:=by
  have q0:∀l,Pairs (dO P w) l ([]:List (Key×Value))->l=[]:=by
   intro l hl
   cases hl
   rfl
  have q:es.toList=[]:=q0 _ h5
  exact Array.toList_eq_nil_iff.mp q
 subst e
 exact⟨o,#[],ep,h1,h2,h3,λ _ he=>by simp at he,Pairs.nil,List.nodup_nil⟩
theorem Hf (n:Nat):∀(x:D),deep x≤n->ao x=true->∀{pins:Pins}{s:Shared}{σ:St}{H:Hp}{O:Own}{v w:V}{u u':Value}{A:Around},Inv X pins σ H s->Rep X.K O H v x->Rep X.K O H w x->RelV v u->RelV w u'->A.units+n<cLine->SeqAt.EqAt A s u u' true:=by
 induction n with
 | zero=>
   intro x hx hn pins s σ H O v w u u' A I r1 r2 ru ru' hu
   cases r1 with
   | non=>cases r2;cases ru;cases ru';exact SeqAt.EqAt.same _
   | bl b=>cases r2;cases ru;cases ru';exact SeqAt.EqAt.same _
   | int i=>
     cases r2;obtain⟨t,rfl⟩:=ru;obtain⟨t',rfl⟩:=ru'
     have:=SeqAt.EqAt.int_int (A:=A) (s:=s) i t i t'
     rw[beq_self_eq_true]at this
     exact this
   | str i=>
     cases r2;obtain⟨t,rfl⟩:=ru;obtain⟨t',rfl⟩:=ru'
     have:=SeqAt.EqAt.str_str (A:=A) (s:=s) i t i t'
     rw[beq_self_eq_true]at this
     exact this
   | tup _ _=>simp[deep]at hx
   | lst _ _=>simp[deep]at hx
   | loc _=>simp[ao]at hn
   | dlo _=>simp[ao]at hn
   | dic _ _=>simp[deep]at hx
 | succ n ih=>
   intro x hx hn pins s σ H O v w u u' A I r1 r2 ru ru' hu
   cases r1 with
   | non=>cases r2;cases ru;cases ru';exact SeqAt.EqAt.same _
   | bl b=>cases r2;cases ru;cases ru';exact SeqAt.EqAt.same _
   | int i=>
     cases r2;obtain⟨t,rfl⟩:=ru;obtain⟨t',rfl⟩:=ru'
     have:=SeqAt.EqAt.int_int (A:=A) (s:=s) i t i t'
     rw[beq_self_eq_true]at this
     exact this
   | str i=>
     cases r2;obtain⟨t,rfl⟩:=ru;obtain⟨t',rfl⟩:=ru'
     have:=SeqAt.EqAt.str_str (A:=A) (s:=s) i t i t'
     rw[beq_self_eq_true]at this
     exact this
   | @tup a xs ds h1 q1=>
     cases r2 with
     | @tup b ys _ h2 q2=>
       cases ru;cases ru'
       by_cases e:a=b
       . subst e;exact SeqAt.EqAt.same _
       . obtain⟨its,v1,p1,_⟩:=I.tuple h1.sq
         obtain⟨its2,v2,p2,_⟩:=I.tuple h2.sq
         have l1:its.length=ds.length:=by rw[←v1.length,q1.length]
         have l2:its2.length=ds.length:=by rw[←v2.length,q2.length]
         have rc:=SeqAt.RcAt.tuples (A:=A) (e:=λ _=>true) (show s.heap.IsTuple a its.toArray from p1) (show s.heap.IsTuple b its2.toArray from p2) (by omega) (λ j j1 j2=>?_)
         . have e2:((List.range (min its.toArray.size its2.toArray.size)).all (λ _=>true)&&its.toArray.size==its2.toArray.size)=true:=by simp[l1,l2]
           rw[e2]at rc
           exact SeqAt.EqAt.of_refs e rc
         . have hj:j<ds.length:=by simpa[l1]using j1
           obtain⟨z1,a1,b1⟩:=q1.get (y3 hj)
           obtain⟨z2,a2,b2⟩:=q2.get (y3 hj)
           obtain⟨u1,c1,d1⟩:=v1.get a1
           obtain⟨u2,c2,d2⟩:=v2.get a2
           have e1:its.toArray[j]=u1:=by have:=(z0.mp c1).2;simpa using this
           have e2:its2.toArray[j]=u2:=by have:=(z0.mp c2).2;simpa using this
           rw[e1,e2]
           have hd:=cV (y3 hj)
           exact ih ds[j] (by simp[deep]at hx;omega) (fD (by simpa[ao]using hn) (y3 hj)) I b1 b2 d1 d2 (by show A.units+1+n<cLine;omega)
   | @lst a xs ds h1 q1=>
     cases r2 with
     | @lst b ys _ h2 q2=>
       cases ru;cases ru'
       by_cases e:a=b
       . subst e;exact SeqAt.EqAt.same _
       . obtain⟨its,v1,p1,_⟩:=I.list h1.sq
         obtain⟨its2,v2,p2,_⟩:=I.list h2.sq
         have l1:its.length=ds.length:=by rw[←v1.length,q1.length]
         have l2:its2.length=ds.length:=by rw[←v2.length,q2.length]
         have rc:=SeqAt.RcAt.lists (A:=A) (e:=λ _=>true) p1.isList p2.isList (by simp[l1,l2]) (by omega) (λ j j1 j2=>?_)
         . have e2:(List.range its.toArray.size).all (λ _=>true)=true:=by simp
           rw[e2]at rc
           exact SeqAt.EqAt.of_refs e rc
         . have hj:j<ds.length:=by simpa[l1]using j1
           obtain⟨z1,a1,b1⟩:=q1.get (y3 hj)
           obtain⟨z2,a2,b2⟩:=q2.get (y3 hj)
           obtain⟨u1,c1,d1⟩:=v1.get a1
           obtain⟨u2,c2,d2⟩:=v2.get a2
           have e1:its.toArray[j]=u1:=by have:=(z0.mp c1).2;simpa using this
           have e2:its2.toArray[j]=u2:=by have:=(z0.mp c2).2;simpa using this
           rw[e1,e2]
           have hd:=cV (y3 hj)
           exact ih ds[j] (by simp[deep]at hx;omega) (fD (by simpa[ao]using hn) (y3 hj)) I b1 b2 d1 d2 (by show A.units+1+n<cLine;omega)
   | loc _=>simp[ao]at hn
   | dlo _=>simp[ao]at hn
   | @dic a h1 e1=>
     cases r2 with
     | @dic b h2 e2=>
       cases ru;cases ru'
       by_cases e:a=b
       . subst e;exact SeqAt.EqAt.same _
       . obtain⟨z1,d1⟩:=jM I e1
         obtain⟨z2,d2⟩:=jM I e2
         refine SeqAt.EqAt.of_refs e λ prog w' E Q hq=>?_
         exact PySem.W.keq_eq (knd:=dO prog w') z1 z2 (Mx d1) (Mx d2) (by omega) (λ _=>.nil) (by simpa using hq)
end
end DL
namespace DL
open PySem PySem.Spec L2
open PyProof.Rows
variable {pins : Pins} {H : Hp} {s : Shared}
section
variable {X : Cx} {Γ : Gam} {S : Store} {W : WD} {a b e : Expr} {es : List Expr} {pos : Pos}
theorem Lk{x:D}(hu:X.A.units+60<cLine)(hn:ao x=true)(hd:deep x≤50)(w:W (.bl false) S):bw X .NotEq x x S W:=by
 intro pins s σ H O v w' u u' I st r1 r2 r3 r4
 have fin:∀{k:Bool},SeqAt.RcNeAt X.A s u u' k->k=false->wpAny (model X.prog X.w) X.A (compareOp .NotEq u u') (EP X pins σ (QG X.K O H W)) X.xe s:=λ h e=>by
  subst e
  exact h _ _ _ _ ⟨.bl false,H,I,rfl,QG.here w st (.bl false)⟩
 cases r1 with
 | non=>cases r2;cases r3;cases r4;exact fin SeqAt.RcNeAt.none_none rfl
 | bl y=>cases r2;cases r3;cases r4;exact fin (SeqAt.RcNeAt.bool_bool y y) (by simp)
 | int y=>cases r2;obtain⟨t,rfl⟩:=r3;obtain⟨t',rfl⟩:=r4;exact fin (SeqAt.RcNeAt.int_int y t y t') (by simp)
 | str y=>cases r2;obtain⟨t,rfl⟩:=r3;obtain⟨t',rfl⟩:=r4;exact fin (SeqAt.RcNeAt.str_str y t y t') (by simp)
 | @tup a xs ds h1 q1=>
   cases r2 with
   | @tup b ys _ h2 q2=>
     cases r3;cases r4
     obtain⟨its,v1,p1,_⟩:=I.tuple h1.sq
     obtain⟨its2,v2,p2,_⟩:=I.tuple h2.sq
     have l1:its.length=ds.length:=by rw[←v1.length,q1.length]
     have l2:its2.length=ds.length:=by rw[←v2.length,q2.length]
     refine fin (SeqAt.RcNeAt.tuples (e:=λ _=>true) (show s.heap.IsTuple a its.toArray from p1) (show s.heap.IsTuple b its2.toArray from p2) (by omega) (λ j j1 j2=>?_)) (by simp[l1,l2])
     have hj:j<ds.length:=by simpa[l1]using j1
     obtain⟨z1,a1,b1⟩:=q1.get (y3 hj)
     obtain⟨z2,a2,b2⟩:=q2.get (y3 hj)
     obtain⟨u1,c1,d1⟩:=v1.get a1
     obtain⟨u2,c2,d2⟩:=v2.get a2
     have e1:its.toArray[j]=u1:=by have:=(z0.mp c1).2;simpa using this
     have e2:its2.toArray[j]=u2:=by have:=(z0.mp c2).2;simpa using this
     rw[e1,e2]
     have hd':=cV (y3 hj)
     exact Hf 49 ds[j] (by simp[deep]at hd;omega) (fD (by simpa[ao]using hn) (y3 hj)) I b1 b2 d1 d2 (by show X.A.units+1+49<cLine;omega)
 | @lst a xs ds h1 q1=>
   cases r2 with
   | @lst b ys _ h2 q2=>
     cases r3;cases r4
     obtain⟨its,v1,p1,_⟩:=I.list h1.sq
     obtain⟨its2,v2,p2,_⟩:=I.list h2.sq
     have l1:its.length=ds.length:=by rw[←v1.length,q1.length]
     have l2:its2.length=ds.length:=by rw[←v2.length,q2.length]
     refine fin (SeqAt.RcNeAt.lists (e:=λ _=>true) p1.isList p2.isList (by simp[l1,l2]) (by omega) (λ j j1 j2=>?_)) (by simp)
     have hj:j<ds.length:=by simpa[l1]using j1
     obtain⟨z1,a1,b1⟩:=q1.get (y3 hj)
     obtain⟨z2,a2,b2⟩:=q2.get (y3 hj)
     obtain⟨u1,c1,d1⟩:=v1.get a1
     obtain⟨u2,c2,d2⟩:=v2.get a2
     have e1:its.toArray[j]=u1:=by have:=(z0.mp c1).2;simpa using this
     have e2:its2.toArray[j]=u2:=by have:=(z0.mp c2).2;simpa using this
     rw[e1,e2]
     have hd':=cV (y3 hj)
     exact Hf 49 ds[j] (by simp[deep]at hd;omega) (fD (by simpa[ao]using hn) (y3 hj)) I b1 b2 d1 d2 (by show X.A.units+1+49<cLine;omega)
 | loc _=>simp[ao]at hn
 | dlo _=>simp[ao]at hn
 | @dic a h1 e1=>
   cases r2 with
   | @dic b h2 e2=>
     cases r3;cases r4
     obtain⟨z1,d1⟩:=jM I e1
     obtain⟨z2,d2⟩:=jM I e2
     exact PySem.W.keq_ne (knd:=dO X.prog X.w) z1 z2 d1 d2 (by omega) (λ _=>.nil) ⟨.bl false,H,I,rfl,QG.here w st (.bl false)⟩
end
structure SqKind(P:Program)(w:World)(K:PySem.W.Frag) where
 Sq:Hp->Addr->List V->Prop
 It:Heap->Addr->Addr->Nat->Prop
 Ob:Heap->Addr->Array Value->Prop
 itObj:∀{h it a i},It h it a i->∃o vs,h.get? it=some o/\o.data=.fields vs
 itAt:∀{h h' it a i},It h it a i->(∀o,h.get? it=some o->h'.get? it=some o)->It h' it a i
 obObj:∀{h a its},Ob h a its->∃o n,h.get? a=some o/\o.data=.seq its n
 draws:∀(A:Around),A.handled=none->∀(it a:Addr),a≠it->∀items:Array Value,Draws P w A it [it,a] items.size (λ i v=>items[i]? =some v) (λ i h=>It h it a i/\Ob h a items)
 get:∀{X:Cx}{pins:Pins}{σ:St}{H:Hp}{s:Shared}{a:Addr}{xs:List V},X.prog=P->X.w=w->X.K=K->Inv X pins σ H s->Sq H a xs->∃its:List Value,Vals xs its/\Ob s.heap a its.toArray
 inj:∀{X:Cx}{pins:Pins}{σ:St}{H:Hp}{s:Shared}{a:Addr}{xs ys:List V},X.prog=P->X.w=w->X.K=K->Inv X pins σ H s->Sq H a xs->Sq H a ys->xs=ys
 far:∀{X:Cx}{pins:Pins}{σ:St}{H:Hp}{s:Shared}{a b:Addr}{xs:List V},X.K=K->Inv X pins σ H s->Sq H a xs->eO X pins H b->a≠b
section
variable {P : Program} {w : World} {K : PySem.W.Frag}
theorem SqKind.ne(q:SqKind P w K){h:Heap}{it a:Addr}{i:Nat}{its:Array Value}(x:q.It h it a i)(y:q.Ob h a its):a≠it:=λ e=>by
 obtain⟨o,vs,h1,h2⟩:=q.itObj x
 obtain⟨o',n,h3,h4⟩:=q.obObj y
 rw[e,h1]at h3
 cases h3
 rw[h2]at h4
 cases h4
theorem PQ{X:Cx}{σ:St}{a b:Addr}{o:Obj}(I:Inv X pins σ H s)(h:X.K.lookup a=some o)(f:eO X pins H b):a≠b:=λ z=>by
 have e:=I.ok.mod.kin a o h
 rw[z]at e
 rcases f.2.2.2.1 with q | q
 . exact I.ok.noex b o e q
 . exact absurd (x9 (Heap.lt_size e) (Nat.le_trans I.ok.bsz q)) (Nat.lt_irrefl _)
noncomputable def Td(P:Program)(w:World)(K:PySem.W.Frag):SqKind P w K where
 Sq:=SqL K
 It:=λ h it a i=>h.IsListIter it a i
 Ob:=λ h a its=>h.IsList a its
 itObj:=λ x=>let ⟨o,e,_,d⟩:=x;⟨o,_,e,d⟩
 itAt:=λ x k=>x.at k
 obObj:=λ x=>let ⟨o,e,_,n,d⟩:=x;⟨o,n,e,d⟩
 draws:=λ A hh it a ne items=>Draws.list hh it a ne items
 get:=λ hP hw hK I h=>by
  subst hP hw hK
  obtain⟨its,rv,p,_⟩:=I.list h
  exact⟨its,rv,p.isList⟩
 inj:=λ hP hw hK I h h'=>by
  subst hP hw hK
  exact I.list_inj h h'
 far:=λ hK I h f=>by
  subst hK
  rcases h with(h | ⟨_,h⟩) | ⟨o,_,_,h,_⟩
  . exact aG h f.1
  . exact aG h f.1
  . exact PQ I h f
theorem QV{prog:Program}{w:World}{A:Around}{E:Value->Shared->Prop}{it t:Addr}{i:Nat}{items:Array Value}{x:Value}{Q:Value->Shared->Prop}(hi:s.heap.IsTupleIter it t i)(ht:s.heap.IsTuple t items)(hx:items[i]? =some x)
 (hQ:∀h',h'.IsTupleIter it t (i+1)->Heap.SameBut it s.heap h'->Q x {s with heap:=h'}):wpAny (model prog w) A (Builtin.SmallTypes.nextOf (.ref it)) Q E s:=by
 obtain⟨o,ho,hc,hd⟩:=id hi
 obtain⟨o2,ho2,_,n2,hd2⟩:=ht
 unfold Builtin.SmallTypes.nextOf
 refine wpAny_bind (wpAny_callSpecial?_slot (name:=Str.ofString "__next__") hi.typeIs F.slot_tuple_iterator_next (wpAny_call_entry F.slot_tuple_iterator_next hi.typeIs F.entry_tuple_iterator_next ?_ (F.args_tuple_iterator_next_1 _)))
 refine wpAny_bind (m:=field (.ref it) 0) (wpAny_field ho hd (x:=.ref t) rfl ?_)
 rw[if_neg (show ¬((Value.ref t==Value.none)=true)from y6)]
 refine wpAny_bind (m:=field (.ref it) 1) (wpAny_field ho hd (x:=.int i 0) rfl ?_)
 refine wpAny_bind (m:=seqItems? (.ref t)) (wpAny_seqItems ho2 hd2 ?_)
 simp only[Int.toNat_natCast,hx]
 refine wpAny_bind (wpAny_setField ho hd (by simp) (wpAny_pure ⟨x,rfl,wpAny_pure (hQ _ ⟨_,Heap.get?_update_self _ ho (Obj.isFreed_of_fields (Obj.data_mapFields hd _)),(Obj.cls_mapFields ..).trans hc,by rw[Obj.data_mapFields hd];simp[rawInt]⟩ (Heap.SameBut.update ..))⟩))
theorem Hw{prog:Program}{w:World}{A:Around}{E:Value->Shared->Prop}{it t:Addr}{i:Nat}{items:Array Value}{Q:Value->Shared->Prop}(hh:A.handled=none)(hi:s.heap.IsTupleIter it t i)(ht:s.heap.IsTuple t items)(hx:items[i]? =none)
 (hE:∀h' e,Heap.ExtBut it s.heap h'->(∃o,h'.get? e=some o/\o.cls=.type "StopIteration")->E (.ref e) {s with heap:=h'}):wpAny (model prog w) A (Builtin.SmallTypes.nextOf (.ref it)) Q E s:=by
 obtain⟨o,ho,hc,hd⟩:=id hi
 obtain⟨o2,ho2,_,n2,hd2⟩:=ht
 unfold Builtin.SmallTypes.nextOf
 refine wpAny_bind (wpAny_callSpecial?_slot (name:=Str.ofString "__next__") hi.typeIs F.slot_tuple_iterator_next (wpAny_call_entry F.slot_tuple_iterator_next hi.typeIs F.entry_tuple_iterator_next ?_ (F.args_tuple_iterator_next_1 _)))
 refine wpAny_bind (m:=field (.ref it) 0) (wpAny_field ho hd (x:=.ref t) rfl ?_)
 rw[if_neg (show ¬((Value.ref t==Value.none)=true)from y6)]
 refine wpAny_bind (m:=field (.ref it) 1) (wpAny_field ho hd (x:=.int i 0) rfl ?_)
 refine wpAny_bind (m:=seqItems? (.ref t)) (wpAny_seqItems ho2 hd2 ?_)
 simp only[Int.toNat_natCast,hx]
 refine wpAny_bind (wpAny_rule (wpAny_bind (wpAny_setField ho hd (by simp) (wpAny_bind (m:=newExc (.type "StopIteration") []) ?_))))
 simp only[newExc,newTuple]
 refine wpAny_bind (wpAny_newObj_type (wpAny_bind (m:=firstArgMember _ _) (wpAny_of_eq (a:=Value.none) (by first | rfl | (simp only[firstArgMember];rfl)) (wpAny_newObj_type ?_ (by size_fits)))) (by size_fits))
 simp only[raiseNew]
 refine wpAny_bind (wpAny_handled ?_)
 first | rw[show A.in1.handled=none from hh] | rw[hh]
 exact wpAny_bind (wpAny_pure (wpAny_throw (hE _ _ (((Heap.SameBut.update ..).extBut.push _).push _) ⟨_,Heap.get?_push_size _ rfl,rfl⟩)))
theorem Mi{prog:Program}{w:World}{A:Around}(hh:A.handled=none)(it t:Addr)(ne:t≠it)(items:Array Value):
 Draws prog w A it [it,t] items.size (λ i v=>items[i]? =some v) (λ i h=>h.IsTupleIter it t i/\h.IsTuple t items) where
 live:=λ i h x=>let ⟨o,e,_⟩:=x.1;⟨o,e⟩
 frame:=λ i h h' x k=>by
  obtain⟨⟨o,e,r⟩,⟨o2,e2,r2⟩⟩:=x
  exact⟨⟨o,k it (by simp) o e,r⟩,⟨o2,k t (by simp) o2 e2,r2⟩⟩
 item:=λ i s Q E hi x hQ=>QV x.1 x.2 (x:=items[i]) (by simp[hi]) λ h' y sb=>hQ _ h' s.toks (by simp[hi]) ⟨y,x.2.extBut sb.extBut ne⟩ sb
 done:=λ s Q E x hE=>Hw hh x.1 x.2 (by simp) hE
noncomputable def Ma(P:Program)(w:World)(K:PySem.W.Frag):SqKind P w K where
 Sq:=SqT K
 It:=λ h it a i=>h.IsTupleIter it a i
 Ob:=λ h a its=>h.IsTuple a its
 itObj:=λ x=>let ⟨o,e,_,d⟩:=x;⟨o,_,e,d⟩
 itAt:=λ x k=>let ⟨o,e,r⟩:=x;⟨o,k o e,r⟩
 obObj:=λ x=>let ⟨o,e,_,n,d⟩:=x;⟨o,n,e,d⟩
 draws:=λ A hh it a ne items=>Mi hh it a ne items
 get:=λ hP hw hK I h=>by
  subst hP hw hK
  obtain⟨its,rv,p,_⟩:=I.tuple h
  exact⟨its,rv,p⟩
 inj:=λ hP hw hK I h h'=>by
  subst hP hw hK
  exact I.tuple_inj h h'
 far:=λ hK I h f=>by
  subst hK
  rcases h with(h | ⟨_,h⟩) | ⟨o,_,_,h,_⟩
  . exact aG h f.1
  . exact aG h f.1
  . exact PQ I h f
theorem sX{X:Cx}{σ:St}{h':Heap}{t:Nat}{ch:List Addr}(I:Inv X pins σ H s)(hf:∀b∈ch,eO X pins H b)(k:∀b o,b∉ch->s.heap.get? b=some o->h'.get? b=some o):Inv X pins σ H {s with heap:=h',toks:=t}:=by
 have nch:∀b u,H b=some u->b∉ch:=λ b u e z=>by rw[(hf b z).1]at e;cases e
 refine I.step (g':=s.gens) (d':=s.drawn) (ch:=ch) (λ b hb=>⟨(hf b hb).2.2.2.1,(hf b hb).2.1,(hf b hb).2.2.2.2.1,(hf b hb).2.2.2.2.2⟩) (λ b o _ _ hc e _=>k b o hc e) (λ b o _ _ hc e _=>⟨o.slots,k b o hc e⟩) (λ _ _ _ _ n=>n) (λ b o hc e=>⟨o,k b o hc e⟩)
  (λ _ _ e=>e) (λ _ _ _ e=>e) (λ b ps e=>⟨#[],by rw[e];simp⟩) (λ m hm=>?_) (λ b u e=>?_) I.bare
 . obtain⟨o,es,ep,ho,r⟩:=hm
   exact⟨o,es,ep,k _ o (λ z=>(hf _ z).2.1 rfl) ho,r⟩
 . refine(I.hok b u e).stay (λ c v hc q=>k c v ?_ q) (λ _ q=>q) λ _ _ q=>q
   rcases hc with z | z
   . rw[z];exact nch b u e
   . exact nch c _ z
theorem yD{X:Cx}{σ:St}{s':Shared}{p:Addr}{o:HO}(I:Inv X pins σ H s)(I':Inv X pins σ H s')(hp:s.heap.objs.size≤p)(ob:aX X.prog X.w (upd H p o) s'.heap p o):Inv X pins σ (upd H p o) s':=by
 have hn:H p=none:=I.hok.fresh hp
 have nt:∀b u,H b=some u->b≠p:=λ b u e=>aG e hn
 refine⟨I'.ok,I'.os,I'.bare,⟨I'.base.keep,I'.base.slot,λ b ob e n hx=>?_,I'.base.there,λ b xs e=>?_,λ b ob u e=>?_,λ b ps e=>?_⟩,I'.loc,I'.cell,?_,λ x c e=>?_,λ q hq=>?_,λ b u e=>?_,I'.len⟩
 . have lt:b<s.heap.objs.size:=x9 (Heap.lt_size e) I.sz
   rw[aq (w9 (x9 lt hp))]
   exact I'.base.free b ob e n hx
 . have:=I'.base.tups b xs e
   rw[aq (nt b _ this)];exact this
 . have:=I'.base.frzs b ob u e
   rw[aq (nt b _ this)];exact this
 . obtain⟨m,e'⟩:=I'.base.tbls b ps e
   exact⟨m,by rw[aq (nt b _ e')];exact e'⟩
 . rw[aq (w9 (x9 I.lt hp))];exact I'.free
 . obtain⟨v,z⟩:=I.cell x c e
   rw[aq (w9 (x9 z.lt hp))];exact I'.freeC x c e
 . obtain⟨e1,_⟩:=I.pin q hq
   obtain⟨a1,a2,a3⟩:=I'.pin q hq
   exact⟨a1,by rw[aq (w9 (x9 (Heap.lt_size e1) hp))];exact a2,a3⟩
 . by_cases hb:b=p
   . subst hb;rw[aO]at e;cases e;exact ob
   . rw[aq hb]at e
     exact(I'.hok b u e).stay (λ c v _ q=>q) (λ c q=>by rw[aq (nt c _ q)];exact q) λ c xs q=>by rw[aq (nt c _ q)];exact q
noncomputable def Ite(q:SqKind P w K)(a:Addr):It:=
 ⟨λ i H=>∃xs x,q.Sq H a xs/\xs[i]? =some x,λ i H x H'=>∃p y,H p=none/\H'=upd H p (.tup [.int i,y])/\x=.ref p/\∀xs,q.Sq H a xs->xs[i]? =some y,λ i H=>∃xs,q.Sq H a xs/\i=xs.length⟩
theorem Ih(q:SqKind P w K){elts:List Expr}{k:Nat}{pos:Pos}(a e it:Addr)(hne:e≠it):Turn P w K (.Tuple elts k pos) (Ite q a) [e,it] e (λ i h=>(∃old,IsEnum h e it i old)/\q.It h it a i) where
 mem:=by simp
 obj:=λ i h st b hb=>by
  obtain⟨⟨old,he⟩,hi⟩:=st
  rcases List.mem_cons.mp hb with rfl | hb
  . exact⟨_,he,λ v z=>nomatch z⟩
  . rw[List.mem_singleton.mp hb]
    obtain⟨o,vs,h1,h2⟩:=q.itObj hi
    exact⟨o,h1,λ v z=>by rw[h2]at z;cases z⟩
 keep:=λ i h h' st k=>⟨let ⟨old,he⟩:=st.1;⟨old,k e (by simp) _ he⟩,q.itAt st.2 λ o e=>k it (by simp) o e⟩
 item :=by
  intro X hP hw hK hc i pins s σ H E I hf st hg
  obtain⟨xs,x,hq,hx⟩:=hg
  obtain⟨its,rv,ob⟩:=q.get hP hw hK I hq
  obtain⟨u,hu,ru⟩:=rv.get hx
  obtain⟨⟨old,he⟩,hi⟩:=st
  have ne:=q.ne hi ob
  have hea:e≠a:=λ z=>by
   obtain⟨o,n,h1,h2⟩:=q.obObj ob
   rw[←z,he]at h1
   cases h1
   cases h2
  have hlt:i<its.toArray.size:=by simpa using(z0.mp hu).1
  have uq:∀ys,q.Sq H a ys->ys[i]? =some x:=λ ys hy=>by rw[q.inj hP hw hK I hy hq];exact hx
  subst hP hw
  refine wpAny_pyNext_enum_itemD (q.draws X.A.in1 (I.ok.hd hc) it a ne its.toArray) he ⟨hi,ob⟩ hlt hne (by simp[hne,hea]) λ x' h' tk hPx ho hs' hT hsz hk=>?_
  have ex:x'=u:=by
   have:its.toArray[i]? =some u:=by simpa using hu
   rw[this]at hPx
   exact(Option.some.inj hPx).symm
  subst ex
  refine⟨_,rfl,wpAny_letOwnedTupleGo_enum ho λ h2 he2 sb=>?_⟩
  have I1:Inv X pins σ H {s with heap:=h2,toks:=tk+1}:=sX (ch:=[e,it]) I hf λ b o hb q'=>(sb.2 b (λ z=>hb (by simp[z]))).trans (hk b o (λ z=>hb (by simp[z])) (λ z=>hb (by simp[z])) q')
  have hp:H s.heap.objs.size=none:=I.hok.fresh (y9 _)
  have elt:e<s.heap.objs.size:=Heap.lt_size he
  have hT2:h2.get? s.heap.objs.size=some {cls:=.type "tuple",data:=.seq #[.int i tk,x']}:=(sb.2 _ (Nat.ne_of_gt elt)).trans hT
  have I2:Inv X pins σ (upd H s.heap.objs.size (.tup [.int i,x])) {s with heap:=h2,toks:=tk+1}:=yD I I1 (y9 _) ⟨by show 2≤sizeLine;decide,[.int i tk,x'],.cons ⟨tk,rfl⟩ (.cons ru .nil),_,hT2,rfl,_,rfl⟩
  refine⟨.ref s.heap.objs.size,_,I2,rfl,⟨_,x,hp,rfl,rfl,uq⟩,⟨⟨_,by simpa using he2⟩,q.itAt hs'.1 λ o q'=>(sb.2 it hne.symm).trans q'⟩,λ b hb=>?_⟩
  rw[aq (w9 ?_)]
  . exact(hf b hb).1
  . rcases List.mem_cons.mp hb with rfl | hb
    . exact elt
    . rw[List.mem_singleton.mp hb]
      obtain⟨o,vs,h1,_⟩:=q.itObj hi
      exact Heap.lt_size h1
 done:=by
  intro X hP hw hK hc i pins s σ H E I hf st hg
  obtain⟨xs,hq,hx⟩:=hg
  obtain⟨its,rv,ob⟩:=q.get hP hw hK I hq
  obtain⟨⟨old,he⟩,hi⟩:=st
  have ne:=q.ne hi ob
  subst hP hw
  obtain⟨f0,f1,f2,f3,f4,f5⟩:=hf it (by simp)
  have hn:i=its.toArray.size:=by rw[hx,rv.length];simp
  have st':q.It s.heap it a its.toArray.size/\q.Ob s.heap a its.toArray:=⟨hn▸hi,ob⟩
  exact wpAny_pyNext_enum_endD (q.draws X.A.in1 (I.ok.hd hc) it a ne its.toArray) he st' λ h' ext=>⟨rfl,I.turned (t':=s.toks) (λ b o hb e=>ext b o hb e) f0 f1 f3 f4 f5⟩
 self:=λ _ _ _ _ _ st h=>let ⟨old,he⟩:=st.1;wpAny_pyIter_enum he h
theorem oE(q:SqKind P w K){O:Own}{H:Hp}{a:Addr}{ds:List D}(h:∀O' H',Conv O O' H H'->∃xs,q.Sq H' a xs/\Reps K O' H' xs ds):gB K (Ite q a) O H (ds.mapIdx λ i d=>.tup [.int i,d]):=by
 intro O' H' cv tr i
 obtain⟨xs,hq,r⟩:=h O' H' cv
 refine⟨λ d hd=>?_,λ hi=>⟨xs,hq,by rw[hi,r.length];simp⟩⟩
 rw[List.getElem?_mapIdx]at hd
 cases e:ds[i]? with
 | none=>rw[e]at hd;cases hd
 | some d0=>
   rw[e]at hd
   cases hd
   obtain⟨v,hv,rv⟩:=r.get e
   refine⟨⟨xs,v,hq,hv⟩,λ x H'' y=>?_⟩
   obtain⟨p,y,hp,rfl,rfl,hy⟩:=y
   have ey:=hy xs hq
   rw[hv]at ey
   cases ey
   have np:¬O'.has p:=λ z=>tr p z hp
   exact⟨dG.fresh hp _,.tup ⟨np,aO⟩ (.cons (.int _) (.cons (rv.mono (Step.fresh hp _)) .nil))⟩
section
variable {X : Cx} {Γ : Gam} {S : Store} {e : Expr} {pos : Pos}
theorem Dl{σ:St}{elts:List Expr}{k:Nat}{tp:Pos}{R:It->Hp->Prop}{E:Value->Shared->Prop}{h':Heap}(q:SqKind X.prog X.w X.K){a:Addr}(I:Inv X pins σ H s)(he:IsEnum h' (s.heap.objs.size+1) s.heap.objs.size 0 .none)(hi:q.It h' s.heap.objs.size a 0)
 (kp:∀b o,s.heap.get? b=some o->h'.get? b=some o)(r:R (Ite q a) H):wpAny (model X.prog X.w) X.A (pyIter (.ref (s.heap.objs.size+1))) (PIE X pins σ (.Tuple elts k tp) R) E {s with heap:=h'}:=by
 refine wpAny_pyIter_enum he ?_
 refine⟨s.heap.objs.size+1,[s.heap.objs.size+1,s.heap.objs.size],_,_,H,rfl,I.kept (t':=s.toks) kp,Ih q a (s.heap.objs.size+1) s.heap.objs.size (Nat.succ_ne_self _),⟨⟨_,he⟩,hi⟩,λ b hb=>?_,r⟩
 rcases List.mem_cons.mp hb with rfl | hb
 . exact I.fpOk (Nat.le_succ _) (I.hok.fresh (Nat.le_succ _))
 . rw[List.mem_singleton.mp hb]
   exact I.fpOk (y9 _) (I.hok.fresh (y9 _))
theorem HX(l:Addr)(items:Array Value)(n:Nat)(dct:Option Addr)(sl:Array (Option Value)):
 Meets (Builtin.«enumerate.__new__» ⟨[.type "enumerate",.ref l],[]⟩) (λ _ R s=>s.heap.get? l=some {cls:=.type "tuple",dict:=dct,data:=.seq items n,slots:=sl}/\
  R (.ok (.ret (.ref (s.heap.push {cls:=.type "tuple_iterator",data:=.fields #[.ref l,.int 0 0]}).objs.size)))
    {s with heap:=(s.heap.push {cls:=.type "tuple_iterator",data:=.fields #[.ref l,.int 0 0]}).push {cls:=.type "enumerate",data:=.fields #[.none,.bool false,.ref s.heap.objs.size,rawInt 0,.none,.none]}}):=
 .of_wp λ prog w A R s h=>by
  obtain⟨hp,g,d,tk,os⟩:=s;obtain⟨hl,h⟩:=h
  have hsub:=sub_enumerate
  have hT:Heap.IsTuple (Shared.heap ⟨hp,g,d,tk,os⟩) l items:=⟨_,hl,rfl,n,rfl⟩
  wp_walk using AutoSeq1.wpAny_loadPart' hl
  refine wpAny_stack_any λ st=>wpAny_pure ?_
  split
  . rename_i c _ _ _ _ _
    cases (c==Value.type "enumerate")<;>(wp_walk using AutoSeq1.wpAny_loadPart' hl,wpAny_pyIter_tuple hT;exact⟨_,rfl,h⟩)
  . wp_walk using AutoSeq1.wpAny_loadPart' hl,wpAny_pyIter_tuple hT
    exact⟨_,rfl,h⟩
end
end
end DL
namespace DL
open PySem PySem.Spec L2
open PyProof.Rows
structure Zd(z TI TO i1 i2:Addr)(f1 f2:List Addr):Prop where
 a:TI≠z
 b:TO≠z
 c:TI≠TO
 d:TI≠i1
 e:TI≠i2
 f:TO≠i1
 g:TO≠i2
 h:i1≠z
 i:i2≠z
 j:z∉f1
 k:z∉f2
 l:TO∉f1
 m:TO∉f2
 n:i1∉f2
 o:i2∉f1
section
variable {prog : Program} {w : World} {A : Around} {E : Value -> Shared -> Prop} {s : Shared} {z TI TO i1 i2 : Addr} {f1 f2 : List Addr} {n1 n2 k : Nat} {P1 P2 : Nat -> Value -> Prop} {T1 T2 : Nat -> Heap -> Prop} {va vb : Value}
theorem RW{Q:Value->Shared->Prop}(D1:Draws prog w A i1 f1 n1 P1 T1)(D2:Draws prog w A i2 f2 n2 P2 T2)(Z:Zd z TI TO i1 i2 f1 f2)(hz:IsZip s.heap z TI TO .none)(hTI:IsPair s.heap TI (.ref i1) (.ref i2))(hTO:IsPair s.heap TO va vb)(t1:T1 k s.heap)(t2:T2 k s.heap)(k1:k<n1)(k2:k<n2)
 (hQ:∀x y h' tk,P1 k x->P2 k y->IsZip h' z TI TO (rawInt s.heap.objs.size)->IsPair h' TO x y->T1 (k+1) h'->T2 (k+1) h'->IsPair h' s.heap.objs.size x y->
  (∀c o,c≠z->c≠TO->c≠i1->c≠i2->s.heap.get? c=some o->h'.get? c=some o)->Q (.ref s.heap.objs.size) {s with heap:=h',toks:=tk}):
 wpAny (model prog w) A (Builtin.«zip.__next__» ⟨[.ref z],[]⟩) (λ fin s'=>∃v,fin=.done (.ret v)/\Q v s') E s:=by
 obtain⟨hp,g,d,tk0,os⟩:=s
 refine wpAny_bind (m:=field (.ref z) 2) (wpAny_field hz rfl (x:=.bool false) rfl (wpAny_bind (m:=field (.ref z) 3) (wpAny_field hz rfl (x:=.ref TI) rfl (wpAny_bind (wpAny_seqItems hTI rfl ?_)))))
 refine wpAny_bind (m:=Builtin.SmallTypes.ownedTupleIsFree (.ref z)) ?_
 unfold Builtin.SmallTypes.ownedTupleIsFree
 refine wpAny_bind (wpAny_field hz rfl (x:=.none) rfl (wpAny_pure ?_))
 simp only[if_true]
 refine wpAny_bind (wpAny_rule (wpAny_bind (wpAny_field hz rfl (x:=.ref TO) rfl (wpAny_bind (wpAny_setField_rec hz (by simp) λ h1 hz1 s1=>?_)))))
 replace hz1:IsZip h1 z TI TO .ellipsis:=hz1
 refine wpAny_bind ?_
 simp only[List.zipIdx_cons,List.zipIdx_nil,List.forIn_cons,List.forIn_nil]
 refine wpAny_bind (wpAny_bind (wpAny_onRaise (wpAny_bind (m:=Builtin.SmallTypes.nextOf (.ref i1)) ?_)))
 refine D1.item k _ _ _ k1 (D1.frame _ _ _ t1 λ b hb o e=>s1.extBut b o (λ q=>Z.j (q▸hb)) e) λ x h2 tk1 p1 t1' s2=>wpAny_pure ?_
 replace s2:Heap.SameBut i1 h1 h2:=s2
 have o2:IsPair h2 TO va vb:=s2.extBut _ _ Z.f (s1.extBut _ _ Z.b hTO)
 refine wpAny_bind (wpAny_seqItems o2 rfl (wpAny_bind (wpAny_updateSeq_pair o2 λ h3 o3 s3=>wpAny_bind (wpAny_letGo (wpAny_pure ?_)))))
 replace o3:IsPair h3 TO x vb:=o3
 refine wpAny_bind (wpAny_bind (wpAny_onRaise (wpAny_bind (m:=Builtin.SmallTypes.nextOf (.ref i2)) ?_)))
 have t2':T2 k h3:=D2.frame _ _ _ t2 λ b hb o e=>s3.extBut b o (λ q=>Z.m (q▸hb)) (s2.extBut b o (λ q=>Z.n (q▸hb)) (s1.extBut b o (λ q=>Z.k (q▸hb)) e))
 refine D2.item k _ _ _ k2 t2' λ y h4 tk2 p2 t2'' s4=>wpAny_pure ?_
 replace s4:Heap.SameBut i2 h3 h4:=s4
 have o4:IsPair h4 TO x vb:=s4.extBut _ _ Z.g o3
 refine wpAny_bind (wpAny_seqItems o4 rfl (wpAny_bind (wpAny_updateSeq_pair o4 λ h5 o5 s5=>wpAny_bind (wpAny_letGo (wpAny_pure (wpAny_pure ?_))))))
 replace o5:IsPair h5 TO x y:=o5
 refine wpAny_bind (wpAny_seqItems o5 rfl (wpAny_bind (wpAny_newTuple ?_)))
 have sz:h5.objs.size=hp.objs.size:=by rw[s5.1,s4.1,s3.1,s2.1,s1.1]
 have hz5:IsZip h5 z TI TO .ellipsis:=s5.extBut _ _ Z.b.symm (s4.extBut _ _ Z.i.symm (s3.extBut _ _ Z.b.symm (s2.extBut _ _ Z.h.symm hz1)))
 have k5:∀c o,c≠z->c≠TO->c≠i1->c≠i2->hp.get? c=some o->h5.get? c=some o:=λ c o c1 c2 c3 c4 q=>s5.extBut _ _ c2 (s4.extBut _ _ c4 (s3.extBut _ _ c2 (s2.extBut _ _ c3 (s1.extBut _ _ c1 q))))
 have zlt:z<h5.objs.size:=Heap.lt_size hz5
 refine wpAny_bind (m:=Builtin.SmallTypes.ownedTupleHandOut (.ref z) (.ref h5.objs.size)) ?_
 unfold Builtin.SmallTypes.ownedTupleHandOut
 have hz6:IsZip (h5.push {cls:=.type "tuple",data:=.seq #[x,y]}) z TI TO .ellipsis:=Heap.get?_push_of_some _ hz5
 refine wpAny_bind (wpAny_setField_rec hz6 (by simp) λ h7 hz7 s7=>?_)
 replace hz7:IsZip h7 z TI TO (rawInt h5.objs.size):=hz7
 refine wpAny_setField_rec hz7 (by simp) λ h8 hz8 s8=>?_
 replace hz8:IsZip h8 z TI TO (rawInt h5.objs.size):=hz8
 have up:∀c o,c≠z->h5.get? c=some o->h8.get? c=some o:=λ c o c1 q=>s8.extBut _ _ c1 (s7.extBut _ _ c1 (Heap.get?_push_of_some _ q))
 have p8:IsPair h8 h5.objs.size x y:=s8.extBut _ _ (Nat.ne_of_gt zlt) (s7.extBut _ _ (Nat.ne_of_gt zlt) (Heap.get?_push_size _ rfl))
 rw[sz]at hz8 p8
 refine wpAny_pure ⟨_,rfl,?_⟩
 show Q (.ref h5.objs.size) _
 rw[sz]
 have u1:T1 (k+1) h8:=D1.frame _ _ _ t1' λ b hb o q=>up b o (λ r=>Z.j (r▸hb)) (s5.extBut b o (λ r=>Z.l (r▸hb)) (s4.extBut b o (λ r=>Z.o (r▸hb)) (s3.extBut b o (λ r=>Z.l (r▸hb)) q)))
 have u2:T2 (k+1) h8:=D2.frame _ _ _ t2'' λ b hb o q=>up b o (λ r=>Z.k (r▸hb)) (s5.extBut b o (λ r=>Z.m (r▸hb)) q)
 exact hQ x y h8 tk2 p1 p2 hz8 (up _ _ Z.b o5) u1 u2 p8 λ c o c1 c2 c3 c4 q=>up c o c1 (k5 c o c1 c2 c3 c4 q)
theorem JX{Q:PySem.Fin->Shared->Prop}(D1:Draws prog w A i1 f1 n1 P1 T1)(D2:Draws prog w A i2 f2 n2 P2 T2)(Z:Zd z TI TO i1 i2 f1 f2)(hz:IsZip s.heap z TI TO .none)(hTI:IsPair s.heap TI (.ref i1) (.ref i2))(hTO:IsPair s.heap TO va vb)(t1:T1 k s.heap)(t2:T2 k s.heap)(hk:k=n1∨(k<n1/\k=n2))
 (hE:∀h' tk e,(∀c o,c≠z->c≠TO->c≠i1->c≠i2->s.heap.get? c=some o->h'.get? c=some o)->(∃o,h'.get? e=some o/\o.cls=.type "StopIteration")->E (.ref e) {s with heap:=h',toks:=tk}):
 wpAny (model prog w) A (Builtin.«zip.__next__» ⟨[.ref z],[]⟩) Q E s:=by
 obtain⟨hp,g,d,tk0,os⟩:=s
 refine wpAny_bind (m:=field (.ref z) 2) (wpAny_field hz rfl (x:=.bool false) rfl (wpAny_bind (m:=field (.ref z) 3) (wpAny_field hz rfl (x:=.ref TI) rfl (wpAny_bind (wpAny_seqItems hTI rfl ?_)))))
 refine wpAny_bind (m:=Builtin.SmallTypes.ownedTupleIsFree (.ref z)) ?_
 unfold Builtin.SmallTypes.ownedTupleIsFree
 refine wpAny_bind (wpAny_field hz rfl (x:=.none) rfl (wpAny_pure ?_))
 simp only[if_true]
 refine wpAny_bind (wpAny_rule (wpAny_bind (wpAny_field hz rfl (x:=.ref TO) rfl (wpAny_bind (wpAny_setField_rec hz (by simp) λ h1 hz1 s1=>?_)))))
 replace hz1:IsZip h1 z TI TO .ellipsis:=hz1
 refine wpAny_bind ?_
 simp only[List.zipIdx_cons,List.zipIdx_nil,List.forIn_cons,List.forIn_nil]
 refine wpAny_bind (wpAny_bind (wpAny_onRaise (wpAny_bind (m:=Builtin.SmallTypes.nextOf (.ref i1)) ?_)))
 have t1':T1 k h1:=D1.frame _ _ _ t1 λ b hb o e=>s1.extBut b o (λ q=>Z.j (q▸hb)) e
 rcases hk with rfl | ⟨k1,rfl⟩
 . refine D1.done _ _ _ t1' λ h2 e s2 hq_=>?_
   obtain⟨oe,he,ce⟩:=hq_
   replace s2:Heap.ExtBut i1 h1 h2:=s2
   have hz2:IsZip h2 z TI TO .ellipsis:=s2 _ _ Z.h.symm hz1
   have ez:e≠z:=λ q=>by subst q;rw[hz2]at he;cases he;simp at ce
   exact wpAny_setField_rec hz2 (by simp) λ h3 _ s3=>hE h3 _ e (λ c o c1 _ c3 _ q=>s3.extBut _ _ c1 (s2 _ _ c3 (s1.extBut _ _ c1 q))) ⟨oe,s3.extBut _ _ ez he,ce⟩
 . refine D1.item k _ _ _ k1 t1' λ x h2 tk1 p1 _ s2=>wpAny_pure ?_
   replace s2:Heap.SameBut i1 h1 h2:=s2
   have o2:IsPair h2 TO va vb:=s2.extBut _ _ Z.f (s1.extBut _ _ Z.b hTO)
   refine wpAny_bind (wpAny_seqItems o2 rfl (wpAny_bind (wpAny_updateSeq_pair o2 λ h3 o3 s3=>wpAny_bind (wpAny_letGo (wpAny_pure ?_)))))
   refine wpAny_bind (wpAny_bind (wpAny_onRaise (wpAny_bind (m:=Builtin.SmallTypes.nextOf (.ref i2)) ?_)))
   have t2':T2 k h3:=D2.frame _ _ _ t2 λ b hb o e=>s3.extBut b o (λ q=>Z.m (q▸hb)) (s2.extBut b o (λ q=>Z.n (q▸hb)) (s1.extBut b o (λ q=>Z.k (q▸hb)) e))
   refine D2.done _ _ _ t2' λ h4 e s4 hq_=>?_
   obtain⟨oe,he,ce⟩:=hq_
   replace s4:Heap.ExtBut i2 h3 h4:=s4
   have hz4:IsZip h4 z TI TO .ellipsis:=s4 _ _ Z.i.symm (s3.extBut _ _ Z.b.symm (s2.extBut _ _ Z.h.symm hz1))
   have ez:e≠z:=λ q=>by subst q;rw[hz4]at he;cases he;simp at ce
   exact wpAny_setField_rec hz4 (by simp) λ h5 _ s5=>hE h5 _ e (λ c o c1 c2 c3 c4 q=>s5.extBut _ _ c1 (s4 _ _ c4 (s3.extBut _ _ c2 (s2.extBut _ _ c3 (s1.extBut _ _ c1 q))))) ⟨oe,s5.extBut _ _ ez he,ce⟩
end
section
variable {P : Program} {w : World} {K : PySem.W.Frag}
noncomputable def Itz(q r:SqKind P w K)(a b:Addr):It:=
 ⟨λ i H=>∃xs ys x y,q.Sq H a xs/\r.Sq H b ys/\xs[i]? =some x/\ys[i]? =some y,
  λ i H v H'=>∃p x y,H p=none/\H'=upd H p (.tup [x,y])/\v=.ref p/\(∀xs,q.Sq H a xs->xs[i]? =some x)/\∀ys,r.Sq H b ys->ys[i]? =some y,
  λ i H=>∃xs ys,q.Sq H a xs/\r.Sq H b ys/\i=min xs.length ys.length⟩
structure Zr(z TI TO i1 i2:Addr):Prop where
 a:TI≠z
 b:TO≠z
 c:TI≠TO
 d:TI≠i1
 e:TI≠i2
 f:TO≠i1
 g:TO≠i2
 h:i1≠z
 i:i2≠z
 j:i1≠i2
theorem Zr.zd(q r:SqKind P w K){X:Cx}{pins:Pins}{σ:St}{H:Hp}{s:Shared}{z TI TO i1 i2 a b:Addr}{xs ys:List V}(Z:Zr z TI TO i1 i2)(hK:X.K=K)(I:Inv X pins σ H s)(hf:∀c∈[z,TI,TO,i1,i2],eO X pins H c)(hq:q.Sq H a xs)(hr:r.Sq H b ys):Zd z TI TO i1 i2 [i1,a] [i2,b]:=by
 have fa:∀c∈[z,TI,TO,i1,i2],c≠a:=λ c hc=>(q.far hK I hq (hf c hc)).symm
 have fb:∀c∈[z,TI,TO,i1,i2],c≠b:=λ c hc=>(r.far hK I hr (hf c hc)).symm
 refine⟨Z.a,Z.b,Z.c,Z.d,Z.e,Z.f,Z.g,Z.h,Z.i,?_,?_,?_,?_,?_,?_⟩
 . simp[Z.h.symm,fa z (by simp)]
 . simp[Z.i.symm,fb z (by simp)]
 . simp[Z.f,fa TO (by simp)]
 . simp[Z.g,fb TO (by simp)]
 . simp[Z.j,fb i1 (by simp)]
 . simp[Z.j.symm,fa i2 (by simp)]
theorem J5(q r:SqKind P w K){elts:List Expr}{k:Nat}{pos:Pos}(a b z TI TO i1 i2:Addr)(Z:Zr z TI TO i1 i2):Turn P w K (.Tuple elts k pos) (Itz q r a b) [z,TI,TO,i1,i2] z
 (λ i h=>IsZip h z TI TO .none/\IsPair h TI (.ref i1) (.ref i2)/\(∃va vb,IsPair h TO va vb)/\q.It h i1 a i/\r.It h i2 b i) where
 mem:=by simp
 obj:=λ i h st c hc=>by
  obtain⟨hz,hTI,⟨va,vb,hTO⟩,hi,hj⟩:=st
  obtain⟨o,vs,h1,h2⟩:=q.itObj hi
  obtain⟨o',vs',h1',h2'⟩:=r.itObj hj
  simp only[List.mem_cons,List.not_mem_nil,or_false]at hc
  rcases hc with rfl | rfl | rfl | rfl | rfl
  . exact⟨_,hz,λ v z=>nomatch z⟩
  . exact⟨_,hTI,λ v z=>nomatch z⟩
  . exact⟨_,hTO,λ v z=>nomatch z⟩
  . exact⟨o,h1,λ v z=>by rw[h2]at z;cases z⟩
  . exact⟨o',h1',λ v z=>by rw[h2']at z;cases z⟩
 keep:=λ i h h' st k=>by
  obtain⟨hz,hTI,⟨va,vb,hTO⟩,hi,hj⟩:=st
  exact⟨k z (by simp) _ hz,k TI (by simp) _ hTI,⟨va,vb,k TO (by simp) _ hTO⟩,q.itAt hi λ o e=>k i1 (by simp) o e,r.itAt hj λ o e=>k i2 (by simp) o e⟩
 item:=by
  intro X hP hw hK hc i pins s σ H E I hf st hg
  obtain⟨xs,ys,x,y,hq,hr,hx,hy⟩:=hg
  obtain⟨its,rv,ob⟩:=q.get hP hw hK I hq
  obtain⟨its2,rv2,ob2⟩:=r.get hP hw hK I hr
  obtain⟨u,hu,ru⟩:=rv.get hx
  obtain⟨u2,hu2,ru2⟩:=rv2.get hy
  obtain⟨hz,hTI,⟨va,vb,hTO⟩,hi,hj⟩:=st
  have ux:∀zs,q.Sq H a zs->zs[i]? =some x:=λ zs h=>by rw[q.inj hP hw hK I h hq];exact hx
  have uy:∀zs,r.Sq H b zs->zs[i]? =some y:=λ zs h=>by rw[r.inj hP hw hK I h hr];exact hy
  have Z2:=Z.zd q r hK I hf hq hr
  have l1:i<its.toArray.size:=by simpa using(z0.mp hu).1
  have l2:i<its2.toArray.size:=by simpa using(z0.mp hu2).1
  subst hP hw
  have hT:s.TypeIs (.ref z) "zip":=⟨_,hz,rfl⟩
  unfold pyNext
  refine wpAny_bind (wpAny_attempt (wpAny_callSpecial?_slot (name:=Str.ofString "__next__") hT F.slot_zip_next (wpAny_call_entry F.slot_zip_next hT F.entry_zip_next ?_ (F.args_zip_next_1 _))))
  refine RW (q.draws X.A.in1 (I.ok.hd hc) i1 a (q.ne hi ob) its.toArray) (r.draws X.A.in1 (I.ok.hd hc) i2 b (r.ne hj ob2) its2.toArray) Z2 hz hTI hTO ⟨hi,ob⟩ ⟨hj,ob2⟩ l1 l2 λ x' y' h' tk px py hz' hTO' t1 t2 hp' kp=>wpAny_pure ?_
  have ex:x'=u:=by
   have e1:its.toArray[i]? =some u:=by simpa using hu
   rw[e1]at px
   exact(Option.some.inj px).symm
  have ey:y'=u2:=by
   have e1:its2.toArray[i]? =some u2:=by simpa using hu2
   rw[e1]at py
   exact(Option.some.inj py).symm
  subst ex
  subst ey
  refine⟨_,rfl,wpAny_letOwnedTupleGo_zip hz' λ h2 hz2 sb=>?_⟩
  have I1:Inv X pins σ H {s with heap:=h2,toks:=tk}:=sX (ch:=[z,TI,TO,i1,i2]) I hf λ c o hb q'=>(sb.2 c (λ z=>hb (by simp[z]))).trans (kp c o (λ z=>hb (by simp[z])) (λ z=>hb (by simp[z])) (λ z=>hb (by simp[z])) (λ z=>hb (by simp[z])) q')
  have hp:H s.heap.objs.size=none:=I.hok.fresh (y9 _)
  have elt:z<s.heap.objs.size:=Heap.lt_size hz
  have hT2:h2.get? s.heap.objs.size=some {cls:=.type "tuple",data:=.seq #[x',y']}:=(sb.2 _ (Nat.ne_of_gt elt)).trans hp'
  have I2:Inv X pins σ (upd H s.heap.objs.size (.tup [x,y])) {s with heap:=h2,toks:=tk}:=yD I I1 (y9 _) ⟨by show 2≤sizeLine;decide,[x',y'],.cons ru (.cons ru2 .nil),_,hT2,rfl,_,rfl⟩
  have hTI':IsPair h2 TI (.ref i1) (.ref i2):=(sb.2 _ Z.a).trans (kp _ _ Z.a Z.c Z.d Z.e hTI)
  refine⟨.ref s.heap.objs.size,_,I2,rfl,⟨_,x,y,hp,rfl,rfl,ux,uy⟩,⟨hz2,hTI',⟨_,_,(sb.2 _ Z.b).trans hTO'⟩,q.itAt t1.1 λ o q'=>(sb.2 i1 Z.h).trans q',r.itAt t2.1 λ o q'=>(sb.2 i2 Z.i).trans q'⟩,λ c hb=>?_⟩
  rw[aq (w9 ?_)]
  . exact(hf c hb).1
  . obtain⟨o,vs,h1,_⟩:=q.itObj hi
    obtain⟨o',vs',h1',_⟩:=r.itObj hj
    simp only[List.mem_cons,List.not_mem_nil,or_false]at hb
    rcases hb with rfl | rfl | rfl | rfl | rfl
    . exact elt
    . exact Heap.lt_size hTI
    . exact Heap.lt_size hTO
    . exact Heap.lt_size h1
    . exact Heap.lt_size h1'
 done:=by
  intro X hP hw hK hc i pins s σ H E I hf st hg
  obtain⟨xs,ys,hq,hr,hn⟩:=hg
  obtain⟨its,rv,ob⟩:=q.get hP hw hK I hq
  obtain⟨its2,rv2,ob2⟩:=r.get hP hw hK I hr
  obtain⟨hz,hTI,⟨va,vb,hTO⟩,hi,hj⟩:=st
  have Z2:=Z.zd q r hK I hf hq hr
  subst hP hw
  have hT:s.TypeIs (.ref z) "zip":=⟨_,hz,rfl⟩
  have hk:i=its.toArray.size∨(i<its.toArray.size/\i=its2.toArray.size):=by
   have e1:=rv.length
   have e2:=rv2.length
   simp only[x4]
   omega
  unfold pyNext
  refine wpAny_bind (wpAny_attempt (wpAny_callSpecial?_slot (name:=Str.ofString "__next__") hT F.slot_zip_next (wpAny_call_entry F.slot_zip_next hT F.entry_zip_next ?_ (F.args_zip_next_1 _))))
  refine JX (q.draws X.A.in1 (I.ok.hd hc) i1 a (q.ne hi ob) its.toArray) (r.draws X.A.in1 (I.ok.hd hc) i2 b (r.ne hj ob2) its2.toArray) Z2 hz hTI hTO ⟨hi,ob⟩ ⟨hj,ob2⟩ hk λ h' tk e kp hq_=>?_
  obtain⟨o,he,ce⟩:=hq_
  refine wpAny_bind (wpAny_isInstance (T:="StopIteration") (b:=true) ⟨o,he,ce⟩ isSubtype_stop (wpAny_pure ⟨rfl,?_⟩))
  exact sX (ch:=[z,TI,TO,i1,i2]) I hf λ c o hb q'=>kp c o (λ z=>hb (by simp[z])) (λ z=>hb (by simp[z])) (λ z=>hb (by simp[z])) (λ z=>hb (by simp[z])) q'
 self:=λ _ _ _ _ _ st h=>wpAny_pyIter_zip st.1 h
theorem DY(q r:SqKind P w K){O:Own}{H:Hp}{a b:Addr}{ds es:List D}(h:∀O' H',Conv O O' H H'->∃xs ys,q.Sq H' a xs/\Reps K O' H' xs ds/\r.Sq H' b ys/\Reps K O' H' ys es):gB K (Itz q r a b) O H (List.zipWith (λ x y=>.tup [x,y]) ds es):=by
 intro O' H' cv tr i
 obtain⟨xs,ys,hq,r1,hr,r2⟩:=h O' H' cv
 refine⟨λ d hd=>?_,λ hi=>⟨xs,ys,hq,hr,by rw[hi,r1.length,r2.length,List.length_zipWith]⟩⟩
 rw[List.getElem?_zipWith]at hd
 cases e1:ds[i]? with
 | none=>rw[e1]at hd;cases hd
 | some d1=>
   cases e2:es[i]? with
   | none=>rw[e1,e2]at hd;cases hd
   | some d2=>
     rw[e1,e2]at hd
     cases hd
     obtain⟨v1,hv1,rv1⟩:=r1.get e1
     obtain⟨v2,hv2,rv2⟩:=r2.get e2
     refine⟨⟨xs,ys,v1,v2,hq,hr,hv1,hv2⟩,λ x H'' y=>?_⟩
     obtain⟨p,x',y',hp,rfl,rfl,hx,hy⟩:=y
     have ex:=hx xs hq
     have ey:=hy ys hr
     rw[hv1]at ex
     rw[hv2]at ey
     cases ex
     cases ey
     have np:¬O'.has p:=λ z=>tr p z hp
     exact⟨dG.fresh hp _,.tup ⟨np,aO⟩ (.cons (rv1.mono (Step.fresh hp _)) (.cons (rv2.mono (Step.fresh hp _)) .nil))⟩
noncomputable abbrev zh(h:Heap)(c1 c2:String)(l1 l2:Addr):Heap:=
 ((((h.push {cls:=.type c1,data:=.fields #[.ref l1,.int 0 0]}).push {cls:=.type c2,data:=.fields #[.ref l2,.int 0 0]}).push {cls:=.type "tuple",data:=.seq #[.ref h.objs.size,.ref (h.push {cls:=.type c1,data:=.fields #[.ref l1,.int 0 0]}).objs.size]}).push {cls:=.type "tuple",data:=.seq #[.none,.none]})
noncomputable abbrev zhz(h:Heap)(c1 c2:String)(l1 l2:Addr):Heap:=
 (zh h c1 c2 l1 l2).push {cls:=.type "zip",data:=.fields #[.none,.bool false,.bool false,.ref ((h.push {cls:=.type c1,data:=.fields #[.ref l1,.int 0 0]}).push {cls:=.type c2,data:=.fields #[.ref l2,.int 0 0]}).objs.size,
  .ref (((h.push {cls:=.type c1,data:=.fields #[.ref l1,.int 0 0]}).push {cls:=.type c2,data:=.fields #[.ref l2,.int 0 0]}).push {cls:=.type "tuple",data:=.seq #[.ref h.objs.size,.ref (h.push {cls:=.type c1,data:=.fields #[.ref l1,.int 0 0]}).objs.size]}).objs.size]}
theorem JK(l1 l2:Addr)(xs ys:Array Value):
 Meets (Builtin.«zip.__new__» ⟨[.type "zip",.ref l1,.ref l2],[]⟩) (λ _ R s=>s.heap.IsTuple l1 xs/\s.heap.IsTuple l2 ys/\
  R (.ok (.ret (.ref (zh s.heap "tuple_iterator" "tuple_iterator" l1 l2).objs.size))) {s with heap:=zhz s.heap "tuple_iterator" "tuple_iterator" l1 l2}):=
 .of_wp λ prog w A R s h=>by
  obtain⟨hp,g,d,tk,os⟩:=s;obtain⟨a1,a2,h⟩:=h
  have hsub:=sub_zip
  have b1:Heap.IsTuple (Shared.heap ⟨hp,g,d,tk,os⟩) l1 xs:=a1
  have b2:Heap.IsTuple (Shared.heap ⟨hp.push {cls:=.type "tuple_iterator",data:=.fields #[.ref l1,.int 0 0]},g,d,tk,os⟩) l2 ys:=Heap.IsTuple.push a2 _
  wp_walk using wpAny_pyIter_tuple b1,wpAny_pyIter_tuple b2
  exact⟨_,rfl,h⟩
end
section
variable {X : Cx} {Γ : Gam} {S : Store} {pos : Pos}
theorem zip_parts(h:Heap)(c1 c2:String)(l1 l2:Addr):(zh h c1 c2 l1 l2).objs.size=h.objs.size+4/\IsZip (zhz h c1 c2 l1 l2) (h.objs.size+4) (h.objs.size+2) (h.objs.size+3) .none/\IsPair (zhz h c1 c2 l1 l2) (h.objs.size+2) (.ref h.objs.size) (.ref (h.objs.size+1))/\IsPair (zhz h c1 c2 l1 l2) (h.objs.size+3) .none .none/\
 (zhz h c1 c2 l1 l2).get? h.objs.size=some {cls:=.type c1,data:=.fields #[.ref l1,.int 0 0]}/\(zhz h c1 c2 l1 l2).get? (h.objs.size+1)=some {cls:=.type c2,data:=.fields #[.ref l2,.int 0 0]}/\∀b o,h.get? b=some o->(zhz h c1 c2 l1 l2).get? b=some o:=by
 have z1:(h.push {cls:=.type c1,data:=.fields #[.ref l1,.int 0 0]}).objs.size=h.objs.size+1:=Heap.size_push ..
 have z2:((h.push {cls:=.type c1,data:=.fields #[.ref l1,.int 0 0]}).push {cls:=.type c2,data:=.fields #[.ref l2,.int 0 0]}).objs.size=h.objs.size+2:=by rw[Heap.size_push,z1]
 have z3:(((h.push {cls:=.type c1,data:=.fields #[.ref l1,.int 0 0]}).push {cls:=.type c2,data:=.fields #[.ref l2,.int 0 0]}).push {cls:=.type "tuple",data:=.seq #[.ref h.objs.size,.ref (h.push {cls:=.type c1,data:=.fields #[.ref l1,.int 0 0]}).objs.size]}).objs.size=h.objs.size+3:=by rw[Heap.size_push,z2]
 have z4:(zh h c1 c2 l1 l2).objs.size=h.objs.size+4:=by rw[Heap.size_push,z3]
 have g5:=Heap.get?_push_size (zh h c1 c2 l1 l2) (o:={cls:=.type "zip",data:=.fields #[.none,.bool false,.bool false,.ref ((h.push {cls:=.type c1,data:=.fields #[.ref l1,.int 0 0]}).push {cls:=.type c2,data:=.fields #[.ref l2,.int 0 0]}).objs.size,
  .ref (((h.push {cls:=.type c1,data:=.fields #[.ref l1,.int 0 0]}).push {cls:=.type c2,data:=.fields #[.ref l2,.int 0 0]}).push {cls:=.type "tuple",data:=.seq #[.ref h.objs.size,.ref (h.push {cls:=.type c1,data:=.fields #[.ref l1,.int 0 0]}).objs.size]}).objs.size]}) rfl
 have g4:(zhz h c1 c2 l1 l2).get? (((h.push {cls:=.type c1,data:=.fields #[.ref l1,.int 0 0]}).push {cls:=.type c2,data:=.fields #[.ref l2,.int 0 0]}).push {cls:=.type "tuple",data:=.seq #[.ref h.objs.size,.ref (h.push {cls:=.type c1,data:=.fields #[.ref l1,.int 0 0]}).objs.size]}).objs.size=some {cls:=.type "tuple",data:=.seq #[.none,.none]}:=Heap.get?_push_of_some _ (Heap.get?_push_size _ rfl)
 have g3:(zhz h c1 c2 l1 l2).get? ((h.push {cls:=.type c1,data:=.fields #[.ref l1,.int 0 0]}).push {cls:=.type c2,data:=.fields #[.ref l2,.int 0 0]}).objs.size=some {cls:=.type "tuple",data:=.seq #[.ref h.objs.size,.ref (h.push {cls:=.type c1,data:=.fields #[.ref l1,.int 0 0]}).objs.size]}:=Heap.get?_push_of_some _ (Heap.get?_push_of_some _ (Heap.get?_push_size _ rfl))
 have g2:(zhz h c1 c2 l1 l2).get? (h.push {cls:=.type c1,data:=.fields #[.ref l1,.int 0 0]}).objs.size=some {cls:=.type c2,data:=.fields #[.ref l2,.int 0 0]}:=Heap.get?_push_of_some _ (Heap.get?_push_of_some _ (Heap.get?_push_of_some _ (Heap.get?_push_size _ rfl)))
 have g1:(zhz h c1 c2 l1 l2).get? h.objs.size=some {cls:=.type c1,data:=.fields #[.ref l1,.int 0 0]}:=Heap.get?_push_of_some _ (Heap.get?_push_of_some _ (Heap.get?_push_of_some _ (Heap.get?_push_of_some _ (Heap.get?_push_size _ rfl))))
 rw[z2,z3,z4]at g5
 rw[z3]at g4
 rw[z1,z2]at g3
 rw[z1]at g2
 refine⟨z4,?_,g3,g4,g1,g2,λ b o e=>Heap.get?_push_of_some _ (Heap.get?_push_of_some _ (Heap.get?_push_of_some _ (Heap.get?_push_of_some _ (Heap.get?_push_of_some _ e))))⟩
 show(zhz h c1 c2 l1 l2).get? _=_
 unfold zhz
 rw[z2,z3]
 exact g5
theorem Qq{pins:Pins}{σ:St}{H:Hp}{s:Shared}{elts:List Expr}{k:Nat}{tp:Pos}{R:It->Hp->Prop}{E:Value->Shared->Prop}{c1 c2:String}{l1 l2:Addr}(q r:SqKind X.prog X.w X.K)(I:Inv X pins σ H s)
 (hi:q.It (zhz s.heap c1 c2 l1 l2) s.heap.objs.size l1 0)(hj:r.It (zhz s.heap c1 c2 l1 l2) (s.heap.objs.size+1) l2 0)(rr:R (Itz q r l1 l2) H):
 wpAny (model X.prog X.w) X.A (pyIter (.ref (s.heap.objs.size+4))) (PIE X pins σ (.Tuple elts k tp) R) E {s with heap:=zhz s.heap c1 c2 l1 l2}:=by
 obtain⟨_,p1,p2,p3,_,_,kp⟩:=zip_parts s.heap c1 c2 l1 l2
 refine wpAny_pyIter_zip p1 ?_
 refine⟨s.heap.objs.size+4,[s.heap.objs.size+4,s.heap.objs.size+2,s.heap.objs.size+3,s.heap.objs.size,s.heap.objs.size+1],_,_,H,rfl,I.kept (t':=s.toks) kp,J5 q r l1 l2 (s.heap.objs.size+4) (s.heap.objs.size+2) (s.heap.objs.size+3) s.heap.objs.size (s.heap.objs.size+1) ?_,⟨p1,p2,⟨_,_,p3⟩,hi,hj⟩,λ b hb=>?_,rr⟩
 . constructor<;>exact λ z=>by have z':(_:Nat)=_:=z;omega
 . have hb':s.heap.objs.size≤b:=by
    simp only[List.mem_cons,List.not_mem_nil,or_false]at hb
    rcases hb with rfl | rfl | rfl | rfl | rfl
    . exact Nat.le_add_right _ _
    . exact Nat.le_add_right _ _
    . exact Nat.le_add_right _ _
    . exact y9 _
    . exact Nat.le_add_right _ _
   exact I.fpOk hb' (I.hok.fresh hb')
theorem JT{e1 e2:Expr}{elts:List Expr}{k:Nat}{tp p:Pos}{W:List D->Store->Prop}(h:Ev X Γ S e1 λ d S1=>Ev X Γ S1 e2 λ d' S2=>∃ds es,d=.tup ds/\d'=.tup es/\W (List.zipWith (λ x y=>.tup [x,y]) ds es) S2)(hm:X.mg "zip"=none)(hg:Gl X "zip":=by rfl)
 (hs:starEach [e1,e2] X.env=(false,eval e1 X.env)::starEach [e2] X.env:=by rfl)(hs2:starEach [e2] X.env=[(false,eval e2 X.env)]:=by rfl):
 ItW X Γ S (.Tuple elts k tp) (.Call (.Name "zip" p) [e1,e2] [] pos) W:=by
 intro pins s σ H O I env st
 have hA:EvA X Γ S [e1,e2] λ dd S2=>∃ds es,dd=[.tup ds,.tup es]/\W (List.zipWith (λ x y=>.tup [x,y]) ds es) S2:=
  bA (h.mono λ d S1 h1=>bA (h1.mono λ d' S2 ⟨ds,es,a,b,w⟩=>dI ⟨ds,es,by rw[a,b],w⟩) hs2) hs
 refine Call_ (bL I hg hm boot_zip (PyProof.Rows.callWith_type1 (thn (hA pos pins s σ H O I env st) λ us s1 hq_=>?_) hs (by rw[hs2];rfl)))
 obtain⟨vs,H1,I1,r1,O1,dd,S1,⟨ds,es,ed,w⟩,st1,ok1,rep⟩:=hq_
 subst ed
 cases rep with
 | cons ra rb=>
   cases rb with
   | cons rb rc=>
     cases rc
     obtain⟨u,u2,rfl,ru,ru2⟩:=vals2 r1
     cases ra with
     | @tup a xs _ h1 q1=>
       cases rb with
       | @tup b ys _ h2 q2=>
         cases ru
         cases ru2
         obtain⟨its,rv,pl,hz⟩:=I1.tuple h1.sq
         obtain⟨its2,rv2,pl2,hz2⟩:=I1.tuple h2.sq
         obtain⟨z4,p1,p2,p3,p4,p5,kp⟩:=zip_parts s1.heap "tuple_iterator" "tuple_iterator" a b
         refine callType_new F.called_zip (by decide) (F.typeCall_zip_2 _ _) (F.newCall_zip_2 _ _) (λ obj=>F.args_object_init_3 obj _ _) F.entry_zip_new (JK a b its.toArray its2.toArray) ⟨pl,pl2,?_⟩
         show _/\_
         rw[z4]
         refine⟨⟨_,p1,rfl⟩,Qq (Ma X.prog X.w X.K) (Ma X.prog X.w X.K) I1 ⟨_,p4,rfl,rfl⟩ ⟨_,p5,rfl,rfl⟩ ⟨O1,_,S1,w,st1,ok1,DY _ _ λ O' H' cv=>⟨xs,ys,(h1.conv cv).sq,q1.conv cv,(h2.conv cv).sq,q2.conv cv⟩⟩⟩
end
end DL
namespace DL
open PySem PySem.Spec L2
open PyProof.Rows
section
variable {X : Cx} {Γ : Gam} {S : Store} {e : Expr}
theorem U8{W:Option Int->Store->Prop}(h:Ev X Γ S e λ d S1=>∃i,d=.int i/\W (some i) S1):PoD X Γ S (some e) W:=h
theorem UT{W:Option Int->Store->Prop}(h:W none S):PoD X Γ S none W:=h
theorem Ti{c:Expr}{W:Bool->Store->Prop}(h:Ts X Γ S c W):TsA X Γ S [c] W:=h
end
theorem aF{α:Type}{xs:List α}{i:Nat}{x:α}(h:xs[i]? =some x):xs.take (i+1)=xs.take i++[x]:=by rw[List.take_add_one,h];rfl
theorem yO(d:D)(ds:List D):cutD (d::ds) (some 1) none=ds:=by
 unfold cutD
 have h1:HT.sIx (d::ds).length 0 (some 1)=1:=by
  have:=HT.sIx_nat (d::ds).length 0 1
  simp only[List.length_cons]at this ⊢
  have h2:((1:Nat):Int)=1:=rfl
  rw[h2]at this
  rw[this];omega
 rw[h1,HT.sIx_none]
 simp
theorem Iu{ds:List D}{k:Int}(h:0≤k):cutD ds none (some k)=ds.take k.toNat:=by
 unfold cutD
 rw[HT.sIx_none]
 have e:HT.sIx ds.length ds.length (some k)=min k.toNat ds.length:=by
  have:=HT.sIx_nat ds.length ds.length k.toNat
  rwa[Int.toNat_of_nonneg h]at this
 rw[e,List.drop_zero,Nat.sub_zero]
 rcases Nat.le_total k.toNat ds.length with q | q
 . rw[Nat.min_eq_left q]
 . rw[Nat.min_eq_right q,List.take_of_length_le (y9 _),List.take_of_length_le q]
theorem v6{ds:List D}{k:Int}(h:0≤k):cutD ds (some k) none=ds.drop k.toNat:=by
 unfold cutD
 rw[HT.sIx_none]
 have e:HT.sIx ds.length 0 (some k)=min k.toNat ds.length:=by
  have:=HT.sIx_nat ds.length 0 k.toNat
  rwa[Int.toNat_of_nonneg h]at this
 rw[e]
 rcases Nat.le_total k.toNat ds.length with q | q
 . rw[Nat.min_eq_left q,List.take_of_length_le (by rw[List.length_drop];omega)]
 . rw[Nat.min_eq_right q,List.drop_eq_nil_of_le (y9 _),List.drop_eq_nil_of_le q];simp
theorem g8{α:Type}{ds:List α}{v:Int}(h0:0≤v)(h1:v<ds.length):∃x,atI ds v=some x/\ds[v.toNat]? =some x:=by
 have hk:v.toNat<ds.length:=by omega
 refine⟨ds[v.toNat],?_,y3 hk⟩
 have q:=aY (xs:=ds) (j:=v.toNat) (y3 hk)
 rwa[Int.toNat_of_nonneg h0]at q
theorem yU{α:Type}(x:α)(xs:List α):atI (x::xs) 0=some x:=aY (xs:=x::xs) (j:=0) rfl
theorem set_get{S:Store}{k:Nat}{l l':List D}(h:S[k]? =some l):(S.set k l')[k]? =some l':=List.getElem?_set_self (z0.mp h).1
end DL
namespace RF
open PySem PySem.Spec L2 DL
open PyProof.Rows
open Builtin
theorem oN:fillsNumberSlot (.type "tuple") "mul"=pure false:=
 PySem.fillsNumberSlot_seq (id:="tuple.__mul__") (r:=some (.builtin "tuple.__rmul__")) F.slot_tuple_mul.lookup (by decide+kernel) F.slot_tuple_rmul.lookup (by decide+kernel)
theorem wC:seqRepeat? (.type "tuple")=pure (some (.builtin "tuple.__mul__")):=by
 unfold seqRepeat?
 rw[PySem.seqSlot_of (T:="tuple") (name:="__mul__") (id:="tuple.__mul__") F.slot_tuple_mul.lookup (by decide+kernel),PySem.seqSlot_of (T:="tuple") (name:="__rmul__") (id:="tuple.__rmul__") F.slot_tuple_rmul.lookup (by decide+kernel)]
 rfl
theorem rE(a:Int)(t:Tok)(l:Addr)(items:Array Value)(n:Nat)(dct:Option Addr)(sl:Array (Option Value)):
 Meets (Builtin.«int.__rmul__» ⟨[.int a t,.ref l],[]⟩) (λ _ R s=>s.heap.get? l=some {cls:=.type "tuple",dict:=dct,data:=.seq items n,slots:=sl}/\R (.ok (.ret Value.notImplemented)) s):=
 .of_wp λ prog w A R s h=>by obtain⟨hp,g,d,tk,os⟩:=s;obtain⟨hl,h⟩:=h;wp_walk;exact⟨_,rfl,h⟩
theorem sV(l:Addr)(items:Array Value)(n:Nat)(dct:Option Addr)(sl:Array (Option Value))(x:Int)(u:Tok)(h1:¬(decide (x< -(2 ^ 63))||decide (x≥2 ^ 63))=true)(hc:(items.isEmpty||x==1)=true):
 Meets (Builtin.«tuple.__mul__» ⟨[.ref l,.int x u],[]⟩) (λ _ R s=>s.heap.get? l=some {cls:=.type "tuple",dict:=dct,data:=.seq items n,slots:=sl}/\R (.ok (.ret (.ref l))) s):=
 .of_wp λ prog w A R s h=>by
  obtain⟨hp,g,d,tk,os⟩:=s;obtain⟨hl,h⟩:=h
  unfold Builtin.«tuple.__mul__»
  wp_walk
  rw[if_neg h1]
  wp_walk using AutoSeq1.wpAny_loadPart' hl
  try rw[if_pos hc]
  wp_walk using AutoSeq1.wpAny_loadPart' hl
  exact⟨_,rfl,h⟩
theorem rR(l:Addr)(items:Array Value)(n:Nat)(dct:Option Addr)(sl:Array (Option Value))(x:Int)(u:Tok)(h1:¬(decide (x< -(2 ^ 63))||decide (x≥2 ^ 63))=true)(hc:¬(items.isEmpty||x==1)=true)(h2:(decide (x≤0)||items.isEmpty)=true):
 Meets (Builtin.«tuple.__mul__» ⟨[.ref l,.int x u],[]⟩) (λ _ R s=>s.heap.get? l=some {cls:=.type "tuple",dict:=dct,data:=.seq items n,slots:=sl}/\R (.ok (.ret (.ref s.heap.objs.size))) {s with heap:=s.heap.push {cls:=.type "tuple",data:=.seq #[]}}):=
 .of_wp λ prog w A R s h=>by
  obtain⟨hp,g,d,tk,os⟩:=s;obtain⟨hl,h⟩:=h
  unfold Builtin.«tuple.__mul__»
  wp_walk
  rw[if_neg h1]
  wp_walk using AutoSeq1.wpAny_loadPart' hl
  try rw[if_neg hc]
  wp_walk using AutoSeq1.wpAny_loadPart' hl
  try rw[if_pos h2]
  wp_walk using AutoSeq1.wpAny_loadPart' hl
  exact⟨_,rfl,h⟩
theorem rC(l:Addr)(items:Array Value)(n:Nat)(dct:Option Addr)(sl:Array (Option Value))(x:Int)(u:Tok)(h1:¬(decide (x< -(2 ^ 63))||decide (x≥2 ^ 63))=true)(hc:¬(items.isEmpty||x==1)=true)(h2:¬(decide (x≤0)||items.isEmpty)=true)
 (h3:¬((items.size:Int)*x>(2 ^ 63-1)/8))(h4:¬Builtin.Tuple.tupleTooMany ((items.size:Int)*x)=true)(h5:((List.replicate x.toNat items).foldl (· ++·) #[]).size≤sizeLine):
 Meets (Builtin.«tuple.__mul__» ⟨[.ref l,.int x u],[]⟩) (λ _ R s=>s.heap.get? l=some {cls:=.type "tuple",dict:=dct,data:=.seq items n,slots:=sl}/\R (.ok (.ret (.ref s.heap.objs.size))) {s with heap:=s.heap.push {cls:=.type "tuple",data:=.seq ((List.replicate x.toNat items).foldl (· ++·) #[])}}):=
 .of_wp λ prog w A R s h=>by
  obtain⟨hp,g,d,tk,os⟩:=s;obtain⟨hl,h⟩:=h
  unfold Builtin.«tuple.__mul__»
  wp_walk
  rw[if_neg h1]
  wp_walk using AutoSeq1.wpAny_loadPart' hl
  try rw[if_neg hc]
  wp_walk using AutoSeq1.wpAny_loadPart' hl
  try rw[if_neg h2]
  wp_walk using AutoSeq1.wpAny_loadPart' hl
  try rw[if_neg h3]
  wp_walk using AutoSeq1.wpAny_loadPart' hl
  try rw[if_neg h4]
  wp_walk using AutoSeq1.wpAny_loadPart' hl
  exact⟨_,rfl,h⟩
theorem Reps.rep{K:PySem.W.Frag}{O:Own}{H:Hp}{vs:List V}{ds:List D}(r:Reps K O H vs ds):∀k:Nat,Reps K O H (List.replicate k vs).flatten (List.replicate k ds).flatten
 | 0=>.nil
 | k+1=>by
   rw[List.replicate_succ,List.replicate_succ,List.flatten_cons,List.flatten_cons]
   exact r.append (Reps.rep r k)
theorem PP{X:Cx}{S:Store}{W:WD}{ds:List D}{k:Int}(hk: -(2 ^ 63)≤k/\k<2 ^ 63)(hz:ds.length*k.toNat≤1000000)(w:W (.tup (List.replicate k.toNat ds).flatten) S):du X .Mult (.tup ds) (.int k) S W:=by
 intro pins s σ H O v w' u u' I st r1 r2 r3 r4
 cases r1 with
 | @tup a xs _ h1 q1=>
   cases r2
   cases r3
   obtain⟨t,rfl⟩:=r4
   obtain⟨its,v1,p1,_⟩:=I.tuple h1.sq
   obtain⟨⟨cls,dd,data,sl⟩,ho,hc,n,hd⟩:=id p1
   simp only at hc hd
   subst hc hd
   have l1:its.length=ds.length:=by rw[←v1.length,q1.length]
   have c1:¬(decide (k< -(2 ^ 63))||decide (k≥2 ^ 63))=true:=by
    rw[decide_eq_false (by omega),decide_eq_false (by omega)];decide
   have new:∀m:Nat,m=k.toNat->EP X pins σ (QG X.K O H W) (.ref s.heap.objs.size) {s with heap:=s.heap.push {cls:=.type "tuple",data:=.seq (List.replicate m its).flatten.toArray}}:=by
    rintro m rfl
    refine⟨.ref s.heap.objs.size,upd H s.heap.objs.size (.tup (List.replicate k.toNat xs).flatten),I.laid (t':=s.toks) (λ b u e=>Heap.get?_push_of_some _ e) (y9 _) ?_,rfl,jd w st I.fresh (Reps.rep q1 _)⟩
    exact⟨by rw[len_rep,q1.length,Nat.mul_comm];exact small hz,_,v1.rep _,⟨_,Heap.get?_push_size _ rfl,rfl,_,rfl⟩⟩
   refine PySem.wpAny_binaryOp_repeat_ref (T:="tuple") (U:="int") (by decide) ⟨_,ho,rfl⟩ (λ s'=>typeIs_int s' k t) oN F.fills_int_mul F.slot_int_rmul wC F.slot_int_index.lookup
    (call_meets F.slot_int_rmul (typeIs_int s k t) F.entry_int_rmul (F.args_int_rmul_2 _ _) (rE k t a its.toArray n dd sl) ⟨ho,rfl,⟨_,ho,rfl⟩,?_⟩)
   by_cases b1:(its.toArray.isEmpty||k==1)=true
   . refine call_meets F.slot_tuple_mul ⟨_,ho,rfl⟩ F.entry_tuple_mul (F.args_tuple_mul_2 _ _) (sV a its.toArray n dd sl k t c1 b1) ⟨ho,.ref a,H,I,rfl,?_⟩
     have e:(List.replicate k.toNat ds).flatten=ds:=by
      rw[Bool.or_eq_true]at b1
      rcases b1 with z | z
      . have:its=[]:=by simpa using z
        have:ds=[]:=by rw[this]at l1;simpa using l1.symm
        subst this
        simp
      . have:k=1:=eq_of_beq z
        subst this
        simp
     rw[e]at w
     exact QG.here w st (.tup h1 q1)
   . by_cases b2:(decide (k≤0)||its.toArray.isEmpty)=true
     . refine call_meets F.slot_tuple_mul ⟨_,ho,rfl⟩ F.entry_tuple_mul (F.args_tuple_mul_2 _ _) (rR a its.toArray n dd sl k t c1 b1 b2) ⟨ho,?_⟩
       have h0:k.toNat=0:=by
        rw[Bool.or_eq_true]at b2
        rcases b2 with z | z
        . have:=of_decide_eq_true z;omega
        . exact absurd (by rw[z];rfl) b1
       have:=new 0 h0.symm
       exact this
     . have h0:0<k:=by
        cases z:decide (k≤0)with
        | true=>exact absurd (by rw[z];rfl) b2
        | false=>have:=of_decide_eq_false z;omega
       have ek:(its.toArray.size:Int)*k=((its.length*k.toNat:Nat):Int):=by
        rw[x4,Int.natCast_mul,Int.toNat_of_nonneg (by omega)]
       have fz:List.foldl (λ x1 x2=>x1++x2) #[] (List.replicate k.toNat its.toArray)=(List.replicate k.toNat its).flatten.toArray:=by
        have:=foldl_rep its k.toNat []
        rw[List.nil_append]at this
        exact this
       have big:its.length*k.toNat≤1000000:=by rw[l1];exact hz
       refine call_meets F.slot_tuple_mul ⟨_,ho,rfl⟩ F.entry_tuple_mul (F.args_tuple_mul_2 _ _) (rC a its.toArray n dd sl k t c1 b1 b2 (by rw[ek];omega) ?_ ?_) ⟨ho,?_⟩
       . rw[ek]
         have:(1000000:Nat)≤sizeLine:=by decide
         unfold Builtin.Tuple.tupleTooMany
         rw[decide_eq_true_eq]
         omega
       . rw[fz,x4,len_rep,Nat.mul_comm];exact small big
       . rw[fz]
         exact new _ rfl
end RF
namespace RF
open PySem PySem.Spec L2 DL
open PyProof.Rows
variable {W : WD}
structure Wd where
 P:Program
 w:World
 K:PySem.W.Frag
 mg:Str->Option Value
 base:Heap
noncomputable abbrev Nm:=List (Str×NameKind)
structure At(Ω:Wd)(X:Cx)(r:Nat)(top:Bool)(N:List Str)(nm:Nm):Prop where
 p:X.prog=Ω.P
 w:X.w=Ω.w
 k:X.K=Ω.K
 g:X.mg=Ω.mg
 b:X.base=Ω.base
 room:Room r X.A
 xe:X.xe=λ _ _=>False
 calm:X.calm=true
 n:X.N=N
 nd:N.Nodup
 kind:X.env.scope.kind=.function
 look:∀x k,nm.lookup x=some k->X.env.kindOf x=some k∨(k=.free/\X.env.kindOf x=some .cell)
 fn:∀x,nm.lookup x=some .cell->X.fn x=true
noncomputable def vis(nm:Nm)(x:Str):Bool:=match nm.lookup x with | some .local=>true | some .cell=>true | some .free=>true | _=>false
noncomputable def lcl(top:Bool)(nm:Nm)(x:Str):Bool:=match nm.lookup x with | some .local=>true | some .cell=>true | _=>false
noncomputable def glb(nm:Nm)(x:Str):Bool:=nm.lookup x==some .globalImplicit
noncomputable def okN(x:Str):Bool:=!(x==("__debug__":Str))&&(!(x==("__classdict__":Str))&& !(x==("__name__":Str)))
noncomputable def okE:Expr->Bool
 | .Starred .. =>false | .Set .. =>false | .Slice .. =>false | _=>true
noncomputable def noC:Expr->Bool
 | .ListComp .. =>false | .SetComp .. =>false | .DictComp .. =>false | _=>true
noncomputable def Lf:Expr->Bool
 | .UnaryOp .. =>false | .BoolOp .. =>false | .IfExp .. =>false | .Compare .. =>false | _=>true
theorem aa{a b:Bool}(h:(a&&b)=true):a=true/\b=true:=by cases a<;>cases b<;>first | exact⟨rfl,rfl⟩ | exact(y6 h).elim
theorem nt{a:Bool}(h:(!a)=true):a=false:=by cases a<;>first | rfl | exact(y6 h).elim
theorem gC{x:Str}(h:okN x=true):(x==("__debug__":Str))=false/\(x==("__classdict__":Str))=false/\x≠"__name__":=by
 obtain⟨h1,h2⟩:=aa h
 obtain⟨h2,h3⟩:=aa h2
 exact⟨nt h1,nt h2,λ e=>by rw[e]at h3;simp at h3⟩
section
variable {Ω : Wd} {X : Cx} {r : Nat} {top : Bool} {N : List Str} {nm : Nm} {x : Str}
theorem At.vis(A:At Ω X r top N nm)(h:RF.vis nm x=true):Vis X.env.scope x:=by
 unfold RF.vis at h
 cases e:nm.lookup x with
 | none=>rw[e]at h;cases h
 | some k=>
   rw[e]at h
   have q:=A.look x k e
   cases k with
   | «local»=>rcases q with q | ⟨q,_⟩;exact .inl q;exact nomatch q
   | cell=>rcases q with q | ⟨q,_⟩;exact .inr (.inl q);exact nomatch q
   | free=>rcases q with q | ⟨_,q⟩;exact .inr (.inr q);exact .inr (.inl q)
   | _=>exact(y6 h).elim
theorem At.lcl(A:At Ω X r top N nm)(h:RF.lcl top nm x=true):Loc X.env.scope x/\(X.fn x=true∨X.env.scope.names.lookup x=some .local):=by
 unfold RF.lcl at h
 cases e:nm.lookup x with
 | none=>rw[e]at h;cases h
 | some k=>
   rw[e]at h
   have q:=A.look x k e
   cases k with
   | «local»=>rcases q with q | ⟨q,_⟩;exact⟨.inl q,.inr q⟩;exact nomatch q
   | cell=>rcases q with q | ⟨q,_⟩;exact⟨.inr q,.inl (A.fn x e)⟩;exact nomatch q
   | _=>exact(y6 h).elim
theorem At.glb(A:At Ω X r top N nm)(h:RF.glb nm x=true):Gl X x:=by
 have e:nm.lookup x=some .globalImplicit:=eq_of_beq h
 rcases A.look x _ e with q | ⟨q,_⟩
 . exact q
 . exact nomatch q
end
theorem aB{e:Expr}(h:okE e=true)(es:List Expr)(env:Env):starEach (e::es) env=(false,eval e env)::starEach es env:=by
 cases e<;>first | rfl | exact(y6 h).elim
theorem pW:∀{es:List Expr}(_:es.all okE=true)(pos:Pos)(env:Env),(backTo pos (starEach es env)).any (·.1)=false
 | [],_,_,_=>rfl
 | e::es,h,pos,env=>by
   rw[List.all_cons]at h
   obtain⟨h1,h2⟩:=aa h
   rw[aB h1]
   show(false||(backTo pos (starEach es env)).any (·.1))=false
   rw[pW h2];rfl
theorem gF{op:CmpOp}{e:Expr}(h:okE e=true):behindInMarks op e=false:=by
 cases e<;>first | rfl | exact(y6 h).elim
theorem zc{e:Expr}(h:okE e=true):Dj e:=by
 intro _ _
 cases e<;>first | rfl | exact(y6 h).elim
theorem mV{e:Expr}(h:okE e=true)(env:Env):∀x,foldedSetIterable e env x=pure x:=by
 intro x
 cases e<;>first | rfl | exact(y6 h).elim
theorem jw{e:Expr}(h:noC e=true)(t:Option Expr)(l:Nat)(env:Env):swapsWith e t l env=pure false:=by
 cases e<;>first | rfl | exact(y6 h).elim
theorem G7{e:Expr}(h:Lf e=true)(env:Env):∀whole,isTrue e env whole=(do let v ←whole;standAt e.pos;holding [v] (truthy v)):=by
 intro w
 cases e<;>first | rfl | exact(y6 h).elim
section
variable {X : Cx} {Γ : Gam} {S : Store} {e : Expr} {es : List Expr}
theorem EvA.mono{W W':List D->Store->Prop}(h:EvA X Γ S es W)(k:∀ds S',W ds S'->W' ds S'):EvA X Γ S es W':=λ pos pins s σ H O I env st=>
 thn (h pos pins s σ H O I env st) λ _ _ ⟨v,H',I',r,O',d,S',w,q⟩=>⟨v,H',I',r,O',d,S',k d S' w,q⟩
theorem Ts.mono{W W':Bool->Store->Prop}(h:Ts X Γ S e W)(k:∀c S',W c S'->W' c S'):Ts X Γ S e W':=λ pins s σ H O I env st=>
 thn (h pins s σ H O I env st) λ _ _ ⟨H',I',O',S',w,q⟩=>⟨H',I',O',S',k _ S' w,q⟩
theorem BdW.mono{d:D}{W W':Gam->Store->Prop}(h:BdW X e d Γ S W)(k:∀G S',W G S'->W' G S'):BdW X e d Γ S W':=λ pins s σ H O v u I env st r ru=>
 thn (h pins s σ H O v u I env st r ru) λ _ _ ⟨σ',H',I',O',G,S',w,q⟩=>⟨σ',H',I',O',G,S',k G S' w,q⟩
theorem ItW.mono{tg:Expr}{W W':List D->Store->Prop}(h:ItW X Γ S tg e W)(k:∀ds S',W ds S'->W' ds S'):ItW X Γ S tg e W':=λ pins s σ H O I env st=>
 thn (h pins s σ H O I env st) λ _ _ q=>thn q λ _ _ ⟨it,fp,tn,J,H',e1,e2,e3,e4,e5,O',ds,S',w,z⟩=>⟨it,fp,tn,J,H',e1,e2,e3,e4,e5,O',ds,S',k ds S' w,z⟩
theorem Rp{pins:Pins}{O:Own}{H:Hp}{W W':DL.Fin}(h1:∀G S,W.nx G S->W'.nx G S)(h2:∀d S,W.rt d S->W'.rt d S)(h3:∀G S,W.bk G S->W'.bk G S)(h4:∀G S,W.ct G S->W'.ct G S){f:Flow}{s':Shared}(q:SP X pins (ends X.K O H W) f s'):SP X pins (ends X.K O H W') f s':=by
 cases f with
 | next=>obtain⟨σ,H',I,O',G,S',w,q⟩:=q;exact⟨σ,H',I,O',G,S',h1 _ _ w,q⟩
 | brk=>obtain⟨σ,H',I,O',G,S',w,q⟩:=q;exact⟨σ,H',I,O',G,S',h3 _ _ w,q⟩
 | cont=>obtain⟨σ,H',I,O',G,S',w,q⟩:=q;exact⟨σ,H',I,O',G,S',h4 _ _ w,q⟩
 | ret u=>obtain⟨v,σ,H',I,r,O',d,S',w,q⟩:=q;exact⟨v,σ,H',I,r,O',d,S',h2 _ _ w,q⟩
theorem Rn.mono{st:Stmt}{W W':DL.Fin}(h:Rn X Γ S st W)(h1:∀G S,W.nx G S->W'.nx G S)(h2:∀d S,W.rt d S->W'.rt d S)(h3:∀G S,W.bk G S->W'.bk G S)(h4:∀G S,W.ct G S->W'.ct G S):Rn X Γ S st W':=λ pins s σ H O I env ok=>
 thn (h pins s σ H O I env ok) λ _ _ q=>Rp h1 h2 h3 h4 q
theorem HF{a b c:Expr}{op op':CmpOp}{pos:Pos}{W:Bool->Store->Prop}(h:Ev X Γ S a λ x S1=>Ev X Γ S1 b λ y S2=>bw X op x y S2 (asB λ k S3=>(k=false->W false S3)/\(k=true->Ev X Γ S3 c λ t S4=>bw X op' y t S4 (asB W))))
 (hm:lastMarks [op,op'] [b,c]=false):Ts X Γ S (.Compare a [op,op'] [b,c] pos) W:=by
 intro pins s σ H O I env st
 refine isTrue_chain (rs:=[]) (thn (h pins s σ H O I env st) λ u s1 hq_=>?_) hm
 obtain⟨v,H1,I1,r1,O1,x,S1,hb,st1,ok1,rep1⟩:=hq_
 refine test_link (thn (hb pins s1 σ H1 O1 I1 (env.mono st1) ok1) λ u' s2 hq_=>?_)
 obtain⟨w,H2,I2,r2,O2,y,S2,hw,st2,ok2,rep2⟩:=hq_
 refine thn (hw pins s2 σ H2 O2 v w u u' I2 ok2 (rep1.mono st2) rep2 r1 r2) λ _ s3 hq_=>?_
 obtain⟨z,H3,I3,r3,O3,d3,S3,⟨k,hd,k1,k2⟩,st3,ok3,rep3⟩:=hq_
 subst hd
 cases rep3
 cases r3
 refine wpAny_truthy_bool ?_
 cases k with
 | false=>exact ite_ff ⟨H3,I3,O3,S3,k1 rfl,(st1.trans st2).trans st3,ok3⟩
 | true=>
   refine ite_tt (test_last (thn (k2 rfl pins s3 σ H3 O3 I3 (((env.mono st1).mono st2).mono st3) ok3) λ u4 s4 hq_=>?_))
   obtain⟨w4,H4,I4,r4,O4,t,S4,h4,st4,ok4,rep4⟩:=hq_
   refine thn (h4 pins s4 σ H4 O4 w w4 u' u4 I4 ok4 ((rep2.mono st3).mono st4) rep4 r2 r4) λ _ s5 hq_=>?_
   obtain⟨z5,H5,I5,r5,O5,d5,S5,⟨k,hd,w5⟩,st5,ok5,rep5⟩:=hq_
   subst hd
   cases rep5
   cases r5
   exact wpAny_truthy_bool ⟨H5,I5,O5,S5,w5,(((st1.trans st2).trans st3).trans st4).trans st5,ok5⟩
end
noncomputable def bII(x y:D)(k:Int->Int->Prop):Prop:=match x with
 | .int i=>(match y with
   | .int j=>k i j
   | _=>False)
 | _=>False
theorem dJ{x y:D}{k:Int->Int->Prop}(h:bII x y k):∃i j,x=.int i/\y=.int j/\k i j:=by
 cases x<;>first | exact h.elim | (cases y<;>first | exact h.elim | exact⟨_,_,rfl,rfl,h⟩)
noncomputable def bTu(x:D)(k:List D->Prop):Prop:=match x with
 | .tup a=>k a
 | _=>False
theorem tB{x:D}{k:List D->Prop}(h:bTu x k):∃a,x=.tup a/\k a:=by cases x<;>first | exact h.elim | exact⟨_,rfl,h⟩
noncomputable def bLs(x:D)(k:List D->Prop):Prop:=match x with
 | .lst a=>k a
 | _=>False
theorem Dc{x:D}{k:List D->Prop}(h:bLs x k):∃a,x=.lst a/\k a:=by cases x<;>first | exact h.elim | exact⟨_,rfl,h⟩
noncomputable def bIn(x:D)(k:Int->Prop):Prop:=match x with
 | .int a=>k a
 | _=>False
theorem Ph{x:D}{k:Int->Prop}(h:bIn x k):∃a,x=.int a/\k a:=by cases x<;>first | exact h.elim | exact⟨_,rfl,h⟩
noncomputable def Mj(x:D)(a b c:Prop):Prop:=match x with
 | .int _=>a
 | .tup _=>b
 | _=>c
theorem yH{x:D}{a b c:Prop}(h:Mj x a b c):a∨b∨c:=by cases x<;>first | exact .inl h | exact .inr (.inl h) | exact .inr (.inr h)
noncomputable def My(op:Operator)(x y:D)(S:Store)(W:WD):Prop:=match op with
 | .Add=>Mj x (bII x y λ i j=>W (.int (i+j)) S) (bTu x λ a=>bTu y λ b=>a.length+b.length≤1000000/\W (.tup (a++b)) S) (bLs x λ a=>bLs y λ b=>a.length+b.length≤1000000/\W (.lst (a++b)) S)
 | .Sub=>bII x y λ i j=>W (.int (i-j)) S
 | .Mult=>Mj x (bII x y λ i j=>CMul i j/\W (.int (i*j)) S) (bTu x λ a=>bIn y λ n=>(-(2 ^ 63)≤n/\n<2 ^ 63)/\a.length*n.toNat≤1000000/\W (.tup (List.replicate n.toNat a).flatten) S) False
 | .Mod=>bII x y λ i j=>0<j/\W (.int (i % j)) S
 | .FloorDiv=>bII x y λ i j=>(0<j/\j<1073741824)/\W (.int (i/j)) S
 | .Pow=>bII x y λ i j=>CPow i j/\W (.int (i ^ j.toNat)) S
 | _=>False
theorem Ml{X:Cx}{op:Operator}{x y:D}{S:Store}(h:My op x y S W):du X op x y S W:=by
 cases op<;>first | exact(show False from h).elim | skip
 . rcases yH h with h | h | h
   . obtain⟨i,j,rfl,rfl,h⟩:=dJ h;exact TF h
   . obtain⟨a,rfl,h1⟩:=tB h;obtain⟨b,rfl,h2⟩:=tB h1;exact RZ h2.1 h2.2
   . obtain⟨a,rfl,h1⟩:=Dc h;obtain⟨b,rfl,h2⟩:=Dc h1;exact QZ h2.1 h2.2
 . obtain⟨i,j,rfl,rfl,h⟩:=dJ h;exact Tz h
 . rcases yH h with h | h | h
   . obtain⟨i,j,rfl,rfl,h⟩:=dJ h;exact Su h.1 h.2
   . obtain⟨a,rfl,h1⟩:=tB h;obtain⟨b,rfl,h2⟩:=Ph h1;exact PP h2.1 h2.2.1 h2.2.2
   . exact h.elim
 all_goals obtain⟨i,j,rfl,rfl,h⟩:=dJ h
 all_goals first | exact TQ h.1 h.2 | exact Qu h.1 h.2 | exact Tq h.1 h.2
noncomputable def Lh(x y:D)(S:Store)(W:WD):Prop:=match x,y with
 | .tup ds,.int i=>∃d,atI ds i=some d/\W d S
 | .lst ds,.int i=>∃d,atI ds i=some d/\W d S
 | .loc k,.int i=>∃ds d,S[k]? =some ds/\atI ds i=some d/\W d S
 | _,_=>False
theorem Nh{X:Cx}{a b:Expr}{x y:D}{S:Store}(h:Lh x y S W):IxW X a b x y S W:=by
 unfold Lh at h
 split at h
 . obtain⟨d,h1,h2⟩:=h;exact SX h1 h2
 . obtain⟨d,h1,h2⟩:=h;exact TX h1 h2
 . obtain⟨ds,d,h1,h2,h3⟩:=h;exact Sh h1 h2 h3
 . exact h.elim
noncomputable def Kp(x:D)(l h:Option Int)(S:Store)(W:WD):Prop:=match x with
 | .tup ds=>W (.tup (cutD ds l h)) S
 | .lst ds=>W (.lst (cutD ds l h)) S
 | .loc k=>∃ds,S[k]? =some ds/\W (.lst (cutD ds l h)) S
 | _=>False
theorem Tj{X:Cx}{S:Store}{k:Nat}{ds:List D}{lo hi:Option Int}(hk:S[k]? =some ds)(w:W (.lst (cutD ds lo hi)) S):SlW X (.loc k) lo hi S W:=by
 intro pins s σ H O v u vl vu sl I st r1 r3 hs pl pu
 cases r1 with
 | @loc p _ h1=>
   obtain⟨xs,hx,q1⟩:=st.obj k p ds h1 hk
   exact CT pins s σ H _ u vl vu lo hi sl _ I r3 hs pl pu ⟨p,xs,rfl,SqL.of hx,λ p' hp=>dw w st hp (tu q1 lo hi)⟩
theorem Ny{X:Cx}{x:D}{l r:Option Int}{S:Store}(h:Kp x l r S W):SlW X x l r S W:=by
 unfold Kp at h
 split at h
 . exact Sg h
 . exact TJ h
 . obtain⟨ds,h1,h2⟩:=h;exact Tj h1 h2
 . exact h.elim
inductive Ty where
 | int | bool | tuple | list
 deriving DecidableEq
noncomputable def Ty.id:Ty->String
 | .int=>"int" | .bool=>"bool" | .tuple=>"tuple" | .list=>"list"
noncomputable def Ty.nm:Ty->Str
 | .int=>"int" | .bool=>"bool" | .tuple=>"tuple" | .list=>"list"
noncomputable def isD:Ty->D->Bool
 | .int,.int _=>true | .int,.bl _=>true | .bool,.bl _=>true | .tuple,.tup _=>true | .list,.lst _=>true | .list,.loc _=>true | _,_=>false
theorem QC(T:Ty)(x:D):isi (tyD x) T.id=isD T x:=by cases T<;>cases x<;>rfl
theorem Ty.isT(T:Ty):DL.isT T.id=true:=by cases T<;>rfl
theorem Ty.boot(T:Ty):bootBuiltins T.nm=some (.type T.id):=by cases T<;>decide+kernel
theorem Ty.ok(T:Ty):(T.nm==("__debug__":Str))=false/\T.nm≠"__name__":=by cases T<;>decide+kernel
end RF
namespace RF
open PySem PySem.Spec L2 DL
open PyProof.Rows
variable {ds : List D} {S : Store} {x y : D} {W : Bool -> Store -> Prop}
mutual
noncomputable def eqD:D->D->Bool
 | .non,.non=>true
 | .bl a,.bl b=>a==b
 | .int a,.int b=>a==b
 | .bl a,.int b=>(if a then 1 else 0)==b
 | .int a,.bl b=>a==(if b then 1 else 0)
 | .str a,.str b=>a==b
 | .tup a,.tup b=>cu a b
 | .lst a,.lst b=>cu a b
 | .dic,.dic=>true
 | _,_=>false
noncomputable def cu:List D->List D->Bool
 | [],[]=>true
 | a::as,b::bs=>eqD a b&&cu as bs
 | _,_=>false
end
mutual
noncomputable def okD:D->Bool
 | .tup ds=>bM ds
 | .lst ds=>bM ds
 | .loc _=>false
 | .dic=>false
 | .dlo _=>false
 | _=>true
noncomputable def bM:List D->Bool
 | []=>true
 | d::ds=>okD d&&bM ds
end
mutual
inductive Sn(K:PySem.W.Frag)(H:Hp):V->D->Prop
 | non:Sn K H .non .non
 | bl(b:Bool):Sn K H (.bl b) (.bl b)
 | int(i:Int):Sn K H (.int i) (.int i)
 | str(x:Str):Sn K H (.str x) (.str x)
 | tup{a:Addr}{xs:List V}{ds:List D}(h:SqT K H a xs)(r:Sns K H xs ds):Sn K H (.ref a) (.tup ds)
 | lst{a:Addr}{xs:List V}{ds:List D}(h:SqL K H a xs)(r:Sns K H xs ds):Sn K H (.ref a) (.lst ds)
inductive Sns(K:PySem.W.Frag)(H:Hp):List V->List D->Prop
 | nil:Sns K H [] []
 | cons{v:V}{d:D}{vs:List V}{ds:List D}(r:Sn K H v d)(t:Sns K H vs ds):Sns K H (v::vs) (d::ds)
end
section
variable {K : PySem.W.Frag} {H : Hp} {O : Own}
theorem Sns.length:∀{vs:List V}{ds:List D},Sns K H vs ds->vs.length=ds.length
 | _,_,.nil=>rfl
 | _,_,.cons _ t=>by simp[Sns.length t]
theorem Sns.get:∀{vs:List V}{ds:List D}{i:Nat}{d:D},Sns K H vs ds->ds[i]? =some d->∃v,vs[i]? =some v/\Sn K H v d
 | _,_,_,_,.nil,e=>by simp at e
 | _,_,0,_,.cons r _,e=>by simp at e;subst e;exact⟨_,rfl,r⟩
 | _,_,i+1,d,.cons _ t,e=>by
   obtain⟨v,h1,h2⟩:=Sns.get (i:=i) (d:=d) t (by simpa using e)
   exact⟨v,by simpa using h1,h2⟩
mutual
theorem vY:∀{v:V}{d:D},okD d=true->Rep K O H v d->Sn K H v d
 | _,_,_,.non=>.non
 | _,_,_,.bl b=>.bl b
 | _,_,_,.int i=>.int i
 | _,_,_,.str x=>.str x
 | _,_,h,.tup h1 r=>.tup h1.sq (jt (by simpa[okD]using h) r)
 | _,_,h,.lst h1 r=>.lst h1.sq (jt (by simpa[okD]using h) r)
 | _,_,h,.loc _=>by simp[okD]at h
 | _,_,h,.dic _ _=>by simp[okD]at h
 | _,_,h,.dlo _=>by simp[okD]at h
theorem jt:∀{vs:List V}{ds:List D},bM ds=true->Reps K O H vs ds->Sns K H vs ds
 | _,_,_,.nil=>.nil
 | _,_,h,.cons r t=>by
   simp only[bM,Bool.and_eq_true]at h
   exact .cons (vY h.1 r) (jt h.2 t)
end
end
section
variable {X : Cx} {pins : Pins} {s : Shared} {σ : DL.St} {H : Hp}
mutual
theorem mF(I:Inv X pins σ H s):∀{v:V}{x y:D},Sn X.K H v x->Sn X.K H v y->x=y
 | _,_,_,.non,b=>by cases b;rfl
 | _,_,_,.bl _,b=>by cases b;rfl
 | _,_,_,.int _,b=>by cases b;rfl
 | _,_,_,.str _,b=>by cases b;rfl
 | _,_,_,.tup h r,b=>by
   cases b with
   | tup h' r'=>
     have e:=I.tuple_inj h h'
     subst e
     rw[qU I r r']
   | lst h' r'=>
     exfalso
     obtain⟨its,_,⟨o,h2,h3,_⟩,_⟩:=I.tuple h
     obtain⟨its2,_,pl,_⟩:=I.list h'
     obtain⟨o',h2',h3',_⟩:=pl.isList
     rw[h2]at h2'
     cases h2'
     rw[h3]at h3'
     exact absurd h3' (by decide)
 | _,_,_,.lst h r,b=>by
   cases b with
   | lst h' r'=>
     have e:=I.list_inj h h'
     subst e
     rw[qU I r r']
   | tup h' r'=>
     exfalso
     obtain⟨its,_,⟨o,h2,h3,_⟩,_⟩:=I.tuple h'
     obtain⟨its2,_,pl,_⟩:=I.list h
     obtain⟨o',h2',h3',_⟩:=pl.isList
     rw[h2]at h2'
     cases h2'
     rw[h3]at h3'
     exact absurd h3' (by decide)
theorem qU(I:Inv X pins σ H s):∀{vs:List V}{xs ys:List D},Sns X.K H vs xs->Sns X.K H vs ys->xs=ys
 | _,_,_,.nil,b=>by cases b;rfl
 | _,_,_,.cons r t,b=>by
   cases b with
   | cons r' t'=>rw[mF I r r',qU I t t']
end
end
mutual
theorem pG:∀(x:D),ao x=true->eqD x x=true
 | .non,_=>by simp[eqD]
 | .bl _,_=>by simp[eqD]
 | .int _,_=>by simp[eqD]
 | .str _,_=>by simp[eqD]
 | .tup ds,h=>by simp only[eqD];exact mq ds (by simpa[ao]using h)
 | .lst ds,h=>by simp only[eqD];exact mq ds (by simpa[ao]using h)
 | .loc _,h=>by simp[ao]at h
 | .dic,_=>by simp[eqD]
theorem mq:∀(xs:List D),ak xs=true->cu xs xs=true
 | [],_=>by simp[cu]
 | d::ds,h=>by
   simp only[ak,Bool.and_eq_true]at h
   simp only[cu,Bool.and_eq_true]
   exact⟨pG d h.1,mq ds h.2⟩
end
mutual
theorem Lj:∀(x:D),okD x=true->ao x=true
 | .non,_=>by simp[ao]
 | .bl _,_=>by simp[ao]
 | .int _,_=>by simp[ao]
 | .str _,_=>by simp[ao]
 | .tup ds,h=>by simp only[ao];exact mK ds (by simpa[okD]using h)
 | .lst ds,h=>by simp only[ao];exact mK ds (by simpa[okD]using h)
 | .loc _,h=>by simp[okD]at h
 | .dic,h=>by simp[okD]at h
 | .dlo _,h=>by simp[okD]at h
theorem mK:∀(xs:List D),bM xs=true->ak xs=true
 | [],_=>by simp[ak]
 | d::ds,h=>by
   simp only[bM,Bool.and_eq_true]at h
   simp only[ak,Bool.and_eq_true]
   exact⟨Lj d h.1,mK ds h.2⟩
end
noncomputable abbrev eqJ(ds es:List D)(j:Nat):Bool:=eqD (ds.getD j .non) (es.getD j .non)
theorem KJ(d e:D)(ds es:List D):(eqJ (d::ds) (e::es)) ∘ Nat.succ=eqJ ds es:=by
 funext j;simp[eqJ,List.getD]
theorem j4:∀(ds es:List D),((List.range (min ds.length es.length)).all (eqJ ds es)&&ds.length==es.length)=cu ds es
 | [],[]=>by simp[cu]
 | [],e::es=>by simp[cu]
 | d::ds,[]=>by simp[cu]
 | d::ds,e::es=>by
   have ih:=j4 ds es
   have h1:min (d::ds).length (e::es).length=min ds.length es.length+1:=by simp only[List.length_cons];omega
   rw[h1,List.range_succ_eq_map,List.all_cons,List.all_map,KJ]
   have h2:((d::ds).length==(e::es).length)=(ds.length==es.length):=by simp
   have h3:eqJ (d::ds) (e::es) 0=eqD d e:=by simp[eqJ,List.getD]
   rw[h2,h3,Bool.and_assoc,ih]
   simp only[cu]
theorem Kq{es:List D}(h:ds.length=es.length):(List.range ds.length).all (eqJ ds es)=cu ds es:=by
 rw[←j4 ds es,←h,Nat.min_self,beq_self_eq_true,Bool.and_true]
theorem Nz{es:List D}(h:ds.length≠es.length):cu ds es=false:=by
 rw[←j4 ds es]
 have:(ds.length==es.length)=false:=by simpa using h
 rw[this,Bool.and_false]
section
variable {X : Cx}
theorem m6{n:Nat}(ih:∀(x y:D),deep x≤n->∀{pins:Pins}{s:Shared}{σ:DL.St}{H:Hp}{v w:V}{u u':Value}{A:Around},Inv X pins σ H s->Sn X.K H v x->Sn X.K H w y->RelV v u->RelV w u'->A.units+n<cLine->SeqAt.EqAt A s u u' (eqD x y))
 (x y:D)(hx:deep x≤n+1){pins:Pins}{s:Shared}{σ:DL.St}{H:Hp}{v w:V}{u u':Value}{A:Around}(I:Inv X pins σ H s)(r1:Sn X.K H v x)(r2:Sn X.K H w y)(ru:RelV v u)(ru':RelV w u')(hu:A.units+(n+1)<cLine):
 SeqAt.RcAt A s u u' (eqD x y)/\SeqAt.RcNeAt A s u u' (!eqD x y):=by
 have hu0:A.units<cLine:=by omega
 have part:∀{ds es:List D}{xs ys:List V}{its its2:List Value},aR ds≤n->Sns X.K H xs ds->Sns X.K H ys es->Vals xs its->Vals ys its2->∀j(h1:j<its.toArray.size)(h2:j<its2.toArray.size),SeqAt.EqAt A.in1 s its.toArray[j] its2.toArray[j] (eqJ ds es j):=by
  intro ds es xs ys its its2 hd q1 q2 v1 v2 j j1 j2
  have l1:its.length=ds.length:=by rw[←v1.length,q1.length]
  have l2:its2.length=es.length:=by rw[←v2.length,q2.length]
  have hj:j<ds.length:=by simpa[l1]using j1
  have hj2:j<es.length:=by simpa[l2]using j2
  obtain⟨z1,a1,b1⟩:=q1.get (y3 hj)
  obtain⟨z2,a2,b2⟩:=q2.get (y3 hj2)
  obtain⟨u1,c1,d1⟩:=v1.get a1
  obtain⟨u2,c2,d2⟩:=v2.get a2
  have e1:its.toArray[j]=u1:=by have:=(z0.mp c1).2;simpa using this
  have e2:its2.toArray[j]=u2:=by have:=(z0.mp c2).2;simpa using this
  rw[e1,e2]
  have e3:eqJ ds es j=eqD ds[j] es[j]:=by simp[eqJ,List.getD,hj,hj2]
  rw[e3]
  have hd':=cV (y3 hj)
  exact ih ds[j] es[j] (by omega) I b1 b2 d1 d2 (by show A.units+1+n<cLine;omega)
 cases r1 with
 | non=>
   cases ru
   cases r2 with
   | non=>cases ru';exact⟨SeqAt.RcAt.none_none,SeqAt.RcNeAt.none_none⟩
   | bl b=>cases ru';exact⟨SeqAt.RcAt.none_bool b,SeqAt.RcNeAt.none_bool b⟩
   | int i=>obtain⟨t',rfl⟩:=ru';exact⟨SeqAt.RcAt.none_int i t',SeqAt.RcNeAt.none_int i t'⟩
   | str i=>obtain⟨t',rfl⟩:=ru';exact⟨SeqAt.RcAt.none_str i t',SeqAt.RcNeAt.none_str i t'⟩
   | tup h2 q2=>
     cases ru';obtain⟨its2,v2,p2,_⟩:=I.tuple h2
     exact⟨SeqAt.RcAt.none_tuple (show s.heap.IsTuple _ its2.toArray from p2) hu0,SeqAt.RcNeAt.none_tuple (show s.heap.IsTuple _ its2.toArray from p2) hu0⟩
   | lst h2 q2=>
     cases ru';obtain⟨its2,v2,p2,_⟩:=I.list h2
     exact⟨SeqAt.RcAt.none_list p2.isList hu0,SeqAt.RcNeAt.none_list p2.isList hu0⟩
 | bl a=>
   cases ru
   cases r2 with
   | non=>cases ru';exact⟨SeqAt.RcAt.bool_none a,SeqAt.RcNeAt.bool_none a⟩
   | bl b=>cases ru';exact⟨SeqAt.RcAt.bool_bool a b,SeqAt.RcNeAt.bool_bool a b⟩
   | int i=>obtain⟨t',rfl⟩:=ru';exact⟨SeqAt.RcAt.bool_int a i t',SeqAt.RcNeAt.bool_int a i t'⟩
   | str i=>obtain⟨t',rfl⟩:=ru';exact⟨SeqAt.RcAt.bool_str a i t',SeqAt.RcNeAt.bool_str a i t'⟩
   | tup h2 q2=>
     cases ru';obtain⟨its2,v2,p2,_⟩:=I.tuple h2
     exact⟨SeqAt.RcAt.bool_tuple a (show s.heap.IsTuple _ its2.toArray from p2) hu0,SeqAt.RcNeAt.bool_tuple a (show s.heap.IsTuple _ its2.toArray from p2) hu0⟩
   | lst h2 q2=>
     cases ru';obtain⟨its2,v2,p2,_⟩:=I.list h2
     exact⟨SeqAt.RcAt.bool_list a p2.isList hu0,SeqAt.RcNeAt.bool_list a p2.isList hu0⟩
 | int a=>
   obtain⟨t,rfl⟩:=ru
   cases r2 with
   | non=>cases ru';exact⟨SeqAt.RcAt.int_none a t,SeqAt.RcNeAt.int_none a t⟩
   | bl b=>cases ru';exact⟨SeqAt.RcAt.int_bool a t b,SeqAt.RcNeAt.int_bool a t b⟩
   | int i=>obtain⟨t',rfl⟩:=ru';exact⟨SeqAt.RcAt.int_int a t i t',SeqAt.RcNeAt.int_int a t i t'⟩
   | str i=>obtain⟨t',rfl⟩:=ru';exact⟨SeqAt.RcAt.int_str a t i t',SeqAt.RcNeAt.int_str a t i t'⟩
   | tup h2 q2=>
     cases ru';obtain⟨its2,v2,p2,_⟩:=I.tuple h2
     exact⟨SeqAt.RcAt.int_tuple a t (show s.heap.IsTuple _ its2.toArray from p2) hu0,SeqAt.RcNeAt.int_tuple a t (show s.heap.IsTuple _ its2.toArray from p2) hu0⟩
   | lst h2 q2=>
     cases ru';obtain⟨its2,v2,p2,_⟩:=I.list h2
     exact⟨SeqAt.RcAt.int_list a t p2.isList hu0,SeqAt.RcNeAt.int_list a t p2.isList hu0⟩
 | str a=>
   obtain⟨t,rfl⟩:=ru
   cases r2 with
   | non=>cases ru';exact⟨SeqAt.RcAt.str_none a t,SeqAt.RcNeAt.str_none a t⟩
   | bl b=>cases ru';exact⟨SeqAt.RcAt.str_bool a t b,SeqAt.RcNeAt.str_bool a t b⟩
   | int i=>obtain⟨t',rfl⟩:=ru';exact⟨SeqAt.RcAt.str_int a t i t',SeqAt.RcNeAt.str_int a t i t'⟩
   | str i=>obtain⟨t',rfl⟩:=ru';exact⟨SeqAt.RcAt.str_str a t i t',SeqAt.RcNeAt.str_str a t i t'⟩
   | tup h2 q2=>
     cases ru';obtain⟨its2,v2,p2,_⟩:=I.tuple h2
     exact⟨SeqAt.RcAt.str_tuple a t (show s.heap.IsTuple _ its2.toArray from p2) hu0,SeqAt.RcNeAt.str_tuple a t (show s.heap.IsTuple _ its2.toArray from p2) hu0⟩
   | lst h2 q2=>
     cases ru';obtain⟨its2,v2,p2,_⟩:=I.list h2
     exact⟨SeqAt.RcAt.str_list a t p2.isList hu0,SeqAt.RcNeAt.str_list a t p2.isList hu0⟩
 | @tup a xs ds h1 q1=>
   cases ru
   obtain⟨its,v1,p1,_⟩:=I.tuple h1
   have p1:s.heap.IsTuple a its.toArray:=p1
   cases r2 with
   | non=>cases ru';exact⟨SeqAt.RcAt.tuple_none p1 hu0,SeqAt.RcNeAt.tuple_none p1 hu0⟩
   | bl b=>cases ru';exact⟨SeqAt.RcAt.tuple_bool b p1 hu0,SeqAt.RcNeAt.tuple_bool b p1 hu0⟩
   | int i=>obtain⟨t',rfl⟩:=ru';exact⟨SeqAt.RcAt.tuple_int i t' p1 hu0,SeqAt.RcNeAt.tuple_int i t' p1 hu0⟩
   | str i=>obtain⟨t',rfl⟩:=ru';exact⟨SeqAt.RcAt.tuple_str i t' p1 hu0,SeqAt.RcNeAt.tuple_str i t' p1 hu0⟩
   | @tup b ys es h2 q2=>
     cases ru'
     obtain⟨its2,v2,p2,_⟩:=I.tuple h2
     have p2:s.heap.IsTuple b its2.toArray:=p2
     have l1:its.toArray.size=ds.length:=by rw[x4,←v1.length,q1.length]
     have l2:its2.toArray.size=es.length:=by rw[x4,←v2.length,q2.length]
     have hd:aR ds≤n:=by simp[deep]at hx;exact hx
     have a1:=SeqAt.RcAt.tuples (e:=eqJ ds es) p1 p2 hu0 (part hd q1 q2 v1 v2)
     have a2:=SeqAt.RcNeAt.tuples (e:=eqJ ds es) p1 p2 hu0 (part hd q1 q2 v1 v2)
     rw[l1,l2,j4]at a1 a2
     simp only[eqD]
     exact⟨a1,a2⟩
   | lst h2 q2=>
     cases ru';obtain⟨its2,v2,p2,_⟩:=I.list h2
     exact⟨SeqAt.RcAt.tuple_list p1 p2.isList hu0,SeqAt.RcNeAt.tuple_list p1 p2.isList hu0⟩
 | @lst a xs ds h1 q1=>
   cases ru
   obtain⟨its,v1,p1,_⟩:=I.list h1
   have p1:=p1.isList
   cases r2 with
   | non=>cases ru';exact⟨SeqAt.RcAt.list_none p1 hu0,SeqAt.RcNeAt.list_none p1 hu0⟩
   | bl b=>cases ru';exact⟨SeqAt.RcAt.list_bool b p1 hu0,SeqAt.RcNeAt.list_bool b p1 hu0⟩
   | int i=>obtain⟨t',rfl⟩:=ru';exact⟨SeqAt.RcAt.list_int i t' p1 hu0,SeqAt.RcNeAt.list_int i t' p1 hu0⟩
   | str i=>obtain⟨t',rfl⟩:=ru';exact⟨SeqAt.RcAt.list_str i t' p1 hu0,SeqAt.RcNeAt.list_str i t' p1 hu0⟩
   | tup h2 q2=>
     cases ru';obtain⟨its2,v2,p2,_⟩:=I.tuple h2
     exact⟨SeqAt.RcAt.list_tuple p1 (show s.heap.IsTuple _ its2.toArray from p2) hu0,SeqAt.RcNeAt.list_tuple p1 (show s.heap.IsTuple _ its2.toArray from p2) hu0⟩
   | @lst b ys es h2 q2=>
     cases ru'
     obtain⟨its2,v2,p2,_⟩:=I.list h2
     have p2:=p2.isList
     have l1:its.toArray.size=ds.length:=by rw[x4,←v1.length,q1.length]
     have l2:its2.toArray.size=es.length:=by rw[x4,←v2.length,q2.length]
     have hd:aR ds≤n:=by simp[deep]at hx;exact hx
     simp only[eqD]
     by_cases hl:ds.length=es.length
     . have a1:=SeqAt.RcAt.lists (e:=eqJ ds es) p1 p2 (by rw[l1,l2,hl]) hu0 (part hd q1 q2 v1 v2)
       have a2:=SeqAt.RcNeAt.lists (e:=eqJ ds es) p1 p2 (by rw[l1,l2,hl]) hu0 (part hd q1 q2 v1 v2)
       rw[l1,Kq hl]at a1 a2
       exact⟨a1,a2⟩
     . have z:(its.toArray.size !=its2.toArray.size)=true:=by rw[l1,l2];simpa using hl
       rw[Nz hl]
       exact⟨SeqAt.RcAt.lists_lengths p1 p2 z hu0,SeqAt.RcNeAt.lists_lengths p1 p2 z hu0⟩
theorem vZ:∀{K:PySem.W.Frag}{H:Hp}{v:V}{x:D},Sn K H v x->ao x=true:=by
 intro K H v x h
 refine Sn.rec (motive_1:=λ v x _=>ao x=true) (motive_2:=λ vs xs _=>ak xs=true) ?_ ?_ ?_ ?_ ?_ ?_ ?_ ?_ h
 . simp[ao]
 . intro b;simp[ao]
 . intro b;simp[ao]
 . intro b;simp[ao]
 . intro a xs ds h r ih;simpa[ao]using ih
 . intro a xs ds h r ih;simpa[ao]using ih
 . simp[ak]
 . intro v d vs ds r t ih1 ih2;simp[ak,ih1,ih2]
theorem wg (n:Nat):∀(x y:D),deep x≤n->∀{pins:Pins}{s:Shared}{σ:DL.St}{H:Hp}{v w:V}{u u':Value}{A:Around},Inv X pins σ H s->Sn X.K H v x->Sn X.K H w y->RelV v u->RelV w u'->A.units+n<cLine->SeqAt.EqAt A s u u' (eqD x y):=by
 induction n with
 | zero=>
   intro x y hx pins s σ H v w u u' A I r1 r2 ru ru' hu
   cases r1 with
   | non=>
     cases ru
     cases r2 with
     | non=>cases ru';exact SeqAt.EqAt.same _
     | bl b=>cases ru';exact SeqAt.EqAt.none_bool b
     | int i=>obtain⟨t',rfl⟩:=ru';exact SeqAt.EqAt.none_int i t'
     | str i=>obtain⟨t',rfl⟩:=ru';exact SeqAt.EqAt.none_str i t'
     | tup h2 q2=>cases ru';obtain⟨its2,v2,p2,_⟩:=I.tuple h2;exact SeqAt.EqAt.none_tuple (show s.heap.IsTuple _ its2.toArray from p2) (by omega)
     | lst h2 q2=>cases ru';obtain⟨its2,v2,p2,_⟩:=I.list h2;exact SeqAt.EqAt.none_list p2.isList (by omega)
   | bl a=>
     cases ru
     cases r2 with
     | non=>cases ru';exact SeqAt.EqAt.bool_none a
     | bl b=>cases ru';exact SeqAt.EqAt.bool_bool a b
     | int i=>obtain⟨t',rfl⟩:=ru';exact SeqAt.EqAt.bool_int a i t'
     | str i=>obtain⟨t',rfl⟩:=ru';exact SeqAt.EqAt.bool_str a i t'
     | tup h2 q2=>cases ru';obtain⟨its2,v2,p2,_⟩:=I.tuple h2;exact SeqAt.EqAt.bool_tuple a (show s.heap.IsTuple _ its2.toArray from p2) (by omega)
     | lst h2 q2=>cases ru';obtain⟨its2,v2,p2,_⟩:=I.list h2;exact SeqAt.EqAt.bool_list a p2.isList (by omega)
   | int a=>
     obtain⟨t,rfl⟩:=ru
     cases r2 with
     | non=>cases ru';exact SeqAt.EqAt.int_none a t
     | bl b=>cases ru';exact SeqAt.EqAt.int_bool a t b
     | int i=>obtain⟨t',rfl⟩:=ru';exact SeqAt.EqAt.int_int a t i t'
     | str i=>obtain⟨t',rfl⟩:=ru';exact SeqAt.EqAt.int_str a t i t'
     | tup h2 q2=>cases ru';obtain⟨its2,v2,p2,_⟩:=I.tuple h2;exact SeqAt.EqAt.int_tuple a t (show s.heap.IsTuple _ its2.toArray from p2) (by omega)
     | lst h2 q2=>cases ru';obtain⟨its2,v2,p2,_⟩:=I.list h2;exact SeqAt.EqAt.int_list a t p2.isList (by omega)
   | str a=>
     obtain⟨t,rfl⟩:=ru
     cases r2 with
     | non=>cases ru';exact SeqAt.EqAt.str_none a t
     | bl b=>cases ru';exact SeqAt.EqAt.str_bool a t b
     | int i=>obtain⟨t',rfl⟩:=ru';exact SeqAt.EqAt.str_int a t i t'
     | str i=>obtain⟨t',rfl⟩:=ru';exact SeqAt.EqAt.str_str a t i t'
     | tup h2 q2=>cases ru';obtain⟨its2,v2,p2,_⟩:=I.tuple h2;exact SeqAt.EqAt.str_tuple a t (show s.heap.IsTuple _ its2.toArray from p2) (by omega)
     | lst h2 q2=>cases ru';obtain⟨its2,v2,p2,_⟩:=I.list h2;exact SeqAt.EqAt.str_list a t p2.isList (by omega)
   | tup _ _=>simp[deep]at hx
   | lst _ _=>simp[deep]at hx
 | succ n ih=>
   intro x y hx pins s σ H v w u u' A I r1 r2 ru ru' hu
   by_cases h0:deep x≤n
   . exact ih x y h0 I r1 r2 ru ru' (by omega)
   . have both:=m6 ih x y hx I r1 r2 ru ru' hu
     cases r1 with
     | non=>simp[deep]at h0
     | bl b=>simp[deep]at h0
     | int b=>simp[deep]at h0
     | str b=>simp[deep]at h0
     | @tup a xs ds h1 q1=>
       cases ru
       obtain⟨its,v1,p1,_⟩:=I.tuple h1
       have p1:s.heap.IsTuple a its.toArray:=p1
       cases r2 with
       | non=>cases ru';exact SeqAt.EqAt.tuple_none p1 (by omega)
       | bl b=>cases ru';exact SeqAt.EqAt.tuple_bool b p1 (by omega)
       | int i=>obtain⟨t',rfl⟩:=ru';exact SeqAt.EqAt.tuple_int i t' p1 (by omega)
       | str i=>obtain⟨t',rfl⟩:=ru';exact SeqAt.EqAt.tuple_str i t' p1 (by omega)
       | @tup b ys es h2 q2=>
         cases ru'
         by_cases e:a=b
         . subst e
           have e2:=mF I (.tup h1 q1) (.tup h2 q2)
           rw[←e2,pG _ (vZ (.tup h1 q1))]
           exact SeqAt.EqAt.same _
         . exact SeqAt.EqAt.of_refs e both.1
       | @lst b ys es h2 q2=>
         cases ru';obtain⟨its2,v2,p2,_⟩:=I.list h2;exact SeqAt.EqAt.tuple_list p1 p2.isList (by omega)
     | @lst a xs ds h1 q1=>
       cases ru
       obtain⟨its,v1,p1,_⟩:=I.list h1
       have p1:=p1.isList
       cases r2 with
       | non=>cases ru';exact SeqAt.EqAt.list_none p1 (by omega)
       | bl b=>cases ru';exact SeqAt.EqAt.list_bool b p1 (by omega)
       | int i=>obtain⟨t',rfl⟩:=ru';exact SeqAt.EqAt.list_int i t' p1 (by omega)
       | str i=>obtain⟨t',rfl⟩:=ru';exact SeqAt.EqAt.list_str i t' p1 (by omega)
       | tup h2 q2=>cases ru';obtain⟨its2,v2,p2,_⟩:=I.tuple h2;exact SeqAt.EqAt.list_tuple p1 (show s.heap.IsTuple _ its2.toArray from p2) (by omega)
       | @lst b ys es h2 q2=>
         cases ru'
         by_cases e:a=b
         . subst e
           have e2:=mF I (.lst h1 q1) (.lst h2 q2)
           rw[←e2,pG _ (vZ (.lst h1 q1))]
           exact SeqAt.EqAt.same _
         . exact SeqAt.EqAt.of_refs e both.1
noncomputable def vw(S:Store):D->D
 | .loc k=>match S[k]? with | some ds=>.lst ds | none=>.loc k
 | d=>d
noncomputable def Gp(S:Store)(x y:D):Prop:=okD (vw S x)=true/\okD (vw S y)=true/\deep (vw S x)≤50
theorem fu{K:PySem.W.Frag}{O:Own}{H:Hp}{v:V}(st:StOk K O H S)(r:Rep K O H v x)(h:okD (vw S x)=true):Sn K H v (vw S x):=by
 cases r with
 | @loc a k hk=>
   simp only[vw]at h ⊢
   have hl:k<S.length:=by rw[←st.len];exact(z0.mp hk).1
   obtain⟨xs,hx,q⟩:=st.obj k a S[k] hk (y3 hl)
   rw[y3 hl]at h ⊢
   exact .lst (SqL.of hx) (jt (by simpa[okD]using h) q)
 | non=>exact .non
 | bl b=>exact .bl b
 | int i=>exact .int i
 | str i=>exact .str i
 | tup h1 q1=>exact vY h (.tup h1 q1)
 | lst h1 q1=>exact vY h (.lst h1 q1)
 | dic h1 e1=>simp[vw,okD]at h
 | dlo h1=>simp[vw,okD]at h
theorem Uh(hu:X.A.units+60<cLine)(h:Gp S x y)(w:W (eqD (vw S x) (vw S y)) S):bw X .Eq x y S (asB W):=by
 intro pins s σ H O v w' u u' I st r1 r2 r3 r4
 obtain⟨h1,h2,h3⟩:=h
 have:=(m6 (n:=50) (A:=X.A) (wg 50) (vw S x) (vw S y) (by omega) I (fu st r1 h1) (fu st r2 h2) r3 r4 (by omega)).1
 exact this _ _ _ _ ⟨.bl _,H,I,rfl,QG.here ⟨_,rfl,w⟩ st (.bl _)⟩
theorem Uj(hu:X.A.units+60<cLine)(h:Gp S x y)(w:W (!eqD (vw S x) (vw S y)) S):bw X .NotEq x y S (asB W):=by
 intro pins s σ H O v w' u u' I st r1 r2 r3 r4
 obtain⟨h1,h2,h3⟩:=h
 have:=(m6 (n:=50) (A:=X.A) (wg 50) (vw S x) (vw S y) (by omega) I (fu st r1 h1) (fu st r2 h2) r3 r4 (by omega)).2
 exact this _ _ _ _ ⟨.bl _,H,I,rfl,QG.here ⟨_,rfl,w⟩ st (.bl _)⟩
theorem jE:∀{xs:List V}{its:List Value}{i:Nat}{v:V},Vals xs its->xs[i]? =some v->∃y,its[i]? =some y/\RelV v y
 | _,_,_,_,.nil,e=>by simp at e
 | _,_,0,_,.cons a _,e=>by simp at e;subst e;exact⟨_,rfl,a⟩
 | _,_,i+1,v,.cons _ t,e=>by
   obtain⟨y,h1,h2⟩:=jE (i:=i) (v:=v) t (by simpa using e)
   exact⟨y,by simpa using h1,h2⟩
theorem Dy{pins:Pins}{s:Shared}{σ:DL.St}{H:Hp}{v w':V}{u u':Value}(hu:X.A.units+60<cLine)(I:Inv X pins σ H s)(sx:Sn X.K H v x)(sy:Sn X.K H w' (.lst ds))(r3:RelV v u)(r4:RelV w' u')(h3:aR ds≤50):
 ∃(l:Addr) (its:List Value) (e:Value->Bool),u'=.ref l/\s.heap.IsList l its.toArray/\(∀y,y∈its.toArray->SeqAt.EqAt X.A.in1 s y u (e y))/\its.toArray.any e=ds.any λ d=>eqD d x:=by
 classical
 cases sy with
 | @lst a xs _ h1 q1=>
   cases r4
   obtain⟨its,rv,pl,hz⟩:=I.list h1
   let e:Value->Bool:=λ y=>decide (∃(v':V) (d:D),RelV v' y/\Sn X.K H v' d/\eqD d x=true)
   have ev:∀(y:Value)(v':V)(d:D),RelV v' y->Sn X.K H v' d->e y=eqD d x:=by
    intro y v' d hr hs
    cases hd:eqD d x with
    | true=>exact decide_eq_true ⟨v',d,hr,hs,hd⟩
    | false=>
      refine decide_eq_false ?_
      rintro⟨v2,d2,hr2,hs2,hd2⟩
      have ev':=hr2.inj hr
      subst ev'
      have:=mF I hs2 hs
      subst this
      rw[hd]at hd2;cases hd2
   refine⟨a,its,e,rfl,pl.isList,?_,?_⟩
   . intro y hy
     have hy':y∈its:=by simpa using hy
     obtain⟨i,hi⟩:=List.getElem?_of_mem hy'
     have hlt:i<xs.length:=by rw[rv.length];exact(z0.mp hi).1
     obtain⟨d,hd⟩:∃d,ds[i]? =some d:=⟨_,y3 (by rw[←q1.length];exact hlt)⟩
     obtain⟨v',hv',hs⟩:=q1.get hd
     obtain⟨y',hy2,hr⟩:=jE rv hv'
     rw[hi]at hy2;cases hy2
     rw[ev y v' d hr hs]
     exact wg 50 d x (Nat.le_trans (cV hd) h3) I hs sx hr r3 (by show X.A.units+1+50<cLine;omega)
   . have hlen:its.length=ds.length:=by rw[←rv.length,q1.length]
     have main:∀(xs:List V)(its:List Value)(ds:List D),Vals xs its->Sns X.K H xs ds->its.any e=ds.any λ d=>eqD d x:=by
      intro xs its ds rv q1
      induction rv generalizing ds with
      | nil=>cases q1;rfl
      | cons hr _ ih=>
        cases q1 with
        | cons hs ht=>rw[List.any_cons,List.any_cons,ev _ _ _ hr hs,ih _ ht]
     rw[List.any_toArray]
     exact main xs its ds rv q1
theorem Ui(hu:X.A.units+60<cLine)(hy:vw S y=.lst ds)(h1:okD (vw S x)=true)(h2:bM ds=true)(h3:aR ds≤50)(w:W (ds.any λ d=>eqD d (vw S x)) S):bw X .In x y S (asB W):=by
 intro pins s σ H O v w' u u' I st r1 r2 r3 r4
 have sy:=fu st r2 (by rw[hy];simpa[okD]using h2)
 rw[hy]at sy
 obtain⟨l,its,e,rfl,hl,he,ha⟩:=Dy hu I (fu st r1 h1) sy r3 r4 h3
 refine SeqAt.in_listAt e hl he ?_
 rw[ha]
 exact⟨.bl _,H,I,rfl,QG.here ⟨_,rfl,w⟩ st (.bl _)⟩
theorem QB(hu:X.A.units+60<cLine)(hy:vw S y=.lst ds)(h1:okD (vw S x)=true)(h2:bM ds=true)(h3:aR ds≤50)(w:W (!(ds.any λ d=>eqD d (vw S x))) S):bw X .NotIn x y S (asB W):=by
 intro pins s σ H O v w' u u' I st r1 r2 r3 r4
 have sy:=fu st r2 (by rw[hy];simpa[okD]using h2)
 rw[hy]at sy
 obtain⟨l,its,e,rfl,hl,he,ha⟩:=Dy hu I (fu st r1 h1) sy r3 r4 h3
 refine SeqAt.notIn_listAt e hl he ?_
 rw[ha]
 exact⟨.bl _,H,I,rfl,QG.here ⟨_,rfl,w⟩ st (.bl _)⟩
end
end RF
namespace RF
open PySem PySem.Spec L2 DL
open PyProof.Rows
variable {X : Cx}
noncomputable def isN:D->Bool
 | .non=>true
 | _=>false
theorem PK{a b:Bool}{S:Store}{W:Bool->Store->Prop}(w:W (a==b) S):bw X .Is (.bl a) (.bl b) S (asB W):=by
 intro pins s σ H O v w' u u' I st r1 r2 r3 r4
 cases r1;cases r2;cases r3;cases r4
 refine wpAny_is_plain rfl ?_
 have e:(Value.bool a==Value.bool b)=(a==b):=by cases a<;>cases b<;>rfl
 rw[e]
 exact⟨.bl _,H,I,rfl,QG.here ⟨_,rfl,w⟩ st (.bl _)⟩
theorem Ju{a b:Bool}{S:Store}{W:Bool->Store->Prop}(w:W (!(a==b)) S):bw X .IsNot (.bl a) (.bl b) S (asB W):=by
 intro pins s σ H O v w' u u' I st r1 r2 r3 r4
 cases r1;cases r2;cases r3;cases r4
 refine wpAny_isNot_plain rfl ?_
 have e:(Value.bool a==Value.bool b)=(a==b):=by cases a<;>cases b<;>rfl
 rw[e]
 exact⟨.bl _,H,I,rfl,QG.here ⟨_,rfl,w⟩ st (.bl _)⟩
noncomputable def bEq(x y:D)(ki:Int->Int->Prop)(kb:Bool->Bool->Prop)(g:Prop):Prop:=match x with
 | .int i=>(match y with
   | .int j=>ki i j
   | _=>g)
 | .bl i=>(match y with
   | .bl j=>kb i j
   | _=>g)
 | _=>g
theorem CP{x y:D}{ki:Int->Int->Prop}{kb:Bool->Bool->Prop}{g:Prop}(h:bEq x y ki kb g):(∃i j,x=.int i/\y=.int j/\ki i j)∨(∃i j,x=.bl i/\y=.bl j/\kb i j)∨g:=by
 cases x<;>first | exact .inr (.inr h) | (cases y<;>first | exact .inr (.inr h) | exact .inl ⟨_,_,rfl,rfl,h⟩ | exact .inr (.inl ⟨_,_,rfl,rfl,h⟩))
noncomputable def bIs(x y:D)(n:Prop)(kb:Bool->Bool->Prop):Prop:=match y with
 | .non=>n
 | .bl j=>(match x with
   | .bl i=>kb i j
   | _=>False)
 | _=>False
theorem Cv{x y:D}{n:Prop}{kb:Bool->Bool->Prop}(h:bIs x y n kb):(y=.non/\n)∨∃i j,x=.bl i/\y=.bl j/\kb i j:=by
 cases y<;>first | exact h.elim | exact .inl ⟨rfl,h⟩ | (cases x<;>first | exact h.elim | exact .inr ⟨_,_,rfl,rfl,h⟩)
@[irreducible] noncomputable def aQ(op:CmpOp)(x y:D)(S:Store)(W:Bool->Store->Prop):Prop:=match op with
  | .Lt=>bII x y λ i j=>W (decide (i<j)) S
  | .LtE=>bII x y λ i j=>W (decide (i≤j)) S
  | .Gt=>bII x y λ i j=>W (decide (j<i)) S
  | .GtE=>bII x y λ i j=>W (decide (j≤i)) S
  | .Eq=>bEq x y (λ i j=>W (decide (i=j)) S) (λ i j=>W (i==j) S) (Gp S x y/\W (eqD (vw S x) (vw S y)) S)
  | .NotEq=>bEq x y (λ i j=>W (!decide (i=j)) S) (λ i j=>W (!(i==j)) S) ((Gp S x y/\W (!eqD (vw S x) (vw S y)) S)∨(x=y/\ao x=true/\deep x≤50/\W false S))
  | .Is=>bIs x y (W (isN x) S) λ i j=>W (i==j) S
  | .IsNot=>bIs x y (W (!isN x) S) λ i j=>W (!(i==j)) S
  | .In=>∃ds,vw S y=.lst ds/\okD (vw S x)=true/\bM ds=true/\aR ds≤50/\W (ds.any λ d=>eqD d (vw S x)) S
  | .NotIn=>∃ds,vw S y=.lst ds/\okD (vw S x)=true/\bM ds=true/\aR ds≤50/\W (!(ds.any λ d=>eqD d (vw S x))) S
theorem bZ{op:CmpOp}{x y:D}{S:Store}{W:Bool->Store->Prop}{b:Bool}(h:∀V:WD,V (.bl b) S->bw X op x y S V)(w:W b S):bw X op x y S (asB W):=h (asB W) ⟨b,rfl,w⟩
theorem eG{op:CmpOp}{x y:D}{S:Store}{W:Bool->Store->Prop}(hu:X.A.units+60<cLine)(h:aQ op x y S W):bw X op x y S (asB W):=by
 unfold aQ at h
 cases op with
 | Lt=>obtain⟨i,j,rfl,rfl,h⟩:=dJ h;exact bZ (λ _=>U6) h
 | LtE=>obtain⟨i,j,rfl,rfl,h⟩:=dJ h;exact bZ (λ _=>UG) h
 | Gt=>obtain⟨i,j,rfl,rfl,h⟩:=dJ h;exact bZ (λ _=>Up) h
 | GtE=>obtain⟨i,j,rfl,rfl,h⟩:=dJ h;exact bZ (λ _=>U7) h
 | Eq=>
   rcases CP h with⟨i,j,rfl,rfl,h⟩ | ⟨i,j,rfl,rfl,h⟩ | h
   . exact bZ (λ _=>Ss) h
   . exact bZ (λ _=>T4) h
   . exact Uh hu h.1 h.2
 | NotEq=>
   rcases CP h with⟨i,j,rfl,rfl,h⟩ | ⟨i,j,rfl,rfl,h⟩ | h | ⟨rfl,h1,h2,h3⟩
   . exact bZ (λ _=>Um) h
   . exact bZ (λ _=>SM) h
   . exact Uj hu h.1 h.2
   . exact Lk hu h1 h2 ⟨false,rfl,h3⟩
 | Is=>
   rcases Cv h with⟨rfl,h⟩ | ⟨i,j,rfl,rfl,h⟩
   . exact bZ (λ V w=>Ub w) h
   . exact PK h
 | IsNot=>
   rcases Cv h with⟨rfl,h⟩ | ⟨i,j,rfl,rfl,h⟩
   . refine bZ (λ V w=>Pk ?_) h
     cases x<;>exact w
   . exact Ju h
 | In=>obtain⟨ds,h1,h2,h3,h4,h5⟩:=h;exact Ui hu h1 h2 h3 h4 h5
 | NotIn=>obtain⟨ds,h1,h2,h3,h4,h5⟩:=h;exact QB hu h1 h2 h3 h4 h5
section
variable {i j : Int} {a b : Bool} {x y : D} {S : Store} {W : Bool -> Store -> Prop}
theorem cLt(w:W (decide (i<j)) S):aQ .Lt (.int i) (.int j) S W:=by unfold aQ;exact w
theorem cLe(w:W (decide (i≤j)) S):aQ .LtE (.int i) (.int j) S W:=by unfold aQ;exact w
theorem cGt(w:W (decide (j<i)) S):aQ .Gt (.int i) (.int j) S W:=by unfold aQ;exact w
theorem cEqI(w:W (decide (i=j)) S):aQ .Eq (.int i) (.int j) S W:=by unfold aQ;exact w
theorem cNeI(w:W (!decide (i=j)) S):aQ .NotEq (.int i) (.int j) S W:=by unfold aQ;exact w
theorem cIsN(w:W (isN x) S):aQ .Is x .non S W:=by unfold aQ;cases x<;>exact w
theorem cIsNot(w:W (!isN x) S):aQ .IsNot x .non S W:=by unfold aQ;cases x<;>exact w
theorem cIn{ds:List D}(h1:vw S y=.lst ds)(h2:okD (vw S x)=true)(h3:bM ds=true)(h4:aR ds≤50)(w:W (ds.any λ d=>eqD d (vw S x)) S):aQ .In x y S W:=by unfold aQ;cases x<;>exact⟨ds,h1,h2,h3,h4,w⟩
end
structure Ex(Ω:Wd) where
 lev:Nat
 chk:Bool->List Str->Nm->Expr->Bool
 wp:Gam->Store->WD->Prop
 sound:∀{X:Cx}{r:Nat}{top:Bool}{N:List Str}{nm:Nm}{e:Expr}{Γ:Gam}{S:Store}{W:WD},At Ω X r top N nm->lev≤r->chk top N nm e=true->wp Γ S W->Ev X Γ S e W
structure Te(Ω:Wd) where
 lev:Nat
 chk:Bool->List Str->Nm->Expr->Bool
 wp:Gam->Store->(Bool->Store->Prop)->Prop
 sound:∀{X:Cx}{r:Nat}{top:Bool}{N:List Str}{nm:Nm}{e:Expr}{Γ:Gam}{S:Store}{W:Bool->Store->Prop},At Ω X r top N nm->lev≤r->chk top N nm e=true->wp Γ S W->Ts X Γ S e W
structure Ar(Ω:Wd) where
 lev:Nat
 chk:Bool->List Str->Nm->List Expr->Bool
 wp:Gam->Store->(List D->Store->Prop)->Prop
 plain:∀{top:Bool}{N:List Str}{nm:Nm}{es:List Expr},chk top N nm es=true->es.all okE=true
 sound:∀{X:Cx}{r:Nat}{top:Bool}{N:List Str}{nm:Nm}{es:List Expr}{Γ:Gam}{S:Store}{W:List D->Store->Prop},At Ω X r top N nm->lev≤r->chk top N nm es=true->wp Γ S W->EvA X Γ S es W
structure Bo(Ω:Wd) where
 lev:Nat
 chk:Bool->List Str->Nm->List Expr->Bool
 wpA:Gam->Store->WD->Prop
 wpO:Gam->Store->WD->Prop
 ne:∀{top:Bool}{N:List Str}{nm:Nm}{es:List Expr},chk top N nm es=true->∃b rest,es=b::rest
 soundA:∀{X:Cx}{r:Nat}{top:Bool}{N:List Str}{nm:Nm}{es:List Expr}{Γ:Gam}{S:Store}{W:WD}{pos:Pos},At Ω X r top N nm->lev≤r->chk top N nm es=true->wpA Γ S W->Ev X Γ S (.BoolOp .And es pos) W
 soundO:∀{X:Cx}{r:Nat}{top:Bool}{N:List Str}{nm:Nm}{es:List Expr}{Γ:Gam}{S:Store}{W:WD}{pos:Pos},At Ω X r top N nm->lev≤r->chk top N nm es=true->wpO Γ S W->Ev X Γ S (.BoolOp .Or es pos) W
structure Bt(Ω:Wd) where
 lev:Nat
 chk:Bool->List Str->Nm->List Expr->Bool
 wpA:Gam->Store->(Bool->Store->Prop)->Prop
 wpO:Gam->Store->(Bool->Store->Prop)->Prop
 ne:∀{top:Bool}{N:List Str}{nm:Nm}{es:List Expr},chk top N nm es=true->∃b rest,es=b::rest
 soundA:∀{X:Cx}{r:Nat}{top:Bool}{N:List Str}{nm:Nm}{es:List Expr}{Γ:Gam}{S:Store}{W:Bool->Store->Prop}{pos:Pos},At Ω X r top N nm->lev≤r->chk top N nm es=true->wpA Γ S W->TsW X Γ S (.BoolOp .And es pos) W
 soundO:∀{X:Cx}{r:Nat}{top:Bool}{N:List Str}{nm:Nm}{es:List Expr}{Γ:Gam}{S:Store}{W:Bool->Store->Prop}{pos:Pos},At Ω X r top N nm->lev≤r->chk top N nm es=true->wpO Γ S W->TsW X Γ S (.BoolOp .Or es pos) W
theorem At.hu{Ω:Wd}{r:Nat}{top:Bool}{N:List Str}{nm:Nm}(A:At Ω X r top N nm):X.A.units+60<cLine:=by have:=A.room.un;omega
theorem lv2{a b r:Nat}(h:max a b≤r):a≤r/\b≤r:=by omega
variable {Ω : Wd}
noncomputable def Ex.var(i:Nat):Ex Ω where
 lev:=0
 chk _ N nm e:=match e with | .Name x _=>(N[i]? ==some x)&&(vis nm x&&okN x) | _=>false
 wp Γ S W:=match Γ[i]? with | some (some d)=>W d S | _=>False
 sound:=by
  intro X r top N nm e Γ S W A _ hc hw
  cases e with
  | Name x pos=>
    obtain⟨h1,h2⟩:=aa hc
    obtain⟨h2,h3⟩:=aa h2
    obtain⟨d1,d2,_⟩:=gC h3
    have h1:N[i]? =some x:=eq_of_beq h1
    cases hΓ:Γ[i]? with
    | none=>rw[hΓ]at hw;exact hw.elim
    | some o=>
      cases o with
      | none=>rw[hΓ]at hw;exact hw.elim
      | some d=>
        rw[hΓ]at hw
        exact Qv i hΓ hw (by rw[A.n];exact h1) (A.vis h2) d1 d2
  | _=>exact fE hc
noncomputable def Ex.int(i:Int):Ex Ω where
 lev:=0
 chk _ _ _ e:=match e with | .Constant (.int j) _ _=>j==i | _=>false
 wp _ S W:=W (.int i) S
 sound:=by
  intro X r top N nm e Γ S W A _ hc hw
  cases e with
  | Constant c k pos=>
    cases c with
    | int j=>have e:j=i:=eq_of_beq hc;subst e;exact Qz hw
    | _=>exact fE hc
  | _=>exact fE hc
noncomputable def Ex.bl(i:Bool):Ex Ω where
 lev:=0
 chk _ _ _ e:=match e with | .Constant (.bool j) _ _=>j==i | _=>false
 wp _ S W:=W (.bl i) S
 sound:=by
  intro X r top N nm e Γ S W A _ hc hw
  cases e with
  | Constant c k pos=>
    cases c with
    | bool j=>have e:j=i:=eq_of_beq hc;subst e;exact SJ hw
    | _=>exact fE hc
  | _=>exact fE hc
noncomputable def Ex.non:Ex Ω where
 lev:=0
 chk _ _ _ e:=match e with | .Constant .none _ _=>true | _=>false
 wp _ S W:=W .non S
 sound:=by
  intro X r top N nm e Γ S W A _ hc hw
  cases e with
  | Constant c k pos=>
    cases c with
    | none=>exact Qy hw
    | _=>exact fE hc
  | _=>exact fE hc
noncomputable def Ex.gint{x:Str}{i:Int}(h:∃t,Ω.mg x=some (.int i t)):Ex Ω where
 lev:=0
 chk _ _ nm e:=match e with | .Name y _=>(y==x)&&(glb nm x&&okN x) | _=>false
 wp _ S W:=W (.int i) S
 sound:=by
  intro X r top N nm e Γ S W A _ hc hw
  cases e with
  | Name y pos=>
    obtain⟨h1,h2⟩:=aa hc
    obtain⟨h2,h3⟩:=aa h2
    have e:y=x:=eq_of_beq h1
    subst e
    obtain⟨t,h⟩:=h
    exact LQ (by rw[A.g];exact h) hw (A.glb h2) (gC h3).1
  | _=>exact fE hc
noncomputable def Ex.bin(op:Operator)(a b:Ex Ω):Ex Ω where
 lev:=max a.lev b.lev
 chk top N nm e:=match e with | .BinOp l o r _=>(o==op)&&(a.chk top N nm l&&b.chk top N nm r) | _=>false
 wp Γ S W:=a.wp Γ S λ x S1=>b.wp Γ S1 λ y S2=>My op x y S2 W
 sound:=by
  intro X r top N nm e Γ S W A hl hc hw
  obtain⟨l1,l2⟩:=lv2 hl
  cases e with
  | BinOp l o r' pos=>
    obtain⟨h1,h2⟩:=aa hc
    obtain⟨h2,h3⟩:=aa h2
    have e:o=op:=eq_of_beq h1
    subst e
    exact wu ((a.sound A l1 h2 hw).mono λ x S1 q=>(b.sound A l2 h3 q).mono λ y S2 q=>Ml q)
  | _=>exact fE hc
noncomputable def Ex.cmp(op:CmpOp)(a b:Ex Ω):Ex Ω where
 lev:=max a.lev b.lev
 chk top N nm e:=match e with | .Compare l [o] [r] _=>(o==op)&&(okE r&&(a.chk top N nm l&&b.chk top N nm r)) | _=>false
 wp Γ S W:=a.wp Γ S λ x S1=>b.wp Γ S1 λ y S2=>aQ op x y S2 λ c S3=>W (.bl c) S3
 sound:=by
  intro X r top N nm e Γ S W A hl hc hw
  obtain⟨l1,l2⟩:=lv2 hl
  cases e with
  | Compare l os rs pos=>
    match os,rs,hc with
    | [o],[r'],hc=>
      obtain⟨h1,h2⟩:=aa hc
      obtain⟨h0,h2⟩:=aa h2
      obtain⟨h2,h3⟩:=aa h2
      have e:o=op:=eq_of_beq h1
      subst e
      exact Qg ((a.sound A l1 h2 hw).mono λ x S1 q=>(b.sound A l2 h3 q).mono λ y S2 q=>(eG A.hu q).mono λ d S3 ⟨c,e,w⟩=>by subst e;exact w) (gF h0)
    | [],_,hc=>exact fE hc
    | [_],[],hc=>exact fE hc
    | [_],_::_::_,hc=>exact fE hc
    | _::_::_,_,hc=>exact fE hc
  | _=>exact fE hc
noncomputable def Te.cmp(op:CmpOp)(a b:Ex Ω):Te Ω where
 lev:=max a.lev b.lev
 chk top N nm e:=match e with | .Compare l [o] [r] _=>(o==op)&&(okE r&&(a.chk top N nm l&&b.chk top N nm r)) | _=>false
 wp Γ S W:=a.wp Γ S λ x S1=>b.wp Γ S1 λ y S2=>aQ op x y S2 W
 sound:=by
  intro X r top N nm e Γ S W A hl hc hw
  obtain⟨l1,l2⟩:=lv2 hl
  cases e with
  | Compare l os rs pos=>
    match os,rs,hc with
    | [o],[r'],hc=>
      obtain⟨h1,h2⟩:=aa hc
      obtain⟨h0,h2⟩:=aa h2
      obtain⟨h2,h3⟩:=aa h2
      have e:o=op:=eq_of_beq h1
      subst e
      exact Hx ((a.sound A l1 h2 hw).mono λ x S1 q=>(b.sound A l2 h3 q).mono λ y S2 q=>eG A.hu q) (gF h0)
    | [],_,hc=>exact fE hc
    | [_],[],hc=>exact fE hc
    | [_],_::_::_,hc=>exact fE hc
    | _::_::_,_,hc=>exact fE hc
  | _=>exact fE hc
noncomputable abbrev MJ(a:Ex Ω)(o1:CmpOp)(b:Ex Ω)(o2:CmpOp)(c:Ex Ω)(Γ:Gam)(S:Store)(W:Bool->Store->Prop):Prop:=
 a.wp Γ S λ x S1=>b.wp Γ S1 λ y S2=>aQ o1 x y S2 λ k S3=>(k=false->W false S3)/\(k=true->c.wp Γ S3 λ t S4=>aQ o2 y t S4 W)
noncomputable def Ex.ch2(a:Ex Ω)(o1:CmpOp)(b:Ex Ω)(o2:CmpOp)(c:Ex Ω):Ex Ω where
 lev:=max (max a.lev b.lev) c.lev
 chk top N nm e:=match e with | .Compare l [p1,p2] [m,r] _=>(p1==o1)&&((p2==o2)&&(okE r&&(a.chk top N nm l&&(b.chk top N nm m&&c.chk top N nm r)))) | _=>false
 wp Γ S W:=MJ a o1 b o2 c Γ S λ k S1=>W (.bl k) S1
 sound:=by
  intro X r top N nm e Γ S W A hl hc hw
  obtain⟨l1,l3⟩:=lv2 hl
  obtain⟨l1,l2⟩:=lv2 l1
  cases e with
  | Compare l os rs pos=>
    match os,rs,hc with
    | [p1,p2],[m,r'],hc=>
      obtain⟨h1,h2⟩:=aa hc
      obtain⟨h2,h3⟩:=aa h2
      obtain⟨h0,h3⟩:=aa h3
      obtain⟨h3,h4⟩:=aa h3
      obtain⟨h4,h5⟩:=aa h4
      have e:p1=o1:=eq_of_beq h1
      subst e
      have e:p2=o2:=eq_of_beq h2
      subst e
      refine Ly ((a.sound A l1 h3 hw).mono λ x S1 q=>(b.sound A l2 h4 q).mono λ y S2 q=>(eG A.hu q).mono λ d S3 ⟨k,e,w⟩=>⟨k,e,w.1,λ hk=>(c.sound A l3 h5 (w.2 hk)).mono λ t S4 q=>(eG A.hu q).mono λ d S3 ⟨c,e,w⟩=>by subst e;exact w⟩) (gF h0)
    | [],_,hc=>exact fE hc
    | [_],_,hc=>exact fE hc
    | [_,_],[],hc=>exact fE hc
    | [_,_],[_],hc=>exact fE hc
    | [_,_],_::_::_::_,hc=>exact fE hc
    | _::_::_::_,_,hc=>exact fE hc
  | _=>exact fE hc
noncomputable def Te.ch2(a:Ex Ω)(o1:CmpOp)(b:Ex Ω)(o2:CmpOp)(c:Ex Ω):Te Ω where
 lev:=max (max a.lev b.lev) c.lev
 chk top N nm e:=match e with | .Compare l [p1,p2] [m,r] _=>(p1==o1)&&((p2==o2)&&(okE r&&(a.chk top N nm l&&(b.chk top N nm m&&c.chk top N nm r)))) | _=>false
 wp Γ S W:=MJ a o1 b o2 c Γ S W
 sound:=by
  intro X r top N nm e Γ S W A hl hc hw
  obtain⟨l1,l3⟩:=lv2 hl
  obtain⟨l1,l2⟩:=lv2 l1
  cases e with
  | Compare l os rs pos=>
    match os,rs,hc with
    | [p1,p2],[m,r'],hc=>
      obtain⟨h1,h2⟩:=aa hc
      obtain⟨h2,h3⟩:=aa h2
      obtain⟨h0,h3⟩:=aa h3
      obtain⟨h3,h4⟩:=aa h3
      obtain⟨h4,h5⟩:=aa h4
      have e:p1=o1:=eq_of_beq h1
      subst e
      have e:p2=o2:=eq_of_beq h2
      subst e
      refine HF ((a.sound A l1 h3 hw).mono λ x S1 q=>(b.sound A l2 h4 q).mono λ y S2 q=>(eG A.hu q).mono λ d S3 ⟨k,e,w⟩=>⟨k,e,w.1,λ hk=>(c.sound A l3 h5 (w.2 hk)).mono λ t S4 q=>eG A.hu q⟩) (gF h0)
    | [],_,hc=>exact fE hc
    | [_],_,hc=>exact fE hc
    | [_,_],[],hc=>exact fE hc
    | [_,_],[_],hc=>exact fE hc
    | [_,_],_::_::_::_,hc=>exact fE hc
    | _::_::_::_,_,hc=>exact fE hc
  | _=>exact fE hc
noncomputable def Te.val(a:Ex Ω):Te Ω where
 lev:=a.lev
 chk top N nm e:=Lf e&&a.chk top N nm e
 wp Γ S W:=a.wp Γ S λ d S1=>match d with | .bl c=>W c S1 | _=>False
 sound:=by
  intro X r top N nm e Γ S W A hl hc hw
  obtain⟨h1,h2⟩:=aa hc
  refine Qx ((a.sound A hl h2 hw).mono λ d S1 q=>?_) (G7 h1 _)
  cases d<;>first | exact⟨_,rfl,q⟩ | exact q.elim
noncomputable def Te.not(t:Te Ω):Te Ω where
 lev:=t.lev
 chk top N nm e:=match e with | .UnaryOp .Not a _=>t.chk top N nm a | _=>false
 wp Γ S W:=t.wp Γ S λ c S1=>W (!c) S1
 sound:=by
  intro X r top N nm e Γ S W A hl hc hw
  cases e with
  | UnaryOp o a pos=>
    cases o with
    | Not=>exact PN (t.sound A hl hc hw)
    | _=>exact fE hc
  | _=>exact fE hc
noncomputable def Bt.one(t:Te Ω):Bt Ω where
 lev:=t.lev
 chk top N nm es:=match es with | [e]=>t.chk top N nm e | _=>false
 wpA Γ S W:=t.wp Γ S W
 wpO Γ S W:=t.wp Γ S W
 ne:=by
  intro top N nm es hc
  match es,hc with
  | [e],_=>exact⟨_,_,rfl⟩
  | [],hc=>exact fE hc
  | _::_::_,hc=>exact fE hc
 soundA:=by
  intro X r top N nm es Γ S W pos A hl hc hw
  match es,hc with
  | [e],hc=>exact tw_and1 (t.sound A hl hc hw)
  | [],hc=>exact fE hc
  | _::_::_,hc=>exact fE hc
 soundO:=by
  intro X r top N nm es Γ S W pos A hl hc hw
  match es,hc with
  | [e],hc=>exact tw_or1 (t.sound A hl hc hw)
  | [],hc=>exact fE hc
  | _::_::_,hc=>exact fE hc
noncomputable def Bt.cons(t:Te Ω)(r:Bt Ω):Bt Ω where
 lev:=max t.lev r.lev
 chk top N nm es:=match es with | e::es=>t.chk top N nm e&&r.chk top N nm es | _=>false
 wpA Γ S W:=t.wp Γ S λ c S1=>(c=true->r.wpA Γ S1 W)/\(c=false->W false S1)
 wpO Γ S W:=t.wp Γ S λ c S1=>(c=true->W true S1)/\(c=false->r.wpO Γ S1 W)
 ne:=by
  intro top N nm es hc
  match es,hc with
  | _::_,_=>exact⟨_,_,rfl⟩
  | [],hc=>exact fE hc
 soundA:=by
  intro X r' top N nm es Γ S W pos A hl hc hw
  obtain⟨l1,l2⟩:=lv2 hl
  match es,hc with
  | e::es,hc=>
    obtain⟨h1,h2⟩:=aa hc
    obtain⟨b,rest,rfl⟩:=r.ne h2
    exact tw_and (Ts.mono (t.sound A l1 h1 hw) λ c S1 q=>⟨λ hk=>r.soundA A l2 h2 (q.1 hk),q.2⟩)
  | [],hc=>exact fE hc
 soundO:=by
  intro X r' top N nm es Γ S W pos A hl hc hw
  obtain⟨l1,l2⟩:=lv2 hl
  match es,hc with
  | e::es,hc=>
    obtain⟨h1,h2⟩:=aa hc
    obtain⟨b,rest,rfl⟩:=r.ne h2
    exact tw_or (Ts.mono (t.sound A l1 h1 hw) λ c S1 q=>⟨q.1,λ hk=>r.soundO A l2 h2 (q.2 hk)⟩)
  | [],hc=>exact fE hc
noncomputable def Te.and(l:Bt Ω):Te Ω where
 lev:=l.lev
 chk top N nm e:=match e with | .BoolOp .And es _=>l.chk top N nm es | _=>false
 wp Γ S W:=l.wpA Γ S W
 sound:=by
  intro X r top N nm e Γ S W A hl hc hw
  cases e with
  | BoolOp o es pos=>
    cases o with
    | And=>exact(l.soundA A hl hc hw).ts
    | _=>exact fE hc
  | _=>exact fE hc
noncomputable def Te.or(l:Bt Ω):Te Ω where
 lev:=l.lev
 chk top N nm e:=match e with | .BoolOp .Or es _=>l.chk top N nm es | _=>false
 wp Γ S W:=l.wpO Γ S W
 sound:=by
  intro X r top N nm e Γ S W A hl hc hw
  cases e with
  | BoolOp o es pos=>
    cases o with
    | Or=>exact(l.soundO A hl hc hw).ts
    | _=>exact fE hc
  | _=>exact fE hc
noncomputable def Bo.one(t:Ex Ω):Bo Ω where
 lev:=t.lev
 chk top N nm es:=match es with | [e]=>t.chk top N nm e | _=>false
 wpA Γ S W:=t.wp Γ S W
 wpO Γ S W:=t.wp Γ S W
 ne:=by
  intro top N nm es hc
  match es,hc with
  | [e],_=>exact⟨_,_,rfl⟩
  | [],hc=>exact fE hc
  | _::_::_,hc=>exact fE hc
 soundA:=by
  intro X r top N nm es Γ S W pos A hl hc hw
  match es,hc with
  | [e],hc=>exact HH (t.sound A hl hc hw)
  | [],hc=>exact fE hc
  | _::_::_,hc=>exact fE hc
 soundO:=by
  intro X r top N nm es Γ S W pos A hl hc hw
  match es,hc with
  | [e],hc=>exact HH (t.sound A hl hc hw)
  | [],hc=>exact fE hc
  | _::_::_,hc=>exact fE hc
noncomputable def Bo.cons(t:Ex Ω)(r:Bo Ω):Bo Ω where
 lev:=max t.lev r.lev
 chk top N nm es:=match es with | e::es=>t.chk top N nm e&&r.chk top N nm es | _=>false
 wpA Γ S W:=t.wp Γ S λ d S1=>match d with | .bl c=>(c=true->r.wpA Γ S1 W)/\(c=false->W (.bl false) S1) | _=>False
 wpO Γ S W:=t.wp Γ S λ d S1=>match d with | .bl c=>(c=true->W (.bl true) S1)/\(c=false->r.wpO Γ S1 W) | _=>False
 ne:=by
  intro top N nm es hc
  match es,hc with
  | _::_,_=>exact⟨_,_,rfl⟩
  | [],hc=>exact fE hc
 soundA:=by
  intro X r' top N nm es Γ S W pos A hl hc hw
  obtain⟨l1,l2⟩:=lv2 hl
  match es,hc with
  | e::es,hc=>
    obtain⟨h1,h2⟩:=aa hc
    obtain⟨b,rest,rfl⟩:=r.ne h2
    refine QL ((t.sound A l1 h1 hw).mono λ d S1 q=>?_)
    cases d<;>first | exact⟨_,rfl,λ hk=>r.soundA A l2 h2 (q.1 hk),q.2⟩ | exact q.elim
  | [],hc=>exact fE hc
 soundO:=by
  intro X r' top N nm es Γ S W pos A hl hc hw
  obtain⟨l1,l2⟩:=lv2 hl
  match es,hc with
  | e::es,hc=>
    obtain⟨h1,h2⟩:=aa hc
    obtain⟨b,rest,rfl⟩:=r.ne h2
    refine Tt ((t.sound A l1 h1 hw).mono λ d S1 q=>?_)
    cases d<;>first | exact⟨_,rfl,q.1,λ hk=>r.soundO A l2 h2 (q.2 hk)⟩ | exact q.elim
  | [],hc=>exact fE hc
noncomputable def Ex.and(l:Bo Ω):Ex Ω where
 lev:=l.lev
 chk top N nm e:=match e with | .BoolOp .And es _=>l.chk top N nm es | _=>false
 wp Γ S W:=l.wpA Γ S W
 sound:=by
  intro X r top N nm e Γ S W A hl hc hw
  cases e with
  | BoolOp o es pos=>
    cases o with
    | And=>exact l.soundA A hl hc hw
    | _=>exact fE hc
  | _=>exact fE hc
noncomputable def Ex.or(l:Bo Ω):Ex Ω where
 lev:=l.lev
 chk top N nm e:=match e with | .BoolOp .Or es _=>l.chk top N nm es | _=>false
 wp Γ S W:=l.wpO Γ S W
 sound:=by
  intro X r top N nm e Γ S W A hl hc hw
  cases e with
  | BoolOp o es pos=>
    cases o with
    | Or=>exact l.soundO A hl hc hw
    | _=>exact fE hc
  | _=>exact fE hc
noncomputable def Ex.not(a:Ex Ω):Ex Ω where
 lev:=a.lev
 chk top N nm e:=match e with | .UnaryOp .Not b _=>a.chk top N nm b | _=>false
 wp Γ S W:=a.wp Γ S λ d S1=>match d with | .bl c=>W (.bl (!c)) S1 | _=>False
 sound:=by
  intro X r top N nm e Γ S W A hl hc hw
  cases e with
  | UnaryOp o b pos=>
    cases o with
    | Not=>
      refine RM ((a.sound A hl hc hw).mono λ d S1 q=>?_)
      cases d<;>first | exact⟨_,rfl,q⟩ | exact q.elim
    | _=>exact fE hc
  | _=>exact fE hc
noncomputable def Ex.neg(a:Ex Ω):Ex Ω where
 lev:=a.lev
 chk top N nm e:=match e with | .UnaryOp .USub b _=>a.chk top N nm b | _=>false
 wp Γ S W:=a.wp Γ S λ d S1=>match d with | .int c=>W (.int (-c)) S1 | _=>False
 sound:=by
  intro X r top N nm e Γ S W A hl hc hw
  cases e with
  | UnaryOp o b pos=>
    cases o with
    | USub=>
      refine Rg ((a.sound A hl hc hw).mono λ d S1 q=>?_)
      cases d<;>first | exact⟨_,rfl,q⟩ | exact q.elim
    | _=>exact fE hc
  | _=>exact fE hc
noncomputable def Ar.nil:Ar Ω where
 lev:=0
 chk _ _ _ es:=match es with | []=>true | _=>false
 wp _ S W:=W [] S
 plain:=by
  intro top N nm es hc
  match es,hc with
  | [],_=>rfl
  | _::_,hc=>exact fE hc
 sound:=by
  intro X r top N nm es Γ S W A _ hc hw
  match es,hc with
  | [],_=>exact dI hw
  | _::_,hc=>exact fE hc
noncomputable def Ar.cons(a:Ex Ω)(r:Ar Ω):Ar Ω where
 lev:=max a.lev r.lev
 chk top N nm es:=match es with | e::es=>okE e&&(a.chk top N nm e&&r.chk top N nm es) | _=>false
 wp Γ S W:=a.wp Γ S λ d S1=>r.wp Γ S1 λ ds S2=>W (d::ds) S2
 plain:=by
  intro top N nm es hc
  match es,hc with
  | e::es,hc=>
    obtain⟨h1,h2⟩:=aa hc
    obtain⟨h2,h3⟩:=aa h2
    rw[List.all_cons,h1,r.plain h3];rfl
  | [],hc=>exact fE hc
 sound:=by
  intro X r' top N nm es Γ S W A hl hc hw
  obtain⟨l1,l2⟩:=lv2 hl
  match es,hc with
  | e::es,hc=>
    obtain⟨h1,h2⟩:=aa hc
    obtain⟨h2,h3⟩:=aa h2
    exact bA ((a.sound A l1 h2 hw).mono λ d S1 q=>r.sound A l2 h3 q) (aB h1 _ _)
  | [],hc=>exact fE hc
noncomputable def Ex.tup(as:Ar Ω):Ex Ω where
 lev:=as.lev
 chk top N nm e:=match e with | .Tuple es _ _=>as.chk top N nm es | _=>false
 wp Γ S W:=as.wp Γ S λ ds S1=>ds.length≤1000000/\W (.tup ds) S1
 sound:=by
  intro X r top N nm e Γ S W A hl hc hw
  cases e with
  | Tuple es k pos=>exact Qd (as.sound A hl hc hw)
  | _=>exact fE hc
noncomputable def Ex.lst(as:Ar Ω):Ex Ω where
 lev:=as.lev
 chk top N nm e:=match e with | .List es _=>as.chk top N nm es | _=>false
 wp Γ S W:=as.wp Γ S λ ds S1=>ds.length≤1000000/\W (.lst ds) S1
 sound:=by
  intro X r top N nm e Γ S W A hl hc hw
  cases e with
  | List es pos=>exact Qa (as.sound A hl hc hw)
  | _=>exact fE hc
noncomputable def Ex.own(as:Ar Ω):Ex Ω where
 lev:=as.lev
 chk top N nm e:=match e with | .List es _=>as.chk top N nm es | _=>false
 wp Γ S W:=as.wp Γ S λ ds S1=>ds.length≤1000000/\W (.loc S1.length) (S1++[ds])
 sound:=by
  intro X r top N nm e Γ S W A hl hc hw
  cases e with
  | List es pos=>exact Oh (as.sound A hl hc hw)
  | _=>exact fE hc
noncomputable def Ex.ix(a b:Ex Ω):Ex Ω where
 lev:=max a.lev b.lev
 chk top N nm e:=match e with | .Subscript l r _=>okE r&&(a.chk top N nm l&&b.chk top N nm r) | _=>false
 wp Γ S W:=a.wp Γ S λ x S1=>b.wp Γ S1 λ y S2=>Lh x y S2 W
 sound:=by
  intro X r top N nm e Γ S W A hl hc hw
  obtain⟨l1,l2⟩:=lv2 hl
  cases e with
  | Subscript l r' pos=>
    obtain⟨h1,h2⟩:=aa hc
    obtain⟨h2,h3⟩:=aa h2
    exact Tu ((a.sound A l1 h2 hw).mono λ x S1 q=>(b.sound A l2 h3 q).mono λ y S2 q=>Nh q) (zc h1)
  | _=>exact fE hc
structure Po(Ω:Wd) where
 lev:Nat
 chk:Bool->List Str->Nm->Option Expr->Bool
 wp:Gam->Store->(Option Int->Store->Prop)->Prop
 sound:∀{X:Cx}{r:Nat}{top:Bool}{N:List Str}{nm:Nm}{e:Option Expr}{Γ:Gam}{S:Store}{W:Option Int->Store->Prop},At Ω X r top N nm->lev≤r->chk top N nm e=true->wp Γ S W->PoD X Γ S e W
noncomputable def Po.no:Po Ω where
 lev:=0
 chk _ _ _ e:=match e with | none=>true | _=>false
 wp _ S W:=W none S
 sound:=by
  intro X r top N nm e Γ S W A hl hc hw
  cases e with
  | none=>exact UT hw
  | some e=>exact fE hc
noncomputable def Po.so(a:Ex Ω):Po Ω where
 lev:=a.lev
 chk top N nm e:=match e with | some e=>a.chk top N nm e | _=>false
 wp Γ S W:=a.wp Γ S λ d S1=>match d with | .int i=>W (some i) S1 | _=>False
 sound:=by
  intro X r top N nm e Γ S W A hl hc hw
  cases e with
  | some e=>
    refine U8 ((a.sound A hl hc hw).mono λ d S1 q=>?_)
    cases d<;>first | exact⟨_,rfl,q⟩ | exact q.elim
  | none=>exact fE hc
theorem PoD.mono{Γ:Gam}{S:Store}{e:Option Expr}{W W':Option Int->Store->Prop}(h:PoD X Γ S e W)(k:∀c S',W c S'->W' c S'):PoD X Γ S e W':=by
 cases e with
 | none=>exact k _ _ h
 | some e=>exact Ev.mono h λ d S1 ⟨i,e,w⟩=>⟨i,e,k _ _ w⟩
noncomputable def Ex.sl(a:Ex Ω)(lo hi:Po Ω):Ex Ω where
 lev:=max a.lev (max lo.lev hi.lev)
 chk top N nm e:=match e with | .Subscript l (.Slice x y none _) _=>a.chk top N nm l&&(lo.chk top N nm x&&hi.chk top N nm y) | _=>false
 wp Γ S W:=a.wp Γ S λ x S1=>lo.wp Γ S1 λ l S2=>hi.wp Γ S2 λ h S3=>Kp x l h S3 W
 sound:=by
  intro X r top N nm e Γ S W A hl hc hw
  obtain⟨l1,l2⟩:=lv2 hl
  obtain⟨l2,l3⟩:=lv2 l2
  cases e with
  | Subscript l sl pos=>
    cases sl with
    | Slice x y z p2=>
      cases z with
      | none=>
        obtain⟨h1,h2⟩:=aa hc
        obtain⟨h2,h3⟩:=aa h2
        exact LC ((a.sound A l1 h1 hw).mono λ x S1 q=>PoD.mono (lo.sound A l2 h2 q) λ l S2 q=>PoD.mono (hi.sound A l3 h3 q) λ h S3 q=>Ny q)
      | some _=>exact fE hc
    | _=>exact fE hc
  | _=>exact fE hc
noncomputable def Ex.call{x:Str}{k n:Nat}{F:Ct}(C:Callee Ω.P Ω.w Ω.K Ω.mg Ω.base x k n F)(as:Ar Ω):Ex Ω where
 lev:=max k as.lev
 chk top N nm e:=match e with | .Call (.Name y _) (a::es) [] _=>(y==x)&&(glb nm x&&(okN x&&as.chk top N nm (a::es))) | _=>false
 wp Γ S W:=as.wp Γ S λ ds S1=>ds.length=n/\F ds S1 W
 sound:=by
  intro X r top N nm e Γ S W A hl hc hw
  obtain⟨l1,l2⟩:=lv2 hl
  cases e with
  | Call f es ks pos=>
    cases f with
    | Name y p=>
      match es,ks,hc with
      | a::es,[],hc=>
        obtain⟨h1,h2⟩:=aa hc
        obtain⟨h2,h3⟩:=aa h2
        obtain⟨h3,h4⟩:=aa h3
        have e:y=x:=eq_of_beq h1
        subst e
        have pl:=as.plain h4
        rw[List.all_cons]at pl
        obtain⟨p1,p2⟩:=aa pl
        have C':Callee X.prog X.w X.K X.mg X.base y k n F:=by rw[A.p,A.w,A.k,A.g,A.b];exact C
        exact Nq C' (A.room.mono l1) (as.sound A l2 h4 hw) (A.glb h2) (gC h3).1 (aB p1 _ _) (pW p2 _ _)
      | [],_,hc=>exact fE hc
      | _::_,_::_,hc=>exact fE hc
    | _=>exact fE hc
  | _=>exact fE hc
structure Bf where
 x:Str
 id:String
 boot:bootBuiltins x=some (.builtin id)
 wp:List D->Store->WD->Prop
 sound:∀{X:Cx}{ds:List D}{S:Store}{W:WD},X.calm=true->Room 0 X.A->wp ds S W->cO X (.builtin id) ds S W
noncomputable def Ex.blt(b:Bf)(hm:Ω.mg b.x=none)(as:Ar Ω):Ex Ω where
 lev:=as.lev
 chk top N nm e:=match e with | .Call (.Name y _) (a::es) [] _=>(y==b.x)&&(glb nm b.x&&(okN b.x&&as.chk top N nm (a::es))) | _=>false
 wp Γ S W:=as.wp Γ S λ ds S1=>b.wp ds S1 W
 sound:=by
  intro X r top N nm e Γ S W A hl hc hw
  cases e with
  | Call f es ks pos=>
    cases f with
    | Name y p=>
      match es,ks,hc with
      | a::es,[],hc=>
        obtain⟨h1,h2⟩:=aa hc
        obtain⟨h2,h3⟩:=aa h2
        obtain⟨h3,h4⟩:=aa h3
        have e:y=b.x:=eq_of_beq h1
        subst e
        have pl:=as.plain h4
        rw[List.all_cons]at pl
        obtain⟨p1,p2⟩:=aa pl
        exact JV (EvA.mono (as.sound A hl h4 hw) λ ds S1 q=>b.sound A.calm (A.room.mono (Nat.zero_le _)) q) (by rw[A.g];exact hm) b.boot (A.glb h2) (gC h3).2.2 (gC h3).1 (aB p1 _ _) (pW p2 _ _)
      | [],_,hc=>exact fE hc
      | _::_,_::_,hc=>exact fE hc
    | _=>exact fE hc
  | _=>exact fE hc
structure Bc where
 x:Str
 id:String
 boot:bootBuiltins x=some (.type id)
 wp:List D->Store->WD->Prop
 sound:∀{X:Cx}{ds:List D}{S:Store}{W:WD},X.calm=true->Room 0 X.A->wp ds S W->cO X (.type id) ds S W
noncomputable def Ex.typ(b:Bc)(hm:Ω.mg b.x=none)(as:Ar Ω):Ex Ω where
 lev:=as.lev
 chk top N nm e:=match e with | .Call (.Name y _) (a::es) [] _=>(y==b.x)&&(glb nm b.x&&(okN b.x&&as.chk top N nm (a::es))) | _=>false
 wp Γ S W:=as.wp Γ S λ ds S1=>b.wp ds S1 W
 sound:=by
  intro X r top N nm e Γ S W A hl hc hw
  cases e with
  | Call f es ks pos=>
    cases f with
    | Name y p=>
      match es,ks,hc with
      | a::es,[],hc=>
        obtain⟨h1,h2⟩:=aa hc
        obtain⟨h2,h3⟩:=aa h2
        obtain⟨h3,h4⟩:=aa h3
        have e:y=b.x:=eq_of_beq h1
        subst e
        have pl:=as.plain h4
        rw[List.all_cons]at pl
        obtain⟨p1,p2⟩:=aa pl
        exact K6 (EvA.mono (as.sound A hl h4 hw) λ ds S1 q=>b.sound A.calm (A.room.mono (Nat.zero_le _)) q) (by rw[A.g];exact hm) b.boot (A.glb h2) (gC h3).2.2 (gC h3).1 (aB p1 _ _) (pW p2 _ _)
      | [],_,hc=>exact fE hc
      | _::_,_::_,hc=>exact fE hc
    | _=>exact fE hc
  | _=>exact fE hc
noncomputable def Ex.isi(hm:Ω.mg "isinstance"=none)(a:Ex Ω)(T:Ty)(hT:Ω.mg T.nm=none):Ex Ω where
 lev:=a.lev
 chk top N nm e:=match e with | .Call (.Name y _) [b,.Name t _] [] _=>(y==("isinstance":Str))&&(glb nm "isinstance"&&((t==T.nm)&&(glb nm T.nm&&(okE b&&a.chk top N nm b)))) | _=>false
 wp Γ S W:=a.wp Γ S λ d S1=>W (.bl (isD T d)) S1
 sound:=by
  intro X r top N nm e Γ S W A hl hc hw
  split at hc
  . rename_i y p b t q pos
    obtain⟨h1,g2⟩:=aa hc
    obtain⟨h2,g3⟩:=aa g2
    obtain⟨h3,g4⟩:=aa g3
    obtain⟨h4,g5⟩:=aa g4
    obtain⟨h5,h6⟩:=aa g5
    have e:y="isinstance":=eq_of_beq h1
    subst e
    have e:t=T.nm:=eq_of_beq h3
    subst e
    exact Qk (Tn:=T.id) ((a.sound A hl h6 hw).mono λ d S1 q=>by rw[QC];exact q) T.isT T.boot (by rw[A.g];exact hm) (by rw[A.g];exact hT) (A.glb h2) (A.glb h4) T.ok.2 T.ok.1 (aB h5 _ _) (aB (e:=.Name T.nm q) rfl [] _)
  . exact fE hc
end RF
namespace RF
open PySem PySem.Spec L2 DL
open PyProof.Rows
variable {Γ : Gam}
inductive Tg where
 | nm(i:Nat) | tup(is:List Nat)
noncomputable def setAll:Gam->List Nat->List D->Gam
 | Γ,i::is,d::ds=>setAll (Γ.set i (some d)) is ds
 | Γ,_,_=>Γ
noncomputable def Tg.wp:Tg->D->Gam->(Gam->Prop)->Prop
 | .nm i,d,Γ,W=>W (Γ.set i (some d))
 | .tup is,.tup ds,Γ,W=>ds.length=is.length/\W (setAll Γ is ds)
 | .tup _,_,_,_=>False
noncomputable def Tg.slots:Tg->List Nat
 | .nm i=>[i]
 | .tup is=>is
noncomputable def vP(top:Bool)(N:List Str)(nm:Nm)(i:Nat)(e:Expr):Bool:=match e with | .Name x _=>(N[i]? ==some x)&&lcl top nm x | _=>false
noncomputable def fK(top:Bool)(N:List Str)(nm:Nm):List Nat->List Expr->Bool
 | [],[]=>true
 | i::is,e::es=>vP top N nm i e&&fK top N nm is es
 | _,_=>false
noncomputable def Tg.chk(t:Tg)(top:Bool)(N:List Str)(nm:Nm)(e:Expr):Bool:=match t with
 | .nm i=>vP top N nm i e
 | .tup is=>match e with | .Tuple es _ _=>fK top N nm is es | _=>false
section
variable {Ω : Wd} {X : Cx} {r : Nat} {top : Bool} {N : List Str} {nm : Nm}
theorem Ig(A:At Ω X r top N nm){i:Nat}{e:Expr}{d:D}{Γ:Gam}{S:Store}{W:Gam->Store->Prop}(hc:vP top N nm i e=true)(hw:W (Γ.set i (some d)) S):BdW X e d Γ S W:=by
 cases e with
 | Name x pos=>
   obtain⟨h1,h2⟩:=aa hc
   have h1:N[i]? =some x:=eq_of_beq h1
   obtain⟨l1,l2⟩:=A.lcl h2
   exact Og i hw (by rw[A.n];exact A.nd) (by rw[A.n];exact h1) l1 l2
 | _=>exact fE hc
theorem yJ{i:Nat}{is:List Nat}{es:List Expr}(h:fK top N nm (i::is) es=true):∃x p es',es=.Name x p::es'/\vP top N nm i (.Name x p)=true/\fK top N nm is es'=true:=by
 cases es with
 | nil=>exact(y6 h).elim
 | cons e es=>
   obtain⟨h1,h2⟩:=aa h
   cases e with
   | Name x p=>exact⟨x,p,es,rfl,h1,h2⟩
   | _=>exact(y6 h1).elim
theorem Cp{es:List Expr}(h:fK top N nm [] es=true):es=[]:=by
 cases es with
 | nil=>rfl
 | cons e es=>exact(y6 h).elim
theorem JL(A:At Ω X r top N nm){S:Store}{W:Gam->Store->Prop}:∀{is:List Nat}{es:List Expr}{ds:List D}{Γ:Gam},fK top N nm is es=true->ds.length=is.length->W (setAll Γ is ds) S->zG X es ds Γ S W
 | [],es,ds,Γ,hc,hl,hw=>by
   have e:=Cp hc
   subst e
   have e:ds=[]:=by simpa using hl
   subst e
   exact Py hw
 | i::is,es,ds,Γ,hc,hl,hw=>by
   obtain⟨x,p,es',rfl,h1,h2⟩:=yJ hc
   cases ds with
   | nil=>simp at hl
   | cons d ds=>exact K7 (Ig A h1 (JL A h2 (by simpa using hl) hw)) rfl
theorem De:∀{is:List Nat}{es:List Expr},fK top N nm is es=true->∀env:Env,(assignEach es env).length=is.length/\(assignEach es env).findIdx? (·.1)=none
 | [],es,hc,env=>by
   have e:=Cp hc
   subst e
   exact⟨rfl,rfl⟩
 | i::is,es,hc,env=>by
   obtain⟨x,p,es',rfl,h1,h2⟩:=yJ hc
   obtain⟨a,b⟩:=De h2 env
   have e:assignEach (.Name x p::es') env=(false,assign (.Name x p) env)::assignEach es' env:=rfl
   rw[e]
   refine⟨by simp[a],?_⟩
   rw[List.findIdx?_cons,b]
   rfl
theorem Tg.sound(A:At Ω X r top N nm){t:Tg}{e:Expr}{d:D}{Γ:Gam}{S:Store}{W:Gam->Store->Prop}(hc:t.chk top N nm e=true)(hw:t.wp d Γ λ Γ'=>W Γ' S):BdW X e d Γ S W:=by
 cases t with
 | nm i=>exact Ig A hc hw
 | tup is=>
   cases e with
   | Tuple es k pos=>
     have hc:fK top N nm is es=true:=hc
     cases d with
     | tup ds=>
       obtain⟨hl,hw⟩:ds.length=is.length/\W (setAll Γ is ds) S:=hw
       obtain⟨a,b⟩:=De hc X.env
       exact QX (JL A hc hl hw) A.calm (a.trans hl.symm) b
     | _=>exact hw.elim
   | _=>exact fE hc
end
theorem Sub.setAll{Γ:Gam}:∀{is:List Nat}{ds:List D}{Γ':Gam},Sub Γ Γ'->(∀i∈is,Γ[i]? =some none)->Sub Γ (RF.setAll Γ' is ds)
 | [],ds,Γ',h,_=>by cases ds<;>exact h
 | i::is,[],Γ',h,_=>h
 | i::is,d::ds,Γ',h,hi=>show Sub Γ (RF.setAll (Γ'.set i (some d)) is ds)from Sub.setAll (Γ':=Γ'.set i (some d)) (h.set i (some d) (hi i x5)) λ j hj=>hi j (x3 _ hj)
theorem Ik{cap:List (Option Nat)}{i:Nat}(h:cap[i]? =some none):(capt cap Γ)[i]? =some none:=by
 unfold capt
 rw[y8,h];rfl
structure Itb(Ω:Wd) where
 lev:Nat
 chk:Bool->List Str->Nm->Expr->Expr->Bool
 wp:Gam->Store->(List D->Store->Prop)->Prop
 sound:∀{X:Cx}{r:Nat}{top:Bool}{N:List Str}{nm:Nm}{tg e:Expr}{Γ:Gam}{S:Store}{W:List D->Store->Prop},At Ω X r top N nm->lev≤r->chk top N nm tg e=true->wp Γ S W->ItW X Γ S tg e W
theorem Ry{X:Cx}{S:Store}{tg e:Expr}{W:List D->Store->Prop}(h:Ev X Γ S e λ d S1=>match d with | .lst ds=>W ds S1 | .tup ds=>W ds S1 | _=>False):ItW X Γ S tg e W:=by
 intro pins s σ H O I env st
 refine thn (h pins s σ H O I env st) λ u s1 hq_=>?_
 obtain⟨v,H1,I1,r1,O1,d,S1,w,st1,ok1,rep⟩:=hq_
 cases rep with
 | @lst a xs ds h1 q1=>
   cases r1
   obtain⟨its,rv,p,hz⟩:=I1.list h1.sq
   refine wpAny_pyIter_list p.isList ?_
   refine⟨s1.heap.objs.size,[s1.heap.objs.size],_,_,H1,rfl,I1.kept (t':=s1.toks) λ b o e=>Heap.get?_push_of_some _ e,mj a _,⟨_,Heap.get?_push_size _ rfl,rfl,rfl⟩,λ b hb=>?_,O1,ds,S1,w,st1,ok1,ou h1 q1⟩
   have e:b=s1.heap.objs.size:=by simpa using hb
   subst e
   exact I1.fpOk (y9 _) (I1.hok.fresh (y9 _))
 | @tup a xs ds h1 q1=>
   cases r1
   obtain⟨its,rv,p,hz⟩:=I1.tuple h1.sq
   refine wpAny_pyIter_tuple (show s1.heap.IsTuple a its.toArray from p) ?_
   refine⟨s1.heap.objs.size,[s1.heap.objs.size],_,_,H1,rfl,I1.kept (t':=s1.toks) λ b o e=>Heap.get?_push_of_some _ e,qj a _,⟨_,Heap.get?_push_size _ rfl,rfl,rfl⟩,λ b hb=>?_,O1,ds,S1,w,st1,ok1,qH h1 q1⟩
   have e:b=s1.heap.objs.size:=by simpa using hb
   subst e
   exact I1.fpOk (y9 _) (I1.hok.fresh (y9 _))
 | _=>exact w.elim
variable {Ω : Wd}
noncomputable def Itb.seq(a:Ex Ω):Itb Ω where
 lev:=a.lev
 chk top N nm _ e:=a.chk top N nm e
 wp Γ S W:=a.wp Γ S λ d S1=>match d with | .lst ds=>W ds S1 | .tup ds=>W ds S1 | _=>False
 sound:=by
  intro X r top N nm tg e Γ S W A hl hc hw
  exact Ry (a.sound A hl hc hw)
noncomputable def Itb.rng1(hm:Ω.mg "range"=none)(a:Ex Ω):Itb Ω where
 lev:=a.lev
 chk top N nm _ e:=match e with | .Call (.Name y _) [b] [] _=>(y==("range":Str))&&(glb nm "range"&&(okE b&&a.chk top N nm b)) | _=>false
 wp Γ S W:=a.wp Γ S λ d S1=>match d with | .int j=>(-(2 ^ 62)≤j/\j<2 ^ 62)/\W (upTo 0 j.toNat) S1 | _=>False
 sound:=by
  intro X r top N nm tg e Γ S W A hl hc hw
  split at hc
  . rename_i y p b pos
    obtain⟨h1,g2⟩:=aa hc
    obtain⟨h2,g3⟩:=aa g2
    obtain⟨h3,h4⟩:=aa g3
    have e:y="range":=eq_of_beq h1
    subst e
    refine Je ((a.sound A hl h4 hw).mono λ d S1 q=>?_) (by rw[A.g];exact hm) (A.glb h2) (aB h3 [] _)
    cases d<;>first | exact⟨_,rfl,q.1.1,q.1.2,q.2⟩ | exact q.elim
  . exact fE hc
noncomputable def Itb.rng2(hm:Ω.mg "range"=none)(a b:Ex Ω):Itb Ω where
 lev:=max a.lev b.lev
 chk top N nm _ e:=match e with | .Call (.Name y _) [l,r] [] _=>(y==("range":Str))&&(glb nm "range"&&((okE l&&okE r)&&(a.chk top N nm l&&b.chk top N nm r))) | _=>false
 wp Γ S W:=a.wp Γ S λ d S1=>b.wp Γ S1 λ d' S2=>match d,d' with | .int i,.int j=>(-(2 ^ 62)≤i/\i<2 ^ 62/\ -(2 ^ 62)≤j/\j<2 ^ 62)/\W (upTo i (j-i).toNat) S2 | _,_=>False
 sound:=by
  intro X r top N nm tg e Γ S W A hl hc hw
  obtain⟨l1,l2⟩:=lv2 hl
  split at hc
  . rename_i y p l r' pos
    obtain⟨h1,g2⟩:=aa hc
    obtain⟨h2,g3⟩:=aa g2
    obtain⟨h3,h4⟩:=aa g3
    obtain⟨h5,h6⟩:=aa h3
    obtain⟨h7,h8⟩:=aa h4
    have e:y="range":=eq_of_beq h1
    subst e
    refine Ji ((a.sound A l1 h7 hw).mono λ d S1 q=>(b.sound A l2 h8 q).mono λ d' S2 q=>?_) (by rw[A.g];exact hm) (A.glb h2) (by rw[aB h5,aB h6];rfl) (aB h6 [] _)
    cases d<;>first | exact q.elim | (cases d'<;>first | exact⟨_,_,rfl,rfl,q.1,q.2⟩ | exact q.elim)
  . exact fE hc
structure Cd(Ω:Wd) where
 lev:Nat
 chk:Bool->List Str->Nm->List Expr->Bool
 wp:Gam->Store->(Bool->Store->Prop)->Prop
 sound:∀{X:Cx}{r:Nat}{top:Bool}{N:List Str}{nm:Nm}{es:List Expr}{Γ:Gam}{S:Store}{W:Bool->Store->Prop},At Ω X r top N nm->lev≤r->chk top N nm es=true->wp Γ S W->TsA X Γ S es W
noncomputable def Cd.no:Cd Ω where
 lev:=0
 chk _ _ _ es:=match es with | []=>true | _=>false
 wp _ S W:=W true S
 sound:=by
  intro X r top N nm es Γ S W A hl hc hw
  match es,hc with
  | [],_=>exact hw
  | _::_,hc=>exact fE hc
noncomputable def Cd.so(t:Te Ω):Cd Ω where
 lev:=t.lev
 chk top N nm es:=match es with | [e]=>t.chk top N nm e | _=>false
 wp Γ S W:=t.wp Γ S W
 sound:=by
  intro X r top N nm es Γ S W A hl hc hw
  match es,hc with
  | [e],hc=>exact Ti (t.sound A hl hc hw)
  | [],hc=>exact fE hc
  | _::_::_,hc=>exact fE hc
@[irreducible] noncomputable def mX(cap:List (Option Nat))(Γ:Gam)(elt:Ex Ω)(tg:Tg)(cd:Cd Ω)(W:WD)(ds:List D)(C0:Store->Prop)(S1:Store):Prop:=
  ds.length≤1000000/\∃Pv:Nat->List D->Store->Prop,Pv 0 [] S1/\(∀i acc S',Pv i acc S'->C0 S')/\
   (∀i d acc S',ds[i]? =some d->Pv i acc S'->tg.wp d (capt cap Γ) λ Γ2=>cd.wp Γ2 S' λ ok S3=>(ok=true->elt.wp Γ2 S3 λ y S4=>Pv (i+1) (acc++[y]) S4)/\(ok=false->Pv (i+1) acc S3))/\
   ∀acc S',Pv ds.length acc S'->W (.lst acc) S'∨W (.loc S'.length) (S'++[acc])
noncomputable abbrev m9(cap:List (Option Nat))(Γ:Gam)(elt:Ex Ω)(tg:Tg)(cd:Cd Ω)(W:WD)(ds:List D)(S1:Store):Prop:=mX cap Γ elt tg cd W ds (λ _=>True) S1
theorem oY{cap:List (Option Nat)}{elt:Ex Ω}{tg:Tg}{cd:Cd Ω}{W:WD}{ds:List D}{C0:Store->Prop}{S1:Store}(h:ds.length≤1000000/\∃Pv:Nat->List D->Store->Prop,Pv 0 [] S1/\(∀i acc S',Pv i acc S'->C0 S')/\
 (∀i d acc S',ds[i]? =some d->Pv i acc S'->tg.wp d (capt cap Γ) λ Γ2=>cd.wp Γ2 S' λ ok S3=>(ok=true->elt.wp Γ2 S3 λ y S4=>Pv (i+1) (acc++[y]) S4)/\(ok=false->Pv (i+1) acc S3))/\
 ∀acc S',Pv ds.length acc S'->W (.lst acc) S'∨W (.loc S'.length) (S'++[acc])):mX cap Γ elt tg cd W ds C0 S1:=by unfold mX;exact h
theorem jc{cap:List (Option Nat)}{elt:Ex Ω}{tg:Tg}{cd:Cd Ω}{W:WD}{ds:List D}{S1:Store}(h:ds.length≤1000000/\∃Pv:Nat->List D->Store->Prop,Pv 0 [] S1/\
 (∀i d acc S',ds[i]? =some d->Pv i acc S'->tg.wp d (capt cap Γ) λ Γ2=>cd.wp Γ2 S' λ ok S3=>(ok=true->elt.wp Γ2 S3 λ y S4=>Pv (i+1) (acc++[y]) S4)/\(ok=false->Pv (i+1) acc S3))/\
 ∀acc S',Pv ds.length acc S'->W (.lst acc) S'):m9 cap Γ elt tg cd W ds S1:=by
 obtain⟨hz,Pv,p0,pt,pe⟩:=h
 exact oY ⟨hz,Pv,p0,λ _ _ _ _=>trivial,pt,λ acc S' q=>.inl (pe acc S' q)⟩
noncomputable def mZ(N':List Str)(cap:List (Option Nat))(elt:Ex Ω)(tg:Tg)(it:Itb Ω)(cd:Cd Ω)(top:Bool)(N:List Str)(nm:Nm)(e:Expr):Bool:=match e with
 | .ListComp x [⟨t,i,cs,0⟩] sc _=>(sc.kind==.function)&&(zR sc.names&&(freeOk nm sc.names&&((sc.names.all λ y=>!(y.2==.local)||(sc.names.lookup y.1==some .local))&&(aZ N nm N' sc.names cap N'&&
  (okE i&&((tg.slots.all λ j=>cap[j]? ==some none)&&(decide N'.Nodup&&(it.chk top N nm t i&&(tg.chk false N' sc.names t&&(cd.chk false N' sc.names cs&&elt.chk false N' sc.names x))))))))))
 | _=>false
section
variable {X : Cx} {r : Nat} {top : Bool} {N : List Str} {nm : Nm}
theorem tR(A:At Ω X r top N nm){x:Str}(h:nm.lookup x=some .cell∨nm.lookup x=some .free):X.env.scope.names.lookup x=some .cell∨X.env.scope.names.lookup x=some .free:=by
 rcases h with h | h
 . rcases A.look x _ h with q | ⟨q,_⟩
   . exact .inl q
   . exact nomatch q
 . rcases A.look x _ h with q | ⟨_,q⟩
   . exact .inr q
   . exact .inl q
theorem tY(A:At Ω X r top N nm){names:Nm}(h:freeOk nm names=true):freeOk X.env.scope.names names=true:=by
 unfold freeOk
 refine List.all_eq_true.mpr λ y hy=>?_
 by_cases e:y.2=.free
 . have:=tR A (lH h y hy e)
   rcases this with q | q<;>simp[q]
 . simp[e]
theorem jB(A:At Ω X r top N nm){N':List Str}{names':Nm}:∀{cap:List (Option Nat)}{t:List Str},aZ N nm N' names' cap t=true->aZ X.N X.env.scope.names N' names' cap t=true
 | [],[],_=>rfl
 | [],_::_,h=>by simp[aZ]at h
 | none::_,[],h=>by simp[aZ]at h
 | some _::_,[],h=>by simp[aZ]at h
 | none::r,_::t,h=>by simp only[aZ]at h ⊢;exact jB A h
 | some j::r,x::t,h=>by
   simp only[aZ,Bool.and_eq_true,Bool.or_eq_true,beq_iff_eq]at h ⊢
   exact⟨⟨⟨by rw[A.n];exact h.1.1.1,tR A h.1.1.2⟩,h.1.2⟩,jB A h.2⟩
theorem Qw(A:At Ω X r top N nm){sc:Scope}{N':List Str}{C:Addr}{s:Shared}{H:Hp}{ex:List Addr}{cl:List (Str×Addr)}(hk:sc.kind=.function)(nd:N'.Nodup):At Ω (fB X sc N' C s H ex cl) r false N' sc.names where
 p:=A.p
 w:=A.w
 k:=A.k
 g:=A.g
 b:=A.b
 room:=A.room
 xe:=A.xe
 calm:=A.calm
 n:=rfl
 nd:=nd
 kind:=hk
 look:=by
  intro x k h
  show(relabel sc X.env).names.lookup x=some k∨_
  rw[jU,d7,h]
  rcases pD X.env x k with q | ⟨q1,q2⟩
  . exact .inl (congrArg some q)
  . refine .inr ⟨q1,?_⟩
    show(relabel sc X.env).names.lookup x=some .cell
    rw[jU,d7,h]
    exact congrArg some q2
 fn:=λ x h=>by show(sc.names.lookup x==some .cell)=true;rw[h];rfl
theorem pQ(A:At Ω X r top N nm){sc:Scope}{N':List Str}{cap:List (Option Nat)}{elt:Ex Ω}{tg:Tg}{cd:Cd Ω}{x t:Expr}{cs:List Expr}{Γ:Gam}{W:WD}{ds:List D}{C0:Store->Prop}{S1:Store}(le:elt.lev≤r)(lc:cd.lev≤r)(hk:sc.kind=.function)(nd:N'.Nodup)(hs:(tg.slots.all λ j=>cap[j]? ==some none)=true)
 (ht:tg.chk false N' sc.names t=true)(hcd:cd.chk false N' sc.names cs=true)(he:elt.chk false N' sc.names x=true)(h:mX cap Γ elt tg cd W ds C0 S1):vO X sc N' cap Γ x t cs W ds C0 S1:=by
 unfold mX at h
 obtain⟨hz,Pv,p0,pC,pt,pe⟩:=h
 refine⟨hz,Pv,p0,pC,λ i d acc S' hd hp C s H ex cl=>?_,pe⟩
 have B:=Qw A (C:=C) (s:=s) (H:=H) (ex:=ex) (cl:=cl) hk nd
 have sl:∀j∈tg.slots,(capt cap Γ)[j]? =some none:=λ j hj=>Ik (by
  have:=List.all_eq_true.mp hs j hj
  exact eq_of_beq this)
 have base:=pt i d acc S' hd hp
 have go:∀Γ2,(cd.wp Γ2 S' λ ok S3=>(ok=true->elt.wp Γ2 S3 λ y S4=>Pv (i+1) (acc++[y]) S4)/\(ok=false->Pv (i+1) acc S3))->
  TsA (fB X sc N' C s H ex cl) Γ2 S' cs λ ok S3=>(ok=true->Ev (fB X sc N' C s H ex cl) Γ2 S3 x λ y S4=>Pv (i+1) (acc++[y]) S4)/\(ok=false->Pv (i+1) acc S3):=by
  intro Γ2 q
  have:=cd.sound B lc hcd q
  match cs,this with
  | [],this=>exact⟨λ hk=>elt.sound B le he (this.1 hk),this.2⟩
  | [c],this=>exact Ts.mono this λ ok S3 z=>⟨λ hk=>elt.sound B le he (z.1 hk),z.2⟩
  | _::_::_,this=>exact this.elim
 refine Tg.sound B (W:=λ Γ2 S2=>Sub (capt cap Γ) Γ2/\TsA (fB X sc N' C s H ex cl) Γ2 S2 cs λ ok S3=>(ok=true->Ev (fB X sc N' C s H ex cl) Γ2 S3 x λ y S4=>Pv (i+1) (acc++[y]) S4)/\(ok=false->Pv (i+1) acc S3)) ht ?_
 cases tg with
 | nm j=>exact⟨(Sub.refl _).set j _ (sl j (by simp[Tg.slots])),go _ base⟩
 | tup is=>
   cases d with
   | tup es=>exact⟨base.1,Sub.setAll (Sub.refl _) sl,go _ base.2⟩
   | _=>exact base.elim
end
noncomputable def Ex.comp(N':List Str)(cap:List (Option Nat))(elt:Ex Ω)(tg:Tg)(it:Itb Ω)(cd:Cd Ω):Ex Ω where
 lev:=max elt.lev (max it.lev cd.lev)
 chk top N nm e:=mZ N' cap elt tg it cd top N nm e
 wp Γ S W:=it.wp Γ S λ ds S1=>m9 cap Γ elt tg cd W ds S1
 sound:=by
  intro X r top N nm e Γ S W A hl hc hw
  obtain⟨l1,l2⟩:=lv2 hl
  obtain⟨l2,l3⟩:=lv2 l2
  unfold mZ at hc
  split at hc
  . rename_i x t i cs sc pos
    obtain⟨h1,hc⟩:=aa hc
    obtain⟨h2,hc⟩:=aa hc
    obtain⟨h3,hc⟩:=aa hc
    obtain⟨h4,hc⟩:=aa hc
    obtain⟨h5,hc⟩:=aa hc
    obtain⟨h6,hc⟩:=aa hc
    obtain⟨h7,hc⟩:=aa hc
    obtain⟨h8,hc⟩:=aa hc
    obtain⟨h9,hc⟩:=aa hc
    obtain⟨h10,hc⟩:=aa hc
    obtain⟨h11,h12⟩:=aa hc
    have hk:sc.kind=.function:=eq_of_beq h1
    refine Pu N' cap (ItW.toC (ItW.mono (it.sound A l2 h9 hw) λ ds S1 q=>pQ A l1 l3 hk (of_decide_eq_true h8) h7 h10 h11 h12 q)) A.xe A.calm hk h2 (tY A h3) (λ y hy e=>?_) (jB A h5) (mV h6 _)
    . have:=List.all_eq_true.mp h4 y hy
      simpa[e]using this
  . exact fE hc
end RF
namespace RF
open PySem PySem.Spec L2 DL
open PyProof.Rows
variable {Ω : Wd}
theorem Jm{e:Expr}(h:noC e=true)(t:Expr)(l:Nat)(env:Env):swapsWithSole [t] e l env=pure false:=by
 unfold swapsWithSole
 exact jw h (some t) l env
structure Sm(Ω:Wd) where
 lev:Nat
 chk:Bool->List Str->Nm->Stmt->Bool
 wp:Gam->Store->DL.Fin->Prop
 sound:∀{X:Cx}{r:Nat}{top:Bool}{N:List Str}{nm:Nm}{st:Stmt}{Γ:Gam}{S:Store}{W:DL.Fin},At Ω X r top N nm->lev≤r->chk top N nm st=true->wp Γ S W->Rn X Γ S st W
structure Bl(Ω:Wd) where
 lev:Nat
 chk:Bool->List Str->Nm->List Stmt->Bool
 wp:Gam->Store->DL.Fin->Prop
 sound:∀{X:Cx}{r:Nat}{top:Bool}{N:List Str}{nm:Nm}{sts:List Stmt}{Γ:Gam}{S:Store}{W:DL.Fin},At Ω X r top N nm->lev≤r->chk top N nm sts=true->wp Γ S W->Rns X Γ S sts W
noncomputable def Bl.nil:Bl Ω where
 lev:=0
 chk _ _ _ sts:=match sts with | []=>true | _=>false
 wp Γ S W:=W.nx Γ S
 sound:=by
  intro X r top N nm sts Γ S W A hl hc hw
  match sts,hc with
  | [],_=>exact Ro hw
  | _::_,hc=>exact fE hc
noncomputable def Bl.cons(s:Sm Ω)(b:Bl Ω):Bl Ω where
 lev:=max s.lev b.lev
 chk top N nm sts:=match sts with | st::sts=>s.chk top N nm st&&b.chk top N nm sts | _=>false
 wp Γ S W:=s.wp Γ S {W with nx:=λ Γ1 S1=>b.wp Γ1 S1 W}
 sound:=by
  intro X r top N nm sts Γ S W A hl hc hw
  obtain⟨l1,l2⟩:=lv2 hl
  match sts,hc with
  | st::sts,hc=>
    obtain⟨h1,h2⟩:=aa hc
    exact NK (Rn.mono (s.sound A l1 h1 hw) (λ G S1 q=>b.sound A l2 h2 q) (λ _ _ q=>q) (λ _ _ q=>q) λ _ _ q=>q)
  | [],hc=>exact fE hc
noncomputable def Sm.ret(a:Ex Ω):Sm Ω where
 lev:=a.lev
 chk top N nm st:=match st with | .Return (some e) _=>a.chk top N nm e | _=>false
 wp Γ S W:=a.wp Γ S W.rt
 sound:=by
  intro X r top N nm st Γ S W A hl hc hw
  cases st with
  | Return o pos=>
    cases o with
    | some e=>exact R9 (a.sound A hl hc hw)
    | none=>exact fE hc
  | _=>exact fE hc
noncomputable def Sm.expr(a:Ex Ω):Sm Ω where
 lev:=a.lev
 chk top N nm st:=match st with | .Expr e _=>noC e&&a.chk top N nm e | _=>false
 wp Γ S W:=a.wp Γ S λ _ S1=>W.nx Γ S1
 sound:=by
  intro X r top N nm st Γ S W A hl hc hw
  cases st with
  | Expr e pos=>
    obtain⟨h1,h2⟩:=aa hc
    exact Ru (a.sound A hl h2 hw) (jw h1 _ _ _)
  | _=>exact fE hc
noncomputable def Sm.ite(c:Te Ω)(a b:Bl Ω):Sm Ω where
 lev:=max c.lev (max a.lev b.lev)
 chk top N nm st:=match st with | .If t xs ys _=>c.chk top N nm t&&(a.chk top N nm xs&&b.chk top N nm ys) | _=>false
 wp Γ S W:=c.wp Γ S λ k S1=>(k=true->a.wp Γ S1 W)/\(k=false->b.wp Γ S1 W)
 sound:=by
  intro X r top N nm st Γ S W A hl hc hw
  obtain⟨l1,l2⟩:=lv2 hl
  obtain⟨l2,l3⟩:=lv2 l2
  cases st with
  | If t xs ys pos=>
    obtain⟨h1,h2⟩:=aa hc
    obtain⟨h2,h3⟩:=aa h2
    exact Ut (Ts.mono (c.sound A l1 h1 hw) λ k S1 q=>⟨λ hk=>a.sound A l2 h2 (q.1 hk),λ hk=>b.sound A l3 h3 (q.2 hk)⟩)
  | _=>exact fE hc
noncomputable def Sm.set(i:Nat)(a:Ex Ω):Sm Ω where
 lev:=a.lev
 chk top N nm st:=match st with | .Assign [.Name x _] e _=>(N[i]? ==some x)&&(lcl top nm x&&(noC e&&a.chk top N nm e)) | _=>false
 wp Γ S W:=a.wp Γ S λ d S1=>W.nx (Γ.set i (some d)) S1
 sound:=by
  intro X r top N nm st Γ S W A hl hc hw
  split at hc
  . obtain⟨h1,h2⟩:=aa hc
    obtain⟨h2,h3⟩:=aa h2
    obtain⟨h3,h4⟩:=aa h3
    obtain⟨l1,l2⟩:=A.lcl h2
    exact MT i (a.sound A hl h4 hw) (by rw[A.n];exact A.nd) (by rw[A.n];exact eq_of_beq h1) l1 (jw h3 _ _ _) l2
  . exact fE hc
noncomputable def Sm.setC(i:Nat)(N':List Str)(cap:List (Option Nat))(elt:Ex Ω)(tg:Tg)(it:Itb Ω)(cd:Cd Ω):Sm Ω where
 lev:=max elt.lev (max it.lev cd.lev)
 chk top N nm st:=match st with | .Assign [.Name x p] e _=>(N[i]? ==some x)&&(lcl top nm x&&(top&&(mZ N' cap elt tg it cd top N nm e))) | _=>false
 wp Γ S W:=it.wp Γ S λ ds S1=>m9 cap Γ elt tg cd (λ d S2=>W.nx (Γ.set i (some d)) S2) ds S1
 sound := by
  intro X r top N nm st Γ S W A hl hc hw
  split at hc
  . rename_i x p e spos
    obtain⟨k1,q1⟩:=aa hc
    obtain⟨k2,q2⟩:=aa q1
    obtain⟨k0,hcomp⟩:=aa q2
    obtain⟨l1,l2⟩:=A.lcl k2
    have hN:X.N[i]? =some x:=by rw[A.n];exact eq_of_beq k1
    have nd:X.N.Nodup:=by rw[A.n];exact A.nd
    have hc2:=hcomp
    obtain⟨le,l3⟩:=lv2 hl
    obtain⟨li,lc⟩:=lv2 l3
    unfold mZ at hc2
    split at hc2
    . rename_i x' t i' cs sc pos
      obtain⟨h1,hc⟩:=aa hc2
      obtain⟨h2,hc⟩:=aa hc
      obtain⟨h3,hc⟩:=aa hc
      obtain⟨h4,hc⟩:=aa hc
      obtain⟨h5,hc⟩:=aa hc
      obtain⟨h6,hc⟩:=aa hc
      obtain⟨h7,hc⟩:=aa hc
      obtain⟨h8,hc⟩:=aa hc
      obtain⟨h9,hc⟩:=aa hc
      obtain⟨h10,hc⟩:=aa hc
      obtain⟨h11,h12⟩:=aa hc
      have hk:sc.kind=.function:=eq_of_beq h1
      by_cases hb:(X.env.blockKind==.function&&X.env.kindOf x==some .local&&p.line==(Expr.ListComp x' [⟨t,i',cs,0⟩] sc pos).pos.line&& !(sc.names.any λ(n,k)=>n==x&&(k==.local||k==.cell)))=true
      . refine GZ i N' cap (ItW.toC (ItW.mono (it.sound A li h9 hw) λ ds S1 q=>pQ A le lc hk (of_decide_eq_true h8) h7 h10 h11 h12 q)) nd hN l1 ?_ l2 A.xe A.calm hk h2 (tY A h3) (λ y hy e=>?_) (jB A h5) (mV h6 _)
        . show(pure (X.env.blockKind==.function&&X.env.kindOf x==some .local&&p.line==(Expr.ListComp x' [⟨t,i',cs,0⟩] sc pos).pos.line&& !(sc.names.any λ(n,k)=>n==x&&(k==.local||k==.cell))):Sem Bool)=pure true
          rw[hb]
        . have:=List.all_eq_true.mp h4 y hy
          simpa[e]using this
      . have hb:_=false:=Bool.eq_false_iff.mpr hb
        refine MT i ((Ex.comp N' cap elt tg it cd).sound A hl hcomp hw) nd hN l1 ?_ l2
        show(pure (X.env.blockKind==.function&&X.env.kindOf x==some .local&&p.line==(Expr.ListComp x' [⟨t,i',cs,0⟩] sc pos).pos.line&& !(sc.names.any λ(n,k)=>n==x&&(k==.local||k==.cell))):Sem Bool)=pure false
        rw[hb]
    . exact(y6 hc2).elim
  . exact fE hc
noncomputable def Sm.setIx(o i a:Ex Ω):Sm Ω where
 lev:=max a.lev (max o.lev i.lev)
 chk top N nm st:=match st with | .Assign [.Subscript x y _] e _=>noC e&&(okE y&&(a.chk top N nm e&&(o.chk top N nm x&&i.chk top N nm y))) | _=>false
 wp Γ S W:=a.wp Γ S λ d S1=>o.wp Γ S1 λ x S2=>i.wp Γ S2 λ y S3=>match x,y with | .loc k,.int n=>∃ds j,S3[k]? =some ds/\ixN ds.length n=some j/\W.nx Γ (S3.set k (ds.set j d)) | _,_=>False
 sound:=by
  intro X r top N nm st Γ S W A hl hc hw
  obtain⟨l1,l2⟩:=lv2 hl
  obtain⟨l2,l3⟩:=lv2 l2
  split at hc
  . rename_i x y p e spos
    obtain⟨h1,hc⟩:=aa hc
    obtain⟨h2,hc⟩:=aa hc
    obtain⟨h3,hc⟩:=aa hc
    obtain⟨h4,h5⟩:=aa hc
    refine Pa ((a.sound A l1 h3 hw).mono λ d S1 q=>(o.sound A l2 h4 q).mono λ x S2 q=>(i.sound A l3 h5 q).mono λ y S3 q=>?_) ?_ (Jm h1 _ _ _) ?_ rfl
    . cases x<;>first | exact q.elim | (cases y<;>first | exact q.elim | (obtain⟨ds,j,a,b,c⟩:=q;exact⟨_,_,ds,j,rfl,rfl,a,b,c⟩))
    . intro v
      cases y<;>first | rfl | exact(y6 h2).elim
    . rfl
  . exact fE hc
@[irreducible] noncomputable def iU(Γ:Gam)(tg:Tg)(body:Bl Ω)(W:DL.Fin)(ds:List D)(S1:Store):Prop:=
  ∃Pv:Nat->Gam->Store->Prop,Pv 0 Γ S1/\(∀i d Γ' S',ds[i]? =some d->Pv i Γ' S'->tg.wp d Γ' λ Γ2=>body.wp Γ2 S' {W with nx:=Pv (i+1),ct:=Pv (i+1),bk:=W.nx})/\(∀Γ' S',Pv ds.length Γ' S'->W.nx Γ' S')
theorem aV{Γ:Gam}{tg:Tg}{body:Bl Ω}{W:DL.Fin}{ds:List D}{S1:Store}(h:∃Pv:Nat->Gam->Store->Prop,Pv 0 Γ S1/\(∀i d Γ' S',ds[i]? =some d->Pv i Γ' S'->tg.wp d Γ' λ Γ2=>body.wp Γ2 S' {W with nx:=Pv (i+1),ct:=Pv (i+1),bk:=W.nx})/\(∀Γ' S',Pv ds.length Γ' S'->W.nx Γ' S')):iU Γ tg body W ds S1:=by unfold iU;exact h
noncomputable def Sm.for(tg:Tg)(it:Itb Ω)(body:Bl Ω):Sm Ω where
 lev:=max it.lev body.lev
 chk top N nm st:=match st with | .For t i b [] _=>okE i&&(tg.chk top N nm t&&(it.chk top N nm t i&&body.chk top N nm b)) | _=>false
 wp Γ S W:=it.wp Γ S λ ds S1=>iU Γ tg body W ds S1
 sound:=by
  intro X r top N nm st Γ S W A hl hc hw
  obtain⟨l1,l2⟩:=lv2 hl
  split at hc
  . rename_i t i b pos
    obtain⟨h1,hc⟩:=aa hc
    obtain⟨h2,hc⟩:=aa hc
    obtain⟨h3,h4⟩:=aa hc
    refine R8 (ItW.mono (it.sound A l1 h3 hw) λ ds S1 q=>?_) (by rw[A.xe];exact PassesOwn.never) A.calm (mV h1 _)
    unfold iU at q
    obtain⟨Pv,p0,pt,pe⟩:=q
    refine⟨Pv,p0,λ i d Γ' S' hd hp=>BdW.mono (Tg.sound A (W:=λ Γ2 S2=>body.wp Γ2 S2 {W with nx:=Pv (i+1),ct:=Pv (i+1),bk:=W.nx}) h2 (pt i d Γ' S' hd hp)) λ Γ2 S2 q=>body.sound A l2 h4 q,pe⟩
  . exact fE hc
noncomputable def Sd(N ps:List Str)(sm:Stmt)(k:Nat)(body:Bl Ω):Bool:=
 ((aL sm).kind==.function)&&(!(aL sm).isCoroutine&&(!(aL sm).isGenerator&&(decide N.Nodup&&(decide (N.take ps.length=ps)&&((ps.all λ x=>(aL sm).names.lookup x==some .local||(aL sm).names.lookup x==some .cell)&&
   (((aL sm).names.all λ y=>!(y.2==.free))&&(Nat.ble body.lev k&&body.chk true N (aL sm).names (cj sm))))))))
theorem aA{x qual:Str}{sm:Stmt}{f:Addr}{fd:FuncData}{N ps:List Str}{k:Nat}{F:Ct}(FF:Fun Ω.K x qual sm f fd)(body:Bl Ω)(hc:Sd N ps sm k body=true)
 (vc:∀(ds:List D)(S:Store)(W:WD),F ds S W->ds.length=ps.length->body.wp (ds.map some++List.replicate (N.length-ds.length) none) S {nx:=λ _ S1=>W .non S1,rt:=W}):FnOk Ω.P Ω.w Ω.K Ω.mg Ω.base CX0 (k+1) f fd ps (spC Ω.K ps.length F):=by
 obtain⟨h1,hc⟩:=aa hc
 obtain⟨h2,hc⟩:=aa hc
 obtain⟨h3,hc⟩:=aa hc
 obtain⟨h4,hc⟩:=aa hc
 obtain⟨h5,hc⟩:=aa hc
 obtain⟨h6,hc⟩:=aa hc
 obtain⟨h7,hc⟩:=aa hc
 obtain⟨h8,h9⟩:=aa hc
 have nd:N.Nodup:=of_decide_eq_true h4
 have sc:FnScope N ps (aL sm):=⟨eq_of_beq h1,nt h2,nt h3,nd,of_decide_eq_true h5,λ x hx=>by
  have:=List.all_eq_true.mp h6 x hx
  simpa using this,λ y hy e=>by
  have:=List.all_eq_true.mp h7 y hy
  simp[e]at this⟩
 refine Tf FF sc λ cdv A outer s H E ds S W hr hl h=>?_
 refine body.sound (r:=k) (top:=true) (N:=N) (nm:=(aL sm).names) ⟨rfl,rfl,rfl,rfl,rfl,hr,rfl,rfl,rfl,nd,sc.kind,λ x kk h=>.inl h,λ _ _=>rfl⟩ (Nat.le_of_ble_eq_true h8) h9 (vc ds S W h hl)
theorem callee{x qual:Str}{sm:Stmt}{f:Addr}{fd:FuncData}{ps:List Str}{k n:Nat}{F:Ct}(FF:Fun Ω.K x qual sm f fd)(h:FnOk Ω.P Ω.w Ω.K Ω.mg Ω.base CX0 k f fd ps (spC Ω.K n F))(hm:Ω.mg x=some (.ref f))(b:Binds Ω.K fd ps []):Callee Ω.P Ω.w Ω.K Ω.mg Ω.base x k n F:=⟨f,fd,ps,h,hm,FF.kp,b⟩
end RF
namespace RF
open PySem PySem.Spec L2 DL
open PyProof.Rows
noncomputable def bz:Bf where
 x:="len"
 id:="len"
 boot:=by decide+kernel
 wp ds S W:=match ds with
  | [.tup ds]=>W (.int ds.length) S
  | [.lst ds]=>W (.int ds.length) S
  | [.loc k]=>∃ds,S[k]? =some ds/\W (.int ds.length) S
  | _=>False
 sound:=by
  intro X ds S W hc hr h
  split at h
  . exact Qp h
  . exact Rx h
  . obtain⟨ds,h1,h2⟩:=h;exact Qm h1 h2
  . exact h.elim
noncomputable def fM:Bf where
 x:="all"
 id:="all"
 boot:=by decide+kernel
 wp ds S W:=match ds with
  | [.lst ds]=>∃bs:List Bool,ds=bs.map .bl/\W (.bl (bs.all id)) S
  | _=>False
 sound:=by
  intro X ds S W hc hr h
  split at h
  . obtain⟨bs,rfl,h⟩:=h;exact k_all h hc
  . exact h.elim
noncomputable def Qn:Bf where
 x:="abs"
 id:="abs"
 boot:=by decide+kernel
 wp ds S W:=match ds with
  | [.int i]=>W (.int (if i<0 then-i else i)) S
  | _=>False
 sound:=by
  intro X ds S W hc hr h
  split at h
  . refine bR Mf λ O H vs st r=>?_
    obtain⟨v,rfl,r'⟩:=cC r
    cases r'
    exact⟨_,rfl,QG.here h st (.int _)⟩
  . exact h.elim
theorem Mv{K:PySem.W.Frag}{O:Own}{H:Hp}{vs:List V}{d e:D}(r:Reps K O H vs [d,e]):∃v w,vs=[v,w]/\Rep K O H v d/\Rep K O H w e:=by
 cases r with
 | cons a t=>
   cases t with
   | cons b t=>cases t;exact⟨_,_,rfl,a,b⟩
noncomputable def Uw:Bf where
 x:="min"
 id:="min"
 boot:=by decide+kernel
 wp ds S W:=match ds with
  | [.int i,.int j]=>W (.int (if j<i then j else i)) S
  | _=>False
 sound:=by
  intro X ds S W hc hr h
  split at h
  . refine bR (Gx hc) λ O H vs st r=>?_
    obtain⟨v,w,rfl,r1,r2⟩:=Mv r
    cases r1
    cases r2
    exact⟨_,_,rfl,QG.here h st (.int _)⟩
  . exact h.elim
noncomputable def Uq:Bf where
 x:="max"
 id:="max"
 boot:=by decide+kernel
 wp ds S W:=match ds with
  | [.int i,.int j]=>W (.int (if j>i then j else i)) S
  | _=>False
 sound:=by
  intro X ds S W hc hr h
  split at h
  . refine bR (Gz hc) λ O H vs st r=>?_
    obtain⟨v,w,rfl,r1,r2⟩:=Mv r
    cases r1
    cases r2
    exact⟨_,_,rfl,QG.here h st (.int _)⟩
  . exact h.elim
noncomputable def bc:Bc where
 x:="tuple"
 id:="tuple"
 boot:=by decide+kernel
 wp ds S W:=match ds with
  | [.lst ds]=>W (.tup ds) S
  | [.loc k]=>∃ds,S[k]? =some ds/\W (.tup ds) S
  | _=>False
 sound:=by
  intro X ds S W hc hr h
  split at h
  . exact QQ h
  . obtain⟨ds,h1,h2⟩:=h;exact QF h1 h2
  . exact h.elim
noncomputable def Ua:Bc where
 x:="list"
 id:="list"
 boot:=by decide+kernel
 wp ds S W:=match ds with
  | [.tup ds]=>W (.lst ds) S
  | [.lst ds]=>W (.lst ds) S
  | _=>False
 sound:=by
  intro X ds S W hc hr h
  split at h
  . exact RL h
  . exact RT h
  . exact h.elim
noncomputable def Us:Bc where
 x:="int"
 id:="int"
 boot:=by decide+kernel
 wp ds S W:=match ds with
  | [.int i]=>W (.int i) S
  | [.bl k]=>W (.int (if k then 1 else 0)) S
  | _=>False
 sound:=by
  intro X ds S W hc hr h
  split at h
  . refine bR uw λ O H vs st r=>?_
    obtain⟨v,rfl,r'⟩:=cC r
    cases r'
    exact .inl ⟨_,rfl,QG.here h st (.int _)⟩
  . refine bR uw λ O H vs st r=>?_
    obtain⟨v,rfl,r'⟩:=cC r
    cases r'
    exact .inr ⟨_,rfl,QG.here h st (.int _)⟩
  . exact h.elim
section
variable {X : Cx} {Γ : Gam} {S : Store} {e : Expr} {pos : Pos}
theorem N6{elts:List Expr}{k:Nat}{tp p:Pos}{W:List D->Store->Prop}(h:Ev X Γ S e λ d S1=>match d with | .lst ds=>W (ds.mapIdx λ i d=>.tup [.int i,d]) S1 | .tup ds=>W (ds.mapIdx λ i d=>.tup [.int i,d]) S1 | _=>False)(hm:X.mg "enumerate"=none)(hg:Gl X "enumerate")(hs:starEach [e] X.env=[(false,eval e X.env)]):
 ItW X Γ S (.Tuple elts k tp) (.Call (.Name "enumerate" p) [e] [] pos) W:=by
 intro pins s σ H O I env st
 refine Call_ (bL I hg hm boot_enumerate (PyProof.Rows.callWith_type1 (thn (m7 h.pe zz hs pos pins s σ H (λ vs H'=>∃v,vs=[v]/\QG X.K O H (λ d S1=>match d with | .lst ds=>W (ds.mapIdx λ i d=>.tup [.int i,d]) S1 | .tup ds=>W (ds.mapIdx λ i d=>.tup [.int i,d]) S1 | _=>False) v H') I ⟨O,env,st,λ v H' q=>⟨v,rfl,q⟩⟩) λ us s1 hq_=>?_) hs rfl))
 obtain⟨vs,H1,I1,r1,v,ev,O1,d,S1,w,st1,ok1,rep⟩:=hq_
 subst ev
 obtain⟨u,rfl,ru⟩:=vals1 r1
 cases rep with
 | @lst a xs ds h1 q1=>
   cases ru
   obtain⟨its,rv,pl,hz⟩:=I1.list h1.sq
   refine call_enumerate_list pl.isList λ h' he hi _ kp=>Dl (Td X.prog X.w X.K) I1 he hi kp ⟨O1,_,S1,w,st1,ok1,oE _ λ O' H' cv=>⟨xs,(h1.conv cv).sq,q1.conv cv⟩⟩
 | @tup a xs ds h1 q1=>
   cases ru
   obtain⟨its,rv,pl,hz⟩:=I1.tuple h1.sq
   obtain⟨⟨c,dct,dt,sl⟩,hl,hc,n,hd⟩:=pl
   replace hc:c=.type "tuple":=hc
   replace hd:dt=.seq its.toArray n:=hd
   subst hc hd
   refine callType_new F.called_enumerate (by decide) (F.typeCall_enumerate_1 _) (F.newCall_enumerate_1 _) (λ obj=>F.args_object_init_2 obj _) F.entry_enumerate_new (HX a its.toArray n dct sl) ⟨hl,?_⟩
   have hz:(s1.heap.push {cls:=.type "tuple_iterator",data:=.fields #[.ref a,.int 0 0]}).objs.size=s1.heap.objs.size+1:=Heap.size_push ..
   show _/\_
   rw[hz]
   have he:IsEnum ((s1.heap.push {cls:=.type "tuple_iterator",data:=.fields #[.ref a,.int 0 0]}).push {cls:=.type "enumerate",data:=.fields #[.none,.bool false,.ref s1.heap.objs.size,rawInt 0,.none,.none]}) (s1.heap.objs.size+1) s1.heap.objs.size 0 .none:=by
    have:=Heap.get?_push_size (s1.heap.push {cls:=.type "tuple_iterator",data:=.fields #[.ref a,.int 0 0]}) (o:={cls:=.type "enumerate",data:=.fields #[.none,.bool false,.ref s1.heap.objs.size,rawInt 0,.none,.none]}) rfl
    rw[hz]at this
    exact this
   have hi:Heap.IsTupleIter ((s1.heap.push {cls:=.type "tuple_iterator",data:=.fields #[.ref a,.int 0 0]}).push {cls:=.type "enumerate",data:=.fields #[.none,.bool false,.ref s1.heap.objs.size,rawInt 0,.none,.none]}) s1.heap.objs.size a 0:=
    ⟨_,Heap.get?_push_of_some _ (Heap.get?_push_size _ rfl),rfl,rfl⟩
   exact⟨⟨_,he,rfl⟩,Dl (Ma X.prog X.w X.K) I1 he hi (λ b o e=>Heap.get?_push_of_some _ (Heap.get?_push_of_some _ e)) ⟨O1,_,S1,w,st1,ok1,oE _ λ O' H' cv=>⟨xs,(h1.conv cv).sq,q1.conv cv⟩⟩⟩
 | _=>exact w.elim
end
variable {Ω : Wd}
noncomputable def Itb.enm(hm:Ω.mg "enumerate"=none)(a:Ex Ω):Itb Ω where
 lev:=a.lev
 chk top N nm tg e:=match tg,e with | .Tuple ..,.Call (.Name y _) [b] [] _=>(y==("enumerate":Str))&&(glb nm "enumerate"&&(okE b&&a.chk top N nm b)) | _,_=>false
 wp Γ S W:=a.wp Γ S λ d S1=>match d with | .lst ds=>W (ds.mapIdx λ i d=>.tup [.int i,d]) S1 | .tup ds=>W (ds.mapIdx λ i d=>.tup [.int i,d]) S1 | _=>False
 sound:=by
  intro X r top N nm tg e Γ S W A hl hc hw
  split at hc
  . obtain⟨h1,h2⟩:=aa hc
    obtain⟨h2,h3⟩:=aa h2
    obtain⟨h3,h4⟩:=aa h3
    have e:=eq_of_beq h1
    subst e
    exact N6 (a.sound A hl h4 hw) (by rw[A.g];exact hm) (A.glb h2) (aB h3 [] _)
  . exact fE hc
noncomputable def Itb.zip(hm:Ω.mg "zip"=none)(a b:Ex Ω):Itb Ω where
 lev:=max a.lev b.lev
 chk top N nm tg e:=match tg,e with | .Tuple ..,.Call (.Name y _) [l,r] [] _=>(y==("zip":Str))&&(glb nm "zip"&&((okE l&&okE r)&&(a.chk top N nm l&&b.chk top N nm r))) | _,_=>false
 wp Γ S W:=a.wp Γ S λ d S1=>b.wp Γ S1 λ d' S2=>match d,d' with | .tup ds,.tup es=>W (List.zipWith (λ x y=>.tup [x,y]) ds es) S2 | _,_=>False
 sound:=by
  intro X r top N nm tg e Γ S W A hl hc hw
  obtain⟨l1,l2⟩:=lv2 hl
  split at hc
  . obtain⟨h1,h2⟩:=aa hc
    obtain⟨h2,h3⟩:=aa h2
    obtain⟨h3,h4⟩:=aa h3
    obtain⟨h5,h6⟩:=aa h3
    obtain⟨h7,h8⟩:=aa h4
    have e:=eq_of_beq h1
    subst e
    refine JT ((a.sound A l1 h7 hw).mono λ d S1 q=>(b.sound A l2 h8 q).mono λ d' S2 q=>?_) (by rw[A.g];exact hm) (A.glb h2) (aB h5 _ _) (aB h6 [] _)
    cases d<;>first | exact q.elim | (cases d'<;>first | exact⟨_,_,rfl,rfl,q⟩ | exact q.elim)
  . exact fE hc
end RF
namespace RF
theorem ff{P:Prop}(h:false=true):P:=(y6 h).elim
theorem tf{P:Prop}(h:true=false):P:=(y6 h.symm).elim
end RF
namespace RF
open PySem PySem.Spec L2 DL
open PyProof.Rows
noncomputable abbrev Cal(Ω:Wd)(x:Str)(k n:Nat)(F:Ct):Prop:=Callee Ω.P Ω.w Ω.K Ω.mg Ω.base x k n F
noncomputable abbrev Ok(Ω:Wd)(k:Nat)(f:Addr)(fd:FuncData)(ps:List Str)(F:Ct):Prop:=FnOk Ω.P Ω.w Ω.K Ω.mg Ω.base CX0 k f fd ps (spC Ω.K ps.length F)
noncomputable def nu:Ct:=λ ds S W=>∃ns,ds=[.lst (List.map .int ns)]/\ns.length≤63/\(∀S',W (.bl true) S')/\S=[]
theorem Ra{K:PySem.W.Frag}{H:Hp}{a:Addr}{ns:List Int}{E:XK}(hl:ns.length≤63)(hS:SqL K H a (ns.map V.int)):spC K 1 nu [.ref a] H (λ v _=>v=.bl true) E:=by
 refine⟨⟨[],[]⟩,[.lst (ns.map .int)],[],λ d _=>d=.bl true,rfl,.cons (.lst (xs:=ns.map V.int) ?_ (Reps.of_ints ns)) .nil,?_,⟨ns,rfl,hl,λ _=>rfl,rfl⟩,λ v H' q=>?_⟩
 . rcases hS with h | h
   . exact .inl ⟨λ z=>by rcases z with z | z<;>exact absurd (show a∈([]:List Addr)from z) (by simp),h⟩
   . exact .inr (.inr h)
 . exact⟨List.nodup_nil,rfl,λ k a ds e=>by simp at e,λ k a ds e=>by simp at e,λ a h=>absurd (show a∈([]:List Addr)from h) (by simp),λ a h=>absurd (show a∈([]:List Addr)from h) (by simp)⟩
 . obtain⟨O',d,S',w,_,_,r⟩:=q
   subst w
   cases r
   rfl
theorem walk{lev:Nat}{x:Str}{l:PySem.W.OpenLaw}{q:Program}{loose:List Str}{XP:(Str->Option Value)->Heap->Prop}{YP:World->Heap->Prop}{d:DefRec}{K:Params->PySem.W.Frag}(hn:l.most=some 63)(hdf:d.params.defaults=[])(hr:Room lev callerA)
 (hY:∀(w:World)(h:Heap),YP w h->(K w.params).In h)
 (F:∀(w:World)(mg:Str->Option Value)(fa:Addr)(h:Heap),(K w.params).In h->h.Ns mainGlobals mg->mg d.name=some (.ref fa)->
  ∃fd:FuncData,(∀(s:Shared)(u:Value),BindsTo s fd ⟨[u],[]⟩ [(x,u)])/\∀base:Heap,(K w.params).In base->base.Ns mainGlobals mg->FnOk l.prog w (K w.params) mg base CX0 lev fa fd [x] (spC (K w.params) 1 nu)):
 PySem.W.WalkO q loose XP YP l.row.toRowW d [] (λ f vs=>PySem.call f vs):=
 L2.walk_of (n:=63) (k:=lev) (x:=x) (CX:=λ _=>CX0) (sp:=λ w=>spC (K w.params) 1 nu) hn (by decide) hdf hr hY F (λ _ _ a ns hl _ hS=>Ra hl hS) λ _ _ _ _ _ z=>z
theorem Tg.mono{t:Tg}{d:D}{Γ:Gam}{W W':Gam->Prop}(h:t.wp d Γ W)(k:∀G,W G->W' G):t.wp d Γ W':=by
 cases t with
 | nm i=>exact k _ h
 | tup is=>
   cases d with
   | tup ds=>exact⟨h.1,k _ h.2⟩
   | _=>exact h.elim
section
variable {Ω : Wd} {cap : List (Option Nat)} {Γ : Gam} {elt : Ex Ω} {tg : Tg} {cd : Cd Ω} {W : WD} {ds : List D} {S1 : Store}
theorem dB(f:D->D)(hz:ds.length≤1000000)(h:∀(i:Nat)(d:D),ds[i]? =some d->∀Q:WD,Q (f d) S1->tg.wp d (capt cap Γ) λ Γ2=>elt.wp Γ2 S1 Q)(w:W (.lst (ds.map f)) S1):m9 cap Γ elt tg (Cd.no (Ω:=Ω)) W ds S1:=by
 refine jc ⟨hz,λ i acc S'=>acc=(ds.take i).map f/\S'=S1,⟨rfl,rfl⟩,?_,?_⟩
 . rintro i d acc S' hd ⟨rfl,rfl⟩
   refine Tg.mono (h i d hd (λ y S4=>(ds.take i).map f++[y]=(ds.take (i+1)).map f/\S4=S') ⟨?_,rfl⟩) λ G q=>⟨λ _=>q,λ z=>tf z⟩
   rw[aF hd,v3];rfl
 . rintro acc S' ⟨rfl,rfl⟩
   rw[List.take_length];exact w
theorem lJ(P:Nat->D->Prop)(Q:Store->Prop)(hz:ds.length≤1000000)(q0:Q S1)(h:∀(i:Nat)(d:D)(S':Store),ds[i]? =some d->Q S'->∀R:WD,(∀y S4,P i y->Q S4->R y S4)->tg.wp d (capt cap Γ) λ Γ2=>elt.wp Γ2 S' R)
 (w:∀(ys:List D)(S':Store),ys.length=ds.length->(∀i y,ys[i]? =some y->P i y)->Q S'->W (.lst ys) S'):m9 cap Γ elt tg (Cd.no (Ω:=Ω)) W ds S1:=by
 refine jc ⟨hz,λ i acc S'=>(acc.length=i/\∀j y,acc[j]? =some y->P j y)/\Q S',⟨⟨rfl,λ j y e=>by simp at e⟩,q0⟩,?_,λ acc S' h=>w acc S' h.1.1 h.1.2 h.2⟩
 rintro i d acc S' hd ⟨⟨hl,ha⟩,q⟩
 refine Tg.mono (h i d S' hd q (λ y S4=>((acc++[y]).length=i+1/\∀j y',(acc++[y])[j]? =some y'->P j y')/\Q S4) λ y S4 hy q4=>⟨⟨by simp[hl],λ j y' e=>?_⟩,q4⟩) λ G q=>⟨λ _=>q,λ z=>tf z⟩
 by_cases hj:j<acc.length
 . rw[x8 hj]at e;exact ha j y' e
 . rw[List.getElem?_append_right (by omega)]at e
   have:j-acc.length=0:=by
    have:=(z0.mp e).1
    simp at this;omega
   rw[this]at e
   simp at e
   subst e
   have:j=i:=by omega
   rw[this];exact hy
end
theorem bT{A B:Prop}(h:A):(true=true->A)/\(true=false->B):=⟨λ _=>h,λ z=>tf z⟩
theorem bF{A B:Prop}(h:B):(false=true->A)/\(false=false->B):=⟨λ z=>ff z,λ _=>h⟩
theorem dT{A B:Prop}(h:B):(true=false->A)/\(true=true->B):=⟨λ z=>tf z,λ _=>h⟩
end RF
namespace RF
open PySem PySem.Spec L2 DL
open PyProof.Rows
variable {ds : List D} {W : WD} {Γ : Gam} {S : Store} {i : Int}
mutual
theorem cP{K:PySem.W.Frag}{O O':Own}{H:Hp}(h:∀a,¬O.has a->¬O'.has a):∀{v:V}{d:D},ao d=true->Rep K O H v d->Rep K O' H v d
 | _,_,_,.non=>.non
 | _,_,_,.bl b=>.bl b
 | _,_,_,.int i=>.int i
 | _,_,_,.str x=>.str x
 | _,_,n,.tup h1 r=>.tup ⟨h _ h1.1,h1.2⟩ (bN h (by simpa[ao]using n) r)
 | _,_,n,.lst h1 r=>.lst (h1.imp (λ q=>⟨h _ q.1,q.2⟩) id) (bN h (by simpa[ao]using n) r)
 | _,_,n,.loc _=>by simp[ao]at n
 | _,_,n,.dlo _=>by simp[ao]at n
 | _,_,_,.dic h1 e=>.dic (h _ h1) e
theorem bN{K:PySem.W.Frag}{O O':Own}{H:Hp}(h:∀a,¬O.has a->¬O'.has a):∀{vs:List V}{ds:List D},ak ds=true->Reps K O H vs ds->Reps K O' H vs ds
 | _,_,_,.nil=>.nil
 | _,_,n,.cons r t=>by
   simp only[ak,Bool.and_eq_true]at n
   exact .cons (cP h n.1 r) (bN h n.2 t)
end
theorem wD{K:PySem.W.Frag}{O O':Own}{H:Hp}(h:∀a,¬O.has a->¬O'.has a):∀{vs:List (List Key×V)}{ds:List D},ak ds=true->Kps K O H vs ds->Kps K O' H vs ds
 | _,_,_,.nil=>.nil
 | _,_,n,.cons r t=>by
   simp only[ak,ao,Bool.and_eq_true]at n
   exact .cons (cP h n.1.2.1 r) (wD h n.2 t)
theorem wz{K:PySem.W.Frag}{O O':Own}{H:Hp}(h:∀a,¬O.has a->¬O'.has a):∀{vs:Cy}{ds:List D},ak ds=true->Kcs K O H vs ds->Kcs K O' H vs ds
 | _,_,_,.nil=>.nil
 | _,_,n,.cons e rk rv r t=>by
   simp only[ak,ao,Bool.and_eq_true]at n
   exact .cons e (cP h n.1.1 rk) rv (cP h n.1.2.1 r) (wz h n.2 t)
theorem zA{K:PySem.W.Frag}{O O':Own}{H:Hp}(h:∀a,¬O.has a->¬O'.has a):∀{vs:Oy}{ds:List D},ak ds=true->Kos K O H vs ds->Kos K O' H vs ds
 | _,_,_,.nil=>.nil
 | _,_,n,.cons e rv r t=>by
   simp only[ak,ao,Bool.and_eq_true]at n
   exact .cons e rv (cP h n.1.2.1 r) (zA h n.2 t)
theorem oM{K:PySem.W.Frag}{O O':Own}{H:Hp}{a:Addr}(h:∀a,¬O.has a->¬O'.has a)(n:ak ds=true)(b:DOb K O H a ds):DOb K O' H a ds:=by
 cases b with
 | t kvs e r=>exact .t kvs e (wD h n r)
 | c ys z e r=>exact .c ys z e (wz h n r)
 | o ys z e r=>exact .o ys z e (zA h n r)
noncomputable def flat(S:Store):Prop:=∀l∈S,ak l=true
theorem gG{A:List (Addr×Bool)}{n:Nat}{a:Addr}(h:a∈adr (A.take n)):a∈adr A:=by
 obtain⟨x,hx,rfl⟩:=List.mem_map.mp h
 exact List.mem_map.mpr ⟨x,List.mem_of_mem_take hx,rfl⟩
theorem eU{K:PySem.W.Frag}{O O':Own}{H H':Hp}{S':Store}{J:List (List D)}(st:Step O O' H H')(ok:StOk K O' H' (S'++J))(hl:O.A.length≤S'.length)(hS:flat S'):
 Step O ⟨O'.A.take S'.length,O'.B⟩ H H'/\StOk K ⟨O'.A.take S'.length,O'.B⟩ H' S'/\(∀b,¬O'.has b->¬(⟨O'.A.take S'.length,O'.B⟩:Own).has b)/\∀j a,S'.length≤j->∀{q:Bool},O'.A[j]? =some (a,q)->¬(⟨O'.A.take S'.length,O'.B⟩:Own).has a:=by
 obtain⟨N,eA,fN⟩:=st.ext
 have len:O'.A.length=S'.length+J.length:=by have:=ok.len;simpa using this
 have sub:∀b,¬O'.has b->¬(⟨O'.A.take S'.length,O'.B⟩:Own).has b:=λ b hb z=>hb (z.imp gG id)
 have nd:(adr (O'.A.take S'.length)).Nodup:=by
  show(List.map _ (List.take _ _)).Nodup
  rw[List.map_take]
  exact ok.nd.sublist (List.take_sublist _ _)
 refine⟨⟨st.kept,st.dom,⟨N.take (S'.length-O.A.length),by
  show O'.A.take S'.length=_
  rw[eA,List.take_append,List.take_of_length_le (by omega)],λ b hb=>fN b (gG hb)⟩,st.hid⟩,⟨nd,by simp[len],λ k b es e1 e2=>?_,λ k b es e1 e2=>?_,λ b hb=>ok.apart b (gG hb),ok.hidden⟩,sub,λ j a hj q ha z=>?_⟩
 . have hk:k<S'.length:=(z0.mp e2).1
   have e1':(O'.A.take S'.length)[k]? =some (b,false):=e1
   rw[List.getElem?_take,if_pos hk]at e1'
   obtain⟨ys,hy,r'⟩:=ok.obj k b es e1' (by rw[x8 hk];exact e2)
   exact⟨ys,hy,bN sub (hS es (y4 e2)) r'⟩
 . have hk:k<S'.length:=(z0.mp e2).1
   have e1':(O'.A.take S'.length)[k]? =some (b,true):=e1
   rw[List.getElem?_take,if_pos hk]at e1'
   exact oM sub (hS es (y4 e2)) (ok.dob k b es e1' (by rw[x8 hk];exact e2))
 . rcases z with z | z
   . obtain⟨⟨a',q'⟩,hm,rfl⟩:=List.mem_map.mp z
     obtain⟨i,hi⟩:=List.getElem?_of_mem hm
     rw[List.getElem?_take]at hi
     split at hi
     . rename_i hlt
       exact qN ok.nd hi ha (by omega) rfl
     . cases hi
   . exact ok.apart a (bK ha) z
noncomputable def Frz(n:Nat)(W:WD):WD:=λ d S1=>W d S1∨∃ds S',d=.loc S'.length/\S1=S'++[ds]/\n≤S'.length/\ak ds=true/\flat S'/\W (.lst ds) S'
theorem QG.frz{K:PySem.W.Frag}{O:Own}{H H':Hp}{v:V}{n:Nat}(hn:O.A.length=n)(q:QG K O H (Frz n W) v H'):QG K O H W v H':=by
 obtain⟨O',d,S1,w,st,ok,r⟩:=q
 rcases w with w | ⟨ds,S',rfl,rfl,hl,hd,hS,w⟩
 . exact⟨O',d,S1,w,st,ok,r⟩
 . obtain⟨st2,ok2,sub,na⟩:=eU st ok (by omega) hS
   cases r with
   | @loc a _ ha=>
     obtain⟨xs,hx,q1⟩:=ok.obj S'.length a ds ha (by simp)
     exact⟨_,.lst ds,S',w,st2,ok2,.lst (.inl ⟨na _ a (y9 _) ha,.inl hx⟩) (bN sub hd q1)⟩
theorem Oz{X:Cx}{sts:List Stmt}{W:DL.Fin}(h:Rns X Γ S sts {W with rt:=Frz S.length W.rt}):Rns X Γ S sts W:=λ pins s σ H O I env ok=>
 thn (h pins s σ H O I env ok) λ f s' q=>by
  cases f with
  | next=>exact q
  | brk=>exact q
  | cont=>exact q
  | ret u=>obtain⟨v,σ',H',I',r,q⟩:=q;exact⟨v,σ',H',I',r,QG.frz ok.len q⟩
variable {Ω : Wd}
noncomputable def Bl.frz(b:Bl Ω):Bl Ω where
 lev:=b.lev
 chk:=b.chk
 wp Γ S W:=b.wp Γ S {W with rt:=Frz S.length W.rt}
 sound:=by
  intro X r top N nm sts Γ S W A hl hc hw
  exact Oz (b.sound A hl hc hw)
noncomputable def hand(W:WD)(ds:List D)(S:Store):Prop:=W (.lst ds) S∨W (.loc S.length) (S++[ds])
theorem pI(h:hand W ds S)(hd:ak ds=true)(hS:flat S):Frz S.length W (.loc S.length) (S++[ds]):=by
 rcases h with h | h
 . exact .inr ⟨ds,S,rfl,rfl,y9 _,hd,hS,h⟩
 . exact .inl h
theorem Gw{X:Cx}{o e:Expr}{apos cpos:Pos}(h:Ev X Γ S o λ x S1=>∃k,x=.loc k/\Ev X Γ S1 e λ d S2=>∃ds,S2[k]? =some ds/\ds.length<1000000/\W .non (S2.set k (ds++[d])))
 (hbase:attributeBase o "append" X.env (eval o X.env)=eval o X.env)(hs:starEach [e] X.env=[(false,eval e X.env)])(hline:(apos.endLine==cpos.line)=true):Ev X Γ S (.Call (.Attribute o "append" apos) [e] [] cpos) W:=by
 intro pins s σ H O I env st
 have hty:∀(O1:Own)(x:D)(v:V)(H1:Hp)(S1:Store),(∃k,x=.loc k)->StOk X.K O1 H1 S1->Rep X.K O1 H1 v x->tyV X.K "list" v H1:=by
  rintro O1 x v H1 S1 ⟨k,rfl⟩ ok r
  cases r with
  | @loc a _ ha=>
    have hl:k<S1.length:=by rw[←ok.len];exact(z0.mp ha).1
    obtain⟨xs,hx,_⟩:=ok.obj k a S1[k] ha (y3 hl)
    exact .inl ⟨rfl,xs,SqL.of hx⟩
 have hA:PA X [e] (λ σ H Q=>∃O Γ S W',EnvOk X.K O H σ Γ/\StOk X.K O H S/\Ev X Γ S e W'/\∀v H',QG X.K O H W' v H'->Q [v] H'):=by
  rintro pos pins s σ H Q I ⟨O,Γ,S,W',env,st,he,k⟩
  rw[hs]
  show wpAny _ _ (spliced ((false,eval e X.env)::backTo pos (starEach [] X.env))) _ _ s
  refine Calls.spliced_cons (thn (he pins s σ H O I env st) λ u s1 hq_=>?_)
  obtain⟨v,H1,I1,r1,q⟩:=hq_
  exact Calls.spliced_nil ⟨[v],H1,I1,.cons r1 .nil,k v H1 q⟩
 refine FN (T:="list") PySem.F.plainAttrs_list PySem.F.slot_list_append PySem.F.type_list_append t6 (h.pe) hA hbase (by rw[hs];rfl) hline hs rfl pins s σ H _ I ⟨O,env,st,λ v H' q=>?_⟩
 obtain⟨O1,x,S1,⟨k,rfl,he⟩,st1,ok1,rep1⟩:=q
 refine⟨hty O1 _ v H' S1 ⟨k,rfl⟩ ok1 rep1,O1,Γ,S1,_,env.mono st1,ok1,he,λ v2 H2 q2=>?_⟩
 obtain⟨O2,d,S2,⟨ds,hk,hz,w⟩,st2,ok2,rep2⟩:=q2
 have r:=rep1.mono st2
 cases r with
 | @loc a _ ha=>
   obtain⟨xs,hx,q1⟩:=ok2.obj k a ds ha hk
   exact⟨a,xs,v2,rfl,rfl,hx,by rw[q1.length];exact x9 hz (by decide),O2,.non,_,w,(st1.trans st2).trans (Step.put (bK ha) _),ok2.put ha (q1.append (.cons rep2 .nil)),.non⟩
noncomputable def nameE:Expr->Bool
 | .Name .. =>true
 | _=>false
noncomputable def Ex.m_append(o a:Ex Ω):Ex Ω where
 lev:=max o.lev a.lev
 chk top N nm e:=match e with | .Call (.Attribute x m p) [y] [] q=>(m==("append":Str))&&(nameE x&&((p.endLine==q.line)&&(okE y&&(o.chk top N nm x&&a.chk top N nm y)))) | _=>false
 wp Γ S W:=o.wp Γ S λ x S1=>match x with | .loc k=>a.wp Γ S1 λ d S2=>∃ds,S2[k]? =some ds/\ds.length<1000000/\W .non (S2.set k (ds++[d])) | _=>False
 sound:=by
  intro X r top N nm e Γ S W A hl hc hw
  obtain⟨l1,l2⟩:=lv2 hl
  split at hc
  . rename_i x m p y q
    obtain⟨h1,g⟩:=aa hc
    obtain⟨h2,g⟩:=aa g
    obtain⟨h3,g⟩:=aa g
    obtain⟨h4,g⟩:=aa g
    obtain⟨h5,h6⟩:=aa g
    have e:=eq_of_beq h1
    subst e
    refine Gw ((o.sound A l1 h5 hw).mono λ x S1 q=>?_) ?_ (aB h4 [] _) h3
    . cases x<;>first | exact q.elim | exact⟨_,rfl,a.sound A l2 h6 q⟩
    . cases x<;>first | rfl | exact ff h2
  . exact ff hc
theorem Pn{X:Cx}{c:Expr}{body:List Stmt}{pos:Pos}{W:DL.Fin}(h:∃(Pv:Nat->Gam->Store->Prop) (m0:Nat),Pv m0 Γ S/\∀m Γ' S',Pv m Γ' S'->
 Ts X Γ' S' c λ k S1=>(k=true->Rns X Γ' S1 body {W with nx:=λ G T=>∃m',m'<m/\Pv m' G T,ct:=λ G T=>∃m',m'<m/\Pv m' G T,bk:=W.nx})/\(k=false->W.nx Γ' S1))
 (hp:PassesOwn (model X.prog X.w) X.A X.env X.xe):Rn X Γ S (.While c body [] pos) W:=by
 intro pins s σ H O I env ok
 obtain⟨Pv,m0,p0,turn⟩:=h
 refine wpAny_While (codeAny_whileLoop (λ n s'=>∃σ' H' O' Γ' S',Inv X pins σ' H' s'/\Pv n Γ' S'/\Step O O' H H'/\StOk X.K O' H' S'/\EnvOk X.K O' H' σ' Γ') ?_ m0 ⟨σ,H,O,Γ,S,I,p0,Step.refl _ _,ok,env⟩)
 rintro n s1 ⟨σ1,H1,O1,Γ1,S1,I1,p1,st1,ok1,env1⟩
 refine wpAny_passesOwn hp (thn (turn n Γ1 S1 p1 pins s1 σ1 H1 O1 I1 env1 ok1) λ b s2 hq_=>?_)
 obtain⟨H2,I2,O2,S2,w2,st2,ok2⟩:=hq_
 cases b with
 | true=>
   rw[if_pos rfl]
   refine wpAny_passesOwn hp (thn (w2.1 rfl pins s2 σ1 H2 O2 I2 (env1.mono st2) ok2) λ f s3 q3=>?_)
   cases f with
   | next=>
     obtain⟨σ3,H3,I3,O3,Γ3,S3,⟨m',hm,p3⟩,st3,ok3,env3⟩:=q3
     exact⟨m',hm,σ3,H3,O3,Γ3,S3,I3,p3,(st1.trans st2).trans st3,ok3,env3⟩
   | cont=>
     obtain⟨σ3,H3,I3,O3,Γ3,S3,⟨m',hm,p3⟩,st3,ok3,env3⟩:=q3
     exact⟨m',hm,σ3,H3,O3,Γ3,S3,I3,p3,(st1.trans st2).trans st3,ok3,env3⟩
   | brk=>
     obtain⟨σ3,H3,I3,q⟩:=q3
     exact⟨σ3,H3,I3,QN.pre (st1.trans st2) q⟩
   | ret v=>
     obtain⟨x,σ3,H3,I3,r3,q⟩:=q3
     exact⟨x,σ3,H3,I3,r3,QG.pre (st1.trans st2) q⟩
 | false=>
   rw[if_neg y6]
   exact wpAny_execs_nil ⟨σ1,H2,I2,O2,Γ1,S2,w2.2 rfl,st1.trans st2,ok2,env1.mono st2⟩
@[irreducible] noncomputable def pZ(c:Te Ω)(body:Bl Ω)(Γ:Gam)(S:Store)(W:DL.Fin):Prop:=∃(Pv:Nat->Gam->Store->Prop) (m0:Nat),Pv m0 Γ S/\∀m Γ' S',Pv m Γ' S'->
 c.wp Γ' S' λ k S1=>(k=true->body.wp Γ' S1 {W with nx:=λ G T=>∃m',m'<m/\Pv m' G T,ct:=λ G T=>∃m',m'<m/\Pv m' G T,bk:=W.nx})/\(k=false->W.nx Γ' S1)
theorem yL{c:Te Ω}{body:Bl Ω}{W:DL.Fin}(h:∃(Pv:Nat->Gam->Store->Prop) (m0:Nat),Pv m0 Γ S/\∀m Γ' S',Pv m Γ' S'->
 c.wp Γ' S' λ k S1=>(k=true->body.wp Γ' S1 {W with nx:=λ G T=>∃m',m'<m/\Pv m' G T,ct:=λ G T=>∃m',m'<m/\Pv m' G T,bk:=W.nx})/\(k=false->W.nx Γ' S1)):pZ c body Γ S W:=by unfold pZ;exact h
noncomputable def Sm.while(c:Te Ω)(body:Bl Ω):Sm Ω where
 lev:=max c.lev body.lev
 chk top N nm st:=match st with | .While t b [] _=>c.chk top N nm t&&body.chk top N nm b | _=>false
 wp Γ S W:=pZ c body Γ S W
 sound:=by
  intro X r top N nm st Γ S W A hl hc hw
  obtain⟨l1,l2⟩:=lv2 hl
  split at hc
  . obtain⟨h1,h2⟩:=aa hc
    unfold pZ at hw
    obtain⟨Pv,m0,p0,turn⟩:=hw
    exact Pn ⟨Pv,m0,p0,λ m Γ' S' p=>Ts.mono (c.sound A l1 h1 (turn m Γ' S' p)) λ k S1 q=>⟨λ hk=>body.sound A l2 h2 (q.1 hk),q.2⟩⟩ (by rw[A.xe];exact PassesOwn.never)
  . exact ff hc
noncomputable def Sm.never:Sm Ω where
 lev:=0
 chk _ _ _ st:=match st with | .Raise _ _ _=>true | _=>false
 wp _ _ _:=False
 sound:=λ _ _ _ h=>h.elim
theorem b7(S:Store)(x:List D):(S++[x])[S.length]? =some x:=by simp
theorem cF(S:Store)(x y:List D):(S++[x]).set S.length y=S++[y]:=by simp
theorem cW{α β:Type}{xs:List α}{f:α->β}{i:Nat}{e:β}(h:(xs.map f)[i]? =some e):∃x,xs[i]? =some x/\e=f x:=by
 rw[y8]at h
 cases e1:xs[i]? with
 | none=>rw[e1]at h;cases h
 | some x=>rw[e1]at h;cases h;exact⟨x,rfl,rfl⟩
theorem gf{α β:Type}{xs:List α}{f:Nat->α->β}{i:Nat}{e:β}(h:(xs.mapIdx f)[i]? =some e):∃x,xs[i]? =some x/\e=f i x:=by
 rw[List.getElem?_mapIdx]at h
 cases e1:xs[i]? with
 | none=>rw[e1]at h;cases h
 | some x=>rw[e1]at h;cases h;exact⟨x,rfl,rfl⟩
theorem fC{cap:List (Option Nat)}{elt:Ex Ω}{tg:Tg}{S1:Store}{α:Type}{xs:List α}{enc:α->D}(f:α->D)(hz:xs.length≤1000000)(h:∀(i:Nat)(x:α),xs[i]? =some x->∀Q:WD,Q (f x) S1->tg.wp (enc x) (capt cap Γ) λ Γ2=>elt.wp Γ2 S1 Q)
 (w:W (.lst (xs.map f)) S1):m9 cap Γ elt tg (Cd.no (Ω:=Ω)) W (xs.map enc) S1:=by
 refine jc ⟨by rw[y7];exact hz,λ i acc S'=>acc=(xs.take i).map f/\S'=S1,⟨rfl,rfl⟩,?_,?_⟩
 . rintro i d acc S' hd ⟨rfl,rfl⟩
   obtain⟨x,hx,rfl⟩:=cW hd
   refine Tg.mono (h i x hx (λ y S4=>(xs.take i).map f++[y]=(xs.take (i+1)).map f/\S4=S') ⟨?_,rfl⟩) λ G q=>⟨λ _=>q,λ z=>tf z⟩
   rw[aF hx,v3];rfl
 . rintro acc S' ⟨rfl,rfl⟩
   rw[y7,List.take_length];exact w
theorem wM1{j:Int}{P:Prop}(h:L2.CMul i j)(p:P):L2.CMul i j/\P:=⟨h,p⟩
theorem wM2{j:Int}{P:Prop}(h:L2.CPow i j)(p:P):L2.CPow i j/\P:=⟨h,p⟩
theorem wM3{j:Int}{P:Prop}(h:0<i/\i<j)(p:P):(0<i/\i<j)/\P:=⟨h,p⟩
theorem wM4{P:Prop}(h:0<i)(p:P):0<i/\P:=⟨h,p⟩
theorem wM5{α:Type}{l:List α}{P:Prop}(h:l.length≤1000000)(p:P):l.length≤1000000/\P:=⟨h,p⟩
theorem wM6{α β:Type}{l:List α}{k:List β}{P:Prop}(h:l.length+k.length≤1000000)(p:P):l.length+k.length≤1000000/\P:=⟨h,p⟩
theorem wM7{k j:Nat}{n:Int}{Q:List D->Nat->Prop}(h:S[k]? =some ds)(g:L2.ixN ds.length n=some j)(q:Q ds j):∃ds j,S[k]? =some ds/\L2.ixN ds.length n=some j/\Q ds j:=⟨ds,j,h,g,q⟩
theorem wM8{k:Nat}{n:Int}{d:D}{Q:List D->D->Prop}(h:S[k]? =some ds)(g:L2.atI ds n=some d)(q:Q ds d):∃ds d,S[k]? =some ds/\L2.atI ds n=some d/\Q ds d:=⟨ds,d,h,g,q⟩
theorem wM9{n:Int}{d:D}{Q:D->Prop}(g:L2.atI ds n=some d)(q:Q d):∃d,L2.atI ds n=some d/\Q d:=⟨d,g,q⟩
end RF
namespace RF
open PySem PySem.Spec L2 DL
open PyProof.Rows
section
variable {prog : Program} {w : World} {A : Around} {E : Value -> Shared -> Prop} {s : Shared}
noncomputable def ltF(fin:Bool):List Int->List Int->Bool
 | x::xs,y::ys=>if x=y then ltF fin xs ys else decide (x<y)
 | _,_=>fin
noncomputable def ltI(xs ys:List Int):Bool:=ltF (decide (xs.length<ys.length)) xs ys
theorem M8{flag:Bool}{a b:Int}{t u:Tok}{Q:Bool->Shared->Prop}(h:Q (decide (a<b)) s):wpAny (model prog w) A (oneLt' flag (.int a t) (.int b u)) Q E s:=by
 cases flag with
 | true=>exact oneLt_int h
 | false=>exact PySem.W.kat_one _ _ (wpAny_lt_int h)
noncomputable def dW(h:Heap)(v:Value)(ns:List Int):Prop:=∃b o xs k,v=.ref b/\h.get? b=some o/\o.cls=.type "tuple"/\o.data=.seq xs k/\IntsAre xs.toList ns
end
noncomputable def rM(k:Nat)(ds:List D):Option D->Option D
 | some (.loc j)=>if j=k then some (.lst ds)else some (.loc j)
 | o=>o
noncomputable def atTop(Γ:Gam):Prop:=∀(i:Nat)(d:D),Γ[i]? =some (some d)->ao d=true∨∃j,d=.loc j
noncomputable def Rt(n:Nat)(W:Gam->Store->Prop):Gam->Store->Prop:=λ Γ S1=>W Γ S1∨∃ds S',S1=S'++[ds]/\n≤S'.length/\ak ds=true/\flat S'/\atTop Γ/\W (Γ.map (rM S'.length ds)) S'
theorem QN.frz {K:PySem.W.Frag}{O:Own}{H H':Hp}{W:Gam->Store->Prop}{σ:DL.St}{n:Nat}(hn:O.A.length=n)(q:QN K O H (Rt n W) σ H'):QN K O H W σ H':=by
 obtain⟨O',Γ,S1,w,st,ok,r⟩:=q
 rcases w with w | ⟨ds,S',rfl,hl,hd,hS,ht,w⟩
 . exact⟨O',Γ,S1,w,st,ok,r⟩
 . obtain ⟨st2,ok2,sub,na⟩:=eU st ok (by omega) hS
   have len:O'.A.length=S'.length+1:=by have:=ok.len;simpa using this
   refine⟨⟨O'.A.take S'.length,O'.B⟩,_,S',w,st2,ok2,⟨by rw[y7];exact r.len,λ i d e=>?_⟩⟩
   . rw [y8] at e
     cases e1:Γ[i]? with
     | none=>rw[e1]at e;cases e
     | some o=>
       rw[e1]at e
       cases o with
       | none=>cases e
       | some d0=>
         obtain⟨v,hv,rv⟩:=r.at_ i d0 e1
         rcases ht i d0 e1 with nl | ⟨j,rfl⟩
         . have e2:d0=d:=by
            cases d0 with
            | loc j=>simp[ao]at nl
            | _=>simpa[rM]using e
           subst e2
           exact⟨v,hv,cP sub nl rv⟩
         . cases rv with
           | @loc a _ ha=>
             by_cases hj:j=S'.length
             . subst hj
               have e2:d=.lst ds:=by simpa[rM]using e.symm
               subst e2
               obtain⟨xs,hx,q1⟩:=ok.obj S'.length a ds ha (by simp)
               exact⟨_,hv,.lst (.inl ⟨na _ a (y9 _) ha,.inl hx⟩) (bN sub hd q1)⟩
             . have e2:d=.loc j:=by simpa[rM,hj]using e.symm
               subst e2
               refine⟨_,hv,.loc ?_⟩
               have:j<O'.A.length:=(z0.mp ha).1
               show(O'.A.take S'.length)[j]? =some (a,false)
               rw[List.getElem?_take,if_pos (by omega)];exact ha
section
variable {Ω : Wd}
noncomputable def Bl.fzl(b:Bl Ω):Bl Ω where
 lev:=b.lev
 chk:=b.chk
 wp Γ S W:=b.wp Γ S {W with nx:=Rt S.length W.nx}
 sound:=by
  intro X r top N nm sts Γ S W A hl hc hw pins s σ H O I env ok
  refine thn (b.sound A hl hc hw pins s σ H O I env ok) λ f s' q=>?_
  cases f with
  | next=>obtain⟨σ,H',I,q⟩:=q;exact⟨σ,H',I,QN.frz ok.len q⟩
  | brk=>exact q
  | cont=>exact q
  | ret u=>exact q
end
end RF
namespace RF
open PySem PySem.Spec L2 DL
open PyProof.Rows
variable {Γ : Gam}
theorem Fj{K:PySem.W.Frag}{O:Own}{H:Hp}{a:Addr}{k:Nat}{ds:List D}(h:O.A[k]? =some (a,false)):tG K (Itl K a) O H (λ S=>S[k]? =some ds) ds:=by
 intro O' H' S' st ok hS i
 have h':O'.A[k]? =some (a,false):=st.lc k _ h
 obtain⟨xs,hx,r⟩:=ok.obj k a ds h' hS
 have hq:SqL K H' a xs:=SqL.of hx
 refine⟨λ d hd=>?_,λ hi=>⟨xs,hq,by rw[r.length];exact Nat.le_of_eq hi.symm⟩⟩
 obtain⟨v,hv,rv⟩:=r.get hd
 refine⟨⟨xs,v,hq,hv⟩,λ x H'' y=>?_⟩
 obtain⟨e,y⟩:=y
 subst e
 have e:=y xs hq
 rw[hv]at e
 cases e
 exact⟨dG.refl _,rv⟩
noncomputable abbrev itC(W:List D->(Store->Prop)->Store->Prop):WD:=λ d S1=>match d with
 | .lst ds=>W ds (λ _=>True) S1
 | .tup ds=>W ds (λ _=>True) S1
 | .loc k=>∃ds,S1[k]? =some ds/\W ds (λ S=>S[k]? =some ds) S1
 | _=>False
theorem QK{X:Cx}{S:Store}{tg e:Expr}{W:List D->(Store->Prop)->Store->Prop}(h:Ev X Γ S e (itC W)):ItC X Γ S tg e W:=by
 intro pins s σ H O I env st
 refine thn (h pins s σ H O I env st) λ u s1 hq_=>?_
 obtain⟨v,H1,I1,r1,O1,d,S1,w,st1,ok1,rep⟩:=hq_
 cases rep with
 | @lst a xs ds h1 q1=>
   cases r1
   obtain⟨its,rv,p,hz⟩:=I1.list h1.sq
   refine wpAny_pyIter_list p.isList ?_
   refine⟨s1.heap.objs.size,[s1.heap.objs.size],_,_,H1,rfl,I1.kept (t':=s1.toks) λ b o e=>Heap.get?_push_of_some _ e,mj a _,⟨_,Heap.get?_push_size _ rfl,rfl,rfl⟩,λ b hb=>?_,O1,ds,_,S1,w,st1,ok1,pK (ou h1 q1)⟩
   have e:b=s1.heap.objs.size:=by simpa using hb
   subst e
   exact I1.fpOk (y9 _) (I1.hok.fresh (y9 _))
 | @tup a xs ds h1 q1=>
   cases r1
   obtain⟨its,rv,p,hz⟩:=I1.tuple h1.sq
   refine wpAny_pyIter_tuple (show s1.heap.IsTuple a its.toArray from p) ?_
   refine⟨s1.heap.objs.size,[s1.heap.objs.size],_,_,H1,rfl,I1.kept (t':=s1.toks) λ b o e=>Heap.get?_push_of_some _ e,qj a _,⟨_,Heap.get?_push_size _ rfl,rfl,rfl⟩,λ b hb=>?_,O1,ds,_,S1,w,st1,ok1,pK (qH h1 q1)⟩
   have e:b=s1.heap.objs.size:=by simpa using hb
   subst e
   exact I1.fpOk (y9 _) (I1.hok.fresh (y9 _))
 | @loc a k h1=>
   cases r1
   obtain⟨ds,hk,w⟩:=w
   obtain⟨xs,hx,q1⟩:=ok1.obj k a ds h1 hk
   obtain⟨its,rv,p,hz⟩:=I1.list (SqL.of hx)
   refine wpAny_pyIter_list p.isList ?_
   refine⟨s1.heap.objs.size,[s1.heap.objs.size],_,_,H1,rfl,I1.kept (t':=s1.toks) λ b o e=>Heap.get?_push_of_some _ e,mj a _,⟨_,Heap.get?_push_size _ rfl,rfl,rfl⟩,λ b hb=>?_,O1,ds,_,S1,w,st1,ok1,Fj h1⟩
   have e:b=s1.heap.objs.size:=by simpa using hb
   subst e
   exact I1.fpOk (y9 _) (I1.hok.fresh (y9 _))
 | _=>exact w.elim
theorem QM{X:Cx}{S:Store}{W:DL.Fin}{pos:Pos}{tg iter:Expr}{body:List Stmt}(h:ItC X Γ S tg iter λ ds C S1=>∃Pv:Nat->Gam->Store->Prop,Pv 0 Γ S1/\(∀i Γ' S',Pv i Γ' S'->C S')/\
 (∀i d Γ' S',ds[i]? =some d->Pv i Γ' S'->BdW X tg d Γ' S' λ Γ2 S2=>Rns X Γ2 S2 body {W with nx:=Pv (i+1),ct:=Pv (i+1),bk:=W.nx})/\(∀Γ' S',Pv ds.length Γ' S'->W.nx Γ' S'))
 (hp:PassesOwn (model X.prog X.w) X.A X.env X.xe)(hc:X.calm=true)(hs:∀x,foldedSetIterable iter X.env x=pure x):Rn X Γ S (.For tg iter body [] pos) W:=by
 intro pins s σ H O I env ok
 let WI:List D->(Store->Prop)->Store->Prop:=λ ds C S1=>∃Pv:Nat->Gam->Store->Prop,Pv 0 Γ S1/\(∀i Γ' S',Pv i Γ' S'->C S')/\
     (∀i d Γ' S',ds[i]? =some d->Pv i Γ' S'->BdW X tg d Γ' S' λ Γ2 S2=>Rns X Γ2 S2 body {W with nx:=Pv (i+1),ct:=Pv (i+1),bk:=W.nx})/\(∀Γ' S',Pv ds.length Γ' S'->W.nx Γ' S')
 have hI:PI X tg iter (λ σ H R=>∃O,EnvOk X.K O H σ Γ/\StOk X.K O H S/\∀J H',QIc X.K O H WI J H'->R J H'):=λ pins s σ H R I hh=>by
  obtain⟨O,env,st,k⟩:=hh
  refine thn (h pins s σ H O I env st) λ _ _ q=>thn q λ _ _ q2=>?_
  obtain⟨it,fp,tn,J,H',e1,e2,e3,e4,e5,e6⟩:=q2
  exact⟨it,fp,tn,J,H',e1,e2,e3,e4,e5,k J H' e6⟩
 have hG:PG X tg (λ v σ H Q=>∃O d Γ S W',EnvOk X.K O H σ Γ/\StOk X.K O H S/\Rep X.K O H v d/\BdW X tg d Γ S W'/\∀σ' H',QN X.K O H W' σ' H'->Q σ' H'):=λ pins s σ H v u Q I ru hh=>by
  obtain⟨O,d,Γ,S,W',env,st,r,b,k⟩:=hh
  refine thn (b pins s σ H O v u I env st r ru) λ _ _ q2=>?_
  obtain⟨σ',H',I',q⟩:=q2
  exact⟨σ',H',I',k σ' H' q⟩
 have hB:PSs X body (λ D σ H=>∃O Γ S W',EnvOk X.K O H σ Γ/\StOk X.K O H S/\Rns X Γ S body W'/\(∀σ' H',QN X.K O H W'.nx σ' H'->D.nx σ' H')/\(∀v H',QG X.K O H W'.rt v H'->D.rt v H')/\(∀σ' H',QN X.K O H W'.bk σ' H'->D.bk σ' H')/\∀σ' H',QN X.K O H W'.ct σ' H'->D.ct σ' H'):=
  λ pins s σ H D I hh=>by
   obtain⟨O,Γ,S,W',env,st,b,k1,k2,k3,k4⟩:=hh
   refine thn (b pins s σ H O I env st) λ f s' q=>?_
   cases f with
   | next=>obtain⟨σ',H',I',q⟩:=q;exact⟨σ',H',I',k1 σ' H' q⟩
   | brk=>obtain⟨σ',H',I',q⟩:=q;exact⟨σ',H',I',k3 σ' H' q⟩
   | cont=>obtain⟨σ',H',I',q⟩:=q;exact⟨σ',H',I',k4 σ' H' q⟩
   | ret u=>obtain⟨v,σ',H',I',r,q⟩:=q;exact⟨v,σ',H',I',r,k2 v H' q⟩
 refine JD hp hc hI hG hB hs pins s σ H _ I ⟨O,env,ok,λ J H1 q=>?_⟩
 obtain⟨O1,ds,C,S1,⟨Pv,p0,pC,pt,pe⟩,st1,ok1,yl⟩:=q
 refine⟨λ i m σ' H'=>m=ds.length-i/\i≤ds.length/\∃O' Γ' S',Pv i Γ' S'/\Step O1 O' H1 H'/\StOk X.K O' H' S'/\EnvOk X.K O' H' σ' Γ',⟨ds.length,by simp,Nat.zero_le _,O1,Γ,S1,p0,Step.refl _ _,ok1,env.mono st1⟩,?_⟩
 rintro i m σ2 H2 ⟨rfl,hi,O2,Γ2,S2,p2,st2,ok2,env2⟩
 obtain⟨y1,y2⟩:=yl O2 H2 S2 st2.conv ok2 (pC _ _ _ p2) i
 by_cases hlt:i<ds.length
 . obtain⟨go,yy⟩:=y1 ds[i] (y3 hlt)
   refine .inr ⟨go,λ σ' H'=>i+1≤ds.length/\∃O' Γ' S',Pv (i+1) Γ' S'/\Step O1 O' H1 H'/\StOk X.K O' H' S'/\EnvOk X.K O' H' σ' Γ',λ σ' H' q=>⟨ds.length-(i+1),by omega,rfl,q.1,q.2⟩,λ x H3 y=>?_⟩
   obtain⟨sm,rx⟩:=yy x H3 y
   have st3:=Step.same (O:=O2) sm
   refine⟨O2,ds[i],Γ2,S2,_,env2.mono st3,ok2.same sm,rx,pt i ds[i] Γ2 S2 (y3 hlt) p2,λ σ4 H4 q4=>?_⟩
   obtain⟨O4,Γ4,S4,w4,st4,ok4,env4⟩:=q4
   have stA:=(st2.trans st3).trans st4
   refine⟨O4,Γ4,S4,_,env4,ok4,w4,?_,?_,?_,?_⟩
   . rintro σ5 H5 ⟨O5,Γ5,S5,w5,st5,ok5,env5⟩
     exact⟨hlt,O5,Γ5,S5,w5,stA.trans st5,ok5,env5⟩
   . exact λ v H' q=>QG.pre (st1.trans stA) q
   . exact λ σ' H' q=>QN.pre (st1.trans stA) q
   . rintro σ5 H5 ⟨O5,Γ5,S5,w5,st5,ok5,env5⟩
     exact⟨hlt,O5,Γ5,S5,w5,stA.trans st5,ok5,env5⟩
 . have e:i=ds.length:=by omega
   subst e
   exact .inl ⟨y2 rfl,O2,Γ2,S2,pe Γ2 S2 p2,st1.trans st2,ok2,env2⟩
section
variable {Ω : Wd}
@[irreducible] noncomputable def Eo(Γ:Gam)(tg:Tg)(body:Bl Ω)(W:DL.Fin)(k:Nat)(ds:List D)(S1:Store):Prop:=
  ∃Pv:Nat->Gam->Store->Prop,Pv 0 Γ S1/\(∀i Γ' S',Pv i Γ' S'->S'[k]? =some ds)/\(∀i d Γ' S',ds[i]? =some d->Pv i Γ' S'->tg.wp d Γ' λ Γ2=>body.wp Γ2 S' {W with nx:=Pv (i+1),ct:=Pv (i+1),bk:=W.nx})/\(∀Γ' S',Pv ds.length Γ' S'->W.nx Γ' S')
theorem Dw{tg:Tg}{body:Bl Ω}{W:DL.Fin}{k:Nat}{ds:List D}{S1:Store}(h:∃Pv:Nat->Gam->Store->Prop,Pv 0 Γ S1/\(∀i Γ' S',Pv i Γ' S'->S'[k]? =some ds)/\(∀i d Γ' S',ds[i]? =some d->Pv i Γ' S'->tg.wp d Γ' λ Γ2=>body.wp Γ2 S' {W with nx:=Pv (i+1),ct:=Pv (i+1),bk:=W.nx})/\(∀Γ' S',Pv ds.length Γ' S'->W.nx Γ' S')):Eo Γ tg body W k ds S1:=by unfold Eo;exact h
noncomputable def Sm.forL(tg:Tg)(it:Ex Ω)(body:Bl Ω):Sm Ω where
 lev:=max it.lev body.lev
 chk top N nm st:=match st with | .For t i b [] _=>okE i&&(tg.chk top N nm t&&(it.chk top N nm i&&body.chk top N nm b)) | _=>false
 wp Γ S W:=it.wp Γ S λ d S1=>match d with
  | .lst ds=>iU Γ tg body W ds S1
  | .tup ds=>iU Γ tg body W ds S1
  | .loc k=>∃ds,S1[k]? =some ds/\Eo Γ tg body W k ds S1
  | _=>False
 sound:=by
  intro X r top N nm st Γ S W A hl hc hw
  obtain⟨l1,l2⟩:=lv2 hl
  split at hc
  . rename_i t i b pos
    obtain⟨h1,hc⟩:=aa hc
    obtain⟨h2,hc⟩:=aa hc
    obtain⟨h3,h4⟩:=aa hc
    have step:∀(Pv:Nat->Gam->Store->Prop)(ds:List D),(∀i d Γ' S',ds[i]? =some d->Pv i Γ' S'->tg.wp d Γ' λ Γ2=>body.wp Γ2 S' {W with nx:=Pv (i+1),ct:=Pv (i+1),bk:=W.nx})->∀i d Γ' S',ds[i]? =some d->Pv i Γ' S'->BdW X t d Γ' S' λ Γ2 S2=>Rns X Γ2 S2 b {W with nx:=Pv (i+1),ct:=Pv (i+1),bk:=W.nx}:=
     λ Pv ds pt i d Γ' S' hd hp=>BdW.mono (Tg.sound A (W:=λ Γ2 S2=>body.wp Γ2 S2 {W with nx:=Pv (i+1),ct:=Pv (i+1),bk:=W.nx}) h2 (pt i d Γ' S' hd hp)) λ Γ2 S2 q=>body.sound A l2 h4 q
    refine QM (QK (Ev.mono (it.sound A l1 h3 hw) λ d S1 q=>?_)) (by rw[A.xe];exact PassesOwn.never) A.calm (mV h1 _)
    cases d with
    | lst ds=>
      have q:iU Γ tg body W ds S1:=q
      unfold iU at q
      obtain⟨Pv,p0,pt,pe⟩:=q
      exact⟨Pv,p0,λ _ _ _ _=>trivial,step Pv ds pt,pe⟩
    | tup ds=>
      have q:iU Γ tg body W ds S1:=q
      unfold iU at q
      obtain⟨Pv,p0,pt,pe⟩:=q
      exact⟨Pv,p0,λ _ _ _ _=>trivial,step Pv ds pt,pe⟩
    | loc k=>
      obtain⟨ds,hk,q⟩:=q
      unfold Eo at q
      obtain⟨Pv,p0,pC,pt,pe⟩:=q
      exact⟨ds,hk,Pv,p0,pC,step Pv ds pt,pe⟩
    | _=>exact(show False from q).elim
  . exact fE hc
end
theorem Do{Ω:Wd}{cap:List (Option Nat)}{elt:Ex Ω}{tg:Tg}{W:WD}{S1:Store}{C0:Store->Prop}{α:Type}{xs:List α}{enc:α->D}(f:α->D)(hz:xs.length≤1000000)(hC:C0 S1)(h:∀(i:Nat)(x:α),xs[i]? =some x->∀Q:WD,Q (f x) S1->tg.wp (enc x) (capt cap Γ) λ Γ2=>elt.wp Γ2 S1 Q)
 (w:W (.lst (xs.map f)) S1∨W (.loc S1.length) (S1++[xs.map f])):mX cap Γ elt tg (Cd.no (Ω:=Ω)) W (xs.map enc) C0 S1:=by
 refine oY ⟨by rw[y7];exact hz,λ i acc S'=>acc=(xs.take i).map f/\S'=S1,⟨rfl,rfl⟩,λ i acc S' q=>by rw[q.2];exact hC,?_,?_⟩
 . rintro i d acc S' hd ⟨rfl,rfl⟩
   obtain⟨x,hx,rfl⟩:=cW hd
   refine Tg.mono (h i x hx (λ y S4=>(xs.take i).map f++[y]=(xs.take (i+1)).map f/\S4=S') ⟨?_,rfl⟩) λ G q=>⟨λ _=>q,λ z=>tf z⟩
   rw[aF hx,v3];rfl
 . rintro acc S' ⟨rfl,rfl⟩
   rw[y7,List.take_length];exact w
end RF
namespace RF
open PySem PySem.Spec L2 DL
open PyProof.Rows
variable {ds : List D}
noncomputable def gV(S:Store):D->Option (List D)
 | .lst ds=>some ds
 | .loc k=>S[k]?
 | _=>none
noncomputable def putL(own:Bool)(W:WD)(ds:List D)(S:Store):Prop:=match own with
 | true=>W (.loc S.length) (S++[ds])
 | false=>W (.lst ds) S
section
variable {X : Cx} {S : Store} {W : WD}
theorem vL{pins:Pins}{s:Shared}{σ:DL.St}{H:Hp}{O:Own}{v:V}{d:D}(st:StOk X.K O H S)(r:Rep X.K O H v d)(h:gV S d=some ds):∃a xs,v=.ref a/\SqL X.K H a xs/\Reps X.K O H xs ds:=by
 cases r with
 | @lst a xs _ h1 q1=>cases h;exact⟨a,xs,rfl,h1.sq,q1⟩
 | @loc a k h1=>
   obtain⟨xs,hx,q1⟩:=st.obj k a ds h1 h
   exact⟨a,xs,rfl,SqL.of hx,q1⟩
 | _=>cases h
theorem Js{own:Bool}{K:PySem.W.Frag}{O:Own}{H:Hp}{p:Addr}{xs:List V}(w:putL own W ds S)(st:StOk K O H S)(h:H p=none)(r:Reps K O H xs ds):QG K O H W (.ref p) (upd H p (.lst xs)):=by
 cases own with
 | true=>exact qg w st h r
 | false=>exact dw w st h r
theorem Rz{own:Bool}{x y:D}{es:List D}(hx:gV S x=some ds)(hy:gV S y=some es)(hz:ds.length+es.length≤1000000)(w:putL own W (ds++es) S):du X .Add x y S W:=by
 intro pins s σ H O v w' u u' I st r1 r2 r3 r4
 obtain⟨a,xs,rfl,h1,q1⟩:=vL (pins:=pins) (s:=s) (σ:=σ) st r1 hx
 obtain⟨b,ys,rfl,h2,q2⟩:=vL (pins:=pins) (s:=s) (σ:=σ) st r2 hy
 cases r3
 cases r4
 obtain⟨its,v1,p1,_⟩:=I.list h1
 obtain⟨its2,v2,p2,_⟩:=I.list h2
 obtain⟨⟨cls,dd,data,sl⟩,n,ho,hc,hdd,hd⟩:=id p1
 obtain⟨⟨cls2,dd2,data2,sl2⟩,n2,ho2,hc2,hdd2,hd2⟩:=id p2
 simp only at hc hd hc2 hd2
 subst hc hd hc2 hd2
 have z:its.length+its2.length≤sizeLine:=by rw[←v1.length,←v2.length,q1.length,q2.length];exact small hz
 refine concat_meets ⟨_,ho,rfl⟩ ⟨_,ho2,rfl⟩ noFill_list_add seq_list_add PySem.F.slot_list_add PySem.F.entry_list_add (PySem.F.args_list_add_2 _ _)
  (list_addW a b its.toArray its2.toArray n n2 dd dd2 sl sl2 (by simpa using z)) ⟨ho,ho2,?_⟩
 have ea:its.toArray++its2.toArray=(its++its2).toArray:=by simp
 rw[ea]
 exact⟨.ref s.heap.objs.size,_,I.lnew (t':=s.toks) (v1.append v2) (by rw[x6,q1.length,q2.length];exact small hz),rfl,Js w st I.fresh (q1.append q2)⟩
theorem RP{own:Bool}{x:D}{k:Int}(hx:gV S x=some ds)(hk: -(2 ^ 63)≤k/\k<2 ^ 63)(hz:ds.length*k.toNat≤1000000)(w:putL own W (List.replicate k.toNat ds).flatten S):du X .Mult x (.int k) S W:=by
 intro pins s σ H O v w' u u' I st r1 r2 r3 r4
 obtain⟨a,xs,rfl,h1,q1⟩:=vL (pins:=pins) (s:=s) (σ:=σ) st r1 hx
 cases r2
 cases r3
 obtain⟨t,rfl⟩:=r4
 obtain⟨its,v1,p1,_⟩:=I.list h1
 obtain⟨⟨cls,dd,data,sl⟩,n,ho,hc,hdd,hd⟩:=id p1
 simp only at hc hd
 subst hc hd
 have l1:its.length=ds.length:=by rw[←v1.length,q1.length]
 have big:its.length*k.toNat≤1000000:=by rw[l1];exact hz
 have sz:(1000000:Nat)≤sizeLine:=by decide
 refine PySem.wpAny_binaryOp_repeat_ref (T:="list") (U:="int") (by decide) ⟨_,ho,rfl⟩ (λ s'=>typeIs_int s' k t) PySem.noFill_list_mul F.fills_int_mul F.slot_int_rmul PySem.repeat_list F.slot_int_index.lookup
  (call_meets F.slot_int_rmul (typeIs_int s k t) F.entry_int_rmul (F.args_int_rmul_2 _ _) (PySem.lm_int_rmul_list_any k t a its.toArray n dd sl) ⟨ho,rfl,⟨_,ho,rfl⟩,?_⟩)
 refine call_meets F.slot_list_mul ⟨_,ho,rfl⟩ F.entry_list_mul (F.args_list_mul_2 _ _) (PySem.lm_list_mul_any a its.toArray n dd sl k t ?_ ?_ ?_) ⟨ho,?_⟩
 . have c1:Builtin.List.listFitsIndex k=true:=by
    unfold Builtin.List.listFitsIndex
    rw[decide_eq_true (by omega),decide_eq_true (by omega)];rfl
   rw[c1];decide
 . rw[x4];omega
 . rw[x4]
   unfold Builtin.List.listTooLong
   rw[decide_eq_true_eq];omega
 . have ez:(List.replicate (if its.toArray.isEmpty=true then 0 else k.toNat) its.toArray).foldl (λ x1 x2=>x1++x2) #[]=(List.replicate k.toNat its).flatten.toArray:=by
    have fz:∀m:Nat,(List.replicate m its.toArray).foldl (λ x1 x2=>x1++x2) #[]=(List.replicate m its).flatten.toArray:=λ m=>by
     have:=foldl_rep its m []
     rw[List.nil_append]at this
     exact this
    rw[fz]
    by_cases e:its=[]
    . subst e;simp
    . have:its.toArray.isEmpty=false:=by simpa using e
      rw[this];rfl
   rw[ez]
   exact⟨.ref s.heap.objs.size,_,I.lnew (t':=s.toks) (v1.rep _) (by rw[len_rep,q1.length,Nat.mul_comm];exact small hz),rfl,Js w st I.fresh (Reps.rep q1 _)⟩
theorem Rv{ns:List Int}(w:W (.int ns.sum) S)(hc:X.calm=true):cO X (.builtin "sum") [.tup (ns.map .int)] S W:=by
 intro pins s σ H O vs us I st r ru
 obtain⟨v,rfl,r'⟩:=cC r
 obtain⟨u,rfl,ru'⟩:=vals1 ru
 cases r' with
 | @tup a xs _ h1 q1=>
   cases ru'
   obtain⟨its,rv,pl,hz⟩:=I.tuple h1.sq
   have ex:=q1.ints
   subst ex
   have hi:IntsAre its ns:=intsAre_of rv
   obtain⟨zs,ez⟩:=hi.allInts.items
   have hT:s.heap.IsTuple a its.toArray:=pl
   rw[ez]at hT
   have hlt:a<s.heap.objs.size:=by obtain⟨_,e,_⟩:=hT;exact Heap.lt_size e
   refine call_sum_walkG (wpAny_pyIter_tuple hT ?_)
   refine⟨_,_,_,_,_,_,numAt zs,rfl,Walks.tuple (A:=X.A.in1) (I.ok.hd hc) _ a (w9 hlt) (intItems zs),⟨⟨_,Heap.get?_push_size _ rfl,rfl,rfl⟩,hT.push _⟩,(λ b hb=>?_),(λ _ _=>intItems_at),λ h' tk t' hk=>?_⟩
   . show b<(s.heap.push _).objs.size
     rw[Heap.size_push]
     rcases List.mem_cons.mp hb with rfl | hb
     . exact Nat.lt_succ_self _
     . rcases List.mem_cons.mp hb with rfl | hb
       . exact Nat.lt_succ_of_lt hlt
       . cases hb
   . have e:preSum (numAt zs) (intItems zs).size=ns.sum:=by
      rw[show(intItems zs).size=zs.size by simp[intItems],preSum_eq,List.take_of_length_le (by simp),←nums_intItems,←ez]
      exact congrArg List.sum hi.numsOf
     rw[e]
     refine⟨.int _,H,I.kept (λ b o q=>hk b o (λ z=>?_) (Heap.get?_push_of_some _ q)),⟨_,rfl⟩,QG.here w st (.int _)⟩
     have z':b=s.heap.objs.size:=by simpa using z
     exact absurd (Heap.lt_size q) (by rw[z'];exact Nat.lt_irrefl _)
end
noncomputable def vR:Bf where
 x:="sum"
 id:="sum"
 boot:=by decide+kernel
 wp ds S W:=match ds with
  | [.lst ds]=>∃ns:List Int,ds=ns.map .int/\W (.int ns.sum) S
  | [.tup ds]=>∃ns:List Int,ds=ns.map .int/\W (.int ns.sum) S
  | _=>False
 sound:=by
  intro X ds S W hc hr h
  split at h
  . obtain⟨bs,rfl,h⟩:=h;exact Sy h hc
  . obtain⟨bs,rfl,h⟩:=h;exact Rv h hc
  . exact h.elim
noncomputable def wR(own:Bool)(op:Operator)(x y:D)(S:Store)(W:WD):Prop:=match op with
 | .Add=>∃ds es,gV S x=some ds/\gV S y=some es/\ds.length+es.length≤1000000/\putL own W (ds++es) S
 | .Mult=>∃ds k,gV S x=some ds/\y=.int k/\(-(2 ^ 63)≤k/\k<2 ^ 63)/\ds.length*k.toNat≤1000000/\putL own W (List.replicate k.toNat ds).flatten S
 | _=>False
theorem IW{X:Cx}{own:Bool}{op:Operator}{x y:D}{S:Store}{W:WD}(h:wR own op x y S W):du X op x y S W:=by
 unfold wR at h
 split at h
 . obtain⟨ds,es,h1,h2,h3,h4⟩:=h;exact Rz h1 h2 h3 h4
 . obtain⟨ds,k,h1,rfl,h3,h4,h5⟩:=h;exact RP h1 h3 h4 h5
 . exact h.elim
section
variable {Ω : Wd}
noncomputable def Ex.binL(own:Bool)(op:Operator)(a b:Ex Ω):Ex Ω where
 lev:=max a.lev b.lev
 chk top N nm e:=match e with | .BinOp l o r _=>(o==op)&&(a.chk top N nm l&&b.chk top N nm r) | _=>false
 wp Γ S W:=a.wp Γ S λ x S1=>b.wp Γ S1 λ y S2=>wR own op x y S2 W
 sound:=by
  intro X r top N nm e Γ S W A hl hc hw
  obtain⟨l1,l2⟩:=lv2 hl
  cases e with
  | BinOp l o r' pos=>
    obtain⟨h1,h2⟩:=aa hc
    obtain⟨h2,h3⟩:=aa h2
    have e:o=op:=eq_of_beq h1
    subst e
    exact wu ((a.sound A l1 h2 hw).mono λ x S1 q=>(b.sound A l2 h3 q).mono λ y S2 q=>IW q)
  | _=>exact fE hc
noncomputable def Ex.fdiv(a b:Ex Ω):Ex Ω where
 lev:=max a.lev b.lev
 chk top N nm e:=match e with | .BinOp l o r _=>(o==.FloorDiv)&&(a.chk top N nm l&&b.chk top N nm r) | _=>false
 wp Γ S W:=a.wp Γ S λ x S1=>b.wp Γ S1 λ y S2=>match x,y with
  | .int i,.int j=>(0<j/\j<1000000000000000000000000000000000000000000000000000000000000)/\W (.int (i/j)) S2
  | _,_=>False
 sound:=by
  intro X r top N nm e Γ S W A hl hc hw
  obtain⟨l1,l2⟩:=lv2 hl
  cases e with
  | BinOp l o r' pos=>
    obtain⟨h1,h2⟩:=aa hc
    obtain⟨h2,h3⟩:=aa h2
    have e:o=.FloorDiv:=eq_of_beq h1
    subst e
    refine wu ((a.sound A l1 h2 hw).mono λ x S1 q=>(b.sound A l2 h3 q).mono λ y S2 q=>?_)
    split at q
    . rename_i i j
      refine jo (C:=λ _ j=>0<j/\j<1000000000000000000000000000000000000000000000000000000000000) (g:=λ i j=>i/j) (opI λ i j _ _ _ _ _ hc q=>?_) q.1 q.2
      have h1:(0:Int)<j:=hc.1
      have h2:j<1000000000000000000000000000000000000000000000000000000000000:=hc.2
      refine floordiv_int (by omega) (by rw[Int.fdiv_eq_ediv_of_nonneg i (by omega)];exact q) (.inl (PyProof.noPylong_of_log2 ?_))
      have h3:j.natAbs<2 ^ 200:=by omega
      have:j.natAbs.log2<200:=(Nat.log2_lt (by omega)).mpr h3
      omega
    . exact q.elim
  | _=>exact fE hc
end
end RF
namespace RF
open PySem PySem.Spec L2 DL
open PyProof.Rows
noncomputable def iZ(n:Nat)(J:List (List D)):Option D->Option D
 | some (.loc j)=>if j<n then some (.loc j)else(J[j-n]?).map .lst
 | o=>o
noncomputable def vV(n:Nat)(W:Gam->Store->Prop):Gam->Store->Prop:=λ Γ S1=>W Γ S1∨∃J S',S1=S'++J/\n≤S'.length/\flat J/\flat S'/\atTop Γ/\W (Γ.map (iZ S'.length J)) S'
theorem QN.frzJ{K:PySem.W.Frag}{O:Own}{H H':Hp}{W:Gam->Store->Prop}{σ:DL.St}{n:Nat}(hn:O.A.length=n)(q:QN K O H (vV n W) σ H'):QN K O H W σ H':=by
 obtain⟨O',Γ,S1,w,st,ok,r⟩:=q
 rcases w with w | ⟨J,S',rfl,hl,hd,hS,ht,w⟩
 . exact⟨O',Γ,S1,w,st,ok,r⟩
 . obtain ⟨st2,ok2,sub,na⟩:=eU st ok (by omega) hS
   refine⟨_,_,S',w,st2,ok2,⟨by rw[y7];exact r.len,λ i d e=>?_⟩⟩
   rw[y8]at e
   cases e1:Γ[i]? with
   | none=>rw[e1]at e;cases e
   | some o=>
     rw[e1]at e
     cases o with
     | none=>cases e
     | some d0 =>
       obtain⟨v,hv,rv⟩:=r.at_ i d0 e1
       rcases ht i d0 e1 with nl | ⟨j,rfl⟩
       . have e2:d0=d:=by
          cases d0 with
          | loc j=>simp[ao]at nl
          | _=>simpa[iZ]using e
         subst e2
         exact⟨v,hv,cP sub nl rv⟩
       . cases rv with
         | @loc a _ ha=>
           by_cases hj:j<S'.length
           . have e2:d=.loc j:=by simpa[iZ,hj]using e.symm
             subst e2
             refine⟨_,hv,.loc ?_⟩
             show(O'.A.take S'.length)[j]? =some (a,false)
             rw[List.getElem?_take,if_pos hj];exact ha
           . cases e3:J[j-S'.length]? with
             | none=>simp[iZ,hj,e3]at e
             | some ds=>
               have e2:d=.lst ds:=by simpa[iZ,hj,e3]using e.symm
               subst e2
               obtain⟨xs,hx,q1⟩:=ok.obj j a ds ha (by rw[List.getElem?_append_right (by omega)];exact e3)
               exact⟨_,hv,.lst (.inl ⟨na j a (by omega) ha,.inl hx⟩) (bN sub (hd ds (y4 e3)) q1)⟩
noncomputable def Drp(n:Nat)(W:WD):WD:=λ d S1=>W d S1∨∃J S',S1=S'++J/\n≤S'.length/\ao d=true/\flat S'/\W d S'
theorem QG.drp{K:PySem.W.Frag}{O:Own}{H H':Hp}{W:WD}{v:V}{n:Nat}(hn:O.A.length=n)(q:QG K O H (Drp n W) v H'):QG K O H W v H':=by
 obtain⟨O',d,S1,w,st,ok,r⟩:=q
 rcases w with w | ⟨J,S',rfl,hl,hd,hS,w⟩
 . exact⟨O',d,S1,w,st,ok,r⟩
 . obtain⟨st2,ok2,sub,na⟩:=eU st ok (by omega) hS
   exact⟨_,d,S',w,st2,ok2,cP sub hd r⟩
section
variable {Ω : Wd}
noncomputable def Bl.fza(b:Bl Ω):Bl Ω where
 lev:=b.lev
 chk:=b.chk
 wp Γ S W:=b.wp Γ S {W with nx:=vV S.length W.nx}
 sound:=by
  intro X r top N nm sts Γ S W A hl hc hw pins s σ H O I env ok
  refine thn (b.sound A hl hc hw pins s σ H O I env ok) λ f s' q=>?_
  cases f with
  | next=>obtain⟨σ,H',I,q⟩:=q;exact⟨σ,H',I,QN.frzJ ok.len q⟩
  | brk=>exact q
  | cont=>exact q
  | ret u=>exact q
noncomputable def Bl.drp(b:Bl Ω):Bl Ω where
 lev:=b.lev
 chk:=b.chk
 wp Γ S W:=b.wp Γ S {W with rt:=Drp S.length W.rt}
 sound:=by
  intro X r top N nm sts Γ S W A hl hc hw pins s σ H O I env ok
  refine thn (b.sound A hl hc hw pins s σ H O I env ok) λ f s' q=>?_
  cases f with
  | next=>exact q
  | brk=>exact q
  | cont=>exact q
  | ret u=>obtain⟨v,σ',H',I',r,q⟩:=q;exact⟨v,σ',H',I',r,QG.drp ok.len q⟩
end
end RF
namespace RF
open PySem PySem.Spec L2 DL
open PyProof.Rows
variable {v : Value} {c : Int × List Int} {b : Addr} {ns : List Int} {n : Nat} {Q : Bool -> Shared -> Prop}
noncomputable def aW(h:Heap)(v:Value)(c:Int×List Int):Prop:=
 ∃b o k tk u,v=.ref b/\h.get? b=some o/\o.cls=.type "tuple"/\o.data=.seq #[.int c.1 tk,u] k/\dW h u c.2
theorem aW.keep{h h':Heap}(k:∀b o,h.get? b=some o->o.cls=.type "tuple"->h'.get? b=some o)(hc:aW h v c):aW h' v c:=by
 obtain⟨b,o,n,tk,u,e1,e2,e3,e4,b',o',xs,n',e5,e6,e7,e8,e9⟩:=hc
 exact⟨b,o,n,tk,u,e1,k _ _ e2 e3,e3,e4,b',o',xs,n',e5,k _ _ e6 e7,e7,e8,e9⟩
section
variable {prog : Program} {w : World} {A : Around} {E : Value -> Shared -> Prop} {s : Shared}
theorem j7:∀{vs:List Value}{ns:List Int},IntsAre vs ns->ItemsAre (intKind prog w) ns vs
 | _,_,.nil=>.nil
 | _,_,.cons n t r=>.cons (intKind_is _ _ _ _) (j7 r)
theorem wK{h:Heap}(ht:dW h (.ref b) ns):IsTupleKey (intKind prog w) h ns b:=by
 obtain⟨b',o,xs,k,e,e1,e2,e3,e4⟩:=ht
 cases e
 exact⟨o,xs,k,e1,e2,e3,j7 e4⟩
theorem nY:∀{vs:List Value}{ns ms:List Int},IntsAre vs ns->IntsAre vs ms->ns=ms
 | _,_,_,.nil,.nil=>rfl
 | _,_,_,.cons _ _ r,.cons _ _ r'=>by rw[nY r r']
theorem Kr{h:Heap}{ms:List Int}(x:dW h v ns)(y:dW h v ms):ns=ms:=by
 obtain⟨b,o,xs,k,rfl,e1,e2,e3,e4⟩:=x
 obtain⟨b',o',xs',k',e,e1',e2',e3',e4'⟩:=y
 cases e
 obtain rfl:o=o':=Option.some.inj (e1.symm.trans e1')
 have e5:=e3.symm.trans e3'
 injection e5 with e5 _
 subst e5
 exact nY e4 e4'
noncomputable def hC(prog:Program)(w:World)(c:Int×List Int):Int:=reduceHash (Builtin.Tuple.tupleHashOf [(intKind prog w).hash c.1,tupleKeyHash (intKind prog w) c.2])
theorem IV{Q:Int->Shared->Prop}(hu:A.units+5<cLine)(hc:aW s.heap v c)(h:Q (hC prog w c) {s with toks:=s.toks+(c.2.length+3)}):wpAny (model prog w) A (pyHash v) Q E s:=by
 obtain⟨a,o,n,tk,u,rfl,ho,hcl,hd,hu'⟩:=hc
 have hT:s.TypeIs (.ref a) "tuple":=⟨o,ho,hcl⟩
 have hk:∀b,u=.ref b->IsTupleKey (intKind prog w) s.heap c.2 b:=λ b e=>wK (e▸hu')
 obtain⟨b,_,_,_,rfl,_⟩:=id hu'
 have hk:=hk b rfl
 unfold pyHash
 first | unfold pyHashByItsType | skip
 first | refine wpAny_bind (wpAny_cRoomFor_or (.inr (by omega)) ?_) | skip
 refine wpAny_bind (wpAny_specialOf hT F.slot_tuple_hash.lookup ?_)
 show wpAny _ _ (if(some (Value.builtin "tuple.__hash__")==some Value.none)=true then _ else _) Q E s
 rw[if_neg (by rw[beq_builtin_none];exact y6)]
 refine wpAny_bind (wpAny_specialOf hT F.slot_tuple_hash.lookup ?_)
 show wpAny _ _ (callSpecialIfBoundUnlessNone? (.ref a) "__hash__" _>>=_) Q E s
 refine wpAny_bind (wpAny_callSpecialIfBoundUnlessNone?_slot hT F.slot_tuple_hash (wpAny_call_entry F.slot_tuple_hash hT F.entry_tuple_hash ?_ (F.args_tuple_hash_1 _)))
 show wpAny _ _ (Builtin.Tuple.tupleItemsOf (.ref a)>>=_) _ _ s
 refine wpAny_bind (wpAny_tupleItemsOf ho hd ?_)
 refine wpAny_bind ?_
 rw[←Array.forIn_toList]
 refine wpAny_forIn_list _
  (λ rest (b':Array Int) s'=>∃n,s'={s with toks:=s.toks+n}/\((rest=[.int c.1 tk,.ref b]/\b'=#[]/\n=0)∨(rest=[.ref b]/\b'=#[(intKind prog w).hash c.1]/\n=1)∨(rest=[]/\n=c.2.length+2/\b'=#[(intKind prog w).hash c.1,tupleKeyHash (intKind prog w) c.2])))
  _ ?_ ?_ _ _ ⟨0,rfl,.inl ⟨rfl,rfl,rfl⟩⟩
 . rintro x rest b' s' ⟨n,rfl,⟨e,rfl,rfl⟩ | ⟨e,rfl,rfl⟩ | ⟨e,rfl,rfl⟩⟩
   . cases e
     refine wpAny_bind ((intKind prog w).pyHash (intKind_is _ _ _ _) ?_)
     first
      | exact wpAny_pure ⟨1,rfl,.inr (.inl ⟨rfl,rfl,rfl⟩)⟩
      | exact wpAny_bind (wpAny_pure (wpAny_pure ⟨1,rfl,.inr (.inl ⟨rfl,rfl,rfl⟩)⟩))
   . cases e
     refine wpAny_bind (wpAny_pyHash_tuple (knd:=intKind prog w) ?_ hk ?_)
     . show A.units+1<cLine
       omega
     . first
       | exact wpAny_pure ⟨1+(c.2.length+1),by simp[Nat.add_assoc],.inr (.inr ⟨rfl,by omega,rfl⟩)⟩
       | exact wpAny_bind (wpAny_pure (wpAny_pure ⟨1+(c.2.length+1),by simp[Nat.add_assoc],.inr (.inr ⟨rfl,by omega,rfl⟩)⟩))
   . cases e
 . rintro b' s' ⟨n,rfl,⟨e,rfl,rfl⟩ | ⟨e,rfl,rfl⟩ | ⟨e,rfl,rfl⟩⟩
   . cases e
   . cases e
   show wpAny _ _ (retInt (Builtin.Tuple.tupleHashOf [(intKind prog w).hash c.1,tupleKeyHash (intKind prog w) c.2])) _ _ _
   refine wpAny_ret_mkInt ?_
   show wpAny _ _ (if(decide (-(2:Int) ^ 63≤Builtin.Tuple.tupleHashOf _)&&decide (Builtin.Tuple.tupleHashOf _<2 ^ 63))=true then _ else _) Q E _
   unfold hC reduceHash at h
   split
   . rename_i hr
     rw[if_pos hr]at h
     exact wpAny_pure h
   . rename_i hr
     rw[if_neg hr]at h
     exact wpAny_bind (wpAny_rule (wpAny_pure h))
theorem wQ{Q:Int->Shared->Prop}(hu:A.units+5<cLine)(hc:aW s.heap v c)(h:∀n,Q (hC prog w c) {s with toks:=s.toks+n}):wpAny (model prog w) A (pyHash v) Q E s:=IV hu hc (h _)
theorem mG{h:Heap}(ht:dW h (.ref b) ns):∃o xs k,h.get? b=some o/\o.cls=.type "tuple"/\o.data=.seq xs k/\∀v∈xs.toList,∃i t,v=Value.int i t:=by
 obtain⟨b',o,xs,k,e,e1,e2,e3,e4⟩:=ht
 cases e
 refine⟨o,xs,k,e1,e2,e3,λ v hv=>?_⟩
 obtain⟨i,hi⟩:=List.getElem?_of_mem hv
 obtain⟨t,e⟩:=IntsAre.int_at e4 i v hi
 exact⟨_,t,e⟩
theorem Jc(ht:dW s.heap (.ref b) ns)(h:Q true s):wpAny (model prog w) A (eqIsQuiet (n+1) (.ref b)) Q E s:=by
 obtain⟨o,xs,k,ho,hc,hd,hi⟩:=mG ht
 have hT:s.TypeIs (.ref b) "tuple":=⟨o,ho,hc⟩
 unfold eqIsQuiet
 refine wpAny_bind (wpAny_specialOf hT F.slot_tuple_eq.lookup ?_)
 show wpAny _ _ (isInstance (.ref b) (.type "tuple")>>=_) _ _ s
 refine wpAny_bind (wpAny_isInstance hT isSubtype_tuple_tuple ?_)
 simp only[Bool.not_true,Bool.false_eq_true,if_false]
 refine wpAny_bind (wpAny_seqItems ho hd ?_)
 refine wpAny_bind ?_
 show wpAny _ _ (forIn xs _ _) _ _ s
 rw[←Array.forIn_toList]
 refine wpAny_forIn_list _ (λ rest r s'=>r.1=none/\s'=s/\∀v∈rest,∃i t,v=Value.int i t) _ ?_ ?_ _ _ ⟨rfl,rfl,hi⟩
 . rintro v rest r s' ⟨hr,rfl,hall⟩
   obtain⟨i,t,rfl⟩:=hall v x5
   rw[eqIsQuiet_byValue _ (by rfl)]
   refine wpAny_bind (wpAny_pure ?_)
   simp only[Bool.not_true,Bool.false_eq_true,if_false]
   exact wpAny_pure ⟨rfl,rfl,λ u hu'=>hall u (x3 _ hu')⟩
 . rintro⟨r1,r2⟩ s' ⟨hr,rfl,_⟩
   simp only at hr
   subst hr
   exact wpAny_pure h
theorem uo(ht:aW s.heap (.ref b) c)(h:Q true s):wpAny (model prog w) A (eqIsQuiet (n+2) (.ref b)) Q E s:=by
 obtain⟨a,o,k,tk,u,e,ho,hc,hd,hu'⟩:=ht
 cases e
 obtain⟨b',_,_,_,rfl,_⟩:=id hu'
 have hT:s.TypeIs (.ref b) "tuple":=⟨o,ho,hc⟩
 unfold eqIsQuiet
 refine wpAny_bind (wpAny_specialOf hT F.slot_tuple_eq.lookup ?_)
 show wpAny _ _ (isInstance (.ref b) (.type "tuple")>>=_) _ _ s
 refine wpAny_bind (wpAny_isInstance hT isSubtype_tuple_tuple ?_)
 simp only[Bool.not_true,Bool.false_eq_true,if_false]
 refine wpAny_bind (wpAny_seqItems ho hd ?_)
 refine wpAny_bind ?_
 show wpAny _ _ (forIn #[Value.int c.1 tk,.ref b'] _ _) _ _ s
 rw[←Array.forIn_toList]
 refine wpAny_forIn_list _ (λ rest r s'=>r.1=none/\s'=s/\∀v∈rest,v=Value.int c.1 tk∨v=.ref b') _ ?_ ?_ _ _ ⟨rfl,rfl,by simp⟩
 . rintro v rest r s' ⟨hr,rfl,hall⟩
   rcases hall v x5 with rfl | rfl
   . rw[eqIsQuiet_byValue _ (by rfl)]
     refine wpAny_bind (wpAny_pure ?_)
     simp only[Bool.not_true,Bool.false_eq_true,if_false]
     exact wpAny_pure ⟨rfl,rfl,λ u hu'=>hall u (x3 _ hu')⟩
   . refine wpAny_bind (Jc hu' ?_)
     simp only[Bool.not_true,Bool.false_eq_true,if_false]
     exact wpAny_pure ⟨rfl,rfl,λ u hu'=>hall u (x3 _ hu')⟩
 . rintro⟨r1,r2⟩ s' ⟨hr,rfl,_⟩
   simp only at hr
   subst hr
   exact wpAny_pure h
theorem Dh(n:Nat)(i:Int)(t:Tok):hashByValue n (.int i t)=pure true:=by cases n<;>rfl
theorem Oc(ht:dW s.heap (.ref b) ns)(h:Q true s):wpAny (model prog w) A (hashByValue (n+1) (.ref b)) Q E s:=by
 obtain⟨o,xs,k,ho,hc,hd,hi⟩:=mG ht
 have hT:s.TypeIs (.ref b) "tuple":=⟨o,ho,hc⟩
 unfold hashByValue
 refine wpAny_bind (wpAny_specialOf hT F.slot_tuple_hash.lookup ?_)
 show wpAny _ _ (seqItems? (.ref b)>>=_) _ _ s
 refine wpAny_bind (wpAny_seqItems ho hd ?_)
 refine wpAny_bind ?_
 show wpAny _ _ (forIn xs _ _) _ _ s
 rw[←Array.forIn_toList]
 refine wpAny_forIn_list _ (λ rest r s'=>r.1=none/\s'=s/\∀v∈rest,∃i t,v=Value.int i t) _ ?_ ?_ _ _ ⟨rfl,rfl,hi⟩
 . rintro v rest r s' ⟨hr,rfl,hall⟩
   obtain⟨i,t,rfl⟩:=hall v x5
   rw[Dh]
   refine wpAny_bind (wpAny_pure ?_)
   simp only[Bool.not_true,Bool.false_eq_true,if_false]
   exact wpAny_pure ⟨rfl,rfl,λ u hu'=>hall u (x3 _ hu')⟩
 . rintro⟨r1,r2⟩ s' ⟨hr,rfl,_⟩
   simp only at hr
   subst hr
   exact wpAny_pure h
theorem rY(ht:aW s.heap (.ref b) c)(h:Q true s):wpAny (model prog w) A (hashByValue (n+2) (.ref b)) Q E s:=by
 obtain⟨a,o,k,tk,u,e,ho,hc,hd,hu'⟩:=ht
 cases e
 obtain⟨b',_,_,_,rfl,_⟩:=id hu'
 have hT:s.TypeIs (.ref b) "tuple":=⟨o,ho,hc⟩
 unfold hashByValue
 refine wpAny_bind (wpAny_specialOf hT F.slot_tuple_hash.lookup ?_)
 show wpAny _ _ (seqItems? (.ref b)>>=_) _ _ s
 refine wpAny_bind (wpAny_seqItems ho hd ?_)
 refine wpAny_bind ?_
 show wpAny _ _ (forIn #[Value.int c.1 tk,.ref b'] _ _) _ _ s
 rw[←Array.forIn_toList]
 refine wpAny_forIn_list _ (λ rest r s'=>r.1=none/\s'=s/\∀v∈rest,v=Value.int c.1 tk∨v=.ref b') _ ?_ ?_ _ _ ⟨rfl,rfl,by simp⟩
 . rintro v rest r s' ⟨hr,rfl,hall⟩
   rcases hall v x5 with rfl | rfl
   . rw[Dh]
     refine wpAny_bind (wpAny_pure ?_)
     simp only[Bool.not_true,Bool.false_eq_true,if_false]
     exact wpAny_pure ⟨rfl,rfl,λ u hu'=>hall u (x3 _ hu')⟩
   . refine wpAny_bind (Oc hu' ?_)
     simp only[Bool.not_true,Bool.false_eq_true,if_false]
     exact wpAny_pure ⟨rfl,rfl,λ u hu'=>hall u (x3 _ hu')⟩
 . rintro⟨r1,r2⟩ s' ⟨hr,rfl,_⟩
   simp only at hr
   subst hr
   exact wpAny_pure h
theorem DQ(n:Nat)(i:Int)(t:Tok):ofAClassStatement n (.int i t)=pure false:=by cases n<;>rfl
theorem O9(ht:dW s.heap (.ref b) ns)(h:Q false s):wpAny (model prog w) A (ofAClassStatement (n+1) (.ref b)) Q E s:=by
 obtain⟨o,xs,k,ho,hc,hd,hi⟩:=mG ht
 have hT:s.TypeIs (.ref b) "tuple":=⟨o,ho,hc⟩
 unfold ofAClassStatement
 refine wpAny_bind (wpAny_typeOf hT ?_)
 show wpAny _ _ ((pure true:Sem Bool)>>=_) _ _ s
 refine wpAny_bind (wpAny_pure ?_)
 simp only[Bool.not_true,Bool.false_eq_true,if_false]
 refine wpAny_bind (wpAny_seqItems ho hd ?_)
 refine wpAny_bind ?_
 show wpAny _ _ (forIn xs _ _) _ _ s
 rw[←Array.forIn_toList]
 refine wpAny_forIn_list _ (λ rest r s'=>r.1=none/\s'=s/\∀v∈rest,∃i t,v=Value.int i t) _ ?_ ?_ _ _ ⟨rfl,rfl,hi⟩
 . rintro v rest r s' ⟨hr,rfl,hall⟩
   obtain⟨i,t,rfl⟩:=hall v x5
   rw[DQ]
   refine wpAny_bind (wpAny_pure ?_)
   simp only[Bool.false_eq_true,if_false]
   exact wpAny_pure ⟨rfl,rfl,λ u hu'=>hall u (x3 _ hu')⟩
 . rintro⟨r1,r2⟩ s' ⟨hr,rfl,_⟩
   simp only at hr
   subst hr
   exact wpAny_pure h
theorem CN(ht:aW s.heap (.ref b) c)(h:Q false s):wpAny (model prog w) A (ofAClassStatement (n+2) (.ref b)) Q E s:=by
 obtain⟨a,o,k,tk,u,e,ho,hc,hd,hu'⟩:=ht
 cases e
 obtain⟨b',_,_,_,rfl,_⟩:=id hu'
 have hT:s.TypeIs (.ref b) "tuple":=⟨o,ho,hc⟩
 unfold ofAClassStatement
 refine wpAny_bind (wpAny_typeOf hT ?_)
 show wpAny _ _ ((pure true:Sem Bool)>>=_) _ _ s
 refine wpAny_bind (wpAny_pure ?_)
 simp only[Bool.not_true,Bool.false_eq_true,if_false]
 refine wpAny_bind (wpAny_seqItems ho hd ?_)
 refine wpAny_bind ?_
 show wpAny _ _ (forIn #[Value.int c.1 tk,.ref b'] _ _) _ _ s
 rw[←Array.forIn_toList]
 refine wpAny_forIn_list _ (λ rest r s'=>r.1=none/\s'=s/\∀v∈rest,v=Value.int c.1 tk∨v=.ref b') _ ?_ ?_ _ _ ⟨rfl,rfl,by simp⟩
 . rintro v rest r s' ⟨hr,rfl,hall⟩
   rcases hall v x5 with rfl | rfl
   . rw[DQ]
     refine wpAny_bind (wpAny_pure ?_)
     simp only[Bool.false_eq_true,if_false]
     exact wpAny_pure ⟨rfl,rfl,λ u hu'=>hall u (x3 _ hu')⟩
   . refine wpAny_bind (O9 hu' ?_)
     simp only[Bool.false_eq_true,if_false]
     exact wpAny_pure ⟨rfl,rfl,λ u hu'=>hall u (x3 _ hu')⟩
 . rintro⟨r1,r2⟩ s' ⟨hr,rfl,_⟩
   simp only at hr
   subst hr
   exact wpAny_pure h
theorem Lr{x:Value}{ys:List Value}(hx:aW s.heap x c)(hy:∀y∈ys,∃d,aW s.heap y d)(h:Q false s):wpAny (model prog w) A (searchCouldBeSeen x ys) Q E s:=by
 have hx0:=hx
 obtain⟨a,_,_,_,_,rfl,_⟩:=hx
 unfold searchCouldBeSeen
 refine wpAny_bind ?_
 refine wpAny_forIn_list _ (λ rest r s'=>r.1=none/\s'=s/\∀v∈rest,∃d,aW s.heap v d) _ ?_ ?_ _ _ ⟨rfl,rfl,hy⟩
 . rintro v rest r s' ⟨hr,rfl,hall⟩
   obtain⟨d,hd⟩:=hall v x5
   have hd0:=hd
   obtain⟨b,_,_,_,_,rfl,_⟩:=hd
   have tl:∀v∈rest,∃d,aW s'.heap v d:=λ u hu'=>hall u (x3 _ hu')
   dsimp only
   split
   . exact wpAny_pure ⟨rfl,rfl,tl⟩
   . refine wpAny_bind (uo hx0 ?_)
     simp only[Bool.not_true,Bool.false_eq_true,if_false]
     refine wpAny_bind (uo hd0 ?_)
     simp only[Bool.not_true,Bool.false_eq_true,if_false]
     refine wpAny_bind (CN hx0 ?_)
     simp only[Bool.false_eq_true,if_false]
     refine wpAny_bind (CN hd0 ?_)
     simp only[Bool.false_eq_true,if_false]
     exact wpAny_pure ⟨rfl,rfl,tl⟩
 . rintro⟨r1,r2⟩ s' ⟨hr,rfl,_⟩
   simp only at hr
   subst hr
   exact wpAny_pure h
theorem zr{u:Value}{ms:List Int}(hu:A.units<cLine)(hx:dW s.heap u ns)(hy:dW s.heap v ms):SeqAt.EqAt A s u v (decide (ns=ms)):=by
 intro prog w E Q h
 obtain⟨a,_,_,_,rfl,_⟩:=id hx
 obtain⟨b,_,_,_,rfl,_⟩:=id hy
 exact wpAny_eqBool_tuple (knd:=intKind prog w) hu (wK hx) (wK hy) h
theorem J1{u:Value}{d:Int×List Int}(hu:A.units+2<cLine)(hx:aW s.heap u c)(hy:aW s.heap v d):SeqAt.EqAt A s u v (decide (c=d)):=by
 obtain⟨a,o,k,tk,u,rfl,ho,hc,hd,hu'⟩:=hx
 obtain⟨a2,o2,k2,tk2,u2,rfl,ho2,hc2,hd2,hu2⟩:=hy
 by_cases e:a=a2
 . subst e
   obtain rfl:o=o2:=Option.some.inj (ho.symm.trans ho2)
   have e1:=hd.symm.trans hd2
   injection e1 with e1 _
   have e2:[Value.int c.1 tk,u]=[Value.int d.1 tk2,u2]:=congrArg Array.toList e1
   injection e2 with e3 e4
   injection e3 with e3 _
   injection e4 with e4 _
   subst e4
   obtain⟨b,_,_,_,rfl,_⟩:=id hu'
   have e5:c.2=d.2:=Kr hu' hu2
   have e6:c=d:=Prod.ext e3 e5
   rw[decide_eq_true e6]
   exact SeqAt.EqAt.same _
 . have key:=SeqAt.RcAt.tuples (A:=A) (s:=s) (e:=λ j=>if j=0 then decide (c.1=d.1)else decide (c.2=d.2)) ⟨o,ho,hc,k,hd⟩ ⟨o2,ho2,hc2,k2,hd2⟩ (by omega) (λ j h1 h2=>by
    match j,h1,h2 with
    | 0,_,_=>
      have:=SeqAt.EqAt.int_int (A:=A.in1) (s:=s) c.1 tk d.1 tk2
      rw[show(c.1==d.1)=decide (c.1=d.1)from by rw[Bool.eq_iff_iff];simp]at this
      exact this
    | 1,_,_=>exact zr (by show A.units+1<_;omega) hu' hu2
    | j+2,h1,_=>exact absurd h1 (by simp))
   have e2:((List.range (min #[Value.int c.1 tk,u].size #[Value.int d.1 tk2,u2].size)).all (λ j=>if j=0 then decide (c.1=d.1)else decide (c.2=d.2))&&#[Value.int c.1 tk,u].size==#[Value.int d.1 tk2,u2].size)=decide (c=d):=by
    rw[Bool.eq_iff_iff]
    simp[List.range_succ,Prod.ext_iff]
   rw[e2]at key
   exact SeqAt.EqAt.of_refs e key
end
end RF
namespace RF
open PySem PySem.Spec L2 DL
open PyProof.Rows
variable {ps : List Nat} {j0 ep : Nat} {h : Int} {a : Addr} {v v0 : Value} {c c0 : Int × List Int}
noncomputable abbrev tbl(led:Bool)(ps:List Nat):SetTable:={mask:=7,place:=ps.toArray,dummies:=#[],finger:=0,led:=led,moves:=0,plain:=true}
noncomputable abbrev bV(led:Bool)(es:List (Int×Value))(ps:List Nat)(ep:Nat):Obj:={cls:=.type "set",dict:=none,data:=.set es.toArray ep (tbl led ps),slots:=#[]}
theorem pP(j0 j:Nat):SetTable.below #[j0] j=if j0<j then 1 else 0:=by
 simp[SetTable.below,SetTable.below.go]
theorem pL(led:Bool)(j0 j:Nat):(tbl led [j0]).slot j=if j=j0 then .live 0 else .empty:=by
 unfold SetTable.slot
 show(if(#[j0][SetTable.below #[j0] j]? ==some j)=true then SetTable.Slot.live (SetTable.below #[j0] j)else if SetTable.has #[] j=true then .dummy else .empty)=_
 rw[pP]
 by_cases h:j=j0
 . subst h
   rw[if_neg (Nat.lt_irrefl _),if_pos rfl,if_pos (by simp)]
 . rw[if_neg h]
   have hd:SetTable.has #[] j=false:=rfl
   rw[hd]
   by_cases h2:j0<j
   . rw[if_pos h2];simp
   . rw[if_neg h2]
     have:¬j0=j:=λ e=>h e.symm
     simp[this]
structure Std(p:SetTable.Probe)(k:Nat):Prop where
 ji:p.j=p.i
 lt:p.i<8
 more:p.more=0
 dummy:p.dummy=none
 small:p.perturb<32 ^ k
theorem Kh(i:Nat):SetTable.runEnd 7 i=i:=by unfold SetTable.runEnd;rw[if_neg (by omega)]
theorem tW(led:Bool)(ps:List Nat)(h:Int):Std ((tbl led ps).probeStart h) 13:=by
 have hb:SetTable.bits h<2 ^ 64:=by
  unfold SetTable.bits
  have h1:=Int.emod_nonneg h (b:=2 ^ 64) (by decide)
  have h2:=Int.emod_lt_of_pos h (b:=2 ^ 64) (by decide)
  omega
 refine⟨rfl,Nat.mod_lt _ (Nat.succ_pos _),?_,rfl,?_⟩
 . show SetTable.runEnd 7 _-_=0
   rw[Kh];omega
 . show SetTable.bits h<32 ^ 13
   exact x9 hb (by decide)
theorem ye{led:Bool}{p:SetTable.Probe}{k:Nat}(s:Std p (k+1)):Std ((tbl led ps).advance p) k:=by
 unfold SetTable.advance
 rw[if_neg (by rw[s.more];exact Nat.lt_irrefl _)]
 refine⟨rfl,Nat.mod_lt _ (Nat.succ_pos _),?_,s.dummy,?_⟩
 . show SetTable.runEnd 7 _-_=0
   rw[Kh];omega
 . show p.perturb/32<32 ^ k
   have:=s.small
   rw[Nat.pow_succ]at this
   exact Nat.div_lt_of_lt_mul (by omega)
theorem yW{led:Bool}{p:SetTable.Probe}(s:Std p 0):Std ((tbl led ps).advance p) 0/\((tbl led ps).advance p).j≠p.j:=by
 have hp:p.perturb=0:=by have:=s.small;simpa using this
 unfold SetTable.advance
 rw[if_neg (by rw[s.more];exact Nat.lt_irrefl _)]
 refine⟨⟨rfl,Nat.mod_lt _ (Nat.succ_pos _),?_,s.dummy,?_⟩,?_⟩
 . show SetTable.runEnd 7 _-_=0
   rw[Kh];omega
 . show p.perturb/32<32 ^ 0
   rw[hp];decide
 . show(p.i*5+1+p.perturb/32) % (7+1)≠p.j
   rw[s.ji,hp]
   have:=s.lt
   omega
theorem jb{led:Bool}{n:Nat}{hs:Nat->Int}{p:SetTable.Probe}(hj:p.j≠j0):SetTable.probe.go (tbl led [j0]) hs h (n+1) p=some (.empty p.j p.dummy):=by
 unfold SetTable.probe.go
 rw[pL,if_neg hj]
theorem jq{led:Bool}{n:Nat}{hs:Nat->Int}{p:SetTable.Probe}(hj:p.j=j0):SetTable.probe.go (tbl led [j0]) hs h (n+1) p=if hs 0==h then some (.candidate p.j 0 ((tbl led [j0]).advance p))else SetTable.probe.go (tbl led [j0]) hs h n ((tbl led [j0]).advance p):=by
 conv=>lhs;unfold SetTable.probe.go
 rw[pL,if_pos hj]
theorem yF{led:Bool}{j0:Nat}{hs:Nat->Int}{h:Int}(hne:(hs 0==h)=false):∀(k n:Nat)(p:SetTable.Probe),Std p k->k+2≤n->∃j,j≠j0/\j<8/\SetTable.probe.go (tbl led [j0]) hs h n p=some (.empty j none)
 | k,0,p,s,hn=>by omega
 | 0,n+1,p,s,hn=>by
   by_cases hj:p.j=j0
   . obtain⟨s1,ne⟩:=yW (led:=led) (ps:=[j0]) s
     obtain⟨m,rfl⟩:∃m,n=m+1:=⟨n-1,by omega⟩
     refine⟨((tbl led [j0]).advance p).j,by rw[←hj];exact ne,by rw[s1.ji];exact s1.lt,?_⟩
     rw[jq hj,hne]
     show SetTable.probe.go _ _ _ _ _=_
     rw[jb (by rw[←hj];exact ne),s1.dummy]
   . exact⟨p.j,hj,by rw[s.ji];exact s.lt,by rw[jb hj,s.dummy]⟩
 | k +1,n+1,p,s,hn=>by
   by_cases hj:p.j=j0
   . obtain⟨j,h1,h2,h3⟩:=yF hne k n _ (ye (led:=led) (ps:=[j0]) s) (by omega)
     refine⟨j,h1,h2,?_⟩
     rw[jq hj,hne]
     exact h3
   . exact⟨p.j,hj,by rw[s.ji];exact s.lt,by rw[jb hj,s.dummy]⟩
theorem Ka{led:Bool}{hs:Nat->Int}{n:Nat}{p:SetTable.Probe}(hne:(hs 0==h)=false):SetTable.probe.go (tbl led [j0]) hs h n p=SetTable.probe.go (tbl led [j0]) (λ _=>h+1) h n p:=by
 induction n generalizing p with
 | zero=>rfl
 | succ n ih=>
   by_cases hj:p.j=j0
   . have h1:(h+1==h)=false:=by simp;omega
     rw[jq hj,jq hj,hne,h1]
     exact ih
   . rw[jb hj,jb hj]
section
variable {prog : Program} {w : World} {A : Around} {E : Value -> Shared -> Prop} {s : Shared}
theorem gn{led:Bool}{es:List (Int×Value)}(h:ps.length=es.length)(h7:ps.length≤7):(tbl led ps).fits es.toArray.size=true:=by
 unfold SetTable.fits SetTable.fill
 simp[h]
 omega
theorem bO{led:Bool}{es:List (Int×Value)}{Q:(Array (Int×Value)×Nat×SetTable)->Shared->Prop}(ho:s.heap.get? a=some (bV led es ps ep))(h:ps.length=es.length)(h7:ps.length≤7)(hq:Q (es.toArray,ep,tbl led ps) s):
 wpAny (model prog w) A (setState a) Q E s:=wpAny_setState_of ho rfl (gn h h7) hq
theorem yw{M:Model}{b:Addr}{Q:Bool->Shared->Prop}(h:Q true s):wpAny M A (isSame (.ref b) (.ref b)) Q E s:=by
 unfold isSame
 dsimp only
 rw[if_pos (beq_self_eq_true b)]
 exact wpAny_pure h
theorem iV{led:Bool}{m:Nat}{st:Option SetTable.Probe}{Q:SetFound->Shared->Prop}(hu:A.units+2<cLine)(ho:s.heap.get? a=some (bV led [(h,v0)] [j0] ep))(hv:aW s.heap v c)(hv0:aW s.heap v0 c0)
 (hd:(st.getD ((tbl led [j0]).probeStart h)).dummy=none)
 (h0:(st.getD ((tbl led [j0]).probeStart h)).j≠j0->Q (.free (st.getD ((tbl led [j0]).probeStart h)).j false) s)
 (h1:c=c0->Q (.there none) s)
 (h2:c≠c0->(st.getD ((tbl led [j0]).probeStart h)).j=j0->wpAny (model prog w) A (setSearchFrom a v h true m (some ((tbl led [j0]).advance (st.getD ((tbl led [j0]).probeStart h))))) Q E s):
 wpAny (model prog w) A (setSearchFrom a v h true (m+1) st) Q E s:=by
 have hv1:=hv0
 obtain⟨b0,_,_,_,_,rfl,_⟩:=hv1
 have state:∀{Q:(Array (Int×Value)×Nat×SetTable)->Shared->Prop},Q ([(h,Value.ref b0)].toArray,ep,tbl led [j0]) s->wpAny (model prog w) A (setState a) Q E s:=λ hq=>bO ho rfl (Nat.le_of_ble_eq_true rfl) hq
 unfold setSearchFrom
 refine wpAny_bind (state ?_)
 dsimp only
 rw[if_neg (show ¬(SetTable.gaveWay (tbl led [j0])=true)from by simp[SetTable.gaveWay])]
 unfold SetTable.probe
 rw[show 10*SetTable.turns (tbl led [j0]).mask=219+1 from rfl]
 by_cases hj:(st.getD ((tbl led [j0]).probeStart h)).j=j0
 . rw [jq hj,if_pos (by show(h==h)=true;exact beq_self_eq_true h)]
   dsimp only
   have hs:∀y∈List.map (λ x:Int×Value=>x.2) (Array.filter (λ x=>x.fst==h) #[(h,Value.ref b0)]).toList,∃d,aW s.heap y d:=by
    intro y hy
    rw[List.mem_map]at hy
    obtain⟨e,he,rfl⟩:=hy
    have:e∈#[(h,Value.ref b0)]:=(Array.mem_filter.mp (Array.mem_toList_iff.mp he)).1
    have:e=(h,Value.ref b0):=by simpa using this
    subst this
    exact⟨c0,hv0⟩
   have eqq:SeqAt.EqAt A s (Value.ref b0) v (decide (c0=c)):=J1 hu hv0 hv
   have slq:(tbl led [j0]).slot (st.getD ((tbl led [j0]).probeStart h)).j=.live 0:=by rw[pL,if_pos hj]
   cases led
   . rw[if_pos (show(!false)=true from rfl)]
     refine wpAny_bind (Lr hv hs ?_)
     rw[if_neg y6]
     have e0:#[(h,Value.ref b0)][0]? =some (h,Value.ref b0):=rfl
     rw[e0]
     dsimp only
     refine wpAny_bind (wpAny_holding (eqq prog w E _ ?_))
     refine wpAny_bind (state ?_)
     by_cases ec:c0=c
     . rw[decide_eq_true ec]
       exact wpAny_pure (h1 ec.symm)
     . rw[decide_eq_false ec]
       dsimp only
       rw[if_neg (show ¬((true&&false)=true)from y6)]
       have e1:SetTable.sameMemory (tbl false [j0]) 0 7=some true:=rfl
       rw[e1]
       dsimp only
       rw[if_pos rfl,slq]
       dsimp only
       rw[e0]
       dsimp only
       refine wpAny_bind (yw ?_)
       refine wpAny_bind (wpAny_pure ?_)
       exact h2 (λ e=>ec e.symm) hj
   . rw[if_neg (show ¬(!true)=true from y6)]
     have e0:#[(h,Value.ref b0)][0]? =some (h,Value.ref b0):=rfl
     rw[e0]
     dsimp only
     refine wpAny_bind (wpAny_holding (eqq prog w E _ ?_))
     refine wpAny_bind (state ?_)
     by_cases ec:c0=c
     . rw[decide_eq_true ec]
       exact wpAny_pure (h1 ec.symm)
     . rw[decide_eq_false ec]
       dsimp only
       rw[if_neg (show ¬((true&&false)=true)from y6)]
       have e1:SetTable.sameMemory (tbl true [j0]) 0 7=some true:=rfl
       rw[e1]
       dsimp only
       rw[if_pos rfl,slq]
       dsimp only
       rw[e0]
       dsimp only
       refine wpAny_bind (yw ?_)
       refine wpAny_bind (wpAny_pure ?_)
       exact h2 (λ e=>ec e.symm) hj
 . rw[jb hj,hd]
   dsimp only
   exact wpAny_pure (h0 hj)
theorem Bw{led:Bool}{Q:SetFound->Shared->Prop}(hu:A.units+2<cLine)(ho:s.heap.get? a=some (bV led [(h,v0)] [j0] ep))(hv:aW s.heap v c)(hv0:aW s.heap v0 c0)
 (h1:c=c0->Q (.there none) s)(h2:c≠c0->∀j,j≠j0->j<8->Q (.free j false) s)(ne:c=c0->((tbl led [j0]).probeStart h).j=j0):
 ∀(k fuel:Nat)(st:Option SetTable.Probe),Std (st.getD ((tbl led [j0]).probeStart h)) k->(st.isSome=true->c≠c0)->k+2≤fuel->wpAny (model prog w) A (setSearchFrom a v h true fuel st) Q E s:=by
 intro k
 induction k with
 | zero=>
   intro fuel st sd hst hf
   obtain⟨m,rfl⟩:∃m,fuel=m+1+1:=⟨fuel-2,by omega⟩
   refine iV hu ho hv hv0 sd.dummy (λ hj=>?_) h1 λ nc hj=>?_
   . by_cases ec:c=c0
     . cases st with
       | none=>exact absurd (ne ec) hj
       | some p=>exact absurd ec (hst rfl)
     . exact h2 ec _ hj (by rw[sd.ji];exact sd.lt)
   . obtain⟨s1,ne⟩:=yW (led:=led) (ps:=[j0]) sd
     rw[hj]at ne
     exact iV hu ho hv hv0 s1.dummy (λ hj=>h2 nc _ hj (by rw[Option.getD_some,s1.ji];exact s1.lt)) h1 λ _ hj=>absurd hj ne
 | succ k ih=>
   intro fuel st sd hst hf
   obtain⟨m,rfl⟩:∃m,fuel=m+1:=⟨fuel-1,by omega⟩
   refine iV hu ho hv hv0 sd.dummy (λ hj=>?_) h1 λ nc hj=>?_
   . by_cases ec:c=c0
     . cases st with
       | none=>exact absurd (ne ec) hj
       | some p=>exact absurd ec (hst rfl)
     . exact h2 ec _ hj (by rw[sd.ji];exact sd.lt)
   . exact ih m _ (ye sd) (λ _=>nc) (by omega)
theorem Ce{led:Bool}{h0:Int}{Q:SetFound->Shared->Prop}(hu:A.units+2<cLine)(hj0:j0=SetTable.bits h0 % 8)(hh:c=c0->h0=h)(ho:s.heap.get? a=some (bV led [(h0,v0)] [j0] ep))(hv:aW s.heap v c)(hv0:aW s.heap v0 c0)
 (h1:c=c0->Q (.there none) s)(h2:c≠c0->∀j,j≠j0->j<8->Q (.free j false) s):wpAny (model prog w) A (setSearch a v h true) Q E s:=by
 unfold setSearch
 generalize hf:(100000:Nat)=fuel
 by_cases he:h0=h
 . subst he
   exact Bw hu ho hv hv0 h1 h2 (λ _=>hj0.symm) 13 fuel none (tW _ _ _) (λ h=>nomatch h) (by omega)
 . have nc:c≠c0:=λ e=>he (hh e)
   obtain⟨m,rfl⟩:∃m,fuel=m+1:=⟨fuel-1,by omega⟩
   unfold setSearchFrom
   refine wpAny_bind (bO ho rfl (Nat.le_of_ble_eq_true rfl) ?_)
   dsimp only
   rw[if_neg (show ¬(SetTable.gaveWay (tbl led [j0])=true)from by simp[SetTable.gaveWay])]
   unfold SetTable.probe
   rw[Ka (by show(h0==h)=false;simpa using he)]
   obtain⟨j,h3,h4,h5⟩:=yF (led:=led) (j0:=j0) (hs:=λ _=>h+1) (h:=h) (by simp;omega) 13 (10*SetTable.turns (tbl led [j0]).mask) _ (tW led [j0] h) (by show 15≤220;decide)
   simp only[Option.getD_none]
   rw[h5]
   exact wpAny_pure (h2 nc j h3 h4)
theorem Fq{led:Bool}{Q:SetFound->Shared->Prop}(ho:s.heap.get? a=some (bV led [] [] ep))
 (h1:Q (.free (SetTable.bits h % 8) false) s):wpAny (model prog w) A (setSearch a v h true) Q E s:=by
 unfold setSearch
 generalize hf:(100000:Nat)=fuel
 obtain⟨m,rfl⟩:∃m,fuel=m+1:=⟨fuel-1,by omega⟩
 unfold setSearchFrom
 refine wpAny_bind (bO ho rfl (Nat.zero_le _) ?_)
 dsimp only
 rw[if_neg (show ¬(SetTable.gaveWay (tbl led [])=true)from by simp[SetTable.gaveWay])]
 exact wpAny_pure h1
theorem mQ{led:Bool}{es:List (Int×Value)}{es':List (Int×Value)}{ps':List Nat}{Q:Unit->Shared->Prop}(ho:s.heap.get? a=some (bV led es ps ep))(hz:es'.length≤7)
 (h:∀h',Heap.SameBut a s.heap h'->h'.get? a=some (bV led es' ps' (ep+1))->Q () {s with heap:=h'}):wpAny (model prog w) A (storeSet a es'.toArray (tbl led ps')) Q E s:=by
 refine wpAny_storeSet_of ho rfl (h _ (Heap.SameBut.update s.heap a _) ?_) (Nat.le_trans (by rw[x4];exact hz) (by decide:7≤sizeLine))
 have:=Heap.get?_update_self (Obj.putSet es'.toArray (tbl led ps')) ho (by rw[putSet_of _ _ rfl];rfl)
 rw[putSet_of _ _ rfl]at this
 exact this
theorem Ni{led:Bool}{Q:Bool->Shared->Prop}(hu:A.units+5<cLine)(ho:s.heap.get? a=some (bV led [] [] ep))(hv:aW s.heap v c)
 (h:∀h' tk b,Heap.SameBut a s.heap h'->h'.get? a=some (bV led [(hC prog w c,v)] [SetTable.bits (hC prog w c) % 8] (ep+1))->Q b {s with heap:=h',toks:=s.toks+tk}):
 wpAny (model prog w) A (setAdd a v) Q E s:=by
 unfold setAdd
 refine wpAny_holding (wpAny_bind (wQ hu hv λ n=>?_))
 unfold setAddHashed
 refine wpAny_holding ?_
 generalize hf:(100000:Nat)=fuel
 obtain⟨m,rfl⟩:∃m,fuel=m+1:=⟨fuel-1,by omega⟩
 unfold setAddHashedIn
 refine wpAny_bind (bO (s:={s with toks:=s.toks+n}) ho rfl (Nat.zero_le _) ?_)
 have hv1:=hv
 obtain⟨b0,_,_,_,_,rfl,_⟩:=hv1
 dsimp only
 rw[if_neg (show ¬(byScan (.ref b0) _=true)from y6)]
 refine wpAny_bind (Fq (s:={s with toks:=s.toks+n}) ho ?_)
 dsimp only
 refine wpAny_bind (bO (s:={s with toks:=s.toks+n}) ho rfl (Nat.zero_le _) ?_)
 have e1:(tbl led []).put (SetTable.bits (hC prog w c) % 8)=(tbl led [SetTable.bits (hC prog w c) % 8],0):=rfl
 rw[e1]
 dsimp only
 rw[if_pos rfl]
 refine wpAny_bind (rY (s:={s with toks:=s.toks+n}) (n:=6) hv ?_)
 rw[if_pos rfl]
 refine wpAny_bind (mQ (s:={s with toks:=s.toks+n}) (es':=[(hC prog w c,Value.ref b0)]) ho (by simp) λ h' k1 k2=>?_)
 rw[if_neg (by simp[SetTable.tooFull,SetTable.fill])]
 exact wpAny_pure (h h' n true k1 k2)
theorem Px(led:Bool)(j0 j:Nat)(hj:j≠j0):(tbl led [j0]).put j=if j0<j then(tbl led [j0,j],1)else(tbl led [j,j0],0):=by
 unfold SetTable.put
 show((⟨7,SetTable.insertAt #[j0] (SetTable.below #[j0] j) j,if SetTable.has #[] j=true then _ else #[],0,led,0,true⟩:SetTable),SetTable.below #[j0] j)=_
 rw[if_neg (show ¬SetTable.has #[] j=true from y6),pP]
 by_cases h:j0<j
 . rw[if_pos h,if_pos h];rfl
 . rw[if_neg h,if_neg h];rfl
theorem N8{led:Bool}{Q:Bool->Shared->Prop}(hu:A.units+5<cLine)(ho:s.heap.get? a=some (bV led [(hC prog w c0,v0)] [SetTable.bits (hC prog w c0) % 8] ep))(hv:aW s.heap v c)(hv0:aW s.heap v0 c0)
 (h1:c=c0->∀tk b,Q b {s with toks:=s.toks+tk})
 (h2:c≠c0->∀h' tk b es ps,Heap.SameBut a s.heap h'->h'.get? a=some (bV led es ps (ep+1))->(∃e1 e2 v1 v2 j1 j2,es=[(e1,v1),(e2,v2)]/\ps=[j1,j2]/\j1<j2/\j2<8/\(v1=v0/\v2=v∨v1=v/\v2=v0))->Q b {s with heap:=h',toks:=s.toks+tk}):
 wpAny (model prog w) A (setAdd a v) Q E s:=by
 unfold setAdd
 refine wpAny_holding (wpAny_bind (wQ hu hv λ n=>?_))
 unfold setAddHashed
 refine wpAny_holding ?_
 generalize hf:(100000:Nat)=fuel
 obtain⟨m,rfl⟩:∃m,fuel=m+1:=⟨fuel-1,by omega⟩
 have hh:c=c0->hC prog w c0=hC prog w c:=λ e=>by rw[e]
 generalize hC prog w c=h at hh ⊢
 generalize hC prog w c0=h0 at hh ho ⊢
 unfold setAddHashedIn
 refine wpAny_bind (bO (s:={s with toks:=s.toks+n}) ho rfl (Nat.le_of_ble_eq_true rfl) ?_)
 have hv1:=hv
 obtain⟨b0,_,_,_,_,rfl,_⟩:=hv1
 dsimp only
 rw[if_neg (show ¬(byScan (.ref b0) _=true)from y6)]
 refine wpAny_bind (Ce (s:={s with toks:=s.toks+n}) (by omega) rfl hh ho hv hv0 (λ e=>?_) λ nc j hj h8=>?_)
 . exact wpAny_pure (h1 e n false)
 dsimp only
 refine wpAny_bind (bO (s:={s with toks:=s.toks+n}) ho rfl (Nat.le_of_ble_eq_true rfl) ?_)
 have hb0:SetTable.bits h0 % 8<8:=Nat.mod_lt _ (by decide)
 generalize SetTable.bits h0 % 8=j0 at ho hj hb0 ⊢
 dsimp only
 rw[Px led j0 j hj]
 by_cases hlt:j0<j
 . rw[if_pos hlt]
   dsimp only
   rw[if_pos rfl]
   refine wpAny_bind (rY (s:={s with toks:=s.toks+n}) (n:=6) hv ?_)
   rw[if_pos rfl]
   refine wpAny_bind (mQ (s:={s with toks:=s.toks+n}) (es':=[(h0,v0),(h,Value.ref b0)]) ho (by simp) λ h' k1 k2=>?_)
   rw[if_neg (by simp[SetTable.tooFull,SetTable.fill])]
   exact wpAny_pure (h2 nc h' n true _ _ k1 k2 ⟨_,_,_,_,_,_,rfl,rfl,hlt,h8,.inl ⟨rfl,rfl⟩⟩)
 . rw[if_neg hlt]
   dsimp only
   rw[if_pos rfl]
   refine wpAny_bind (rY (s:={s with toks:=s.toks+n}) (n:=6) hv ?_)
   rw[if_pos rfl]
   refine wpAny_bind (mQ (s:={s with toks:=s.toks+n}) (es':=[(h,Value.ref b0),(h0,v0)]) ho (by simp) λ h' k1 k2=>?_)
   rw[if_neg (by simp[SetTable.tooFull,SetTable.fill])]
   exact wpAny_pure (h2 nc h' n true _ _ k1 k2 ⟨_,_,_,_,_,_,rfl,rfl,by omega,hb0,.inr ⟨rfl,rfl⟩⟩)
end
end RF
namespace RF
open PySem PySem.Spec L2 DL
open PyProof.Rows
section
variable {prog : Program} {w : World} {A : Around} {R : Result -> Shared -> Prop} {I : Addr} {fp wr : List Addr} {G : Array GenState -> Array GenState -> Prop} {n : Nat} {P : Nat -> Value -> Prop} {St : Nat -> Shared -> Prop}
theorem JS(W:WalksS prog w A.in1 I fp wr G n P St)(S:Addr)(hSf:S∉fp)(SS:Nat->Heap->Prop)
 (hframe:∀i h h',SS i h->(∀b o,b∉wr->h.get? b=some o->h'.get? b=some o)->SS i h')
 (hadd:∀i v(s:Shared)(Q:Bool->Shared->Prop)(E:Value->Shared->Prop),i<n->P i v->SS i s.heap->(∀b h' tk,Heap.SameBut S s.heap h'->SS (i+1) h'->Q b {s with heap:=h',toks:=s.toks+tk})->wpAny (model prog w) A.in1 (setAdd S v) Q E s):
 ∀ (k i:Nat)(s:Shared),n-i=k->i≤n->St i s->SS i s.heap->
   (∀s',Moved (S::wr) G s s'->SS n s'.heap->R (.ok (.ret .none)) s')->
   codeAny (model prog w) A (.builtin "set.update.loop" ⟨[.ref S,.ref I],[]⟩) R s:=by
 have hSw:S∉wr:=λ h=>hSf (W.sub _ h)
 have hsub:∀b∈wr,b∈S::wr:=λ b hb=>x3 _ hb
 intro k
 induction k with
 | zero=>
   intro i s hk hi hst hS hR
   have hin:i=n:=by omega
   subst hin
   refine codeAny_builtin F.entry_set_update_loop ?_
   rw[Around.under_plainId F.plain_set_update_loop _]
   show wpAny _ A.in1 (pyNext (.ref I)>>=_) _ _ s
   refine wpAny_bind (W.done s _ _ hst λ s' hm=>?_)
   show wpAny _ A.in1 (ret Value.none) _ _ s'
   exact wpAny_pure (hR s' (hm.mono hsub) (hframe _ _ _ hS hm.heap))
 | succ k ih=>
   intro i s hk hi hst hS hR
   have hlt:i<n:=by omega
   refine codeAny_builtin F.entry_set_update_loop ?_
   rw[Around.under_plainId F.plain_set_update_loop _]
   show wpAny _ A.in1 (pyNext (.ref I)>>=_) _ _ s
   refine wpAny_bind (W.item i s _ _ hlt hst λ v s' hP hst' hm=>?_)
   have hS':=hframe _ _ _ hS hm.heap
   show wpAny _ A.in1 (holding [v] (setAdd S v)>>=_) _ _ s'
   refine wpAny_bind (wpAny_holding (hadd i v s' _ _ hlt hP hS' λ b h' tk hsb hS2=>?_))
   refine wpAny_pure ⟨plainId_quiet F.plain_set_update_loop _,ih (i+1) _ (by omega) hlt (W.frame _ s' _ _ hst' (Nat.le_add_right _ _) λ b hb o e=>?_) hS2 λ s'' hm'' hS''=>?_⟩
   . rw[hsb.2 b (λ h:b=S=>hSf (by rw[←h];exact hb))];exact e
   . refine hR s'' (Moved.trans W.gtrans ((hm.mono hsub).then_heap (Nat.le_add_right _ _) λ b o hb e=>?_) hm'') hS''
     rw[hsb.2 b (λ h:b=S=>hb (by rw[h];exact x5))];exact e
end
noncomputable def Lies(prog:Program)(w:World)(its:List Value)(cs:List (Int×List Int))(i:Nat)(es:List (Int×Value))(ps:List Nat):Prop:=
 match i with
 | 0=>es=[]/\ps=[]
 | 1=>∃v c,its[0]? =some v/\cs[0]? =some c/\es=[(hC prog w c,v)]/\ps=[SetTable.bits (hC prog w c) % 8]
 | _ =>∃v0 v c0 c,its=[v0,v]/\cs=[c0,c]/\((c=c0/\es=[(hC prog w c0,v0)]/\ps=[SetTable.bits (hC prog w c0) % 8])∨
     (c≠c0/\∃e1 e2 v1 v2 j1 j2,es=[(e1,v1),(e2,v2)]/\ps=[j1,j2]/\j1<j2/\j2<8/\(v1=v0/\v2=v∨v1=v/\v2=v0)))
section
variable {prog : Program} {w : World} {A : Around} {E : Value -> Shared -> Prop} {s : Shared}
noncomputable abbrev dH(w:World):Bool:=!(w.params.followText "set-order")
theorem xm(a:Value){Q₁:Value->Shared->Prop}
 (h:Q₁ (.ref s.heap.objs.size) {s with heap:=s.heap.push {cls:=.type "set",dict:=none,data:=.set #[] 0 (.fresh 0 0 (dH w))}}):
 codeAny (model prog w) A (.call (.builtin "set.__new__") ⟨[.type "set",a],[]⟩) (wants Q₁ E) s:=by
 refine codeAny_of_tree ?_
 show wpAny _ A.in1 (do checkBuiltinCall "set.__new__" ⟨[.type "set",a],[]⟩;again (.builtin "set.__new__" ⟨[.type "set",a],[]⟩)) _ _ s
 refine wpAny_bind (wpAny_of_eq (F.newCall_set_1 a) (wpAny_pure ⟨plainId_quiet F.plain_set_new _,codeAny_builtin F.entry_set_new ?_⟩))
 rw[Around.under_plainId F.plain_set_new _]
 unfold Builtin.«set.__new__» Builtin.Frozenset.newClass
 have hsub:=sub_set_self
 obtain⟨hp,g,d,tk,os⟩:=s
 dsimp only
 wp_walk
 refine wpAny_askSetting (wpAny_pure ?_)
 dsimp only
 simp only[newObj]
 refine wpAny_bind (wpAny_alloc (wpAny_pure ?_))
 exact wpAny_pure h
set_option maxHeartbeats 8000000 in
theorem v5 {l:Addr}{its:List Value}{cs:List (Int×List Int)}{Q:Value->Shared->Prop}
 (hh:A.handled=none)(hu:A.units+12<cLine)(hl:s.heap.IsList l its.toArray)(hlen:its.length=cs.length)(hc:∀(i:Nat)(v:Value)(c:Int×List Int),its[i]? =some v->cs[i]? =some c->aW s.heap v c)(hb:its.length≤2)
 (h:∀(h':Heap)(tk:Nat)(es:List (Int×Value))(ps:List Nat)(ep:Nat),h'.get? s.heap.objs.size=some (bV (dH w) es ps ep)->Lies prog w its cs its.length es ps->
  (∀b o,b<s.heap.objs.size->s.heap.get? b=some o->h'.get? b=some o)->Q (.ref s.heap.objs.size) {s with heap:=h',toks:=tk}):
 wpAny (model prog w) A (call (.type "set") [.ref l]) Q E s:=by
 obtain⟨c,tl,hmro⟩:=F.called_set.mro
 have hmade:=F.called_set.made
 have hsub:=F.called_set.sub
 refine wpAny_call (codeAny_of_tree ?_)
 show wpAny _ _ (callAny (.type "set") _) _ _ _
 refine wpAny_pure ⟨Code.quiet_builtin _ (by decide+kernel),codeAny_builtin F.entry_type_call ?_⟩
 rw[Around.under_plain (weight_type_call_type "set" [.ref l] []) rfl]
 have h1:=F.called_set.notType
 have h2:=F.called_set.canCreate
 have hct:=F.typeCall_set_1 (.ref l)
 repeat(any_goals (first | assumption | wp_step))
 refine codeAny_mono (xm (.ref l) (E:=E) (Q₁:=λ obj s₁=>∃led:Bool,led=dH w/\obj=.ref s.heap.objs.size/\s₁={s with heap:=s.heap.push {cls:=.type "set",dict:=none,data:=.set #[] 0 (.fresh 0 0 led)}}) ⟨_,rfl,rfl,rfl⟩) λ r s₁ hr=>?_
 cases r with
 | error e=>exact hr
 | ok fl =>
   cases fl with
   | next=>exact hr.elim
   | brk=>exact hr.elim
   | cont=>exact hr.elim
   | ret obj=>
     obtain⟨led,hled,rfl,rfl⟩:=hr
     have hS:(s.heap.push {cls:=.type "set",dict:=none,data:=.set #[] 0 (.fresh 0 0 led)}).get? s.heap.objs.size=some {cls:=.type "set",dict:=none,data:=.set #[] 0 (.fresh 0 0 led)}:=Heap.get?_push_size _ rfl
     have hT:Shared.TypeIs {s with heap:=s.heap.push {cls:=.type "set",dict:=none,data:=.set #[] 0 (.fresh 0 0 led)}} (.ref s.heap.objs.size) "set":=⟨_,hS,rfl⟩
     have hli:=F.called_set.init.lookup
     have hbi:=F.called_set.init.bind (.ref s.heap.objs.size)
     repeat(any_goals (first | assumption | wp_step))
     refine codeAny_mono (codeAny_call_builtin (R:=wants (λ r s₂=>r=.none/\∃h' tk es ps ep,s₂={s with heap:=h',toks:=tk}/\
      h'.get? s.heap.objs.size=some (bV led es ps ep)/\Lies prog w its cs its.length es ps/\
      (∀b o,b<s.heap.objs.size->s.heap.get? b=some o->h'.get? b=some o)) E) F.called_set.init.plain F.entry_set_init (check_set_init_1 hT ?_)) λ r₂ s₂ hr₂=>?_
     . obtain⟨ol,hol,hcl,nl,hdl⟩:=hl
       obtain⟨ocls,odict,odata,oslots⟩:=ol
       simp only at hcl hdl
       subst hcl;subst hdl
       have hol':(s.heap.push {cls:=.type "set",dict:=none,data:=.set #[] 0 (.fresh 0 0 led)}).get? l=some {cls:=.type "list",dict:=odict,data:=.seq its.toArray nl,slots:=oslots}:=Heap.get?_push_of_some _ hol
       have hsls:=F.sub_list_set
       have hslf:=F.sub_list_frozenset
       have hne:(Value.type "list"==Value.type "dict")=false:=by decide
       have hl1:(s.heap.push {cls:=.type "set",dict:=none,data:=.set #[] 0 (.fresh 0 0 led)}).IsList l its.toArray:=⟨_,hol',rfl,nl,rfl⟩
       unfold Builtin.«set.__init__» noKeywords Builtin.Frozenset.updateFrom
       generalize hPI:pyIter=PI
       wp_walk
       subst hPI
       refine wpAny_pyIter_list hl1 ?_
       refine wpAny_bind (wpAny_runValue ?_)
       have hlS:l<s.heap.objs.size:=Heap.lt_size hol
       have hh3:A.in1.in1.in1.handled=none:=by simp[hh]
       have hneI:l≠(s.heap.push {cls:=.type "set",dict:=none,data:=.set #[] 0 (.fresh 0 0 led)}).objs.size:=by
        rw[Heap.size_push];exact w9 (Nat.lt_succ_of_lt hlS)
       have hSf:s.heap.objs.size∉[(s.heap.push {cls:=.type "set",dict:=none,data:=.set #[] 0 (.fresh 0 0 led)}).objs.size,l]:=by
        rw[Heap.size_push];simp only[List.mem_cons,List.mem_singleton,List.not_mem_nil,or_false,not_or]
        exact⟨w9 (Nat.lt_succ_self _),Nat.ne_of_gt hlS⟩
       have hI:(s.heap.push {cls:=.type "set",dict:=none,data:=.set #[] 0 (.fresh 0 0 led)}).objs.size=s.heap.objs.size+1:=by rw[Heap.size_push]
       refine JS ((Walks.list hh3 _ l hneI its.toArray).toS) s.heap.objs.size hSf
        (λ i h'=>(∀b o,b<s.heap.objs.size->s.heap.get? b=some o->h'.get? b=some o)/\∃es ps ep,h'.get? s.heap.objs.size=some (bV led es ps ep)/\Lies prog w its cs i es ps)
        ?hfr ?hadd (its.toArray.size-0) 0 _ (by omega) (Nat.zero_le _)
        ⟨⟨_,Heap.get?_push_size _ rfl,rfl,rfl⟩,(hl1.push _)⟩ ?hS0 ?hR
       case hfr=>
        rintro i h1 h2 ⟨k1,es,ps,ep,k2,k3⟩ k
        refine⟨λ b o hb e=>k b o ?_ (k1 b o hb e),es,ps,ep,k _ _ ?_ k2,k3⟩
        . intro z;have:=List.mem_singleton.mp z;rw[hI]at this;exact absurd this (w9 (Nat.lt_succ_of_lt hb))
        . intro z;have:=List.mem_singleton.mp z;rw[hI]at this;exact absurd this (w9 (Nat.lt_succ_self _))
       case hadd=>
        rintro i v s1 Q1 E1 hi hv ⟨k1,es,ps,ep,k2,k3⟩ hq
        have hi':i<its.length:=by simpa using hi
        have hv':its[i]? =some v:=by simpa using hv
        obtain⟨c,hci⟩:∃c,cs[i]? =some c:=⟨_,y3 (by omega)⟩
        have cel:∀(i:Nat)(v:Value)(c:Int×List Int),its[i]? =some v->cs[i]? =some c->aW s1.heap v c:=λ i v c e1 e2=>(hc i v c e1 e2).keep λ b o e _=>k1 b o (Heap.lt_size e) e
        have hu1:A.in1.in1.in1.in1.units+5<cLine:=by show A.units+1+1+1+1+5<cLine;omega
        match i,hi',k3 with
        | 0,_,k3=>
          obtain⟨rfl,rfl⟩:=k3
          refine Ni (by first | exact hu1 | (show A.units+1+1+1+5<cLine;omega)) k2 (cel 0 v c hv' hci) λ h' tk b sb g=>hq b h' tk sb ⟨λ b' o' hb' e'=>?_,_,_,_,g,v,c,hv',hci,rfl,rfl⟩
          rw[sb.2 b' (w9 hb')];exact k1 b' o' hb' e'
        | 1,hi',k3=>
          obtain⟨v0,c0,e1,e2,rfl,rfl⟩:=k3
          have e3:its=[v0,v]:=by
           match its,hb,e1,hv' with
           | [x,y],_,e1,e2=>simp at e1 e2;rw[e1,e2]
           | [x],_,_,e2=>simp at e2
           | _::_::_::_,hb,_,_=>simp at hb
          have e4:cs=[c0,c]:=by
           have:cs.length=2:=by rw[←hlen,e3];rfl
           match cs,this,e2,hci with
           | [x,y],_,e1,e2=>simp at e1 e2;rw[e1,e2]
          refine N8 (by first | exact hu1 | (show A.units+1+1+1+5<cLine;omega)) k2 (cel 1 v c hv' hci) (cel 0 v0 c0 e1 e2) (λ ec tk b=>?_) λ nc h' tk b es ps sb g z=>?_
          . exact hq b s1.heap tk (Heap.SameBut.refl _ _) ⟨k1,_,_,_,k2,v0,v,c0,c,e3,e4,.inl ⟨ec,rfl,rfl⟩⟩
          . refine hq b h' tk sb ⟨λ b' o' hb' e'=>?_,_,_,_,g,v0,v,c0,c,e3,e4,.inr ⟨nc,z⟩⟩
            rw[sb.2 b' (w9 hb')];exact k1 b' o' hb' e'
        | i+2,hi',_=>omega
       case hS0=>
        refine⟨λ b o hb e=>Heap.get?_push_of_some _ (Heap.get?_push_of_some _ e),[],[],0,Heap.get?_push_of_some _ hS,rfl,rfl⟩
       case hR=>
        intro s' hm hS'
        obtain⟨h',g',d',tk',os'⟩:=s'
        have eg:g'=s.gens:=hm.gens
        have ed:d'=s.drawn:=hm.drawn
        have eo:os'=s.os:=hm.os
        subst eg;subst ed;subst eo
        obtain⟨k1,es,ps,ep,k2,k3⟩:=hS'
        show wpAny _ _ _ _ _ _
        refine wpAny_pure ?_
        show wpAny _ _ (ret Value.none) _ _ _
        refine wpAny_pure ⟨rfl,h',tk',es,ps,ep,rfl,k2,by simpa using k3,k1⟩
     . cases r₂ with
       | error e=>exact hr₂
       | ok fl₂=>
         cases fl₂ with
         | next=>exact hr₂.elim
         | brk=>exact hr₂.elim
         | cont=>exact hr₂.elim
         | ret r=>
           obtain⟨rfl,h',tk,es,ps,ep,rfl,k2,k3,k1⟩:=hr₂
           repeat(any_goals (first | assumption | wp_step))
           exact h _ _ _ _ _ (hled▸k2) k3 k1
end
end RF
namespace RF
open PySem PySem.Spec L2 DL
open PyProof.Rows
variable {es : List (Int × Value)} {ps : List Nat} {S I : Addr} {ep : Nat}
theorem rB:entryFor table "set.__iter__"=some Builtin.«frozenset.__iter__»:=
 entryFor_alias (id':="frozenset.__iter__") (by kernel_rfl) rfl (by decide+kernel) (by kernel_rfl)
theorem aU:Slot "set_iterator" "__next__" "set_iterator.__next__":=
 .of (owner:="set_iterator") (n:="__next__") (by rw[typeLookup_type,builtinLookup_eq_fast];kernel_rfl) (by decide+kernel) (by decide+kernel) (by decide+kernel)
  (by first | exact .inl (by decide+kernel) | exact .inr (by decide+kernel)) (by rw[isSubtype_type];kernel_rfl)
theorem di:entryFor table "set_iterator.__next__"=some Builtin.«set_iterator.__next__»:=entryFor_of_tree (by kernel_rfl)
theorem fH:Manifest.owners.lookup (String.ofList ['r','o','t','a','r','e','t','i','_','t','e','s'].reverse)=some Manifest.sig_set_iterator:=by kernel_rfl
theorem cT(a:Value):argsOk "set_iterator.__next__" ⟨[a],[]⟩:=by
 unfold argsOk;rw[signature?_of (id:="set_iterator.__next__") (n:=['_','_','t','x','e','n','_','_']) (o:=['r','o','t','a','r','e','t','i','_','t','e','s']) (by kernel_rfl) fH];kernel_rfl
theorem dz:Slot "set_iterator" "__iter__" "set_iterator.__iter__":=
 .of (owner:="set_iterator") (n:="__iter__") (by rw[typeLookup_type,builtinLookup_eq_fast];kernel_rfl) (by decide+kernel) (by decide+kernel) (by decide+kernel)
  (by first | exact .inl (by decide+kernel) | exact .inr (by decide+kernel)) (by rw[isSubtype_type];kernel_rfl)
theorem iu:entryFor table "set_iterator.__iter__"=some Builtin.«dict_keyiterator.__iter__»:=
 entryFor_alias (id':="dict_keyiterator.__iter__") (by kernel_rfl) rfl (by decide+kernel) (by kernel_rfl)
theorem gw(a:Value):argsOk "set_iterator.__iter__" ⟨[a],[]⟩:=by
 unfold argsOk;rw[signature?_of (id:="set_iterator.__iter__") (n:=['_','_','r','e','t','i','_','_']) (o:=['r','o','t','a','r','e','t','i','_','t','e','s']) (by kernel_rfl) fH];kernel_rfl
noncomputable def slotAt(ps:List Nat):Nat->Nat
 | 0=>0
 | i+1=>ps.getD i 0+1
theorem Gj:∀(ps:List Nat)(i:Nat),(ps=[]∨(∃j,ps=[j])∨∃j k,ps=[j,k]/\j<k)->i≤ps.length->SetTable.below ps.toArray (slotAt ps i)=i:=by
 rintro ps i (rfl | ⟨j,rfl⟩ | ⟨j,k,rfl,hjk⟩) hi
 . have:i=0:=by simpa using hi
   subst this
   rfl
 . match i,hi with
   | 0,_=>rw[show([j].toArray:Array Nat)=#[j]from rfl,pP];simp[slotAt]
   | 1,_=>rw[show([j].toArray:Array Nat)=#[j]from rfl,pP];simp[slotAt]
   | i+2,h=>simp at h
 . match i,hi with
   | 0,_=>simp[slotAt,SetTable.below,SetTable.below.go]
   | 1,_=>
     have h1:¬k<j+1:=by omega
     simp[slotAt,SetTable.below,SetTable.below.go,h1]
   | 2,_=>simp[slotAt,SetTable.below,SetTable.below.go]
   | i+3,h=>simp at h
noncomputable def bh(w:World)(a:Addr)(ep:Nat)(es:List (Int×Value)):Array (Int×Value):=
 if w.params.followText "set-order"=true then pickOrder (w.params.setOrder a ep) es.toArray else es.toArray
noncomputable abbrev cg(w:World)(ps:List Nat)(S:Addr)(n ep i:Nat):Obj:={cls:=.type "set_iterator",dict:=none,data:=.fields #[rawInt (if w.params.followText "set-order"=true then 0 else slotAt ps i:Nat),rawInt (i:Nat),.ref S,rawInt (n:Nat),rawInt (ep:Nat)],slots:=#[]}
structure Rise(es:List (Int×Value))(ps:List Nat):Prop where
 len:ps.length=es.length
 sh:ps=[]∨(∃j,ps=[j])∨∃j k,ps=[j,k]/\j<k
theorem Rise.seven(r:Rise es ps):ps.length≤7:=by
 rcases r.sh with rfl | ⟨j,rfl⟩ | ⟨j,k,rfl,_⟩<;>simp
section
variable {prog : Program} {w : World} {A : Around} {E : Value -> Shared -> Prop} {s : Shared}
theorem wY{i:Nat}{Q:Option (Value×Nat)->Shared->Prop}(r:Rise es ps)(hi:i≤es.length)(ho:s.heap.get? S=some (bV (dH w) es ps ep))
 (h:Q (((bh w S ep es)[i]?).map λ e=>(e.2,if w.params.followText "set-order"=true then 0 else slotAt ps (i+1))) s):
 wpAny (model prog w) A (setNext S (if w.params.followText "set-order"=true then 0 else slotAt ps i) i ep) Q E s:=by
 unfold setNext
 refine wpAny_bind (bO ho r.len r.seven ?_)
 unfold setsByText
 dsimp only
 refine wpAny_bind (wpAny_bind (wpAny_askSetting (wpAny_pure ?_)))
 show wpAny _ _ (if w.params.followText "set-order"=true then _ else _) _ _ _
 unfold bh at h
 by_cases bt:w.params.followText "set-order"=true
 . rw[if_pos bt]
   rw[if_pos bt]at h
   simp only[if_pos bt]at h
   rw[if_neg (by simp)]
   unfold setWalk
   refine wpAny_bind (wpAny_bind (bO ho r.len r.seven ?_))
   unfold setsByText
   dsimp only
   refine wpAny_bind (wpAny_bind (wpAny_askSetting (wpAny_pure ?_)))
   show wpAny _ _ (if w.params.followText "set-order"=true then _ else _) _ _ _
   rw[if_pos bt]
   refine wpAny_bind (wpAny_askSetting (wpAny_pure (wpAny_pure ?_)))
   simp only[if_pos bt]
   exact h
 . rw [if_neg bt]
   rw[if_neg bt]at h
   simp only[if_neg bt]at h ⊢
   have hled:dH w=true:=by simp[dH,bt]
   split
   . exact absurd (by assumption) y6
   . refine wpAny_bind ?_
     show wpAny _ _ (if(!(dH w)&& !(es.toArray.isEmpty))=true then _ else pure PUnit.unit) _ _ _
     rw[hled,if_neg (show ¬((!true&& !(es.toArray.isEmpty))=true)from y6)]
     refine wpAny_pure ?_
     rw[Gj ps i r.sh (by rw[r.len];exact hi)]
     refine wpAny_pure ?_
     have e2:slotAt ps (i+1)=ps.getD i 0+1:=rfl
     rw[e2]at h
     rw[List.getElem?_toArray]at h
     rw[List.getElem?_toArray,List.getElem?_toArray]
     cases he:es[i]? with
     | none=>rw[he]at h;exact h
     | some e=>
       rw[he]at h
       have hlt:i<ps.length:=by rw[r.len];exact(z0.mp he).1
       rw[y3 hlt]
       rw[List.getD_eq_getElem?_getD,y3 hlt]at h
       exact h
theorem jR{n i:Nat}(ho:s.heap.get? I=some (cg w ps S n ep i)):s.TypeIs (.ref I) "set_iterator":=⟨_,ho,rfl⟩
theorem jL{h:Heap}{vs:Array Value}{k:Nat}{x:Value}(ho:h.get? I=some {cls:=.type "set_iterator",dict:=none,data:=.fields vs,slots:=#[]}):
 (h.update I (Obj.mapFields (·.setIfInBounds k x))).get? I=some {cls:=.type "set_iterator",dict:=none,data:=.fields (vs.setIfInBounds k x),slots:=#[]}:=Heap.get?_update_self _ ho rfl
theorem Jf{i:Nat}{e:Int×Value}{Q:Option Value->Shared->Prop}(hne:S≠I)(r:Rise es ps)(hi:i<es.length)(hI:s.heap.get? I=some (cg w ps S es.length ep i))(ho:s.heap.get? S=some (bV (dH w) es ps ep))
 (he:(bh w S ep es)[i]? =some e)(h:∀h',Heap.SameBut I s.heap h'->h'.get? I=some (cg w ps S es.length ep (i+1))->Q (some e.2) {s with heap:=h'}):
 wpAny (model prog w) A (pyNext (.ref I)) Q E s:=by
 have hT:=jR hI
 unfold pyNext
 refine wpAny_bind (wpAny_attempt (wpAny_callSpecial?_slot (name:=Str.ofString "__next__") hT aU
  (wpAny_call_entry aU hT di ?_ (cT _))))
 unfold Builtin.«set_iterator.__next__»
 refine wpAny_bind (wpAny_pure ?_)
 refine wpAny_bind (wpAny_fieldsOf hI rfl ?_)
 dsimp only
 refine wpAny_bind (wpAny_setEntries_of ho rfl (gn r.len r.seven) ?_)
 rw[if_neg (by simp)]
 refine wpAny_bind ?_
 simp only[rawInt,Int.toNat_natCast]
 refine wY r (Nat.le_of_lt hi) ho ?_
 rw[he]
 dsimp only[Option.map]
 refine wpAny_bind (wpAny_setField hI rfl (by simp) ?_)
 refine wpAny_bind (wpAny_setField (s:={s with heap:=_}) (jL hI) rfl (by simp) ?_)
 exact wpAny_pure ⟨_,rfl,wpAny_pure (h _ ((Heap.SameBut.update ..).trans (Heap.SameBut.update ..)) (by
  have:=jL (k:=1) (x:=rawInt (i+1)) (jL (k:=0) (x:=rawInt (if w.params.followText "set-order"=true then 0 else slotAt ps (i+1):Nat)) hI)
  exact this))⟩
theorem JF{Q:Option Value->Shared->Prop}(hh:A.handled=none)(hne:S≠I)(r:Rise es ps)(hI:s.heap.get? I=some (cg w ps S es.length ep es.length))(ho:s.heap.get? S=some (bV (dH w) es ps ep))
 (he:(bh w S ep es)[es.length]? =none)(h:∀h',Heap.ExtBut I s.heap h'->Q none {s with heap:=h'}):
 wpAny (model prog w) A (pyNext (.ref I)) Q E s:=by
 have hT:=jR hI
 unfold pyNext
 refine wpAny_bind (wpAny_attempt (wpAny_callSpecial?_slot (name:=Str.ofString "__next__") hT aU
  (wpAny_call_entry aU hT di ?_ (cT _))))
 unfold Builtin.«set_iterator.__next__»
 refine wpAny_bind (wpAny_pure ?_)
 refine wpAny_bind (wpAny_fieldsOf hI rfl ?_)
 dsimp only
 refine wpAny_bind (wpAny_setEntries_of ho rfl (gn r.len r.seven) ?_)
 rw[if_neg (by simp)]
 refine wpAny_bind ?_
 simp only[rawInt,Int.toNat_natCast]
 refine wY r (y9 _) ho ?_
 rw[he]
 dsimp only[Option.map]
 refine wpAny_bind (wpAny_setField hI rfl (by simp) ?_)
 show wpAny _ _ (newExc (.type "StopIteration") []>>=_) _ _ _
 refine wpAny_bind ?_
 simp only[newExc,newTuple]
 refine wpAny_bind (wpAny_newObj_type ?_ (by size_fits))
 refine wpAny_bind (m:=firstArgMember _ _) (wpAny_of_eq (a:=Value.none) (by first | rfl | (simp only[firstArgMember];rfl)) ?_)
 refine wpAny_newObj_type ?_ (by size_fits)
 simp only[raiseNew]
 refine wpAny_bind (wpAny_handled ?_)
 rw[show A.in1.handled=none from hh]
 refine wpAny_bind (wpAny_pure (wpAny_throw ?_))
 refine wpAny_bind (wpAny_isInstance (T:="StopIteration") (b:=true) ⟨_,Heap.get?_push_size _ rfl,rfl⟩ isSubtype_stop ?_)
 exact wpAny_pure (h _ (((Heap.SameBut.update ..).extBut.push _).push _))
theorem fJ(w:World)(S:Addr)(ep:Nat){es:List (Int×Value)}{ps:List Nat}(r:Rise es ps):
 (es=[]/\bh w S ep es=#[])∨(∃e,es=[e]/\bh w S ep es=#[e])∨∃e1 e2,es=[e1,e2]/\(bh w S ep es=#[e1,e2]∨bh w S ep es=#[e2,e1]):=by
 have hl:=r.len
 unfold bh
 rcases r.sh with rfl | ⟨j,rfl⟩ | ⟨j,k,rfl,_⟩
 . have:es=[]:=List.length_eq_zero_iff.mp hl.symm
   subst this
   exact .inl ⟨rfl,by split<;>rfl⟩
 . obtain⟨e,rfl⟩:∃e,es=[e]:=List.length_eq_one_iff.mp hl.symm
   refine .inr (.inl ⟨e,rfl,?_⟩)
   split
   . simp[pickOrder,pickOrder.go,Nat.mod_one]
   . rfl
 . obtain⟨e1,e2,rfl⟩:∃e1 e2,es=[e1,e2]:=by
    match es,hl with
    | [e1,e2],_=>exact⟨_,_,rfl⟩
   refine .inr (.inr ⟨e1,e2,rfl,?_⟩)
   split
   . rcases Nat.mod_two_eq_zero_or_one (w.params.setOrder S ep 0)with h | h
     . left;simp[pickOrder,pickOrder.go,h,Nat.mod_one]
     . right;simp[pickOrder,pickOrder.go,h,Nat.mod_one]
   . exact .inl rfl
theorem jJ(w:World)(S:Addr)(ep:Nat){es:List (Int×Value)}{ps:List Nat}(r:Rise es ps):(bh w S ep es).size=es.length:=by
 rcases fJ w S ep r with⟨h1,h2⟩ | ⟨e,h1,h2⟩ | ⟨e1,e2,h1,h2 | h2⟩<;>rw[h2,h1]<;>rfl
theorem JH(hh:A.handled=none)(I S:Addr)(hne:S≠I)(es:List (Int×Value))(ps:List Nat)(ep:Nat)(r:Rise es ps):
 Walks prog w A I [I,S] [I] es.length (λ i v=>∃e,(bh w S ep es)[i]? =some e/\e.2=v) (λ i h=>h.get? I=some (cg w ps S es.length ep i)/\h.get? S=some (bV (dH w) es ps ep)) where
 sub:=λ b hb=>by simp at hb;simp[hb]
 frame:=λ _ _ _ st hk=>⟨hk I (by simp) _ st.1,hk S (by simp) _ st.2⟩
 item:=λ i s Q E hi st hQ=>by
  obtain⟨e,he⟩:∃e,(bh w S ep es)[i]? =some e:=⟨_,Array.getElem?_eq_getElem (by rw[jJ w S ep r];exact hi)⟩
  refine Jf hne r hi st.1 st.2 he λ h' sb g=>hQ e.2 h' s.toks ⟨e,he,rfl⟩ ⟨g,?_⟩ λ b o hb e=>sb.extBut b o (λ h=>hb (by simp[h])) e
  rw[sb.2 S hne];exact st.2
 done:=λ s Q E st hQ=>JF hh hne r st.1 st.2 (Array.getElem?_eq_none (by rw[jJ w S ep r];exact y9 _)) λ h' he'=>hQ h' s.toks λ b o hb e=>he' b o (λ h=>hb (by simp[h])) e
 self:=λ _ s Q E st hQ=>by
  have hT:=jR (s:=s) st.1
  refine wpAny_pyIter_slot hT dz (wpAny_call_entry dz hT iu ?_ (gw _))
  show wpAny _ _ (ret (.ref I)) _ _ s
  exact wpAny_pure ⟨_,rfl,"set_iterator",_,hT,aU.lookup,hQ⟩
theorem Ke{Q:Value->Shared->Prop}(r:Rise es ps)(ho:s.heap.get? S=some (bV (dH w) es ps ep))
 (h:Q (.ref s.heap.objs.size) {s with heap:=s.heap.push (cg w ps S es.length ep 0)}):wpAny (model prog w) A (pyIter (.ref S)) Q E s:=by
 have hT:s.TypeIs (.ref S) "set":=⟨_,ho,rfl⟩
 refine wpAny_pyIter_slot hT F.slot_set_iter (wpAny_call_entry F.slot_set_iter hT rB ?_ (F.args_set_iter_1 _))
 unfold Builtin.«frozenset.__iter__» Builtin.Frozenset.slot0 Builtin.Frozenset.sizeOf setDrawn
 refine wpAny_bind (wpAny_bind (wpAny_pure (wpAny_pure ?_)))
 refine wpAny_bind (wpAny_bind (wpAny_setEntries_of ho rfl (gn r.len r.seven) (wpAny_pure ?_)))
 refine wpAny_bind (wpAny_bind (bO ho r.len r.seven ?_))
 unfold setsByText
 dsimp only
 refine wpAny_bind (wpAny_bind (wpAny_askSetting (wpAny_pure (wpAny_pure ?_))))
 split
 . rename_i hx
   rw[Bool.and_eq_true]at hx
   exact absurd hx.2 y6
 . refine wpAny_bind (wpAny_pure ?_)
   refine wpAny_bind (wpAny_setEpoch_of ho rfl (gn r.len r.seven) ?_)
   refine wpAny_bind (wpAny_newObj_type ?_ (by size_fits))
   have hz:es.toArray.size=es.length:=x4
   have e1:((if w.params.followText "set-order"=true then 0 else slotAt ps 0:Nat))=0:=by split<;>rfl
   have key:cg w ps S es.length ep 0={cls:=.type "set_iterator",dict:=none,data:=.fields [rawInt 0,rawInt 0,.ref S,rawInt (es.toArray.size:Nat),rawInt (ep:Nat)].toArray,slots:=#[]}:=by
    unfold cg
    rw[e1,hz]
    rfl
   rw[key]at h
   exact wpAny_pure ⟨_,rfl,"set_iterator",_,⟨_,Heap.get?_push_size _ rfl,rfl⟩,aU.lookup,h⟩
theorem BK{Q:List Value->Shared->Prop}(hh:A.handled=none)(r:Rise es ps)(ho:s.heap.get? S=some (bV (dH w) es ps ep))
 (h:∀h' tk,(∀b o,b<s.heap.objs.size->s.heap.get? b=some o->h'.get? b=some o)->s.heap.objs.size≤h'.objs.size->Q ((bh w S ep es).toList.map (·.2)) {s with heap:=h',toks:=tk}):wpAny (model prog w) A (collect (.ref S)) Q E s:=by
 have hS:S<s.heap.objs.size:=Heap.lt_size ho
 have hSL:s.heap.objs.size≠S:=Nat.ne_of_gt hS
 unfold collect
 refine wpAny_bind (wpAny_runValue (codeAny_builtin F.entry_proto_collect ?_))
 rw[Around.under_plainId F.plain_proto_collect _]
 show wpAny _ A.in1 (newList []>>=λ l=>again (.builtin "list.__iadd__" ⟨[l,.ref S],[]⟩)) _ _ s
 refine wpAny_bind (wpAny_newObj_type ?_)
 refine wpAny_pure ⟨plainId_quiet F.plain_list_iadd _,codeAny_builtin F.entry_list_iadd ?_⟩
 rw[Around.under_plainId F.plain_list_iadd _]
 have ho1:(s.heap.push {cls:=.type "list",data:=.seq ([]:List Value).toArray}).get? S=some (bV (dH w) es ps ep):=Heap.get?_push_of_some _ ho
 have hT1:Shared.TypeIs {s with heap:=s.heap.push {cls:=.type "list",data:=.seq ([]:List Value).toArray}} (.ref S) "set":=⟨_,ho1,rfl⟩
 show wpAny _ A.in1 (Builtin.List.listExtendWith (.ref s.heap.objs.size) (.ref S) (.ref s.heap.objs.size)) _ _ _
 unfold Builtin.List.listExtendWith
 refine wpAny_bind (wpAny_typeOf hT1 ?_)
 have h1:Builtin.List.listSameRef (.ref s.heap.objs.size) (.ref S)=false:=by simp[Builtin.List.listSameRef,hSL]
 have h2:(Value.type "set"==Value.type "list")=false:=by decide
 have h3:(Value.type "set"==Value.type "tuple")=false:=by decide
 simp only[h1,h2,h3,Bool.or_false,Bool.false_eq_true,if_false]
 refine wpAny_bind (Ke (s:={s with heap:=s.heap.push {cls:=.type "list",data:=.seq ([]:List Value).toArray}}) r ho1 ?_)
 refine wpAny_bind (wpAny_holding ?_)
 have sz1:(s.heap.push {cls:=.type "list",data:=.seq ([]:List Value).toArray}).objs.size=s.heap.objs.size+1:=size_push' _ _
 have ho2:((s.heap.push {cls:=.type "list",data:=.seq ([]:List Value).toArray}).push (cg w ps S es.length ep 0)).get? S=some (bV (dH w) es ps ep):=Heap.get?_push_of_some _ ho1
 have hI2:((s.heap.push {cls:=.type "list",data:=.seq ([]:List Value).toArray}).push (cg w ps S es.length ep 0)).get? (s.heap.objs.size+1)=some (cg w ps S es.length ep 0):=by
  rw[←sz1];exact Heap.get?_push_size _ rfl
 have hT2:Shared.TypeIs {s with heap:=(s.heap.push {cls:=.type "list",data:=.seq ([]:List Value).toArray}).push (cg w ps S es.length ep 0)} (.ref S) "set":=⟨_,ho2,rfl⟩
 have hS₁:((s.heap.push {cls:=.type "list",data:=.seq ([]:List Value).toArray}).push (cg w ps S es.length ep 0)).get? s.heap.objs.size=some {cls:=.type "list",data:=.seq ([]:List Value).toArray}:=Heap.get?_push_of_some _ (Heap.get?_push_size _ rfl)
 show wpAny (model prog w) A.in1 (Builtin.List.listLengthHint (.ref S)) _ _ {s with heap:=(s.heap.push {cls:=.type "list",data:=.seq ([]:List Value).toArray}).push (cg w ps S es.length ep 0)}
 unfold Builtin.List.listLengthHint
 refine wpAny_bind (wpAny_specialOf hT2 F.slot_set_len.lookup ?_)
 have hsp:splitId "set.__len__"=some ("set","__len__"):=by kernel_rfl
 dsimp only
 rw[hsp]
 dsimp only
 refine wpAny_bind (wpAny_isInstance hT2 sub_set_self ?_)
 rw[if_neg (show ¬((!true)=true)from y6)]
 rw[if_pos]
 . refine wpAny_bind (wpAny_typeOf hT2 ?_)
   dsimp only
   refine wpAny_pure ?_
   rw[if_pos]
   . refine wpAny_bind (wpAny_rule ?_)
     refine wpAny_bind ?_
     show wpAny _ A.in1 (updateSeq s.heap.objs.size (·.push .none)>>=λ _=>updateSeq s.heap.objs.size (·.pop)) _ _ _
     refine wpAny_bind (wpAny_updateSeq hS₁ rfl ?_)
     have hS₂:=Heap.get?_update_self (Obj.mapSeq (·.push Value.none)) hS₁ rfl
     refine wpAny_updateSeq hS₂ rfl ?_
     have hS₃:=Heap.get?_update_self (Obj.mapSeq (·.pop)) hS₂ rfl
     have oth:∀b o,b≠s.heap.objs.size->((s.heap.push {cls:=.type "list",data:=.seq ([]:List Value).toArray}).push (cg w ps S es.length ep 0)).get? b=some o->
      ((((s.heap.push {cls:=.type "list",data:=.seq ([]:List Value).toArray}).push (cg w ps S es.length ep 0)).update s.heap.objs.size (Obj.mapSeq (·.push Value.none))).update s.heap.objs.size (Obj.mapSeq (·.pop))).get? b=some o:=
      λ b o hb e=>(Heap.get?_update_other _ _ (Ne.symm hb)).trans ((Heap.get?_update_other _ _ (Ne.symm hb)).trans e)
     have hSI:S≠s.heap.objs.size+1:=w9 (Nat.lt_succ_of_lt hS)
     have hLf:s.heap.objs.size∉[s.heap.objs.size+1,S]:=by
      intro z
      rcases List.mem_cons.mp z with z | z
      . exact absurd z (w9 (Nat.lt_succ_self _))
      . exact hSL (List.mem_singleton.mp z)
     have hn:es.length≤sizeLine:=by rw[←r.len];exact Nat.le_trans r.seven (by decide)
     rw[sz1]
     refine wpAny_pure ⟨plainId_quiet F.plain_extend_loop _,codeAny_extend_loopS (JH (prog:=prog) (A:=A.in1) (by simpa using hh) (s.heap.objs.size+1) S hSI es ps ep r).toS hn _ hLf _ es.length 0 _ _ _ rfl (Nat.zero_le _)
      ⟨oth _ _ (Nat.ne_of_gt (Nat.lt_succ_self _)) hI2,oth _ _ hSL.symm ho2⟩ hS₃ (ItemsOf.nil _) λ s' acc' c' hm hS' hacc=>?_⟩
     show wpAny _ A (load s.heap.objs.size>>=_) _ _ s'
     refine wpAny_bind (wpAny_load hS' ?_)
     obtain⟨h',g',d',tk',os'⟩:=s'
     have eg:g'=s.gens:=hm.gens
     have ed:d'=s.drawn:=hm.drawn
     have eo:os'=s.os:=hm.os
     subst eg;subst ed;subst eo
     have eacc:acc'.toList=(bh w S ep es).toList.map (·.2):=by
      apply List.ext_getElem?
      intro j
      rw[y8,Array.getElem?_toList,Array.getElem?_toList]
      by_cases hj:j<es.length
      . have hj1:j<acc'.size:=by rw[hacc.1];exact hj
        obtain⟨e,he,hv⟩:=hacc.2 j acc'[j] (Array.getElem?_eq_getElem hj1)
        rw[Array.getElem?_eq_getElem hj1,he,←hv];rfl
      . rw[Array.getElem?_eq_none (by rw[hacc.1];omega),Array.getElem?_eq_none (by rw[jJ w S ep r];omega)];rfl
     refine wpAny_pure ?_
     show Q acc'.toList _
     rw[eacc]
     refine h h' tk' (λ b o hb e=>?_) ?_
     . refine hm.heap b o ?_ (oth b o (w9 hb) (Heap.get?_push_of_some _ (Heap.get?_push_of_some _ e)))
       intro z
       rcases List.mem_cons.mp z with z | z
       . exact absurd z (w9 hb)
       . exact absurd (List.mem_singleton.mp z) (w9 (Nat.lt_succ_of_lt hb))
     . exact Nat.le_of_lt (Heap.lt_size hS')
   . decide
 . decide
end
end RF
namespace RF
open PySem PySem.Spec L2 DL
open PyProof.Rows
theorem zO(fin:Bool):∀ns:List Int,ltF fin ns ns=fin
 | []=>rfl
 | n::ns=>by unfold ltF;rw[if_pos rfl];exact zO fin ns
theorem KR(ns:List Int):ltI ns ns=false:=by unfold ltI;rw[zO];simp
noncomputable def ltC(c d:Int×List Int):Bool:=if c.1=d.1 then ltI c.2 d.2 else decide (c.1<d.1)
section
variable {prog : Program} {w : World} {A : Around} {E : Value -> Shared -> Prop} {s : Shared}
theorem OJ{a b:Addr}{ns ms:List Int}{P:PySem.Fin->Shared->Prop}(hx:dW s.heap (.ref a) ns)(hy:dW s.heap (.ref b) ms)(h:P (.done (.ret (.bool (ltI ns ms)))) s):
 wpAny (model prog w) A (Builtin.«tuple.__lt__» ⟨[.ref a,.ref b],[]⟩) P E s:=by
 obtain⟨a',oa,xs,na,e,hoa,hca,hda,hia⟩:=hx
 cases e
 obtain⟨b',ob,ys,nb,e,hob,hcb,hdb,hib⟩:=hy
 cases e
 have hTb:s.TypeIs (.ref b) "tuple":=⟨ob,hob,hcb⟩
 show wpAny _ _ (isInstance (.ref b) (.type "tuple")>>=_) _ _ s
 refine wpAny_bind (wpAny_isInstance hTb isSubtype_tuple_tuple ?_)
 simp only[Bool.not_true,Bool.false_eq_true,if_false]
 refine wpAny_bind (wpAny_tupleItemsOf hoa hda ?_)
 refine wpAny_bind (wpAny_tupleItemsOf hob hdb ?_)
 refine wpAny_bind ?_
 have l1:xs.size=ns.length:=by rw[←Array.length_toList];exact hia.length
 have l2:ys.size=ms.length:=by rw[←Array.length_toList];exact hib.length
 refine wpAny_forIn_list _
  (λ rest r s'=>r.1=none/\s'=s/\∃ns' ms' xs' ys',rest=List.zip xs' ys'/\IntsAre xs' ns'/\IntsAre ys' ms'/\ltF (decide (ns.length<ms.length)) ns' ms'=ltI ns ms)
  _ ?_ ?_ _ _ ⟨rfl,rfl,ns,ms,xs.toList,ys.toList,rfl,hia,hib,rfl⟩
 . rintro⟨u,v⟩ rest r s' ⟨hr,rfl,ns',ms',xs',ys',hz,hx',hy',hdec⟩
   cases hx' with
   | nil=>simp at hz
   | @cons k1 t1 xs'' ns'' hx''=>
     cases hy' with
     | nil=>simp at hz
     | @cons k2 t2 ys'' ms'' hy''=>
       simp only[List.zip_cons_cons,List.cons.injEq,Prod.mk.injEq]at hz
       obtain⟨⟨rfl,rfl⟩,rfl⟩:=hz
       refine wpAny_bind (wpAny_eqBool_int ?_)
       unfold ltF at hdec
       by_cases hk:k1=k2
       . subst hk
         rw[beq_self_eq_true]
         simp only[Bool.not_true,Bool.false_eq_true,if_false]
         rw[if_pos rfl]at hdec
         exact wpAny_pure ⟨rfl,rfl,_,_,_,_,rfl,hx'',hy'',hdec⟩
       . rw[if_neg hk]at hdec
         rw[show(k1==k2)=false from by simpa using hk]
         simp only[Bool.not_false,if_true]
         rw[←hdec]at h
         refine wpAny_bind (wpAny_rule ?_)
         refine wpAny_bind (show wpAny _ _ (compareOp .Lt _ _) _ _ _ from wpAny_lt_int ?_)
         exact wpAny_bind (wpAny_pure (wpAny_pure (wpAny_pure h)))
 . rintro⟨r1,r2⟩ s' ⟨hr,rfl,ns',ms',xs',ys',hz,hx',hy',hdec⟩
   simp only at hr
   subst hr
   refine wpAny_pure ?_
   have hfin:decide (xs.size<ys.size)=ltI ns ms:=by
    rw[←hdec,l1,l2]
    cases hx' with
    | nil=>rfl
    | cons _ _ _=>
      cases hy' with
      | nil=>rfl
      | cons _ _ _=>simp at hz
   show P (.done (.ret (.bool (decide (xs.size<ys.size))))) s'
   rw[hfin];exact h
theorem DW{u v:Value}{ns ms:List Int}{Q:Value->Shared->Prop}(hu:A.units<cLine)(hx:dW s.heap u ns)(hy:dW s.heap v ms)(h:Q (.bool (ltI ns ms)) s):wpAny (model prog w) A (compareOp .Lt u v) Q E s:=by
 obtain⟨a,oa,_,_,rfl,hoa,hca,_⟩:=id hx
 obtain⟨b,ob,_,_,rfl,hob,hcb,_⟩:=id hy
 exact wpAny_richCompare_same_room (op:=.Lt) ⟨oa,hoa,hca⟩ ⟨ob,hob,hcb⟩ F.slot_tuple_lt
  (wpAny_call_entry F.slot_tuple_lt ⟨oa,hoa,hca⟩ F.entry_tuple_lt (OJ hx hy ⟨_,rfl,(λ e=>nomatch e),h⟩) (F.args_tuple_lt_2 _ _)) hu
theorem RJ{b:Bool}{v u:Value}{c d:Int×List Int}{Q:Bool->Shared->Prop}(hu:A.units+2<cLine)(hv:aW s.heap v c)(hw:aW s.heap u d)(h:Q (ltC c d) s):wpAny (model prog w) A (keyLt' (tuples' b) v u) Q E s:=by
 obtain⟨a,o,k,tk,x,rfl,ho,hc,hd,hx⟩:=hv
 obtain⟨a2,o2,k2,tk2,x2,rfl,ho2,hc2,hd2,hx2⟩:=hw
 refine PySem.W.kat_lt ho hd ho2 hd2 ?_
 show PySem.W.KatLex prog w A b _ Q [(Value.int c.1 tk,Value.int d.1 tk2),(x,x2)] 0 s
 refine PySem.W.kat_cons (wpAny_eqBool_int ?_)
 unfold ltC at h
 by_cases e:c.1=d.1
 . rw[e,beq_self_eq_true]
   rw[if_pos e]at h
   refine PySem.W.kat_yes (PySem.W.kat_cons (zr (by omega) hx hx2 prog w _ _ ?_))
   by_cases e2:c.2=d.2
   . rw[decide_eq_true e2]
     refine PySem.W.kat_yes (PySem.W.kat_nil ?_)
     rw[e2,KR]at h
     exact h
   . rw[decide_eq_false e2]
     refine PySem.W.kat_no ?_
     rw[show(b&&0+1==0)=false from by cases b<;>rfl]
     exact PySem.W.kat_one _ _ (DW (by omega) hx hx2 h)
 . rw[show(c.1==d.1)=false from by simpa using e]
   rw[if_neg e]at h
   exact PySem.W.kat_no (M8 h)
noncomputable def iI:List Value->List (Int×List Int)->List Value
 | [v1,v2],[c1,c2]=>if ltC c2 c1=true then[v2,v1]else[v1,v2]
 | vs,_=>vs
theorem uU{a:Addr}{vs:List Value}{n:Nat}{cs:List (Int×List Int)}{P:PySem.Fin->Shared->Prop}(hu:A.units+2<cLine)(ho:s.heap.get? a=some (seqObj "list" vs.toArray n))
 (hl:vs.length=cs.length)(hr:∀(i:Nat)(v:Value)(c:Int×List Int),vs[i]? =some v->cs[i]? =some c->aW s.heap v c)(hsm:vs.length≤2)
 (h:P (.done (.ret .none)) {s with heap:=sortedHeap s.heap a vs (iI vs cs).toArray}):
 wpAny (model prog w) A (Builtin.«list.sort» ⟨[.ref a],[]⟩) P E s:=by
 rw[list_sort_plain]
 have hla:a<s.heap.objs.size:=Heap.lt_size ho
 have hsl:vs.length≤sizeLine:=Nat.le_trans hsm (by decide)
 refine wpAny_bind (listItems_at ho rfl ?_)
 refine wpAny_bind (listUpdate_at ho rfl ?_ (by rw[x4];exact hsl) (Nat.zero_le _))
 obtain⟨e1,ho1⟩:∃e1,(s.heap.update a (Obj.mapSeq λ _=>#[])).get? a=some (seqObj "list" #[] e1):=⟨_,get?_update_seq ho (λ _=>#[])⟩
 refine wpAny_bind (seqEpoch_at ho1 rfl ?_)
 refine wpAny_bind (wpAny_newTuple ?_ (by show vs.length≤_;exact hsl))
 refine wpAny_bind (wpAny_newList ?_ (Nat.zero_le _))
 refine wpAny_holding ?_
 have ho6:(((s.heap.update a (Obj.mapSeq λ _=>#[])).push (seqObj "tuple" vs.toArray 0)).push (seqObj "list" #[] 0)).get? a=some (seqObj "list" #[] e1):=by
  rw[Heap.get?_push_ne _ _ _ (by rw[size_push',Heap.size_update];exact w9 (Nat.lt_succ_of_lt hla)),Heap.get?_push_ne _ _ _ (by rw[Heap.size_update];exact w9 hla)]
  exact ho1
 show wpAny (model prog w) A _ P E {s with heap:=((s.heap.update a (Obj.mapSeq λ _=>#[])).push (seqObj "tuple" vs.toArray 0)).push (seqObj "list" #[] 0)}
 dsimp only
 have hout:(vs.toArray.zip vs.toArray).map (·.2)=vs.toArray:=by
  apply Array.toList_inj.mp
  simp[List.map_snd_zip]
 have hr':∀(i:Nat)(v:Value)(c:Int×List Int),vs[i]? =some v->cs[i]? =some c->aW (((s.heap.update a (Obj.mapSeq λ _=>#[])).push (seqObj "tuple" vs.toArray 0)).push (seqObj "list" #[] 0)) v c:=λ i v c q1 q2=>(hr i v c q1 q2).keep λ b o e c=>by
  have hba:b≠a:=by
   rintro rfl
   rw[ho]at e;cases e
   exact absurd (show Value.type "list"=Value.type "tuple" from c) (by decide)
  have hlb:b<s.heap.objs.size:=Heap.lt_size e
  rw[Heap.get?_push_ne _ _ _ (by rw[size_push',Heap.size_update];exact w9 (Nat.lt_succ_of_lt hlb)),Heap.get?_push_ne _ _ _ (by rw[Heap.size_update];exact w9 hlb),Heap.get?_update_ne _ _ _ _ hba]
  exact e
 by_cases h2:vs.toArray.size<2
 . rw[if_pos h2,if_pos h2]
   refine wpAny_bind (wpAny_pure ?_)
   rw[StateT.run_pure]
   refine wpAny_bind (wpAny_pure ?_)
   dsimp only
   refine wpAny_bind (seqEpoch_at ho6 rfl ?_)
   rw[show arrOf (SortSt.mk' general' (vs.toArray.zip vs.toArray) #[] 7 none)=vs.toArray.zip vs.toArray from rfl,hout]
   refine wpAny_bind (listUpdate_at ho6 rfl ?_ (Nat.zero_le _) (by rw[x4];omega))
   simp only[bne_self_eq_false,Bool.false_eq_true,if_false]
   have es:iI vs cs=vs:=by
    match vs,cs,h2 with
    | [],_,_=>unfold iI;simp
    | [v],_,_=>unfold iI;simp
    | _::_::_,_,h2=>simp at h2;omega
   rw[es]at h
   exact wpAny_pure h
 . rw [if_neg h2,if_neg h2]
   obtain⟨v1,v2,c1,c2,rfl,rfl⟩:∃v1 v2 c1 c2,vs=[v1,v2]/\cs=[c1,c2]:=by
    match vs,cs,hl,hsm,h2 with
    | [v1,v2],[c1,c2],_,_,_=>exact⟨_,_,_,_,rfl,rfl⟩
    | [],_,_,_,h2=>simp at h2
    | [_],_,_,_,h2=>simp at h2
    | _::_::_::_,_,_,h,_=>simp at h
   have q1:=hr' 0 v1 c1 rfl rfl
   have q2:=hr' 1 v2 c2 rfl rfl
   have q1':=q1
   have q2':=q2
   obtain⟨b1,o1,k1,tk1,u1,rfl,g1,g2,g3,g4⟩:=q1'
   obtain⟨b2,o2,k2,tk2,u2,rfl,f1,f2,f3,f4⟩:=q2'
   refine wpAny_bind (PySem.W.kat_kind (T:=.type "int") (PySem.W.KatTups.cons (f:=.int c1.1 tk1) g1 g2 g3 rfl (PySem.W.KatTups.cons (f:=.int c2.1 tk2) f1 f2 f3 rfl PySem.W.KatTups.nil)) (Nat.succ_pos _) (λ v hv=>?_) (by decide) ?_)
   . rcases List.mem_cons.mp hv with rfl | hv
     . exact .now
     . rcases List.mem_cons.mp hv with rfl | hv
       . exact .now
       . cases hv
   have hw:(PySem.W.kas_sort 2).kasWp (PySem.W.kas_ask prog w A (tuples' (Value.type "int" !=Value.type "tuple")) [Value.ref b1,Value.ref b2]) (λ p s'=>s'={s with heap:=((s.heap.update a (Obj.mapSeq λ _=>#[])).push (seqObj "tuple" [Value.ref b1,Value.ref b2].toArray 0)).push (seqObj "list" #[] 0)}/\p=if ltC c2 c1=true then #[1,0]else #[0,1]) {s with heap:=((s.heap.update a (Obj.mapSeq λ _=>#[])).push (seqObj "tuple" [Value.ref b1,Value.ref b2].toArray 0)).push (seqObj "list" #[] 0)}:=by
    show PySem.W.kas_ask prog w A _ [Value.ref b1,Value.ref b2] 1 0 _ _
    unfold PySem.W.kas_ask
    refine RJ (s:={s with heap:=((s.heap.update a (Obj.mapSeq λ _=>#[])).push (seqObj "tuple" [Value.ref b1,Value.ref b2].toArray 0)).push (seqObj "list" #[] 0)}) hu q2 q1 ?_
    cases hlt:ltC c2 c1 with
    | true=>exact⟨rfl,rfl⟩
    | false=>exact⟨rfl,rfl⟩
   refine wpAny_bind (wpAny_mono (PySem.W.kat_run (Q:=λ st' s'=>s'={s with heap:=((s.heap.update a (Obj.mapSeq λ _=>#[])).push (seqObj "tuple" [Value.ref b1,Value.ref b2].toArray 0)).push (seqObj "list" #[] 0)}/\failedOf st'=none/\(arrOf st').map (·.2)=(iI [Value.ref b1,Value.ref b2] [c1,c2]).toArray) rfl (y9 2) (by show 2<64;decide) (λ p st' s' a1 a2 a3 a4=>⟨a4.1,a3,?_⟩) hw) ?_ λ _ _ e=>e)
   . rw[PySem.W.kat_snds rfl a2,a4.2]
     show _=(if ltC c2 c1=true then[Value.ref b2,Value.ref b1]else[Value.ref b1,Value.ref b2]).toArray
     by_cases hlt:ltC c2 c1=true
     . rw[if_pos hlt,if_pos hlt];rfl
     . rw[if_neg hlt,if_neg hlt];rfl
   . rintro⟨⟨⟩,st'⟩ s' ⟨rfl,hf,hp⟩
     dsimp only
     refine wpAny_bind (seqEpoch_at ho6 rfl ?_)
     rw[hp]
     have hz:(iI [Value.ref b1,Value.ref b2] [c1,c2]).length=2:=by
      show(if ltC c2 c1=true then[Value.ref b2,Value.ref b1]else[Value.ref b1,Value.ref b2]).length=2
      split<;>rfl
     refine wpAny_bind (listUpdate_at ho6 rfl ?_ (Nat.zero_le _) (by rw[x4,hz];exact Nat.le_succ_of_le hsl))
     rw[hf]
     simp only[bne_self_eq_false,Bool.false_eq_true,if_false]
     exact wpAny_pure h
end
end RF
namespace RF
open PySem PySem.Spec L2 DL
open PyProof.Rows
theorem t7{f g:Bool}(hfg:f=true->g=false):∀{ns ms:List Int},ltF f ns ms=true->ltF g ms ns=false
 | [],[],h=>by unfold ltF at h ⊢;exact hfg h
 | [],_::_,h=>by unfold ltF at h ⊢;exact hfg h
 | _::_,[],h=>by unfold ltF at h ⊢;exact hfg h
 | n ::ns,m::ms,h=>by
   unfold ltF at h ⊢
   by_cases e:n=m
   . rw[if_pos e]at h;rw[if_pos e.symm];exact t7 hfg h
   . rw[if_neg e]at h;rw[if_neg (λ z=>e z.symm)]
     have:=of_decide_eq_true h
     exact decide_eq_false (by omega)
theorem G8{ns ms:List Int}(h:ltI ns ms=true):ltI ms ns=false:=by
 unfold ltI at h ⊢
 exact t7 (λ h1=>decide_eq_false (by have:=of_decide_eq_true h1;omega)) h
theorem uh{f g:Bool}:∀{ns ms:List Int},(ns.length<ms.length->f=true)->(ms.length<ns.length->g=true)->ltF f ns ms=false->ltF g ms ns=false->ns=ms
 | [],[],_,_,_,_=>rfl
 | [],_::_,hf,_,h,_=>by unfold ltF at h;rw[hf (by simp)]at h;cases h
 | _::_,[],_,hg,_,h=>by unfold ltF at h;rw[hg (by simp)]at h;cases h
 | n ::ns,m::ms,hf,hg,h1,h2=>by
   unfold ltF at h1 h2
   by_cases e:n=m
   . rw[if_pos e]at h1;rw[if_pos e.symm]at h2
     rw[e,uh (λ z=>hf (by simpa using z)) (λ z=>hg (by simpa using z)) h1 h2]
   . rw[if_neg e]at h1;rw[if_neg (λ z=>e z.symm)]at h2
     have a:=of_decide_eq_false h1
     have b:=of_decide_eq_false h2
     omega
theorem Jq{ns ms:List Int}(h1:ltI ns ms=false)(h2:ltI ms ns=false):ns=ms:=by
 unfold ltI at h1 h2
 exact uh (λ h=>decide_eq_true h) (λ h=>decide_eq_true h) h1 h2
theorem GF{c d:Int×List Int}(h:ltC c d=true):ltC d c=false:=by
 unfold ltC at h ⊢
 by_cases e:c.1=d.1
 . rw[if_pos e]at h;rw[if_pos e.symm];exact G8 h
 . rw[if_neg e]at h;rw[if_neg (λ z=>e z.symm)]
   have:=of_decide_eq_true h
   exact decide_eq_false (by omega)
theorem HB{c d:Int×List Int}(h1:ltC c d=false)(h2:ltC d c=false):c=d:=by
 unfold ltC at h1 h2
 by_cases e:c.1=d.1
 . rw[if_pos e]at h1;rw[if_pos e.symm]at h2
   exact Prod.ext e (Jq h1 h2)
 . rw[if_neg e]at h1;rw[if_neg (λ z=>e z.symm)]at h2
   have a:=of_decide_eq_false h1
   have b:=of_decide_eq_false h2
   exact absurd (by omega) e
noncomputable def sset{α:Type}(f:α->Int×List Int):List α->List α
 | [x,y]=>if f y=f x then[x]else if ltC (f y) (f x)=true then[y,x]else[x,y]
 | xs=>xs
section
variable {prog : Program} {w : World} {A : Around} {E : Value -> Shared -> Prop} {s : Shared}
theorem Bm{S:Addr}{ep:Nat}{its:List Value}{cs:List (Int×List Int)}{es:List (Int×Value)}{ps:List Nat}(hl:its.length=cs.length)(h2:its.length≤2)(h:Lies prog w its cs its.length es ps):
 Rise es ps/\∃ds:List (Int×List Int),((bh w S ep es).toList.map (·.2)).length=ds.length/\(∀(i:Nat)(v:Value)(c:Int×List Int),((bh w S ep es).toList.map (·.2))[i]? =some v->ds[i]? =some c->(v,c)∈its.zip cs)/\
  iI ((bh w S ep es).toList.map (·.2)) ds=(sset (·.2) (its.zip cs)).map (·.1):=by
 match its,cs,hl,h2,h with
 | [],[],_,_,h=>
   obtain⟨rfl,rfl⟩:=h
   have r:Rise [] []:=⟨rfl,.inl rfl⟩
   refine⟨r,[],?_⟩
   rcases fJ w S ep r with⟨_,h2⟩ | ⟨e,h1,_⟩ | ⟨e1,e2,h1,_⟩
   . rw[h2];exact⟨rfl,λ i v c e=>by simp at e,rfl⟩
   . cases h1
   . cases h1
 | [v],[c],_,_,h=>
   obtain⟨v',c',e1,e2,rfl,rfl⟩:=h
   cases e1;cases e2
   have r:Rise [(hC prog w c,v)] [SetTable.bits (hC prog w c) % 8]:=⟨rfl,.inr (.inl ⟨_,rfl⟩)⟩
   refine⟨r,[c],?_⟩
   rcases fJ w S ep r with⟨h1,_⟩ | ⟨e,h1,h2⟩ | ⟨e1,e2,h1,_⟩
   . cases h1
   . cases h1
     rw[h2]
     refine⟨rfl,λ i v' c' e1 e2=>?_,rfl⟩
     match i with
     | 0=>simp at e1 e2;simp[e1,e2]
     | i+1=>simp at e1
   . cases h1
 | [v0, v], [c0,c],_,_,h=>
   obtain⟨v0',v',c0',c',e1,e2,h⟩:=h
   cases e1;cases e2
   rcases h with⟨rfl,rfl,rfl⟩ | ⟨nc,e1,e2,v1,v2,j1,j2,rfl,rfl,hj,h8,hv⟩
   . have r:Rise [(hC prog w c,v0)] [SetTable.bits (hC prog w c) % 8]:=⟨rfl,.inr (.inl ⟨_,rfl⟩)⟩
     refine⟨r,[c],?_⟩
     rcases fJ w S ep r with⟨h1,_⟩ | ⟨e,h1,h2⟩ | ⟨e1,e2,h1,_⟩
     . cases h1
     . cases h1
       rw[h2]
       refine⟨rfl,λ i v' c' e1 e2=>?_,?_⟩
       . match i with
         | 0=>simp at e1 e2;simp[e1,e2]
         | i+1=>simp at e1
       . show[v0]=_
         simp[sset]
     . cases h1
   . have r :Rise [(e1,v1),(e2,v2)] [j1,j2]:=⟨rfl,.inr (.inr ⟨_,_,rfl,hj⟩)⟩
     refine⟨r,?_⟩
     have key:∀(x y:Value)(p q:Int×List Int),(bh w S ep [(e1,v1),(e2,v2)]).toList.map (·.2)=[x,y]->((x,p)=(v0,c0)/\(y,q)=(v,c)∨(x,p)=(v,c)/\(y,q)=(v0,c0))->
      ∃ ds:List (Int×List Int),((bh w S ep [(e1,v1),(e2,v2)]).toList.map (·.2)).length=ds.length/\(∀(i:Nat)(v':Value)(c':Int×List Int),((bh w S ep [(e1,v1),(e2,v2)]).toList.map (·.2))[i]? =some v'->ds[i]? =some c'->(v',c')∈[v0,v].zip [c0,c])/\
        iI ((bh w S ep [(e1,v1),(e2,v2)]).toList.map (·.2)) ds=(sset (·.2) ([v0,v].zip [c0,c])).map (·.1):=by
      intro x y p q hm hxy
      rw[hm]
      refine⟨[p,q],rfl,λ i v' c' g1 g2=>?_,?_⟩
      . match i with
        | 0=>
          simp at g1 g2;subst g1 g2
          rcases hxy with⟨a,b⟩ | ⟨a,b⟩<;>(rw[a];simp)
        | 1=>
          simp at g1 g2;subst g1 g2
          rcases hxy with⟨a,b⟩ | ⟨a,b⟩<;>(rw[b];simp)
        | i+2=>simp at g1
      . show(if ltC q p=true then[y,x]else[x,y])=(if c=c0 then[(v0,c0)]else if ltC c c0=true then[(v,c),(v0,c0)]else[(v0,c0),(v,c)]).map (·.1)
        rw[if_neg nc]
        rcases hxy with⟨a,b⟩ | ⟨a,b⟩
        . cases a;cases b
          split<;>rfl
        . cases a;cases b
          cases h1:ltC c0 c with
          | true=>rw[GF h1];rfl
          | false=>
            cases h2:ltC c c0 with
            | true=>rfl
            | false=>exact absurd (HB h2 h1) nc
     rcases fJ w S ep r with⟨h1,_⟩ | ⟨e,h1,_⟩ | ⟨f1,f2,h1,h2⟩
     . cases h1
     . cases h1
     . cases h1
       rcases hv with⟨rfl,rfl⟩ | ⟨rfl,rfl⟩
       . rcases h2 with h2 | h2
         . exact key v1 v2 c0 c (by rw[h2];rfl) (.inl ⟨rfl,rfl⟩)
         . exact key v2 v1 c c0 (by rw[h2];rfl) (.inr ⟨rfl,rfl⟩)
       . rcases h2 with h2 | h2
         . exact key v1 v2 c c0 (by rw[h2];rfl) (.inr ⟨rfl,rfl⟩)
         . exact key v2 v1 c0 c (by rw[h2];rfl) (.inl ⟨rfl,rfl⟩)
 | _::_::_::_,_,_,h2,_=>simp at h2
theorem Fd{S:Addr}{vs:List Value}{cs:List (Int×List Int)}{es:List (Int×Value)}{ps:List Nat}{ep:Nat}{Q:Value->Shared->Prop}(hh:A.handled=none)(hu:A.units+8<cLine)(r:Rise es ps)(ho:s.heap.get? S=some (bV (dH w) es ps ep))
 (hvs:vs=(bh w S ep es).toList.map (·.2))(hl:vs.length=cs.length)(h2:vs.length≤2)(hc:∀(i:Nat)(v:Value)(c:Int×List Int),vs[i]? =some v->cs[i]? =some c->aW s.heap v c)
 (h:∀h' tk a e,(∀b o,b<s.heap.objs.size->s.heap.get? b=some o->h'.get? b=some o)->s.heap.objs.size≤a->h'.get? a=some (seqObj "list" (iI vs cs).toArray e)->Q (.ref a) {s with heap:=h',toks:=tk}):
 wpAny (model prog w) A (call (.builtin "sorted") [.ref S]) Q E s:=by
 refine Calls.call_function_entry kind_sorted plain_sorted entry_sorted (args_sorted1 _) ?_
 unfold Builtin.«sorted»
 refine wpAny_bind (m:=checkCount "sorted" 1 1 _) (wpAny_pure ?_)
 refine wpAny_bind (BK (by simpa using hh) r ho λ h' tk k1 k2=>?_)
 rw[←hvs]
 have hsl:vs.length≤sizeLine:=Nat.le_trans h2 (by decide)
 refine wpAny_bind (wpAny_newList ?_ hsl)
 have hoL:(h'.push (seqObj "list" vs.toArray 0)).get? h'.objs.size=some (seqObj "list" vs.toArray 0):=Heap.get?_push_size _ rfl
 have keep:∀b o,s.heap.get? b=some o->(h'.push (seqObj "list" vs.toArray 0)).get? b=some o:=λ b o q=>Heap.get?_push_of_some _ (k1 b o (Heap.lt_size q) q)
 show wpAny _ _ _ _ _ {s with heap:=h'.push (seqObj "list" vs.toArray 0),toks:=tk}
 refine wpAny_bind (wpAny_holding (wpAny_call_entry slot_list_sort ⟨_,hoL,rfl⟩ entry_list_sort (uU ?_ hoL hl (λ i v c e1 e2=>(hc i v c e1 e2).keep λ b o e _=>keep b o e) h2 ⟨_,rfl,?_⟩) (args_list_sort _)))
 . show A.units+1+1+2<cLine
   omega
 . obtain⟨e,he⟩:=sortedHeap_at (out:=(iI vs cs).toArray) hoL
   refine wpAny_pure ⟨_,rfl,h _ tk _ e (λ b o hb q=>?_) k2 he⟩
   have hlt:b<h'.objs.size:=x9 hb k2
   rw[sortedHeap_old (w9 hlt) (by rw[size_push'];exact Nat.lt_succ_of_lt hlt)]
   exact keep b o q
end
end RF
namespace RF
open PySem PySem.Spec L2 DL
open PyProof.Rows
noncomputable def cD(c:Int×List Int):D:=.tup [.int c.1,.tup (c.2.map .int)]
section
variable {X : Cx}
theorem QJ {pins:List (Addr×Obj)}{σ:DL.St}{H:Hp}{s:Shared}{O:Own}(I:Inv X pins σ H s){y:V}{u:Value}{c:Int×List Int}(r:Rep X.K O H y (cD c))(ru:RelV y u):aW s.heap u c:=by
 unfold cD at r
 cases r with
 | @tup a xs _ h1 q1=>
   cases ru
   obtain⟨js,rv,⟨o,p1,p2,n,p3⟩,hz⟩:=I.tuple h1.sq
   cases q1 with
   | cons r1 t1=>
     cases t1 with
     | cons r2 t2=>
       cases t2
       cases rv with
       | cons a1 b1=>
         cases b1 with
         | cons a2 b2=>
           cases b2
           cases r1
           obtain⟨tk,rfl⟩:=a1
           cases r2 with
           | @tup a' xs' _ h1' q1'=>
             cases a2
             obtain⟨js',rv',⟨o',p1',p2',n',p3'⟩,hz'⟩:=I.tuple h1'.sq
             have ex:=q1'.ints
             subst ex
             exact⟨a,o,n,tk,_,rfl,p1,p2,p3,_,o',_,n',rfl,p1',p2',p3',intsAre_of rv'⟩
theorem GJ {K :PySem.W.Frag}{O:Own}{H:Hp}{cs:List (Int×List Int)}{its:List Value}{xs:List V}(h2:cs.length≤2)(rv:Vals xs its)(hq:Reps K O H xs (cs.map cD)):
 ∃ys,Vals ys ((sset (·.2) (its.zip cs)).map (·.1))/\Reps K O H ys ((sset id cs).map cD)/\ys.length≤2:=by
 rcases cs with _ | ⟨c0,_ | ⟨c,_ | ⟨c',cs⟩⟩⟩
 . cases hq;cases rv;exact⟨[],.nil,.nil,Nat.zero_le _⟩
 . cases hq with
   | cons b1 t=>
     cases t
     cases rv with
     | cons a1 t=>
       cases t
       exact⟨[_],.cons a1 .nil,.cons b1 .nil,Nat.le_succ _⟩
 . cases hq with
   | cons b1 t=>
     cases t with
     | cons b2 t=>
       cases t
       cases rv with
       | cons a1 t=>
         cases t with
         | cons a2 t=>
           cases t
           rename_i y0 y x0 x
           have key:∃ys,Vals ys ((if c=c0 then[(x0,c0)]else if ltC c c0=true then[(x,c),(x0,c0)]else[(x0,c0),(x,c)]).map (·.1))/\Reps K O H ys ((if c=c0 then[c0]else if ltC c c0=true then[c,c0]else[c0,c]).map cD)/\ys.length≤2:=by
            by_cases e1:c=c0
            . rw[if_pos e1,if_pos e1];exact⟨[y0],.cons a1 .nil,.cons b1 .nil,Nat.le_succ _⟩
            . rw[if_neg e1,if_neg e1]
              by_cases e2:ltC c c0=true
              . rw[if_pos e2,if_pos e2];exact⟨[y,y0],.cons a2 (.cons a1 .nil),.cons b2 (.cons b1 .nil),y9 _⟩
              . rw[if_neg e2,if_neg e2];exact⟨[y0,y],.cons a1 (.cons a2 .nil),.cons b1 (.cons b2 .nil),y9 _⟩
           exact key
 . simp at h2
theorem Ba{cs:List (Int×List Int)}{S:Store}{W:WD}{d:D}(hc:X.calm=true)(hu:X.A.units+60<cLine)(h2:cs.length≤2)(hd:d=.lst (cs.map cD)∨∃k,d=.loc k/\S[k]? =some (cs.map cD))
 (w:∀(O:Own)(H:Hp)(p:Addr)(ys:List V),StOk X.K O H S->H p=none->Reps X.K O H ys ((sset id cs).map cD)->QG X.K O H W (.ref p) (upd H p (.lst ys)))
 {pins:Pins}{s:Shared}{σ:DL.St}{H:Hp}{O:Own}{v:V}{u:Value}(I:Inv X pins σ H s)(st:StOk X.K O H S)(r':Rep X.K O H v d)(ru':RelV v u):
 wpAny (model X.prog X.w) X.A (call (.type "set") [u]) (λ u1 s1=>wpAny (model X.prog X.w) X.A (call (.builtin "sorted") [u1]) (EP X pins σ (QG X.K O H W)) X.xe s1) X.xe s:=by
 have main:∀(a:Addr)(xs:List V),v=.ref a->SqL X.K H a xs->Reps X.K O H xs (cs.map cD)->wpAny (model X.prog X.w) X.A (call (.type "set") [u]) (λ u1 s1=>wpAny (model X.prog X.w) X.A (call (.builtin "sorted") [u1]) (EP X pins σ (QG X.K O H W)) X.xe s1) X.xe s:=by
  rintro a xs rfl hs hq
  cases ru'
  obtain⟨its,rv,pl,hz⟩:=I.list hs
  have l1:xs.length=cs.length:=by rw[hq.length,y7]
  have l2:its.length=cs.length:=by rw[←rv.length,l1]
  have cel:∀(i:Nat)(x:Value)(c:Int×List Int),its[i]? =some x->cs[i]? =some c->aW s.heap x c:=by
   intro i x c e1 e2
   have e3:(cs.map cD)[i]? =some (cD c):=by rw[y8,e2];rfl
   obtain⟨y,hy,ry⟩:=hq.get e3
   obtain⟨x',hx',rx⟩:=jE rv hy
   rw[e1]at hx';cases hx'
   exact QJ I ry rx
  refine v5 (I.ok.hd hc) (by omega) pl.isList l2 cel (by omega) λ h1 tk es ps ep g1 lies k1=>?_
  obtain⟨rise,ds,m1,m2,m3⟩:=Bm (S:=s.heap.objs.size) (ep:=ep) l2 (by omega) lies
  have hlt:∀b o,s.heap.get? b=some o->h1.get? b=some o:=λ b o e=>k1 b o (Heap.lt_size e) e
  have sz1:s.heap.objs.size≤h1.objs.size:=Nat.le_of_lt (Heap.lt_size g1)
  have m4:((bh X.w s.heap.objs.size ep es).toList.map (·.2)).length≤2:=by
   rw[y7,Array.length_toList,jJ _ _ _ rise]
   rcases rise.sh with e | ⟨j,e⟩ | ⟨j,k,e,_⟩<;>(have:=rise.len;rw[e]at this;simp at this;omega)
  refine Fd (s:={s with heap:=h1,toks:=tk}) (I.ok.hd hc) (by omega) rise g1 rfl m1 m4 (λ i x c e1 e2=>?_) λ h2' tk2 p e k2 hp he=>?_
  . have hm:=m2 i x c e1 e2
    obtain⟨j,hj⟩:=List.getElem?_of_mem hm
    rw[List.getElem?_zip_eq_some]at hj
    exact(cel j x c hj.1 hj.2).keep λ b o e _=>hlt b o e
  . rw[m3]at he
    have hp':s.heap.objs.size≤p:=Nat.le_trans sz1 hp
    have hpn:H p=none:=I.hok.fresh hp'
    obtain⟨ys,vy,ry,ly⟩:=GJ h2 rv hq
    have hys:ys.length≤sizeLine:=Nat.le_trans ly (by decide)
    refine⟨.ref p,_,I.laid (t':=tk2) (λ b o q=>k2 b o (x9 (Heap.lt_size q) sz1) (hlt b o q)) hp' (show aX X.prog X.w _ _ _ (.lst ys)from⟨hys,_,e,vy,he⟩),rfl,w O H p ys st hpn ry⟩
 rcases hd with rfl | ⟨k,rfl,hk⟩
 . cases r' with
   | @lst a xs _ h1 q1=>exact main a xs rfl h1.sq q1
 . cases r' with
   | @loc p _ h1=>
     obtain⟨xs,hx,q1⟩:=st.obj k p _ h1 hk
     exact main p xs rfl (SqL.of hx) q1
end
end RF
namespace RF
open PySem PySem.Spec L2 DL
open PyProof.Rows
section
variable {Ω : Wd}
noncomputable def Te.lval(a:Ex Ω):Te Ω where
 lev:=a.lev
 chk top N nm e:=Lf e&&a.chk top N nm e
 wp Γ S W:=a.wp Γ S λ d S1=>∃ds,vw S1 d=.lst ds/\(d=.lst ds∨∃k,d=.loc k/\S1[k]? =some ds)/\ds.length≤1000000/\W (!ds.isEmpty) S1
 sound:=by
  intro X r top N nm e Γ S W A hl hc hw
  obtain⟨h1,h2⟩:=aa hc
  intro pins s σ H O I env st
  refine isTrue_plain (thn (a.sound A hl h2 hw pins s σ H O I env st) λ u s3 hq_=>?_) (G7 h1 _ _)
  obtain⟨z,H3,I3,r3,O3,d,S3,⟨ds,_,hd,hz,wc⟩,st3,ok3,rep3⟩:=hq_
  have main:∀(p:Addr)(xs:List V),z=.ref p->SqL X.K H3 p xs->xs.length=ds.length->wpAny (model X.prog X.w) X.A (truthy u) (TP X pins σ (QT X.K O H W)) X.xe s3:=by
   rintro p xs rfl hs hlen
   cases r3
   obtain⟨its,rv,pl,hzz⟩:=I3.list hs
   have hl2:its.length=ds.length:=by rw[←rv.length,hlen]
   refine wpAny_truthy_list pl.isList (by rw[x4];omega) ?_
   have e:(!its.toArray.isEmpty)= !ds.isEmpty:=by
    cases its with
    | nil=>cases ds with
      | nil=>rfl
      | cons _ _=>simp at hl2
    | cons _ _=>cases ds with
      | nil=>simp at hl2
      | cons _ _=>rfl
   rw[e]
   exact⟨H3,I3.tok _,O3,S3,wc,st3,ok3⟩
  rcases hd with rfl | ⟨k,rfl,hk⟩
  . cases rep3 with
    | @lst p xs _ g1 q1=>exact main p xs rfl g1.sq q1.length
  . cases rep3 with
    | @loc p _ g1=>
      obtain⟨xs,hx,q1⟩:=ok3.obj k p _ g1 hk
      exact main p xs rfl (SqL.of hx) q1.length
end
section
variable {Ω : Wd}
noncomputable def Ex.ssetO(hm:Ω.mg "sorted"=none)(hm2:Ω.mg "set"=none)(a:Ex Ω):Ex Ω where
 lev:=a.lev
 chk top N nm e:=match e with
  | .Call (.Name y _) [.Call (.Name z _) [b] [] _] [] _=>(y=="sorted")&&((z=="set")&&(glb nm "sorted"&&(glb nm "set"&&(okE b&&a.chk top N nm b))))
  | _=>false
 wp Γ S W:=a.wp Γ S λ d S1=>∃cs:List (Int×List Int),cs.length≤2/\(d=.lst (cs.map cD)∨∃k,d=.loc k/\S1[k]? =some (cs.map cD))/\W (.loc S1.length) (S1++[(RF.sset id cs).map cD])
 sound:=by
  intro X r top N nm e Γ S W A hl hc hw
  split at hc
  . rename_i y p z p' b pos' pos
    obtain⟨h1,hc⟩:=aa hc
    obtain⟨h2,hc⟩:=aa hc
    obtain⟨h3,hc⟩:=aa hc
    obtain⟨h4,hc⟩:=aa hc
    obtain⟨h5,h6⟩:=aa hc
    have e1:=eq_of_beq h1
    have e2:=eq_of_beq h2
    subst e1 e2
    intro pins s σ H O I env st
    refine wpAny_Call_Name_kw (bL I (A.glb h3) (by rw[A.g];exact hm) (show bootBuiltins "sorted"=some (.builtin "sorted")from by decide+kernel) ?_ (by decide) (by decide))
    refine PyProof.Rows.callWith_builtin1 ?_ rfl rfl
    show wpAny _ _ (spliced ((false,eval _ X.env)::backTo pos (starEach [] X.env))) _ _ s
    refine Calls.spliced_cons ?_
    refine wpAny_Call_Name_kw (bL I (A.glb h4) (by rw[A.g];exact hm2) (show bootBuiltins "set"=some (.type "set")from by decide+kernel) ?_ (by decide) (by decide))
    refine PyProof.Rows.callWith_type1 ?_ (aB h5 _ _) rfl
    rw[aB h5 [] X.env]
    show wpAny _ _ (spliced ((false,eval b X.env)::backTo pos' (starEach [] X.env))) _ _ s
    refine Calls.spliced_cons (thn (a.sound A hl h6 hw pins s σ H O I env st) λ u s1 hq_=>?_)
    obtain⟨v,H1,I1,r1,O1,x,S1,hb,st1,ok1,rep1⟩:=hq_
    obtain⟨cs,c1,c2,c3⟩:=hb
    refine Calls.spliced_nil ?_
    refine thn (Ba (W:=W) A.calm A.hu c1 c2 (λ O H p ys st hp r=>qg c3 st hp r) I1 ok1 rep1 r1) λ u2 s2 q=>?_
    refine Calls.spliced_nil ?_
    exact thn q λ _ _ q=>cY st1 q
  . exact fE hc
end
mutual
noncomputable def vwD(S:Store):D->D
 | .loc k=>match S[k]? with | some ds=>.lst ds | none=>.loc k
 | .tup ds=>.tup (gr S ds)
 | .lst ds=>.lst (gr S ds)
 | d=>d
noncomputable def gr(S:Store):List D->List D
 | []=>[]
 | d::ds=>vwD S d::gr S ds
end
noncomputable def vwT(S:Store):D->D
 | .loc k=>match S[k]? with | some ds=>.lst (gr S ds) | none=>.loc k
 | d=>vwD S d
mutual
theorem dZ{K:PySem.W.Frag}{O:Own}{H:Hp}{S:Store}(st:StOk K O H S):∀{v:V}{x:D},Rep K O H v x->okD (vwD S x)=true->Sn K H v (vwD S x)
 | _,_,.non,_=>by simp only[vwD];exact .non
 | _,_,.bl b,_=>by simp only[vwD];exact .bl b
 | _,_,.int i,_=>by simp only[vwD];exact .int i
 | _,_,.str i,_=>by simp only[vwD];exact .str i
 | _,_,.tup h1 q1,h=>by simp only[vwD,okD]at h ⊢;exact .tup h1.sq (nj st q1 h)
 | _,_,.lst h1 q1,h=>by simp only[vwD,okD]at h ⊢;exact .lst h1.sq (nj st q1 h)
 | _,_,.loc (a:=a) (k:=k) hk,h=>by
   have hl:k<S.length:=by rw[←st.len];exact(z0.mp hk).1
   obtain⟨xs,hx,q⟩:=st.obj k a S[k] hk (y3 hl)
   have e:vwD S (.loc k)=.lst S[k]:=by simp only[vwD];rw[y3 hl]
   rw[e]at h ⊢
   exact .lst (SqL.of hx) (jt (by simpa[okD]using h) q)
 | _,_,.dic h1 e1,h=>by simp[vwD,okD]at h
 | _,_,.dlo h1,h=>by simp[vwD,okD]at h
theorem nj{K:PySem.W.Frag}{O:Own}{H:Hp}{S:Store}(st:StOk K O H S):∀{vs:List V}{xs:List D},Reps K O H vs xs->bM (gr S xs)=true->Sns K H vs (gr S xs)
 | _,_,.nil,_=>by simp only[gr];exact .nil
 | _,_,.cons r t,h=>by
   simp only[gr,bM,Bool.and_eq_true]at h ⊢
   exact .cons (dZ st r h.1) (nj st t h.2)
end
theorem Jp{K:PySem.W.Frag}{O:Own}{H:Hp}{S:Store}{v:V}{x:D}(st:StOk K O H S)(r:Rep K O H v x)(h:okD (vwT S x)=true):Sn K H v (vwT S x):=by
 cases r with
 | @loc a k hk=>
   have hl:k<S.length:=by rw[←st.len];exact(z0.mp hk).1
   obtain⟨xs,hx,q⟩:=st.obj k a S[k] hk (y3 hl)
   have e:vwT S (.loc k)=.lst (gr S S[k]):=by simp only[vwT];rw[y3 hl]
   rw[e]at h ⊢
   exact .lst (SqL.of hx) (nj st q (by simpa[okD]using h))
 | non=>exact dZ st .non h
 | bl b=>exact dZ st (.bl b) h
 | int i=>exact dZ st (.int i) h
 | str i=>exact dZ st (.str i) h
 | tup h1 q1=>exact dZ st (.tup h1 q1) h
 | lst h1 q1=>exact dZ st (.lst h1 q1) h
 | dic h1 e1=>exact dZ st (.dic h1 e1) h
 | dlo h1=>exact dZ st (.dlo h1) h
theorem Tc{X:Cx}{x y:D}{S:Store}{W:Bool->Store->Prop}(hu:X.A.units+60<cLine)(h1:okD (vwT S x)=true)(h2:okD (vwT S y)=true)(h3:deep (vwT S x)≤50)(w:W (!eqD (vwT S x) (vwT S y)) S):bw X .NotEq x y S (asB W):=by
 intro pins s σ H O v w' u u' I st r1 r2 r3 r4
 have:=(m6 (n:=50) (A:=X.A) (wg 50) (vwT S x) (vwT S y) (by omega) I (Jp st r1 h1) (Jp st r2 h2) r3 r4 (by omega)).2
 exact this _ _ _ _ ⟨.bl _,H,I,rfl,QG.here ⟨_,rfl,w⟩ st (.bl _)⟩
section
variable {Ω : Wd}
noncomputable def Te.neV(a b:Ex Ω):Te Ω where
 lev:=max a.lev b.lev
 chk top N nm e:=match e with | .Compare l [o] [r] _=>(o==CmpOp.NotEq)&&(okE r&&(a.chk top N nm l&&b.chk top N nm r)) | _=>false
 wp Γ S W:=a.wp Γ S λ x S1=>b.wp Γ S1 λ y S2=>okD (vwT S2 x)=true/\okD (vwT S2 y)=true/\deep (vwT S2 x)≤50/\W (!eqD (vwT S2 x) (vwT S2 y)) S2
 sound:=by
  intro X r top N nm e Γ S W A hl hc hw
  obtain⟨l1,l2⟩:=lv2 hl
  cases e with
  | Compare l os rs pos=>
    match os,rs,hc with
    | [o],[r'],hc=>
      obtain⟨h1,h2⟩:=aa hc
      obtain⟨h0,h2⟩:=aa h2
      obtain⟨h2,h3⟩:=aa h2
      have e:o=.NotEq:=eq_of_beq h1
      subst e
      exact Hx ((a.sound A l1 h2 hw).mono λ x S1 q=>(b.sound A l2 h3 q).mono λ y S2 q=>Tc A.hu q.1 q.2.1 q.2.2.1 q.2.2.2) (gF h0)
    | [],_,hc=>exact fE hc
    | [_],[],hc=>exact fE hc
    | [_],_::_::_,hc=>exact fE hc
    | _::_::_,_,hc=>exact fE hc
  | _=>exact fE hc
end
end RF
namespace RF
open PySem PySem.Spec L2 DL
open PyProof.Rows
noncomputable def tD:V->List V->Hp->VK->Prop:=λ x vs H Q=>∃l xs i y,x=.ref l/\vs=[.int i,y]/\H l=some (.lst xs)/\0≤i/\i<2 ^ 62/\xs.length<sizeLine/\Q .non (upd H l (.lst (xs.take i.toNat++y::xs.drop i.toNat)))
section
variable {X : Cx}
theorem Hr{xs:List V}{us:List Value}(r:Vals xs us)(n:Nat):Vals (xs.take n) (us.take n):=by
 induction r generalizing n with
 | nil=>simp;exact .nil
 | cons a _ ih=>cases n with
   | zero=>simp;exact .nil
   | succ n=>exact .cons a (ih n)
theorem Ib{xs:List V}{us:List Value}(r:Vals xs us)(n:Nat):Vals (xs.drop n) (us.drop n):=by
 induction r generalizing n with
 | nil=>simp;exact .nil
 | cons a t ih=>cases n with
   | zero=>exact .cons a t
   | succ n=>exact ih n
theorem Hm:MtM X "list.insert" tD:=by
 intro pins s σ H x vs v us Q I rx rv h
 obtain⟨l,xs,i,y,rfl,rfl,hH,h0,h1,hz,q⟩:=h
 cases rx
 cases rv with
 | cons a1 t=>
   cases t with
   | cons a2 t=>
     cases t
     obtain⟨tk,rfl⟩:=a1
     obtain⟨z,its,n,r,hl,e⟩:=I.lstM hH
     rename_i u
     refine call_meets F.slot_list_insert ⟨_,e,rfl⟩ F.entry_list_insert (F.args_list_insert_3 _ _ _) (AutoSeq1.list_insert_list_int_val_1 l its.toArray n i tk u (by rw[fitsIndex_both (by omega) (by omega)];decide) (by rw[x4];omega)) ⟨e,?_⟩
     refine⟨.non,_,I.lset (its':=its.take i.toNat++u::its.drop i.toNat) hH e ?_ ((Hr r _).append (.cons a2 (Ib r _))) ?_,rfl,q⟩
     . apply Array.toList_inj.mp
       simp only[if_neg (show ¬i<0 by omega)]
       by_cases hle:i.toNat≤its.length
       . simp[Nat.min_eq_left hle]
         exact List.take_of_length_le (by simp)
       . have e2:min i.toNat its.length=its.length:=by omega
         have e3:its.take i.toNat=its:=List.take_of_length_le (by omega)
         have e4:its.drop i.toNat=[]:=List.drop_eq_nil_of_le (by omega)
         simp[e2,e3,e4]
     . rw[x6,List.length_cons,List.length_take,List.length_drop]
       omega
theorem ur{K:PySem.W.Frag}{O:Own}{H:Hp}{vs:List V}{ds:List D}(r:Reps K O H vs ds)(n:Nat):Reps K O H (vs.take n) (ds.take n):=by
 match vs,ds,r,n with
 | [],[],.nil,_=>simp;exact .nil
 | _::_,_::_,.cons a t,0=>simp;exact .nil
 | _::_,_::_,.cons a t,n+1=>exact .cons a (ur t n)
theorem tO{K:PySem.W.Frag}{O:Own}{H:Hp}{vs:List V}{ds:List D}(r:Reps K O H vs ds)(n:Nat):Reps K O H (vs.drop n) (ds.drop n):=by
 match vs,ds,r,n with
 | [],[],.nil,_=>simp;exact .nil
 | _::_,_::_,.cons a t,0=>exact .cons a t
 | _::_,_::_,.cons a t,n+1=>exact tO t n
theorem qC{K:PySem.W.Frag}{O:Own}{H:Hp}{vs:List V}{ds:List D}(r:Reps K O H vs ds)(n:Nat):Reps K O H (vs.eraseIdx n) (ds.eraseIdx n):=by
 match vs,ds,r,n with
 | [],[],.nil,_=>simp;exact .nil
 | _::_,_::_,.cons a t,0=>exact t
 | _::_,_::_,.cons a t,n+1=>exact .cons a (qC t n)
theorem xP{Γ:Gam}{S:Store}{o e:Expr}{es:List Expr}{name:Str}{id:String}{r:V->List V->Hp->VK->Prop}{apos cpos:Pos}{W:WD}(slot:Slot "list" name id)(hty:typeOf (.builtin id)=pure (.type "method_descriptor"))(hm:MtM X id r)(hmo:∀{x:V}{vs:List V}{H:Hp}{Q Q':VK},r x vs H Q->(∀v H',Q v H'->Q' v H')->r x vs H Q')
 (h:Ev X Γ S o λ x S1=>∃k,x=.loc k/\EvA X Γ S1 (e::es) λ ds S2=>∃ds0,S2[k]? =some ds0/\∀(O:Own)(H:Hp)(a:Addr)(xs vs:List V),O.A[k]? =some (a,false)->H a=some (.lst xs)->Reps X.K O H xs ds0->Reps X.K O H vs ds->StOk X.K O H S2->r (.ref a) vs H (QG X.K O H W))
 (hbase:attributeBase o name X.env (eval o X.env)=eval o X.env)
 (hfew:((backTo cpos (starEach (e::es) X.env)).all (λ x=>!x.1)&&(backToKw cpos (keywordEach [] X.env)).all (λ x=>x.1.isSome)
  &&decide ((e::es).length+([]:List Keyword).length+(if([]:List Keyword).isEmpty then 0 else 1)<30))=true)
 (hline:(apos.endLine==cpos.line)=true)(hs:starEach (e::es) X.env=(false,eval e X.env)::starEach es X.env)(hplain:(backTo cpos (starEach es X.env)).any (·.1)=false):Ev X Γ S (.Call (.Attribute o name apos) (e::es) [] cpos) W:=by
 intro pins s σ H O I env st
 have hty':∀(O1:Own)(x:D)(v:V)(H1:Hp)(S1:Store),(∃k,x=.loc k)->StOk X.K O1 H1 S1->Rep X.K O1 H1 v x->tyV X.K "list" v H1:=by
  rintro O1 x v H1 S1 ⟨k,rfl⟩ ok r
  cases r with
  | @loc a _ ha=>
    have hl:k<S1.length:=by rw[←ok.len];exact(z0.mp ha).1
    obtain⟨xs,hx,_⟩:=ok.obj k a S1[k] ha (y3 hl)
    exact .inl ⟨rfl,xs,SqL.of hx⟩
 have hA:PA X (e::es) (λ σ H Q=>∃O Γ S W',EnvOk X.K O H σ Γ/\StOk X.K O H S/\EvA X Γ S (e::es) W'/\∀vs H',QA X.K O H W' vs H'->Q vs H'):=by
  rintro pos pins s σ H Q I ⟨O,Γ,S,W',env,st,he,k⟩
  exact thn (he pos pins s σ H O I env st) λ us s1 ⟨vs,H1,I1,r1,q⟩=>⟨vs,H1,I1,r1,k vs H1 q⟩
 refine FN (T:="list") PySem.F.plainAttrs_list slot hty hm (h.pe) hA hbase hfew hline hs hplain pins s σ H _ I ⟨O,env,st,λ v H' q=>?_⟩
 obtain⟨O1,x,S1,⟨k,rfl,he⟩,st1,ok1,rep1⟩:=q
 refine⟨hty' O1 _ v H' S1 ⟨k,rfl⟩ ok1 rep1,O1,Γ,S1,_,env.mono st1,ok1,he,λ vs H2 q2=>?_⟩
 obtain⟨O2,ds,S2,⟨ds0,hk,w⟩,st2,ok2,rep2⟩:=q2
 have r':=rep1.mono st2
 cases r' with
 | @loc a _ ha=>
   obtain⟨xs,hx,q1⟩:=ok2.obj k a ds0 ha hk
   exact hmo (w O2 H2 a xs vs ha hx q1 rep2 ok2) λ v' H3 q3=>q3.pre (st1.trans st2)
theorem zu{x:V}{vs:List V}{H:Hp}{Q Q':VK}(h:tD x vs H Q)(k:∀v H',Q v H'->Q' v H'):tD x vs H Q':=by
 obtain⟨l,xs,i,y,e1,e2,e3,e4,e5,e6,q⟩:=h
 exact⟨l,xs,i,y,e1,e2,e3,e4,e5,e6,k _ _ q⟩
theorem Bd{x:V}{vs:List V}{H:Hp}{Q Q':VK}(h:xO x vs H Q)(k:∀v H',Q v H'->Q' v H'):xO x vs H Q':=by
 obtain⟨l,xs,i,j,y,e1,e2,e3,e4,e5,e6,e7,q⟩:=h
 exact⟨l,xs,i,j,y,e1,e2,e3,e4,e5,e6,e7,k _ _ q⟩
end
section
variable {Ω : Wd}
theorem Rr{e:Expr}{env:Env}{cpos:Pos}(h:okE e=true):((backTo cpos (starEach [e] env)).all (λ x=>!x.1)&&(backToKw cpos (keywordEach [] env)).all (λ x=>x.1.isSome)
 &&decide ([e].length+([]:List Keyword).length+(if([]:List Keyword).isEmpty then 0 else 1)<30))=true:=by
 rw[aB h [] env];rfl
theorem Uy{e f:Expr}{env:Env}{cpos:Pos}(h:okE e=true)(h':okE f=true):((backTo cpos (starEach [e,f] env)).all (λ x=>!x.1)&&(backToKw cpos (keywordEach [] env)).all (λ x=>x.1.isSome)
 &&decide ([e,f].length+([]:List Keyword).length+(if([]:List Keyword).isEmpty then 0 else 1)<30))=true:=by
 rw[aB h [f] env,aB h' [] env];rfl
noncomputable def Ex.m_insert(o a b:Ex Ω):Ex Ω where
 lev:=max o.lev (max a.lev b.lev)
 chk top N nm e:=match e with | .Call (.Attribute x m p) [y,z] [] q=>(m==("insert":Str))&&(nameE x&&((p.endLine==q.line)&&(okE y&&(okE z&&(o.chk top N nm x&&(a.chk top N nm y&&b.chk top N nm z)))))) | _=>false
 wp Γ S W:=o.wp Γ S λ x S1=>match x with | .loc k=>a.wp Γ S1 λ d S2=>b.wp Γ S2 λ d' S3=>∃(i:Nat) (ds:List D),d=.int i/\S3[k]? =some ds/\i≤ds.length/\ds.length<1000000/\W .non (S3.set k (ds.take i++d'::ds.drop i)) | _=>False
 sound := by
  intro X r top N nm e Γ S W A hl hc hw
  obtain⟨l1,l2⟩:=lv2 hl
  obtain⟨l2,l3⟩:=lv2 l2
  split at hc
  . rename_i x m p y z q
    obtain⟨h1,g⟩:=aa hc
    obtain⟨h2,g⟩:=aa g
    obtain⟨h3,g⟩:=aa g
    obtain⟨h4,g⟩:=aa g
    obtain⟨h5,g⟩:=aa g
    obtain⟨h6,g⟩:=aa g
    obtain⟨h7,h8⟩:=aa g
    have e:=eq_of_beq h1
    subst e
    refine xP F.slot_list_insert F.type_list_insert Hm zu ((o.sound A l1 h6 hw).mono λ x S1 q=>?_) ?_ (Uy h4 h5) h3 (aB h4 _ _) (by rw[aB h5 [] _];rfl)
    . cases x<;>first | exact q.elim | skip
      refine⟨_,rfl,bA ((a.sound A l2 h7 q).mono λ d S2 q=>bA ((b.sound A l3 h8 q).mono λ d' S3 q=>dI ?_) (aB h5 _ _)) (aB h4 _ _)⟩
      obtain⟨i,ds,rfl,hk,hi,hz,w⟩:=q
      refine⟨ds,hk,λ O H a xs vs ha hx rx rv st=>?_⟩
      cases rv with
      | cons r1 t=>
        cases t with
        | cons r2 t=>
          cases t
          cases r1
          refine⟨a,xs,_,_,rfl,rfl,hx,by omega,by omega,by rw[rx.length];exact x9 hz (by decide),O,.non,_,w,Step.put (bK ha) _,?_,.non⟩
          rw[Int.toNat_natCast]
          exact st.put ha ((ur rx i).append (.cons r2 (tO rx i)))
    . cases x<;>first | rfl | exact ff h2
  . exact ff hc
noncomputable def Ex.m_pop(o a:Ex Ω):Ex Ω where
 lev:=max o.lev a.lev
 chk top N nm e:=match e with | .Call (.Attribute x m p) [y] [] q=>(m==("pop":Str))&&(nameE x&&((p.endLine==q.line)&&(okE y&&(o.chk top N nm x&&a.chk top N nm y)))) | _=>false
 wp Γ S W:=o.wp Γ S λ x S1=>match x with | .loc k=>a.wp Γ S1 λ d S2=>∃(i:Nat) (ds:List D) (y:D),d=.int i/\S2[k]? =some ds/\ds[i]? =some y/\ds.length≤1000000/\W y (S2.set k (ds.eraseIdx i)) | _=>False
 sound:=by
  intro X r top N nm e Γ S W A hl hc hw
  obtain⟨l1,l2⟩:=lv2 hl
  split at hc
  . rename_i x m p y q
    obtain⟨h1,g⟩:=aa hc
    obtain⟨h2,g⟩:=aa g
    obtain⟨h3,g⟩:=aa g
    obtain⟨h4,g⟩:=aa g
    obtain⟨h6,h7⟩:=aa g
    have e:=eq_of_beq h1
    subst e
    refine xP F.slot_list_pop F.type_list_pop K1 Bd ((o.sound A l1 h6 hw).mono λ x S1 q=>?_) ?_ (Rr h4) h3 (aB h4 _ _) rfl
    . cases x<;>first | exact q.elim | skip
      refine⟨_,rfl,bA ((a.sound A l2 h7 q).mono λ d S2 q=>dI ?_) (aB h4 _ _)⟩
      obtain⟨i,ds,y,rfl,hk,hi,hz,w⟩:=q
      refine⟨ds,hk,λ O H a xs vs ha hx rx rv st=>?_⟩
      cases rv with
      | cons r1 t=>
        cases t
        cases r1
        obtain⟨v,hv,rv⟩:=rx.get hi
        have hlt:i<xs.length:=(z0.mp hv).1
        have hxz:xs.length=ds.length:=rx.length
        refine⟨a,xs,_,i,v,rfl,rfl,hx,by omega,by omega,?_,hv,O,y,_,w,Step.put (bK ha) _,st.put ha (qC rx i),rv.mono (Step.put (bK ha) _)⟩
        unfold seqIndex?
        rw[if_neg (show ¬(i:Int)<0 by omega)]
        show(if(decide (0≤(i:Int))&&decide ((i:Int)<(xs.length:Int)))=true then some (i:Int).toNat else none)=some i
        rw[decide_eq_true (show 0≤(i:Int) by omega),decide_eq_true (show(i:Int)<(xs.length:Int) by omega)]
        rfl
    . cases x<;>first | rfl | exact ff h2
  . exact ff hc
end
end RF
namespace RF
open PySem PySem.Spec L2 DL
open PyProof.Rows
theorem xF(l:Addr)(items:Array Value)(n:Nat)(b:Addr)(items2:Array Value)(n2:Nat)(dd2:Option Addr)(sl2:Array (Option Value))(hc0:¬(!items.isEmpty&&Builtin.List.listTooLong (items.size+items2.size))=true)(hc1:items.size≤sizeLine)(hs2:items.size+items2.size≤sizeLine+1):
 Meets (Builtin.«list.extend» ⟨[.ref l,.ref b],[]⟩) (λ _ R s=>s.heap.get? l=some {cls:=.type "list",dict:=none,data:=.seq items n,slots:=#[]}/\s.heap.get? b=some {cls:=.type "list",dict:=dd2,data:=.seq items2 n2,slots:=sl2}/\R (.ok (.ret Value.none)) {s with heap:=s.heap.update l (Obj.mapSeq λ x=>x++items2),toks:=s.toks}):=
 .of_wp λ prog w A R s h=>by
  obtain⟨hp,g,d,tk,os⟩:=s;obtain⟨hl,hb,h⟩:=h;have f1:=AutoSeq1.idx_int;have f2:=AutoSeq1.sub_tuple_tuple;have f3:=AutoSeq1.sub_list_list;have f4:=AutoSeq1.sub_tuple_list;have f5:=AutoSeq1.sub_list_tuple;
  have hz':(items++items2).size≤sizeLine+1:=by rw[Array.size_append];exact hs2
  wp_walk using(wpAny_updateSeq hl rfl (hz:=hc1) (_hz':=hz')),AutoSeq1.wpAny_loadPart' hl,AutoSeq1.wpAny_loadPart' hb;exact⟨_,rfl,h⟩
noncomputable def Ez(K:PySem.W.Frag):V->List V->Hp->VK->Prop:=λ x vs H Q=>∃l b xs zs,x=.ref l/\vs=[.ref b]/\H l=some (.lst xs)/\SqL K H b zs/\xs.length+zs.length≤sizeLine/\Q .non (upd H l (.lst (xs++zs)))
theorem Ey{K:PySem.W.Frag}{x:V}{vs:List V}{H:Hp}{Q Q':VK}(h:Ez K x vs H Q)(k:∀v H',Q v H'->Q' v H'):Ez K x vs H Q':=by
 obtain⟨l,b,xs,zs,e1,e2,e3,e4,e5,q⟩:=h
 exact⟨l,b,xs,zs,e1,e2,e3,e4,e5,k _ _ q⟩
section
variable {X : Cx}
theorem FZ:MtM X "list.extend" (Ez X.K):=by
 intro pins s σ H x vs v us Q I rx rv h
 obtain⟨l,b,xs,zs,rfl,rfl,hH,hB,hz,q⟩:=h
 cases rx
 obtain⟨u,rfl,ru⟩:=rv.one
 cases ru
 obtain⟨z,its,n,r,hl,e⟩:=I.lstM hH
 obtain⟨its2,r2,p2,z2⟩:=I.list hB
 obtain⟨⟨cls2,dd2,data2,sl2⟩,n2,ho2,hc2,hdd2,hd2⟩:=id p2
 simp only at hc2 hd2
 subst hc2 hd2
 have l1:=r.length
 have l2:=r2.length
 have hsz:its.toArray.size+its2.toArray.size≤sizeLine:=by rw[x4,x4];omega
 have hlong:¬(!its.toArray.isEmpty&&Builtin.List.listTooLong (its.toArray.size+its2.toArray.size))=true:=by
  rw[Li hsz,Bool.and_false]
  exact y6
 refine call_meets F.slot_list_extend ⟨_,e,rfl⟩ F.entry_list_extend (F.args_list_extend_2 _ _)
  (xF l its.toArray n b its2.toArray n2 dd2 sl2 hlong (by rw[x4];omega) (by omega)) ⟨e,ho2,?_⟩
 refine⟨.non,_,I.lset (its':=its++its2) hH e (by simp) (r.append r2) ?_,rfl,q⟩
 rw[x6]
 omega
end
section
variable {Ω : Wd}
noncomputable def Ex.m_extend(o a:Ex Ω):Ex Ω where
 lev:=max o.lev a.lev
 chk top N nm e:=match e with | .Call (.Attribute x m p) [y] [] q=>(m==("extend":Str))&&(nameE x&&((p.endLine==q.line)&&(okE y&&(o.chk top N nm x&&a.chk top N nm y)))) | _=>false
 wp Γ S W:=o.wp Γ S λ x S1=>match x with | .loc k=>a.wp Γ S1 λ d S2=>∃ds es,S2[k]? =some ds/\gV S2 d=some es/\ds.length+es.length≤1000000/\W .non (S2.set k (ds++es)) | _=>False
 sound:=by
  intro X r top N nm e Γ S W A hl hc hw
  obtain⟨l1,l2⟩:=lv2 hl
  split at hc
  . rename_i x m p y q
    obtain⟨h1,g⟩:=aa hc
    obtain⟨h2,g⟩:=aa g
    obtain⟨h3,g⟩:=aa g
    obtain⟨h4,g⟩:=aa g
    obtain⟨h5,h6⟩:=aa g
    have e:=eq_of_beq h1
    subst e
    refine xP F.slot_list_extend F.type_list_extend FZ Ey ((o.sound A l1 h5 hw).mono λ x S1 q=>?_) ?_ (Rr h4) h3 (aB h4 _ _) rfl
    . cases x<;>first | exact q.elim | skip
      refine⟨_,rfl,bA ((a.sound A l2 h6 q).mono λ d S2 q=>dI ?_) (aB h4 _ _)⟩
      obtain⟨ds,es,hk,he,hz,w⟩:=q
      refine⟨ds,hk,λ O H a xs vs ha hx rx rv st=>?_⟩
      cases rv with
      | cons r1 t=>
        cases t
        have key:∀v,Rep X.K O H v d->∃b zs,v=.ref b/\SqL X.K H b zs/\Reps X.K O H zs es:=by
         intro v r1
         cases r1 with
         | @lst b zs _ g1 q1=>cases he;exact⟨b,zs,rfl,g1.sq,q1⟩
         | @loc b j g1=>
           obtain⟨zs,hz',q1⟩:=st.obj j b es g1 he
           exact⟨b,zs,rfl,SqL.of hz',q1⟩
         | _=>cases he
        obtain⟨b,zs,rfl,hb,rz⟩:=key _ r1
        refine⟨a,b,xs,zs,rfl,rfl,hx,hb,by rw[rx.length,rz.length];exact small hz,O,.non,_,w,Step.put (bK ha) _,?_,.non⟩
        exact st.put ha (rx.append rz)
    . cases x<;>first | rfl | exact ff h2
  . exact ff hc
end
end RF
namespace XE
open PySem PySem.Spec L2 DL RF
open PyProof.Rows
noncomputable abbrev WX:=Str->Store->Prop
end XE
namespace XE
open PySem PySem.Spec L2 DL RF
open PyProof.Rows
variable {Ω : Wd}
end XE
set_option maxHeartbeats 400000
set_option maxHeartbeats 1000000
namespace XE
open PySem PySem.Spec L2 DL RF
open PyProof.Rows
variable {Ω : Wd}
end XE
namespace RF
open PySem PySem.Spec L2 DL
open PyProof.Rows
section
variable {Ω : Wd}
noncomputable def unl(ns:List Int):Nat:=(firstMet (λ i=>ns.getD i 0) ns.length).length
theorem wF{X:Cx}{ns:List Int}{S:Store}{W:WD}{d:D}(hc:X.calm=true)(hb:ns.length+1<scanBound)(hd:gV S d=some (ns.map .int))(w:W (.int (unl ns)) S)
 {pins:Pins}{s:Shared}{σ:DL.St}{H:Hp}{O:Own}{v:V}{u:Value}(I:Inv X pins σ H s)(st:StOk X.K O H S)(r':Rep X.K O H v d)(ru':RelV v u):
 wpAny (model X.prog X.w) X.A (call (.type "set") [u]) (λ u1 s1=>wpAny (model X.prog X.w) X.A (call (.builtin "len") [u1]) (EP X pins σ (QG X.K O H W)) X.xe s1) X.xe s:=by
 obtain⟨a,xs,rfl,hs,hq⟩:=vL (pins:=pins) (s:=s) (σ:=σ) (X:=X) st r' hd
 cases ru'
 obtain⟨its,rv,pl,hz⟩:=I.list hs
 have ex:xs=ns.map V.int:=hq.ints
 have hi:IntsAre its ns:=by
  rw[ex]at rv
  clear pl hz hs hq ex w hb hd
  induction ns generalizing its with
  | nil=>cases rv;exact .nil
  | cons n ns ih=>
    cases rv with
    | cons r1 r2=>obtain⟨t,rfl⟩:=r1;constructor;exact ih _ r2
 have hl:its.length=ns.length:=IntsAre.length hi
 refine call_set_list (items:=its.toArray) (ns:=ns) (I.ok.hd hc) pl.isList (by simpa using hi) (by rw[x4,hl];exact hb) λ h' tk hS hk=>?_
 have ez:its.toArray.size=ns.length:=by rw[x4,hl]
 rw[ez]at hS
 obtain⟨o,es,ep,t,ho,hex,hd',_,_,hsz,hf,hn⟩:=hS
 have I1:Inv X pins σ H {s with heap:=h',toks:=tk}:=I.kept (t':=tk) λ b o e=>hk b o (Heap.lt_size e) e
 refine call_len_set (s:={s with heap:=h',toks:=tk}) ho hex hd' hf (by unfold scanBound at hsz;omega) ?_
 rw[hn]
 exact⟨.int _,H,I1.tok _,⟨_,rfl⟩,QG.here w st (.int _)⟩
noncomputable def Ex.lset(hm:Ω.mg "len"=none)(hm2:Ω.mg "set"=none)(a:Ex Ω):Ex Ω where
 lev:=a.lev
 chk top N nm e:=match e with
  | .Call (.Name y _) [.Call (.Name z _) [b] [] _] [] _=>(y=="len")&&((z=="set")&&(glb nm "len"&&(glb nm "set"&&(okE b&&a.chk top N nm b))))
  | _=>false
 wp Γ S W:=a.wp Γ S λ d S1=>∃ns:List Int,gV S1 d=some (ns.map .int)/\ns.length+1<scanBound/\W (.int (unl ns)) S1
 sound:=by
  intro X r top N nm e Γ S W A hl hc hw
  split at hc
  . rename_i y p z p' b pos' pos
    obtain⟨h1,hc⟩:=aa hc
    obtain⟨h2,hc⟩:=aa hc
    obtain⟨h3,hc⟩:=aa hc
    obtain⟨h4,hc⟩:=aa hc
    obtain⟨h5,h6⟩:=aa hc
    have e1:=eq_of_beq h1
    have e2:=eq_of_beq h2
    subst e1 e2
    intro pins s σ H O I env st
    refine wpAny_Call_Name_kw (bL I (A.glb h3) (by rw[A.g];exact hm) (show bootBuiltins "len"=some (.builtin "len")from by decide+kernel) ?_ (by decide) (by decide))
    refine PyProof.Rows.callWith_builtin1 ?_ rfl rfl
    show wpAny _ _ (spliced ((false,eval _ X.env)::backTo pos (starEach [] X.env))) _ _ s
    refine Calls.spliced_cons ?_
    refine wpAny_Call_Name_kw (bL I (A.glb h4) (by rw[A.g];exact hm2) (show bootBuiltins "set"=some (.type "set")from by decide+kernel) ?_ (by decide) (by decide))
    refine PyProof.Rows.callWith_type1 ?_ (aB h5 _ _) rfl
    rw[aB h5 [] X.env]
    show wpAny _ _ (spliced ((false,eval b X.env)::backTo pos' (starEach [] X.env))) _ _ s
    refine Calls.spliced_cons (thn (a.sound A hl h6 hw pins s σ H O I env st) λ u s1 hq_=>?_)
    obtain⟨v,H1,I1,r1,O1,x,S1,hb,st1,ok1,rep1⟩:=hq_
    obtain⟨ns,c1,c2,c3⟩:=hb
    refine Calls.spliced_nil ?_
    refine thn (wF A.calm c2 c1 c3 I1 ok1 rep1 r1) λ u2 s2 q=>?_
    refine Calls.spliced_nil ?_
    exact thn q λ _ _ q=>cY st1 q
  . exact fE hc
end
end RF
namespace XE
open PySem PySem.Spec L2 DL RF
open PyProof.Rows
variable {Ω : Wd}
end XE
namespace RF
open PySem PySem.Spec L2 DL
open PyProof.Rows
variable {Ω : Wd}
end RF
namespace RF
open PySem PySem.Spec L2 DL
open PyProof.Rows
variable {Ω : Wd}
end RF
namespace RF
open PySem PySem.Spec L2 DL
open PyProof.Rows
variable {Ω : Wd}
noncomputable def FrO(n:Nat)(W:WD):WD:=λ d S1=>W d S1∨∃(J:List (List D)) (S':Store) (k:Nat) (ds:List D),d=.loc k/\S1=S'++J/\n≤S'.length/\S'.length≤k/\S1[k]? =some ds/\ak ds=true/\flat S'/\W (.lst ds) S'
theorem QG.fro{K:PySem.W.Frag}{O:Own}{H H':Hp}{W:WD}{v:V}{n:Nat}(hn:O.A.length=n)(q:QG K O H (FrO n W) v H'):QG K O H W v H':=by
 obtain⟨O',d,S1,w,st,ok,r⟩:=q
 rcases w with w | ⟨J,S',k,ds,rfl,rfl,hl,hk,he,hd,hS,w⟩
 . exact⟨O',d,S1,w,st,ok,r⟩
 . obtain⟨st2,ok2,sub,na⟩:=eU st ok (by omega) hS
   refine⟨_,.lst ds,S',w,st2,ok2,?_⟩
   cases r with
   | @loc a _ ha=>
     obtain⟨xs,hx,q1⟩:=ok.obj k a ds ha he
     exact .lst (.inl ⟨na k a (by omega) ha,.inl hx⟩) (bN sub hd q1)
noncomputable def Bl.fro(b:Bl Ω):Bl Ω where
 lev:=b.lev
 chk:=b.chk
 wp Γ S W:=b.wp Γ S {W with rt:=FrO S.length W.rt}
 sound:=by
  intro X r top N nm sts Γ S W A hl hc hw pins s σ H O I env ok
  refine thn (b.sound A hl hc hw pins s σ H O I env ok) λ f s' q=>?_
  cases f with
  | next=>exact q
  | brk=>exact q
  | cont=>exact q
  | ret u=>obtain⟨v,σ',H',I',r,q⟩:=q;exact⟨v,σ',H',I',r,QG.fro ok.len q⟩
end RF
namespace RF
open PySem PySem.Spec L2 DL
open PyProof.Rows
variable {Ω : Wd}
end RF
namespace RF
open PySem PySem.Spec L2 DL
open PyProof.Rows
noncomputable def bC{α:Type}[DecidableEq α](kvs:List (α×D))(ns:α):Option D:=(kvs.find? λ kv=>decide (kv.1=ns)).map (·.2)
noncomputable def putD{α:Type}[DecidableEq α](kvs:List (α×D))(ns:α)(d:D):List (α×D):=if(kvs.any λ kv=>decide (kv.1=ns))=true then kvs.map λ kv=>if kv.1=ns then(kv.1,d)else kv else kvs++[(ns,d)]
section
variable {X : Cx} {Γ : Gam} {S : Store} {W : WD} {pos : Pos}
theorem PB(h:W (.dlo S.length) (S++[[]])):Ev X Γ S (.Dict [] [] pos) W:=by
 intro pins s σ H O I env st
 refine Kd pins s σ H _ I λ p hp=>?_
 exact⟨O.more p true,.dlo S.length,S++[[]],h,Step.own hp _ true,st.ownD hp .nil,.dlo (by show(O.A++[(p,true)])[S.length]? =some (p,true);rw[←st.len];simp)⟩
end
section
variable {Ω : Wd}
noncomputable def Ex.dnew:Ex Ω where
 lev:=0
 chk top N nm e:=match e with | .Dict [] [] _=>true | _=>false
 wp Γ S W:=W (.dlo S.length) (S++[[]])
 sound:=by
  intro X r top N nm e Γ S W A hl hc hw
  cases e with
  | Dict ks vs pos=>
    match ks,vs,hc with
    | [],[],_=>exact PB hw
    | [],_::_,hc=>exact fE hc
    | _::_,_,hc=>exact fE hc
  | _=>exact fE hc
end
end RF
namespace RF
open PySem PySem.Spec L2 DL
open PyProof.Rows
section
variable {K : PySem.W.Frag} {O : Own} {H : Hp}
theorem K9{α:Type}[DecidableEq α](kcs:List (α×D))(c:α):(kcs.any λ kv=>decide (kv.1=c))=(bC kcs c).isSome:=by
 induction kcs with
 | nil=>rfl
 | cons a l ih=>
   unfold bC at ih ⊢
   rw[List.any_cons,List.find?_cons,ih]
   cases decide (a.1=c)<;>rfl
end
end RF
namespace RF
open PySem PySem.Spec L2 DL
open PyProof.Rows
noncomputable def rZ(hi:Int)(n:Nat):List D:=(List.range n).map λ(k:Nat)=>D.int (hi-(k:Int))
section
variable {prog : Program} {w : World} {A : Around} {E : Value -> Shared -> Prop} {s : Shared}
theorem yt(a b:Int):Builtin.Range.rangeSize a b (-1)=((a-b).toNat:Nat):=by
 unfold Builtin.Range.rangeSize
 rw[if_neg (by decide),show(-(-1:Int))=1 from rfl,Int.ediv_one]
 split<;>omega
theorem HN{a b:Int}(ha: -(2 ^ 62)≤a)(ha':a<2 ^ 62)(hb: -(2 ^ 62)≤b)(hb':b<2 ^ 62):Builtin.Range.small a b (-1)=true:=by
 unfold Builtin.Range.small
 rw[yt]
 simp only[Builtin.Range.rangeFitsLong,Bool.and_eq_true,Bool.or_eq_true,decide_eq_true_eq,beq_iff_eq,show ¬((-1:Int)>0) by decide,if_false]
 omega
end
end RF
namespace RF
open PySem PySem.Spec L2 DL
open PyProof.Rows
theorem dM:∀{vs:List Value}{ns:List Int},IntsAre vs ns->Vals (ns.map V.int) vs
 | _,_,.nil=>.nil
 | _,_,.cons n t r=>.cons ⟨t,rfl⟩ (dM r)
end RF
namespace RF
open PySem PySem.Spec L2 DL
open PyProof.Rows
section
variable {X : Cx}
theorem Ue{x:D}{ds:List D}{pins:Pins}{s:Shared}{σ:DL.St}{H:Hp}{v w':V}{u u':Value}(hu:X.A.units+60<cLine)(I:Inv X pins σ H s)(sx:Sn X.K H v x)(sy:Sn X.K H w' (.lst ds))(r3:RelV v u)(r4:RelV w' u')(h3:aR ds≤50):
 ∃(l:Addr) (its:List Value) (e:Value->Bool),u'=.ref l/\PlainL s.heap l its.toArray/\its.length=ds.length/\its.length≤sizeLine/\(∀y,y∈its.toArray->SeqAt.EqAt X.A.in1 s y u (e y))/\∀(i:Nat)(y:Value)(d:D),its[i]? =some y->ds[i]? =some d->e y=eqD d x:=by
 classical
 cases sy with
 | @lst a xs _ h1 q1=>
   cases r4
   obtain⟨its,rv,pl,hz⟩:=I.list h1
   let e:Value->Bool:=λ y=>decide (∃(v':V) (d:D),RelV v' y/\Sn X.K H v' d/\eqD d x=true)
   have ev:∀(y:Value)(v':V)(d:D),RelV v' y->Sn X.K H v' d->e y=eqD d x:=by
    intro y v' d hr hs
    cases hd:eqD d x with
    | true=>exact decide_eq_true ⟨v',d,hr,hs,hd⟩
    | false=>
      refine decide_eq_false ?_
      rintro⟨v2,d2,hr2,hs2,hd2⟩
      have ev':=hr2.inj hr
      subst ev'
      have:=mF I hs2 hs
      subst this
      rw[hd]at hd2;cases hd2
   have at_:∀(i:Nat)(y:Value)(d:D),its[i]? =some y->ds[i]? =some d->e y=eqD d x/\SeqAt.EqAt X.A.in1 s y u (eqD d x):=by
    intro i y d hi hd
    obtain⟨v',hv',hs⟩:=q1.get hd
    obtain⟨y',hy2,hr⟩:=jE rv hv'
    rw[hi]at hy2;cases hy2
    exact⟨ev y v' d hr hs,wg 50 d x (Nat.le_trans (cV hd) h3) I hs sx hr r3 (by show X.A.units+1+50<cLine;omega)⟩
   have hlen:its.length=ds.length:=by rw[←rv.length,q1.length]
   refine⟨a,its,e,rfl,pl,hlen,by rw[←rv.length];exact hz,λ y hy=>?_,λ i y d h h'=>(at_ i y d h h').1⟩
   have hy':y∈its:=by simpa using hy
   obtain⟨i,hi⟩:=List.getElem?_of_mem hy'
   obtain⟨d,hd⟩:∃d,ds[i]? =some d:=⟨_,y3 (by rw[←hlen];exact(z0.mp hi).1)⟩
   obtain⟨g1,g2⟩:=at_ i y d hi hd
   rw[g1]
   exact g2
noncomputable def Rw(X:Cx):V->List V->Hp->VK->Prop:=λ x vs H Q=>∃(w:V) (d:D) (ds:List D) (j:Nat) (y:D),vs=[w]/\Sn X.K H x (.lst ds)/\Sn X.K H w d/\aR ds≤50/\ds[j]? =some y/\eqD y d=true/\(∀(m:Nat)(z:D),m<j->ds[m]? =some z->eqD z d=false)/\Q (.int j) H
theorem Mg(hu:X.A.units+60<cLine):MtM X "list.index" (Rw X):=by
 intro pins s σ H x vs v us Q I rx rv h
 obtain⟨w,d,ds,j,y,rfl,sx,sd,h3,hj,hy,hn,q⟩:=h
 obtain⟨u,rfl,ru⟩:=rv.one
 obtain⟨l,its,e,rfl,pl,hlen,hz,he,hat⟩:=Ue hu I sd sx ru rx h3
 obtain⟨⟨cls,dd,data,sl⟩,n,ho,hc,hd,hs⟩:=pl
 simp only at hc hd hs
 subst hc hd hs
 have hjl:j<its.length:=by rw[hlen];exact(z0.mp hj).1
 refine call_meets PySem.F.slot_list_index ⟨_,ho,rfl⟩ PySem.F.entry_list_index (PySem.F.args_list_index_2 _ _)
  (SeqAt.list_indexAt l its.toArray n _ sl u e j (by simpa using hjl) (by have:sizeLine<2 ^ 63-1:=by decide
                                                                          omega) ?_ ?_) ⟨ho,he,⟨.int j,H,I.tok _,⟨_,rfl⟩,q⟩⟩
 . rw[hat j _ y (by simp) hj]
   exact hy
 . intro m hm hlt
   have hml:m<its.length:=by simpa using hm
   obtain⟨z,hz⟩:∃z,ds[m]? =some z:=⟨_,y3 (by omega)⟩
   rw[hat m _ z (by simp[hml]) hz]
   exact hn m z hlt hz
end
end RF
namespace RF
open PySem PySem.Spec L2 DL
open PyProof.Rows
noncomputable abbrev Ko:=List (Option Int×D)
noncomputable def bu(kv:Option Int×D):D:=.tup [oD kv.1,kv.2]
theorem RB{a b:Option Int}(h:oD a=oD b):a=b:=by
 cases a<;>cases b
 . rfl
 . exact nomatch h
 . exact nomatch h
 . exact congrArg some (D.int.inj h)
theorem cN{k:Option Int}{v:Value}(h:isO k v=true):(∃i t,k=some i/\v=.int i t)∨(k=none/\v=.none):=by
 unfold isO at h
 split at h
 . exact .inl ⟨_,_,by rw[of_decide_eq_true h],rfl⟩
 . exact .inr ⟨rfl,rfl⟩
 . exact nomatch h
section
variable {prog : Program} {w : World} {A : Around} {E : Value -> Shared -> Prop} {s : Shared}
theorem G6{Q:Int->Shared->Prop}(h:Q 4238894112 {s with toks:=s.toks+1}):wpAny (model prog w) A (pyHash .none) Q E s:=by
 have nb:∀x:String,¬(some (Value.builtin x)==some Value.none)=true:=λ x=>by rw[beq_builtin_none];exact y6
 show wpAny _ _ (pyHashByItsType .none) Q E s
 unfold pyHashByItsType
 refine wpAny_bind ?_
 rw[cRoomFor,if_neg (by decide)]
 refine wpAny_pure (wpAny_bind (wpAny_specialOf (typeIs_none s) F.slot_NoneType_hash.lookup ?_))
 dsimp only
 rw[if_neg (nb _)]
 refine wpAny_bind (wpAny_specialOf (typeIs_none s) F.slot_NoneType_hash.lookup ?_)
 refine(show wpAny _ _ (callSpecialIfBoundUnlessNone? .none "__hash__" _>>=_) Q E s from wpAny_bind (wpAny_callSpecialIfBoundUnlessNone?_slot (typeIs_none s) F.slot_NoneType_hash ?_))
 refine wpAny_call_entry F.slot_NoneType_hash (typeIs_none s) F.entry_NoneType_hash ?_ (F.args_NoneType_hash_1 _)
 refine(show wpAny _ _ (do ret (←mkInt 4238894112)) _ _ s from wpAny_ret_mkInt ?_)
 show wpAny _ _ (if(decide (-(2:Int) ^ 63≤4238894112)&&decide ((4238894112:Int)<2 ^ 63))=true then _ else _) Q E _
 rw[if_pos (by decide)]
 exact wpAny_pure h
end
noncomputable def dg(prog:Program)(w:World):PySem.KeyKind prog w (Option Int) where
 is:=isO
 hash:=hO0
 inj v a b ha hb:=by
  rcases cN ha with⟨i,t,rfl,rfl⟩ | ⟨rfl,rfl⟩<;>rcases cN hb with⟨j,u,rfl,e⟩ | ⟨rfl,e⟩
  . injection e with e;rw[e]
  . exact nomatch e
  . exact nomatch e
  . rfl
 byValue k v h:=by rcases cN h with⟨i,t,rfl,rfl⟩ | ⟨rfl,rfl⟩<;>rfl
 pyHash hv h:=by
  rcases cN hv with⟨i,t,rfl,rfl⟩ | ⟨rfl,rfl⟩
  . exact wpAny_pyHash_int h
  . exact G6 h
 eqBool hu hv h:=by
  rcases cN hu with⟨i,t,rfl,rfl⟩ | ⟨rfl,rfl⟩<;>rcases cN hv with⟨j,u,rfl,rfl⟩ | ⟨rfl,rfl⟩
  . refine wpAny_eqBool_int ?_
    have e:decide (some i=some j)=(i==j):=by by_cases q:i=j<;>simp[q]
    rw[e]at h;exact h
  . exact SeqAt.EqAt.int_none i t _ _ _ _ h
  . exact SeqAt.EqAt.none_int j u _ _ _ _ h
  . exact SeqAt.EqAt.same _ _ _ _ _ h
 «strs» k x t v h:=by rcases cN h with⟨i,u,_,e⟩ | ⟨_,e⟩<;>exact nomatch e
theorem mU{P:Program}{w:World}:∀{es:List DictEntry}{ys:Oy},OEs es ys->Pairs (dg P w) es ys/\∀e∈es,∃k,(dg P w).is k e.key=true/\e.hash=(dg P w).hash k
 | _,_,.nil=>⟨.nil,λ e h=>nomatch h⟩
 | _,_,.cons i h q t=>⟨.cons i q (mU t).1,λ e he=>by
   rcases List.mem_cons.mp he with rfl | he
   . exact⟨_,i,h⟩
   . exact(mU t).2 e he⟩
theorem GQ{P:Program}{w:World}:∀{es:List DictEntry}{ys:Oy},Pairs (dg P w) es ys->(∀e∈es,∃k,(dg P w).is k e.key=true/\e.hash=(dg P w).hash k)->OEs es ys
 | _,_,.nil,_=>.nil
 | _,_,.cons (e:=e) (kv:=kv) i q t,h=>by
   obtain⟨k,h1,h2⟩:=h e x5
   have ek:=(dg P w).inj _ _ _ h1 i
   subst ek
   exact .cons i h2 q (GQ t λ e he=>h e (x3 _ he))
section
variable {K : PySem.W.Frag} {O : Own} {H : Hp}
theorem _root_.DL.Kos.inv{ys:Oy}{kv:Option Int×D}{kos:Ko}(r:Kos K O H ys ((kv::kos).map bu)):∃u v ys',ys=(kv.1,u)::ys'/\RelV v u/\Rep K O H v kv.2/\Kos K O H ys' (kos.map bu):=by
 have r:Kos K O H ys (.tup [oD kv.1,kv.2]::kos.map bu):=r
 generalize hx:oD kv.1=x at r
 cases r with
 | @cons c u v _ _ ys' _ e rv rd t=>
   rw[←hx]at e
   have e:=RB e
   rw[e]
   exact⟨u,v,ys',rfl,rv,rd,t⟩
theorem _root_.DL.Kos.length{ys:Oy}{kos:Ko}(r:Kos K O H ys (kos.map bu)):ys.length=kos.length:=by
 induction kos generalizing ys with
 | nil=>cases r;rfl
 | cons kv kos ih=>
   obtain⟨u,v,ys',rfl,_,_,t⟩:=r.inv
   rw[List.length_cons,List.length_cons,ih t]
theorem _root_.DL.Kos.any{ys:Oy}{kos:Ko}(r:Kos K O H ys (kos.map bu))(c:Option Int):(ys.any λ kv=>decide (kv.1=c))=kos.any λ kv=>decide (kv.1=c):=by
 induction kos generalizing ys with
 | nil=>cases r;rfl
 | cons kv kos ih=>
   obtain⟨u,v,ys',rfl,rv,rd,t⟩:=r.inv
   rw[List.any_cons,List.any_cons,ih t]
theorem _root_.DL.Kos.put{ys:Oy}{kos:Ko}(r:Kos K O H ys (kos.map bu)){c:Option Int}{u:Value}{v:V}{d:D}(rv:RelV v u)(rd:Rep K O H v d):Kos K O H (stored ys c u) ((putD kos c d).map bu):=by
 unfold putD stored
 rw[r.any c]
 split
 . rename_i hz
   clear hz
   induction kos generalizing ys with
   | nil=>cases r;exact .nil
   | cons kv kos ih=>
     obtain⟨u',v',ys',rfl,rv',rd',t⟩:=r.inv
     rw[List.map_cons,List.map_cons,List.map_cons]
     by_cases e:kv.1=c
     . rw[if_pos e,if_pos e]
       exact .cons rfl rv rd (ih t)
     . rw[if_neg e,if_neg e]
       exact .cons rfl rv' rd' (ih t)
 . rename_i hz
   clear hz
   induction kos generalizing ys with
   | nil=>cases r;exact .cons rfl rv rd .nil
   | cons kv kos ih=>
     obtain⟨u',v',ys',rfl,rv',rd',t⟩:=r.inv
     exact .cons rfl rv' rd' (ih t)
theorem Ip{ys:Oy}{c:Option Int}{u:Value}:stored ys c u≠[]:=by
 unfold stored
 split
 . rename_i h
   cases ys with
   | nil=>cases h
   | cons y ys=>exact λ z=>nomatch z
 . exact λ z=>by have:=congrArg List.length z;simp at this
theorem yI{X:Cx}{pins:Pins}{σ:DL.St}{s:Shared}(I:Inv X pins σ H s){a:Addr}{kos:Ko}(b:DOb X.K O H a (kos.map bu)):
 (a==sysModules)=false/\Mut (H a)/\∃ys,Kos X.K O H ys (kos.map bu)/\s.heap.DictOf (dg X.prog X.w) a ys/\ys.length≤sizeLine:=by
 cases b with
 | t kvs e r=>
   have hn:kos=[]/\kvs=[]:=by
    cases kos with
    | nil=>cases r;exact⟨rfl,rfl⟩
    | cons kv kos=>
      have r:Kps X.K O H kvs (.tup [oD kv.1,kv.2]::kos.map bu):=r
      generalize hx:oD kv.1=x at r
      cases r with
      | cons r t=>rcases kv with⟨_ | _,_⟩<;>exact nomatch hx
   obtain⟨rfl,rfl⟩:=hn
   obtain⟨z,hd,xs,rel,o,es,ep,h1,h2,h3,h4,h5⟩:=(show aX X.prog X.w H s.heap a (.dT [])from I.hok a _ e)
   cases rel
   have h4:es.toList=[]:=h4
   have he:es=#[]:=Array.toList_eq_nil_iff.mp h4
   subst he
   exact⟨hd,by rw[e];trivial,[],.nil,⟨o,#[],ep,h1,h2,h3,(λ e he=>by simp at he),.nil,List.nodup_nil⟩,Nat.zero_le _⟩
 | c ys n e r=>
   cases kos with
   | nil=>cases r;exact absurd rfl n
   | cons kv kos=>
     have r:Kcs X.K O H ys (.tup [oD kv.1,kv.2]::kos.map bu):=r
     generalize hx:oD kv.1=x at r
     cases r with
     | cons e1 rk rv r t=>rw[←hx]at e1;rcases kv with⟨_ | _,_⟩<;>exact nomatch e1
 | o ys n e r=>
   obtain⟨⟨hz,hd,hn,o,es,ep,h1,h2,h3,h4⟩,_,_⟩:=(show aX X.prog X.w H s.heap a (.ext (jN a ys))from I.hok a _ e)
   have pk:=mU (P:=X.prog) (w:=X.w) h4
   exact⟨hd,by rw[e];trivial,ys,r,⟨o,es,ep,h1,h2,h3,λ e he=>pk.2 e (by simpa using he),pk.1,hn⟩,hz⟩
theorem Np{P:Program}{w:World}{h:Heap}{a:Addr}{ys:Oy}(d:h.DictOf (dg P w) a ys)(hz:ys.length≤sizeLine)(hd:(a==sysModules)=false):jN a ys h:=by
 obtain⟨o,es,ep,h1,h2,h3,h4,h5,h6⟩:=d
 exact⟨hz,hd,h6,o,es,ep,h1,h2,h3,GQ h5 λ e he=>h4 e (by simpa using he)⟩
theorem Qc{P:Program}{w:World}{H:Hp}{h:Heap}{a:Addr}{ys:Oy}(d:jN a ys h):aX P w H h a (.ext (jN a ys)):=by
 refine⟨d,?_,λ h1 h2 q k=>?_⟩
 . obtain⟨_,_,_,o,_,_,e,_⟩:=d;exact⟨o,e⟩
 . obtain⟨z,y,n,o,es,ep,e,r⟩:=q
   exact⟨z,y,n,o,es,ep,k o e,r⟩
theorem DK{v:V}{c:Option Int}{u:Value}(r:Rep K O H v (oD c))(ru:RelV v u):isO c u=true:=by
 cases c with
 | none=>cases r;cases ru;rfl
 | some i=>cases r;obtain⟨t,rfl⟩:=ru;simp[isO]
end
section
variable {X : Cx} {Γ : Gam} {S : Store} {W : WD} {pos : Pos}
theorem Rh{o i e:Expr}{tpos:Pos}{W:DL.Fin}(hs:swapsWith e (some (.Subscript o i tpos)) pos.line X.env=pure false)
 (h:Ev X Γ S e λ d S1=>Ev X Γ S1 o λ x S2=>Ev X Γ S2 i λ y S3=>∃k c kvs,x=.dlo k/\y=oD c/\S3[k]? =some (List.map bu kvs)/\kvs.length<1000000/\W.nx Γ (S3.set k ((putD kvs c d).map bu))):Rn X Γ S (.Assign [.Subscript o i tpos] e pos) W:=by
 intro pins s σ H O I env st
 refine wpAny_Assign_Subscript (thn (h pins s σ H O I env st) λ r s1 hq_=>?_) hs
 obtain⟨v,H1,I1,rv,q⟩:=hq_
 obtain⟨O1,d,S1,h1,st1,ok1,rep1⟩:=q
 refine thn (h1 pins s1 σ H1 O1 I1 (env.mono st1) ok1) λ u s2 hq_=>?_
 obtain⟨x,H2,I2,rx,q⟩:=hq_
 obtain⟨O2,dx,S2,h2,st2,ok2,rep2⟩:=q
 refine thn (h2 pins s2 σ H2 O2 I2 ((env.mono st1).mono st2) ok2) λ iv s3 hq_=>?_
 obtain⟨y,H3,I3,ry,q⟩:=hq_
 obtain⟨O3,dy,S3,⟨k,c,kvs,rfl,rfl,hk,hz,w⟩,st3,ok3,rep3⟩:=q
 have rx':=rep2.mono st3
 cases rx' with
 | @dlo a _ ha=>
   obtain rfl:u=Value.ref a:=rx
   obtain⟨hd,mu,ys,kc,dd,hz'⟩:=yI I3 (ok3.dob k a _ ha hk)
   have rd:=(rep1.mono st2).mono st3
   have hl:=stored_length_le ys c r
   have hyl:=kc.length
   refine wpAny_setItem_pairs (hsz:=hz') (DK rep3 ry) dd λ h' dd' hsb=>?_
   have cd:jN a (stored ys c r) h':=Np dd' (by rw[sizeLine_eq];omega) hd
   obtain⟨_,_,_,q,_,_,hq,_⟩:=id cd
   have sp:=Step.put (O:=O3) (H:=H3) (bK ha) (.ext (jN a (stored ys c r)))
   refine⟨σ,upd H3 a (.ext (jN a (stored ys c r))),Nr I3 mu hsb ⟨q,hq⟩ (Qc cd),O3,Γ,_,w,((st1.trans st2).trans st3).trans sp,ok3.putO ha (.o _ Ip aO ((kc.put rv rd).conv sp.conv)),(((env.mono st1).mono st2).mono st3).mono sp⟩
end
section
variable {Ω : Wd}
noncomputable def Mz(y:D)(S:Store)(k:Nat)(W:Ko->Option Int->Prop):Prop:=∃c kvs,y=oD c/\S[k]? =some (List.map bu kvs)/\W kvs c
noncomputable def Sm.oput(o i a:Ex Ω):Sm Ω where
 lev:=max a.lev (max o.lev i.lev)
 chk top N nm st:=match st with | .Assign [.Subscript x y _] e _=>noC e&&(okE y&&(a.chk top N nm e&&(o.chk top N nm x&&i.chk top N nm y))) | _=>false
 wp Γ S W:=a.wp Γ S λ d S1=>o.wp Γ S1 λ x S2=>i.wp Γ S2 λ y S3=>match x with | .dlo k=>Mz y S3 k λ kvs c=>kvs.length<1000000/\W.nx Γ (S3.set k ((putD kvs c d).map bu)) | _=>False
 sound:=by
  intro X r top N nm st Γ S W A hl hc hw
  obtain⟨l1,l2⟩:=lv2 hl
  obtain⟨l2,l3⟩:=lv2 l2
  split at hc
  . rename_i x y p e spos
    obtain⟨h1,hc⟩:=aa hc
    obtain⟨h2,hc⟩:=aa hc
    obtain⟨h3,hc⟩:=aa hc
    obtain⟨h4,h5⟩:=aa hc
    refine Rh ?_ ((a.sound A l1 h3 hw).mono λ d S1 q=>(o.sound A l2 h4 q).mono λ x S2 q=>(i.sound A l3 h5 q).mono λ y S3 q=>?_)
    . exact jw h1 _ _ _
    . cases x with
      | dlo k=>obtain⟨ns,kvs,e1,e2,e3,w⟩:=q;exact⟨k,ns,kvs,rfl,e1,e2,e3,w⟩
      | _=>exact(show False from q).elim
  . exact fE hc
end
end RF
namespace RF
open PySem PySem.Spec L2 DL
open PyProof.Rows
theorem tH:∀(l:List Value)(ns:List Int),l.length=ns.length->(∀(j:Nat)(v:Value),l[j]? =some v->∃(n:Int) (t:Tok),ns[j]? =some n/\v=Value.int n t)->IntsAre l ns
 | [],[],_,_=>.nil
 | [],_::_,h,_=>nomatch h
 | _::_,[],h,_=>nomatch h
 | v::l,n::ns,h,k=>by
   obtain⟨m,t,e,rfl⟩:=k 0 v rfl
   cases e
   exact .cons n t (tH l ns (Nat.succ.inj h) λ j v e=>k (j+1) v e)
noncomputable def upI(n:Nat):List Int:=(List.range n).map λ(i:Nat)=>(0:Int)+(i:Int)
theorem Sw(n:Nat):DL.upTo 0 n=(upI n).map D.int:=by
 unfold DL.upTo upI
 rw[List.map_map];rfl
theorem uB(j:Int)(h:0≤j):Builtin.Range.rangeSize 0 j 1=(j.toNat:Nat):=by rw[rangeSize_one];split<;>omega
theorem FP{j:Int}(h:0≤j)(h':j<1000000):Builtin.Range.small 0 j 1=true:=by
 unfold Builtin.Range.small
 rw[uB j h]
 by_cases h0:j≤0
 . have:j=0:=by omega
   subst this;rfl
 . simp only[Builtin.Range.rangeFitsLong,Bool.and_eq_true,Bool.or_eq_true,decide_eq_true_eq,beq_iff_eq,h0,if_false,show((1:Int)>0)from by decide,if_true]
   omega
section
variable {X : Cx} {Γ : Gam} {S : Store} {W : WD} {pos : Pos}
theorem Om{a:Expr}{p p2 pos2:Pos}(hcm:X.calm=true)(h:Ev X Γ S a λ d S1=>∃j:Int,d=.int j/\0≤j/\j<1000000/\(W (.lst (DL.upTo 0 j.toNat)) S1∨W (.loc S1.length) (S1++[DL.upTo 0 j.toNat])))(hm:X.mg "range"=none)(hm2:X.mg "list"=none)(hg:Gl X "range")(hg2:Gl X "list")(hs:starEach [a] X.env=[(false,eval a X.env)])
 (hs2:starEach [.Call (.Name "range" p) [a] [] pos] X.env=[(false,eval (.Call (.Name "range" p) [a] [] pos) X.env)]):Ev X Γ S (.Call (.Name "list" p2) [.Call (.Name "range" p) [a] [] pos] [] pos2) W:=by
 intro pins s σ H O I env st
 refine Call_ (bL I hg2 hm2 (show bootBuiltins "list"=some (.type "list")from by decide+kernel) (PyProof.Rows.callWith_type1 ?_ hs2 rfl))
 rw[show backTo pos2 (starEach [.Call (.Name "range" p) [a] [] pos] X.env)=[(false,eval (.Call (.Name "range" p) [a] [] pos) X.env)]from by rw[hs2];rfl]
 refine Calls.spliced_cons ?_
 have hA:EvA X Γ S [a] λ ds S1=>∃j:Int,ds=[.int j]/\0≤j/\j<1000000/\(W (.lst (DL.upTo 0 j.toNat)) S1∨W (.loc S1.length) (S1++[DL.upTo 0 j.toNat])):=
  bA (h.mono λ d S1 ⟨j,e,h1,h2,w⟩=>dI ⟨j,by rw[e],h1,h2,w⟩) hs
 refine Call_ (bL I hg hm boot_range (PyProof.Rows.callWith_type1 (thn (hA pos pins s σ H O I env st) λ us s1 hq_=>?_) hs rfl))
 obtain⟨vs,H1,I1,r1,q1⟩:=hq_
 obtain⟨O1,ds,S1,⟨j,rfl,h1,h2,w⟩,st1,ok1,rep⟩:=q1
 cases rep with
 | cons ra rb=>
   cases rb
   cases ra
   cases r1 with
   | cons r rr=>
     cases rr
     obtain⟨t,rfl⟩:=r
     refine call_range_1 (Calls.spliced_nil ?_)
     have I2:Inv X pins σ H1 {s1 with heap:=s1.heap.push {cls:=.type "range",data:=.fields #[.int 0 s1.toks,.int j t,.int 1 (s1.toks+1)]},toks:=s1.toks+1+1}:=I1.kept λ b o e=>Heap.get?_push_of_some _ e
     refine call_list_range (I2.ok.hd hcm) (IsRange.new ..) (FP h1 h2) (uB j h1) (by omega) λ h' tk acc c' kp hget its=>?_
     have hp:=I2.hok.fresh (y9 _)
     have hI:IntsAre acc.toList (upI j.toNat):=tH _ _ (by have:=its.1;simp[upI];exact this) λ i v e=>by
      have e':acc[i]? =some v:=by simpa using e
      obtain⟨t,rfl⟩:=its.2 i v e'
      have hi:i<j.toNat:=by rw[←its.1];exact(Array.getElem?_eq_some_iff.mp e').1
      exact⟨_,t,by unfold upI;rw[y8,List.getElem?_range hi];rfl,by rw[Int.mul_one]⟩
     have zl:((upI j.toNat).map V.int).length≤sizeLine:=by simp[upI,sizeLine_eq];omega
     have I3:=I2.laid (t':=tk) (o:=.lst ((upI j.toNat).map V.int)) (λ b ob q=>kp b ob q) (y9 _) ⟨zl,acc.toList,c',dM hI,by simpa using hget⟩
     have rp:Reps X.K O1 H1 ((upI j.toNat).map V.int) (DL.upTo 0 j.toNat):=by rw[Sw];exact Reps.of_ints _
     refine cY st1 ⟨.ref _,_,I3,rfl,?_⟩
     rcases w with w | w
     . exact dw w ok1 hp rp
     . exact qg w ok1 hp rp
end
theorem Em(bs:List Bool):(List.range bs.length).any (λ i=>bs.getD i false)=bs.any id:=by
 rw[Bool.eq_iff_iff,List.any_eq_true,List.any_eq_true]
 constructor
 . rintro⟨i,hi,h⟩
   have hl:=List.mem_range.mp hi
   refine⟨bs[i],List.getElem_mem hl,?_⟩
   simpa[List.getD,hl]using h
 . rintro⟨b,hb,h⟩
   obtain⟨i,hi⟩:=List.getElem?_of_mem hb
   have hl:=(z0.mp hi).1
   exact⟨i,List.mem_range.mpr hl,by simp[List.getD,hi];exact h⟩
theorem Tv{X:Cx}{S:Store}{W:WD}{bs:List Bool}(w:W (.bl (bs.any id)) S)(hc:X.calm=true):cO X (.builtin "any") [.lst (bs.map .bl)] S W:=by
 intro pins s σ H O vs us I st r ru
 obtain⟨v,rfl,r'⟩:=cC r
 obtain⟨u,rfl,ru'⟩:=vals1 ru
 cases r' with
 | @lst a xs _ h1 q1=>
   cases ru'
   obtain⟨its,rv,pl,hz⟩:=I.list h1.sq
   have ex:=q1.bools
   subst ex
   have hlen:its.length=bs.length:=by rw[←rv.length];simp
   refine call_any_walk (wpAny_pyIter_list pl.isList ?_)
   have ne:a≠s.heap.objs.size:=by obtain⟨o,e,_⟩:=pl.isList;exact w9 (Heap.lt_size e)
   refine⟨_,_,_,_,_,_,λ i=>bs.getD i false,rfl,Walks.list (A:=X.A.in1) (I.ok.hd hc) _ a ne its.toArray,⟨⟨_,Heap.get?_push_size _ rfl,rfl,rfl⟩,pl.isList.push _⟩,λ i v s' Q' E' hv hq=>?_,λ h' tk hk=>?_⟩
   . have hv:its[i]? =some v:=by simpa using hv
     have hi:i<bs.length:=by rw[←hlen];exact(z0.mp hv).1
     obtain⟨z,hz',rz⟩:=rv.get (i:=i) (x:=V.bl bs[i]) (by rw[y8,y3 hi];rfl)
     rw[hv]at hz'
     cases hz'
     cases rz
     have e:bs.getD i false=bs[i]:=by simp[List.getD,hi]
     have hq':Q' (bs.getD i false) s':=hq
     rw[e]at hq'
     exact wpAny_truthy_bool hq'
   . have e:(List.range its.toArray.size).any (λ i=>bs.getD i false)=bs.any id:=by rw[x4,hlen];exact Em bs
     rw[e]
     refine⟨.bl _,H,I.kept (λ b o q=>hk b o (λ z=>?_) (Heap.get?_push_of_some _ q)),rfl,QG.here w st (.bl _)⟩
     have z':b=s.heap.objs.size:=by simpa using z
     exact absurd (Heap.lt_size q) (by rw[z'];exact Nat.lt_irrefl _)
noncomputable def U5:Bf where
 x:="any"
 id:="any"
 boot:=by decide+kernel
 wp ds S W:=match ds with
  | [.lst ds]=>∃bs:List Bool,ds=bs.map .bl/\W (.bl (bs.any id)) S
  | _=>False
 sound:=by
  intro X ds S W hc hr h
  split at h
  . obtain⟨bs,rfl,h⟩:=h;exact Tv h hc
  . exact h.elim
section
variable {Ω : Wd}
noncomputable def Ex.lrng(hm:Ω.mg "range"=none)(hm2:Ω.mg "list"=none)(a:Ex Ω):Ex Ω where
 lev:=a.lev
 chk top N nm e:=match e with | .Call (.Name z _) [.Call (.Name y _) [b] [] _] [] _=>(z==("list":Str))&&((y==("range":Str))&&(glb nm "list"&&(glb nm "range"&&(okE b&&a.chk top N nm b)))) | _=>false
 wp Γ S W:=a.wp Γ S λ d S1=>match d with | .int j=>(0≤j/\j<1000000)/\(W (.lst (DL.upTo 0 j.toNat)) S1∨W (.loc S1.length) (S1++[DL.upTo 0 j.toNat])) | _=>False
 sound:=by
  intro X r top N nm e Γ S W A hl hc hw
  split at hc
  . rename_i z p2 y p b pos pos2
    obtain⟨h0,g1⟩:=aa hc
    obtain⟨h1,g2⟩:=aa g1
    obtain⟨h2',g2⟩:=aa g2
    obtain⟨h2,g3⟩:=aa g2
    obtain⟨h3,h4⟩:=aa g3
    have e:=eq_of_beq h0
    subst e
    have e':=eq_of_beq h1
    subst e'
    refine Om A.calm ((a.sound A hl h4 hw).mono λ d S1 q=>?_) (by rw[A.g];exact hm) (by rw[A.g];exact hm2) (A.glb h2) (A.glb h2') (aB h3 [] _) rfl
    cases d<;>first | exact⟨_,rfl,q.1.1,q.1.2,q.2⟩ | exact q.elim
  . exact fE hc
end
section
variable {X : Cx} {Γ : Gam} {S : Store} {W : WD} {pos : Pos}
theorem _root_.DL.Kos.val{K:PySem.W.Frag}{O:Own}{H:Hp}{ys:Oy}{kos:Ko}(r:Kos K O H ys (kos.map bu)){c:Option Int}{d:D}(h:bC kos c=some d):∃u v,valueAt ys c=some u/\RelV v u/\Rep K O H v d:=by
 induction kos generalizing ys with
 | nil=>cases h
 | cons kv kos ih=>
   obtain⟨u,v,ys',rfl,rv,rd,t⟩:=r.inv
   by_cases e:kv.1=c
   . have e1:bC (kv::kos) c=some kv.2:=by simp[bC,e]
     rw[e1]at h
     cases h
     exact⟨u,v,by simp[valueAt,e],rv,rd⟩
   . have e1:bC (kv::kos) c=bC kos c:=by simp[bC,List.find?_cons,e]
     have e2:valueAt ((kv.1,u)::ys') c=valueAt ys' c:=by simp[valueAt,List.find?_cons,e]
     rw[e1]at h
     rw[e2]
     exact ih t h
theorem Qe{o e:Expr}(hs:RC e)
 (h:Ev X Γ S o λ x S1=>∃k,x=.dlo k/\Ev X Γ S1 e λ y S2=>∃c kvs d,y=oD c/\S2[k]? =some (List.map bu kvs)/\bC kvs c=some d/\W d S2):Ev X Γ S (.Subscript o e pos) W:=by
 intro pins s σ H O I env st
 refine Nv PySem.F.slot_dict_getitem.lookup hs (thn (h pins s σ H O I env st) λ u s1 hq_=>?_)
 obtain⟨x,H1,I1,rx,q⟩:=hq_
 obtain⟨O1,xd,S1,⟨k,rfl,he⟩,st1,ok1,rep1⟩:=q
 cases rep1 with
 | @dlo a _ ha=>
   obtain rfl:u=Value.ref a:=rx
   refine thn (he pins s1 σ H1 O1 I1 (env.mono st1) ok1) λ iv s2 hq_=>?_
   obtain⟨y,H2,I2,ry,q2⟩:=hq_
   obtain⟨O2,yd,S2,⟨c,kvs,d,rfl,hs,hd,w⟩,st2,ok2,rep2⟩:=q2
   have ha2:O2.A[k]? =some (a,true):=st2.conv.lc k _ ha
   obtain⟨hd',mu,ys,kc,dd,hz⟩:=yI I2 (ok2.dob k a _ ha2 hs)
   obtain⟨u',v,e2,rv,rd⟩:=kc.val hd
   exact⟨dd.typeIs,wpAny_getItem_of (DK rep2 ry) dd.mapOf e2 ⟨v,H2,I2.tok _,rv,O2,_,S2,w,st1.trans st2,ok2,rd⟩⟩
end
section
variable {Ω : Wd}
noncomputable def Ex.oix(o a:Ex Ω):Ex Ω where
 lev:=max o.lev a.lev
 chk top N nm e:=match e with | .Subscript l r _=>okE r&&(o.chk top N nm l&&a.chk top N nm r) | _=>false
 wp Γ S W:=o.wp Γ S λ x S1=>match x with | .dlo k=>a.wp Γ S1 λ y S2=>Mz y S2 k λ kvs c=>∃d,bC kvs c=some d/\W d S2 | _=>False
 sound:=by
  intro X r top N nm e Γ S W A hl hc hw
  obtain⟨l1,l2⟩:=lv2 hl
  cases e with
  | Subscript l r' pos=>
    obtain⟨h1,h2⟩:=aa hc
    obtain⟨h2,h3⟩:=aa h2
    refine Qe (zc h1) ((o.sound A l1 h2 hw).mono λ x S1 q=>?_)
    cases x with
    | dlo k=>exact⟨k,rfl,(a.sound A l2 h3 q).mono λ y S2 ⟨ns,kvs,e1,e2,d,e3,w⟩=>⟨ns,kvs,d,e1,e2,e3,w⟩⟩
    | _=>exact(show False from q).elim
  | _=>exact fE hc
end
end RF
namespace RF
open PySem PySem.Spec L2 DL
open PyProof.Rows
noncomputable def lq:Bool->Nat->D
 | true,k=>.dlo k
 | false,k=>.loc k
noncomputable def OwQ(n:Nat)(W:WD):WD:=λ d S1=>W d S1∨∃(q:Bool) (J:List (List D)) (S':Store) (k:Nat) (ds:List D),d=lq q k/\S1=S'++J/\n≤S'.length/\S'.length≤k/\S1[k]? =some ds/\ak ds=true/\flat S'/\W (lq q S'.length) (S'++[ds])
theorem QG.owq{K:PySem.W.Frag}{O:Own}{H H':Hp}{W:WD}{v:V}{n:Nat}(hn:O.A.length=n)(q:QG K O H (OwQ n W) v H'):QG K O H W v H':=by
 obtain⟨O',d,S1,w,st,ok,r⟩:=q
 rcases w with w | ⟨q,J,S',k,ds,rfl,rfl,hl,hk,he,hd,hS,w⟩
 . exact⟨O',d,S1,w,st,ok,r⟩
 . obtain⟨a,rfl,ha⟩:∃a,v=.ref a/\O'.A[k]? =some (a,q):=by
    cases q<;>(cases r;exact⟨_,rfl,by assumption⟩)
   . obtain⟨st2,_,_,na⟩:=eU st ok (by omega) hS
     have hna:=na k a (by omega) ha
     have lt:(O'.A.take S'.length).length=S'.length:=by have:=ok.len;simp at this ⊢;omega
     have sub:∀b,¬O'.has b->¬(⟨O'.A.take S'.length++[(a,q)],O'.B⟩:Own).has b:=λ b hb z=>hb (z.imp (λ z=>by
      rw[bU]at z
      rcases List.mem_append.mp z with z | z
      . exact gG z
      . rw[show b=a from by simpa using z];exact bK ha) id)
     have hAt:∀(j:Nat),j<S'.length->(O'.A.take S'.length++[(a,q)])[j]? =O'.A[j]?:=λ j hj=>by
      rw[x8 (by omega),List.getElem?_take,if_pos hj]
     have hEnd:(O'.A.take S'.length++[(a,q)])[S'.length]? =some (a,q):=by
      rw[List.getElem?_append_right (by omega),lt];simp
     have ran:∀(j:Nat)(es:List D),(S'++[ds])[j]? =some es->(j<S'.length/\S'[j]? =some es)∨(j=S'.length/\es=ds):=λ j es e=>by
      rcases Nat.lt_trichotomy j S'.length with h | h | h
      . rw[x8 h]at e;exact .inl ⟨h,e⟩
      . subst h;rw[List.getElem?_append_right (y9 _)]at e;simp at e;exact .inr ⟨rfl,e.symm⟩
      . rw[List.getElem?_eq_none (by simp;omega)]at e;cases e
     refine⟨⟨O'.A.take S'.length++[(a,q)],O'.B⟩,lq q S'.length,S'++[ds],w,⟨st2.kept,st2.dom,?_,st2.hid⟩,⟨?_,by simp[lt],λ j b es e1 e2=>?_,λ j b es e1 e2=>?_,λ b hb=>?_,ok.hidden⟩,by cases q<;>constructor<;>exact hEnd⟩
     . obtain⟨N,eN,fN⟩:=st2.ext
       obtain⟨N',eN',fN'⟩:=st.ext
       have eN:O'.A.take S'.length=O.A++N:=eN
       refine⟨N++[(a,q)],by show O'.A.take S'.length++[(a,q)]=_;rw[eN,List.append_assoc],λ b hb=>?_⟩
       rw[bU]at hb
       rcases List.mem_append.mp hb with hb | hb
       . exact fN b hb
       . rw[show b=a from by simpa using hb]
         rw[eN',List.getElem?_append_right (by omega)]at ha
         exact fN' a (bK ha)
     . show(adr (O'.A.take S'.length++[(a,q)])).Nodup
       rw[bU,List.nodup_append]
       refine⟨?_,by simp[adr],λ x hx y hy=>?_⟩
       . show(List.map _ (List.take _ _)).Nodup
         rw[List.map_take]
         exact ok.nd.sublist (List.take_sublist _ _)
       . rw[show y=a from by simpa using hy]
         exact λ z=>hna (.inl (z▸hx))
     . rcases ran j es e2 with⟨hj,e2⟩ | ⟨rfl,rfl⟩
       . have e1:(O'.A.take S'.length++[(a,q)])[j]? =some (b,false):=e1
         rw[hAt j hj]at e1
         obtain⟨ys,hy,r'⟩:=ok.obj j b es e1 (by rw[x8 hj];exact e2)
         exact⟨ys,hy,bN sub (hS es (y4 e2)) r'⟩
       . have e1:(O'.A.take S'.length++[(a,q)])[S'.length]? =some (b,false):=e1
         rw[hEnd]at e1
         cases e1
         obtain⟨xs,hx,q1⟩:=ok.obj k a es ha he
         exact⟨xs,hx,bN sub hd q1⟩
     . rcases ran j es e2 with⟨hj,e2⟩ | ⟨rfl,rfl⟩
       . have e1:(O'.A.take S'.length++[(a,q)])[j]? =some (b,true):=e1
         rw[hAt j hj]at e1
         exact oM sub (hS es (y4 e2)) (ok.dob j b es e1 (by rw[x8 hj];exact e2))
       . have e1:(O'.A.take S'.length++[(a,q)])[S'.length]? =some (b,true):=e1
         rw[hEnd]at e1
         cases e1
         exact oM sub hd (ok.dob k a es ha he)
     . have hb:b∈adr (O'.A.take S'.length++[(a,q)]):=hb
       rw[bU]at hb
       rcases List.mem_append.mp hb with hb | hb
       . exact ok.apart b (gG hb)
       . rw[show b=a from by simpa using hb];exact ok.apart a (bK ha)
section
variable {Ω : Wd}
noncomputable def Bl.owq(b:Bl Ω):Bl Ω where
 lev:=b.lev
 chk:=b.chk
 wp Γ S W:=b.wp Γ S {W with rt:=OwQ S.length W.rt}
 sound:=by
  intro X r top N nm sts Γ S W A hl hc hw pins s σ H O I env ok
  refine thn (b.sound A hl hc hw pins s σ H O I env ok) λ f s' q=>?_
  cases f with
  | next=>exact q
  | brk=>exact q
  | cont=>exact q
  | ret u=>obtain⟨v,σ',H',I',r,q⟩:=q;exact⟨v,σ',H',I',r,QG.owq ok.len q⟩
end
end RF
namespace RF
open PySem PySem.Spec L2 DL
open PyProof.Rows
noncomputable def dnI(hi:Int)(n:Nat):List Int:=(List.range n).map λ(k:Nat)=>hi-(k:Int)
theorem MP(hi:Int)(n:Nat):rZ hi n=(dnI hi n).map D.int:=by
 unfold rZ dnI
 rw[List.map_map];rfl
section
variable {X : Cx} {Γ : Gam} {S : Store} {W : WD} {pos : Pos}
theorem J7 {a b c:Expr}{p p2 pos2:Pos}(hcm:X.calm=true)(h:Ev X Γ S a λ d S1=>Ev X Γ S1 b λ d' S2=>Ev X Γ S2 c λ d'' S3=>∃i j:Int,d=.int i/\d'=.int j/\d''=.int (-1)/\(-(2 ^ 62)≤i/\i<2 ^ 62/\ -(2 ^ 62)≤j/\j<2 ^ 62/\i-j≤1000000)/\W (.lst (rZ i (i-j).toNat)) S3)(hm:X.mg "range"=none)(hm2:X.mg "list"=none)(hg:Gl X "range")(hg2:Gl X "list")
 (hs:starEach [a,b,c] X.env=(false,eval a X.env)::starEach [b,c] X.env)(hs2:starEach [b,c] X.env=(false,eval b X.env)::starEach [c] X.env)(hs3:starEach [c] X.env=[(false,eval c X.env)])
 (hs4:starEach [.Call (.Name "range" p) [a,b,c] [] pos] X.env=[(false,eval (.Call (.Name "range" p) [a,b,c] [] pos) X.env)]):Ev X Γ S (.Call (.Name "list" p2) [.Call (.Name "range" p) [a,b,c] [] pos] [] pos2) W:=by
 intro pins s σ H O I env st
 refine Call_ (bL I hg2 hm2 (show bootBuiltins "list"=some (.type "list")from by decide+kernel) (PyProof.Rows.callWith_type1 ?_ hs4 rfl))
 rw[show backTo pos2 (starEach [.Call (.Name "range" p) [a,b,c] [] pos] X.env)=[(false,eval (.Call (.Name "range" p) [a,b,c] [] pos) X.env)]from by rw[hs4];rfl]
 refine Calls.spliced_cons ?_
 have hA:EvA X Γ S [a,b,c] λ ds S3=>∃i j:Int,ds=[.int i,.int j,.int (-1)]/\(-(2 ^ 62)≤i/\i<2 ^ 62/\ -(2 ^ 62)≤j/\j<2 ^ 62/\i-j≤1000000)/\W (.lst (rZ i (i-j).toNat)) S3:=
  bA (h.mono λ d S1 h1=>bA (h1.mono λ d' S2 h2=>bA (h2.mono λ d'' S3 ⟨i,j,e1,e2,e3,hb,w⟩=>dI ⟨i,j,by rw[e1,e2,e3],hb,w⟩) hs3) hs2) hs
 refine Call_ (bL I hg hm boot_range (PyProof.Rows.callWith_type1 (thn (hA pos pins s σ H O I env st) λ us s1 hq_=>?_) hs (by rw[hs2,hs3];rfl)))
 obtain⟨vs,H1,I1,r1,q1⟩:=hq_
 obtain⟨O1,ds,S1,⟨i,j,rfl,⟨b1,b2,b3,b4,b5⟩,w⟩,st1,ok1,rep⟩:=q1
 cases rep with
 | cons ra rb =>
   cases rb with
   | cons rb rc=>
     cases rc with
     | cons rc rd=>
       cases rd
       cases ra
       cases rb
       cases rc
       cases r1 with
       | cons r rr=>
         cases rr with
         | cons r' rr=>
           cases rr with
           | cons r'' rr=>
             cases rr
             obtain⟨t,rfl⟩:=r
             obtain⟨t',rfl⟩:=r'
             obtain⟨t'',rfl⟩:=r''
             refine call_range_3 (by decide) (Calls.spliced_nil ?_) (.inl (PyProof.noPylong_small (by decide)))
             have I2:Inv X pins σ H1 {s1 with heap:=s1.heap.push {cls:=.type "range",data:=.fields #[.int i t,.int j t',.int (-1) t'']},toks:=s1.toks}:=I1.kept λ b o e=>Heap.get?_push_of_some _ e
             refine call_list_range (I2.ok.hd hcm) (IsRange.new ..) (HN b1 b2 b3 b4) (yt i j) (by omega) λ h' tk acc c' kp hget its=>?_
             have hp:=I2.hok.fresh (y9 _)
             have hI:IntsAre acc.toList (dnI i (i-j).toNat):=tH _ _ (by have:=its.1;simp[dnI];exact this) λ k v e=>by
              have e':acc[k]? =some v:=by simpa using e
              obtain⟨t,rfl⟩:=its.2 k v e'
              have hi:k<(i-j).toNat:=by rw[←its.1];exact(Array.getElem?_eq_some_iff.mp e').1
              exact⟨_,t,by unfold dnI;rw[y8,List.getElem?_range hi];rfl,by congr 1;show i+(k:Int)*(-1)=i-(k:Int);omega⟩
             have zl:((dnI i (i-j).toNat).map V.int).length≤sizeLine:=by simp[dnI,sizeLine_eq];omega
             have I3:=I2.laid (t':=tk) (o:=.lst ((dnI i (i-j).toNat).map V.int)) (λ b ob q=>kp b ob q) (y9 _) ⟨zl,acc.toList,c',dM hI,by simpa using hget⟩
             have rp:Reps X.K O1 H1 ((dnI i (i-j).toNat).map V.int) (rZ i (i-j).toNat):=by rw[MP];exact Reps.of_ints _
             exact cY st1 ⟨.ref _,_,I3,rfl,dw w ok1 hp rp⟩
end
section
variable {Ω : Wd}
noncomputable def Ex.lrngD(hm:Ω.mg "range"=none)(hm2:Ω.mg "list"=none)(a b c:Ex Ω):Ex Ω where
 lev:=max a.lev (max b.lev c.lev)
 chk top N nm e:=match e with | .Call (.Name z _) [.Call (.Name y _) [l,r,q] [] _] [] _=>(z==("list":Str))&&((y==("range":Str))&&(glb nm "list"&&(glb nm "range"&&((okE l&&(okE r&&okE q))&&(a.chk top N nm l&&(b.chk top N nm r&&c.chk top N nm q)))))) | _=>false
 wp Γ S W:=a.wp Γ S λ d S1=>b.wp Γ S1 λ d' S2=>c.wp Γ S2 λ d'' S3=>d''=.int (-1)/\match d,d' with | .int i,.int j=>(-(2 ^ 62)≤i/\i<2 ^ 62/\ -(2 ^ 62)≤j/\j<2 ^ 62/\i-j≤1000000)/\W (.lst (rZ i (i-j).toNat)) S3 | _,_=>False
 sound:=by
  intro X r top N nm e Γ S W A hl hc hw
  obtain⟨l1,l2⟩:=lv2 hl
  obtain⟨l2,l3⟩:=lv2 l2
  split at hc
  . rename_i z p2 y p l r' q' pos pos2
    obtain⟨h0,g1⟩:=aa hc
    obtain⟨h1,g2⟩:=aa g1
    obtain⟨h2',g2⟩:=aa g2
    obtain⟨h2,g3⟩:=aa g2
    obtain⟨h3,h4⟩:=aa g3
    obtain⟨h5,h6⟩:=aa h3
    obtain⟨h6,h6'⟩:=aa h6
    obtain⟨h7,h8⟩:=aa h4
    obtain⟨h8,h9⟩:=aa h8
    have e:=eq_of_beq h0
    subst e
    have e':=eq_of_beq h1
    subst e'
    refine J7 A.calm ((a.sound A l1 h7 hw).mono λ d S1 q=>(b.sound A l2 h8 q).mono λ d' S2 q=>(c.sound A l3 h9 q).mono λ d'' S3 q=>?_) (by rw[A.g];exact hm) (by rw[A.g];exact hm2) (A.glb h2) (A.glb h2') (aB h5 _ _) (aB h6 _ _) (aB h6' [] _) rfl
    obtain⟨e3,q⟩:=q
    cases d<;>first | exact q.elim | (cases d'<;>first | exact⟨_,_,rfl,rfl,e3,q.1,q.2⟩ | exact q.elim)
  . exact fE hc
end
section
variable {X : Cx}
theorem GK(hu:X.A.units+60<cLine){Γ:Gam}{S:Store}{o e:Expr}{apos cpos:Pos}{W:WD}(h:Ev X Γ S o λ x S1=>∃k,x=.loc k/\Ev X Γ S1 e λ d S2=>∃ds,S2[k]? =some ds/\bM ds=true/\okD (vw S2 d)=true/\aR ds≤50/\∃(j:Nat) (y:D),ds[j]? =some y/\eqD y (vw S2 d)=true/\(∀(m:Nat)(z:D),m<j->ds[m]? =some z->eqD z (vw S2 d)=false)/\W (.int j) S2)
 (hbase:attributeBase o "index" X.env (eval o X.env)=eval o X.env)(hs:starEach [e] X.env=[(false,eval e X.env)])(hline:(apos.endLine==cpos.line)=true):Ev X Γ S (.Call (.Attribute o "index" apos) [e] [] cpos) W:=by
 intro pins s σ H O I env st
 have hA:PA X [e] (λ σ H Q=>∃O Γ S W',EnvOk X.K O H σ Γ/\StOk X.K O H S/\Ev X Γ S e W'/\∀v H',QG X.K O H W' v H'->Q [v] H'):=by
  rintro pos pins s σ H Q I ⟨O,Γ,S,W',env,st,he,k⟩
  rw[hs]
  show wpAny _ _ (spliced ((false,eval e X.env)::backTo pos (starEach [] X.env))) _ _ s
  refine Calls.spliced_cons (thn (he pins s σ H O I env st) λ u s1 hq_=>?_)
  obtain⟨v,H1,I1,r1,q⟩:=hq_
  exact Calls.spliced_nil ⟨[v],H1,I1,.cons r1 .nil,k v H1 q⟩
 refine FN (T:="list") PySem.F.plainAttrs_list PySem.F.slot_list_index PySem.F.type_list_index (Mg hu) (h.pe) hA hbase (by rw[hs];rfl) hline hs rfl pins s σ H _ I ⟨O,env,st,λ v H' q=>?_⟩
 obtain⟨O1,x,S1,⟨k,rfl,he⟩,st1,ok1,rep1⟩:=q
 refine⟨?_,O1,Γ,S1,_,env.mono st1,ok1,he,λ v2 H2 q2=>?_⟩
 . cases rep1 with
   | @loc a _ ha=>
     have hl:k<S1.length:=by rw[←ok1.len];exact(z0.mp ha).1
     obtain⟨xs,hx,_⟩:=ok1.obj k a S1[k] ha (y3 hl)
     exact .inl ⟨rfl,xs,SqL.of hx⟩
 . obtain⟨O2,d,S2,⟨ds,g0,g1,g2,g3,j,y,hj,hy,hn,w⟩,st2,ok2,rep2⟩:=q2
   have ev:vw S2 (.loc k)=.lst ds:=by simp only[vw,g0]
   exact⟨v2,_,ds,j,y,rfl,by rw[←ev];exact fu (x:=.loc k) ok2 (rep1.mono st2) (by rw[ev];exact g1),fu ok2 rep2 g2,g3,hj,hy,hn,O2,_,S2,w,st1.trans st2,ok2,.int _⟩
end
section
variable {Ω : Wd}
noncomputable def Ex.m_indexO(o a:Ex Ω):Ex Ω where
 lev:=max o.lev a.lev
 chk top N nm e:=match e with | .Call (.Attribute x m p) [y] [] q=>(m==("index":Str))&&(nameE x&&((p.endLine==q.line)&&(okE y&&(o.chk top N nm x&&a.chk top N nm y)))) | _=>false
 wp Γ S W:=o.wp Γ S λ x S1=>match x with | .loc k=>a.wp Γ S1 λ d S2=>∃ds,S2[k]? =some ds/\bM ds=true/\okD (vw S2 d)=true/\aR ds≤50/\∃(j:Nat) (y:D),ds[j]? =some y/\eqD y (vw S2 d)=true/\(∀(m:Nat)(z:D),m<j->ds[m]? =some z->eqD z (vw S2 d)=false)/\W (.int j) S2 | _=>False
 sound:=by
  intro X r top N nm e Γ S W A hl hc hw
  obtain⟨l1,l2⟩:=lv2 hl
  split at hc
  . rename_i x m p y q
    obtain⟨h1,g⟩:=aa hc
    obtain⟨h2,g⟩:=aa g
    obtain⟨h3,g⟩:=aa g
    obtain⟨h4,g⟩:=aa g
    obtain⟨h5,h6⟩:=aa g
    have e:=eq_of_beq h1
    subst e
    refine GK A.hu ((o.sound A l1 h5 hw).mono λ x S1 q=>?_) ?_ (aB h4 [] _) h3
    . cases x<;>first | exact q.elim | exact⟨_,rfl,a.sound A l2 h6 q⟩
    . cases x<;>first | rfl | exact ff h2
  . exact ff hc
end
theorem QD{X:Cx}{S:Store}{W:WD}{k:Nat}{ds:List D}(hk:S[k]? =some ds)(w:W (.lst ds) S):cO X (.type "list") [.loc k] S W:=bR gR λ O H vs st r=>by
 obtain⟨v,rfl,r'⟩:=cC r
 cases r' with
 | @loc p _ h1=>
   obtain⟨xs,hx,q1⟩:=st.obj k p ds h1 hk
   exact⟨p,xs,rfl,.inl (SqL.of hx),λ l hl=>dw w st hl q1⟩
noncomputable def Q5:Bc where
 x:="list"
 id:="list"
 boot:=by decide+kernel
 wp ds S W:=match ds with
  | [.loc k]=>∃ds,S[k]? =some ds/\W (.lst ds) S
  | _=>False
 sound:=by
  intro X ds S W hc hr h
  split at h
  . obtain⟨ds,h1,h2⟩:=h;exact QD h1 h2
  . exact h.elim
end RF
set_option maxHeartbeats 4000000
namespace K36
open PySem L2 DL RF
variable {Ω : Wd} {f : Addr} {fd : FuncData}
noncomputable def top(i:Nat):Stmt:=PySem.Challenge.pw_nestturn_k36_exchanges_told.main.body.getD i (.Pass ⟨0,0,0,0⟩)
structure Bi(mg:Str->Option Value):Prop where
 MOST_STEPS_:∃t,mg "MOST_STEPS"=some (.int 60 t)
 abs_:mg "abs"=none
 all_:mg "all"=none
 any_:mg "any"=none
 bool_:mg "bool"=none
 enumerate_:mg "enumerate"=none
 int_:mg "int"=none
 isinstance_:mg "isinstance"=none
 len_:mg "len"=none
 list_:mg "list"=none
 max_:mg "max"=none
 min_:mg "min"=none
 range_:mg "range"=none
 set_:mg "set"=none
 sorted_:mg "sorted"=none
 sum_:mg "sum"=none
 tuple_:mg "tuple"=none
 zip_:mg "zip"=none
section
variable {Ω : Wd}
noncomputable abbrev gH:Stmt:=top 6
noncomputable abbrev wV:List Str:=["thing"]
noncomputable abbrev yX:List Str:=["thing"]
noncomputable def wM(B:Bi Ω.mg):Bl Ω:=
 Bl.cons (Sm.ret (Ex.and (Bo.cons (Ex.isi B.isinstance_ (Ex.var 0) .int B.int_) (Bo.one (Ex.not (Ex.isi B.isinstance_ (Ex.var 0) .bool B.bool_)))))) Bl.nil
noncomputable abbrev dY:Stmt:=top 7
noncomputable abbrev qz:List Str:=["thing","least","most"]
noncomputable abbrev pX:List Str:=["thing","least","most"]
noncomputable def qw(B:Bi Ω.mg):Bl Ω:=
 Bl.cons (Sm.ret (Ex.and (Bo.cons (Ex.isi B.isinstance_ (Ex.var 0) .tuple B.tuple_) (Bo.one (Ex.ch2 (Ex.var 1) .LtE (Ex.blt bz B.len_ (Ar.cons (Ex.var 0) Ar.nil)) .LtE (Ex.var 2)))))) Bl.nil
noncomputable abbrev iB:Stmt:=top 8
noncomputable abbrev BZ:List Str:=["thing","d"]
noncomputable abbrev Ad:List Str:=["thing","d"]
noncomputable def Br(B:Bi Ω.mg){Fq40:Ct}(Cq40:Cal Ω "is_whole" 1 1 Fq40){Fq39:Ct}(Cq39:Cal Ω "is_tuple_of" 1 3 Fq39):Bl Ω:=
 Bl.cons (Sm.ret (Ex.and (Bo.cons (Ex.call Cq39 (Ar.cons (Ex.var 0) (Ar.cons (Ex.bin .Add (Ex.var 1) (Ex.int 1)) (Ar.cons (Ex.bin .Add (Ex.var 1) (Ex.int 1)) Ar.nil)))) (Bo.one (Ex.blt fM B.all_ (Ar.cons (Ex.comp ["number"] [none] (Ex.call Cq40 (Ar.cons (Ex.var 0) Ar.nil)) (Tg.nm 0) (Itb.seq (Ex.var 0)) Cd.no) Ar.nil)))))) Bl.nil
noncomputable abbrev gh:Stmt:=top 9
noncomputable abbrev wL:List Str:=["form","counts"]
noncomputable abbrev xK:List Str:=["form","counts"]
noncomputable def xJ(B:Bi Ω.mg):Bl Ω:=
 Bl.cons (Sm.ret (Ex.bin .Add (Ex.ix (Ex.var 0) (Ex.int 0)) (Ex.blt vR B.sum_ (Ar.cons (Ex.comp ["number","count"] [none,none] (Ex.bin .Mult (Ex.var 0) (Ex.var 1)) (Tg.tup [0,1]) (Itb.zip B.zip_ (Ex.sl (Ex.var 0) (Po.so (Ex.int 1)) Po.no) (Ex.var 1)) Cd.no) Ar.nil)))) Bl.nil
noncomputable abbrev gJ:Stmt:=top 10
noncomputable abbrev yM:List Str:=["thing","d"]
noncomputable abbrev v7:List Str:=["thing","d"]
noncomputable def sJ(B:Bi Ω.mg){Fq27:Ct}(Cq27:Cal Ω "is_form" 2 2 Fq27):Bl Ω:=
 Bl.cons (Sm.ret (Ex.and (Bo.cons (Ex.ch2 (Ex.neg (Ex.int 9)) .LtE (Ex.ix (Ex.var 0) (Ex.int 0)) .LtE (Ex.int 9)) (Bo.one (Ex.blt fM B.all_ (Ar.cons (Ex.comp ["number"] [none] (Ex.ch2 (Ex.neg (Ex.int 2)) .LtE (Ex.var 0) .LtE (Ex.int 2)) (Tg.nm 0) (Itb.seq (Ex.sl (Ex.var 0) (Po.so (Ex.int 1)) Po.no)) Cd.no) Ar.nil)))))) Bl.nil
noncomputable def yc(B:Bi Ω.mg){Fq27:Ct}(Cq27:Cal Ω "is_form" 2 2 Fq27):Bl Ω:=
 Bl.cons (Sm.ite (Te.not (Te.val (Ex.call Cq27 (Ar.cons (Ex.var 0) (Ar.cons (Ex.var 1) Ar.nil))))) (Bl.cons (Sm.ret (Ex.bl false)) Bl.nil) Bl.nil) (sJ B Cq27)
noncomputable abbrev iK:Stmt:=top 11
noncomputable abbrev Aw:List Str:=["thing","d"]
noncomputable abbrev Aq:List Str:=["thing","d"]
noncomputable def Bg{Fq39:Ct}(Cq39:Cal Ω "is_tuple_of" 1 3 Fq39){Fq25:Ct}(Cq25:Cal Ω "is_bound" 3 2 Fq25):Bl Ω:=
 Bl.cons (Sm.ret (Ex.and (Bo.cons (Ex.call Cq39 (Ar.cons (Ex.var 0) (Ar.cons (Ex.int 2) (Ar.cons (Ex.int 2) Ar.nil)))) (Bo.cons (Ex.call Cq25 (Ar.cons (Ex.ix (Ex.var 0) (Ex.int 0)) (Ar.cons (Ex.var 1) Ar.nil))) (Bo.one (Ex.call Cq25 (Ar.cons (Ex.ix (Ex.var 0) (Ex.int 1)) (Ar.cons (Ex.var 1) Ar.nil)))))))) Bl.nil
noncomputable abbrev gZ:Stmt:=top 12
noncomputable abbrev xg:List Str:=["thing"]
noncomputable abbrev v4:List Str:=["thing"]
noncomputable def zJ(B:Bi Ω.mg){Fq39:Ct}(Cq39:Cal Ω "is_tuple_of" 1 3 Fq39){Fq28:Ct}(Cq28:Cal Ω "is_loop" 4 2 Fq28):Bl Ω:=
 Bl.cons (Sm.ret (Ex.and (Bo.cons (Ex.call Cq39 (Ar.cons (Ex.var 0) (Ar.cons (Ex.int 1) (Ar.cons (Ex.int 3) Ar.nil)))) (Bo.one (Ex.blt fM B.all_ (Ar.cons (Ex.comp ["k","loop"] [none,none] (Ex.call Cq28 (Ar.cons (Ex.var 1) (Ar.cons (Ex.var 0) Ar.nil))) (Tg.tup [0,1]) (Itb.enm B.enumerate_ (Ex.var 0)) Cd.no) Ar.nil)))))) Bl.nil
noncomputable abbrev cM:Stmt:=top 13
noncomputable abbrev lw:List Str:=["ahead","low","high","longer","counts","count"]
noncomputable abbrev kI:List Str:=["ahead","low","high"]
section
variable (B : Bi Ω.mg) {Fq21 : Ct} (Cq21 : Cal Ω "comes_to" 1 2 Fq21)
noncomputable def jl(B:Bi Ω.mg){Fq21:Ct}(Cq21:Cal Ω "comes_to" 1 2 Fq21):Bl Ω:=
 Bl.cons (Sm.ret (Ex.var 3)) Bl.nil
noncomputable def jk:Bl Ω:=
 Bl.cons (Sm.forL (Tg.nm 4) (Ex.var 0) (Bl.cons (Sm.for (Tg.nm 5) (Itb.rng2 B.range_ (Ex.call Cq21 (Ar.cons (Ex.var 1) (Ar.cons (Ex.var 4) Ar.nil))) (Ex.call Cq21 (Ar.cons (Ex.var 2) (Ar.cons (Ex.var 4) Ar.nil)))) (Bl.cons (Sm.expr (Ex.m_append (Ex.var 3) (Ex.bin .Add (Ex.var 4) (Ex.tup (Ar.cons (Ex.var 5) Ar.nil))))) Bl.nil)) Bl.nil)) (jl B Cq21)
noncomputable def j9:Bl Ω:=
 Bl.cons (Sm.set 3 (Ex.own Ar.nil)) (jk B Cq21)
end
noncomputable abbrev fP:Stmt:=top 14
noncomputable abbrev vC:List Str:=["loops","told","low","high"]
noncomputable abbrev vg:List Str:=["loops"]
section
variable {Fq51 : Ct} (Cq51 : Cal Ω "with_next_count" 2 3 Fq51)
noncomputable def ql{Fq51:Ct}(Cq51:Cal Ω "with_next_count" 2 3 Fq51):Bl Ω:=
 Bl.cons (Sm.ret (Ex.var 1)) Bl.nil
noncomputable def qJ:Bl Ω:=
 Bl.cons (Sm.forL (Tg.tup [2,3]) (Ex.var 0) (Bl.cons (Sm.set 1 (Ex.call Cq51 (Ar.cons (Ex.var 1) (Ar.cons (Ex.var 2) (Ar.cons (Ex.var 3) Ar.nil))))) Bl.nil)) (ql Cq51)
noncomputable def uP:Bl Ω:=
 Bl.cons (Sm.set 1 (Ex.lst (Ar.cons (Ex.tup Ar.nil) Ar.nil))) (qJ Cq51)
end
noncomputable abbrev cJ:Stmt:=top 17
noncomputable abbrev lg:List Str:=["number"]
noncomputable abbrev km:List Str:=["number"]
noncomputable def kW(B:Bi Ω.mg):Bl Ω:=
 Bl.cons (Sm.ret (Ex.cmp .Lt (Ex.blt Qn B.abs_ (Ar.cons (Ex.var 0) Ar.nil)) (Ex.bin .Pow (Ex.int 10) (Ex.int 30)))) Bl.nil
noncomputable abbrev fU:Stmt:=top 18
noncomputable abbrev vD:List Str:=["thing"]
noncomputable abbrev uC:List Str:=["thing"]
noncomputable def uJ(B:Bi Ω.mg){Fq40:Ct}(Cq40:Cal Ω "is_whole" 1 1 Fq40){Fq39:Ct}(Cq39:Cal Ω "is_tuple_of" 1 3 Fq39):Bl Ω:=
 Bl.cons (Sm.ret (Ex.and (Bo.cons (Ex.call Cq39 (Ar.cons (Ex.var 0) (Ar.cons (Ex.int 1) (Ar.cons (Ex.int 3) Ar.nil)))) (Bo.one (Ex.blt fM B.all_ (Ar.cons (Ex.comp ["width"] [none] (Ex.and (Bo.cons (Ex.call Cq40 (Ar.cons (Ex.var 0) Ar.nil)) (Bo.one (Ex.ch2 (Ex.int 1) .LtE (Ex.var 0) .LtE (Ex.int 2))))) (Tg.nm 0) (Itb.seq (Ex.var 0)) Cd.no) Ar.nil)))))) Bl.nil
noncomputable abbrev dj:Stmt:=top 19
noncomputable abbrev nG:List Str:=["thing","d"]
noncomputable abbrev nF:List Str:=["thing","d"]
noncomputable def nD(B:Bi Ω.mg){Fq27:Ct}(Cq27:Cal Ω "is_form" 2 2 Fq27):Bl Ω:=
 Bl.cons (Sm.ret (Ex.and (Bo.cons (Ex.call Cq27 (Ar.cons (Ex.var 0) (Ar.cons (Ex.var 1) Ar.nil))) (Bo.one (Ex.blt fM B.all_ (Ar.cons (Ex.comp ["number"] [none] (Ex.ch2 (Ex.neg (Ex.int 99)) .LtE (Ex.var 0) .LtE (Ex.int 99)) (Tg.nm 0) (Itb.seq (Ex.var 0)) Cd.no) Ar.nil)))))) Bl.nil
noncomputable abbrev ik:Stmt:=top 20
noncomputable abbrev xY:List Str:=["thing","d"]
noncomputable abbrev xH:List Str:=["thing","d"]
noncomputable def wG(B:Bi Ω.mg){Fq27:Ct}(Cq27:Cal Ω "is_form" 2 2 Fq27){Fq24:Ct}(Cq24:Cal Ω "has_few_figures" 1 1 Fq24):Bl Ω:=
 Bl.cons (Sm.ret (Ex.and (Bo.cons (Ex.call Cq27 (Ar.cons (Ex.var 0) (Ar.cons (Ex.var 1) Ar.nil))) (Bo.one (Ex.blt fM B.all_ (Ar.cons (Ex.comp ["number"] [none] (Ex.call Cq24 (Ar.cons (Ex.var 0) Ar.nil)) (Tg.nm 0) (Itb.seq (Ex.var 0)) Cd.no) Ar.nil)))))) Bl.nil
noncomputable abbrev bW:Stmt:=top 21
noncomputable abbrev iw:List Str:=["table","place","widths","d"]
noncomputable abbrev ir:List Str:=["table","place","widths","d"]
noncomputable def fY(B:Bi Ω.mg){Fq40:Ct}(Cq40:Cal Ω "is_whole" 1 1 Fq40){Fq39:Ct}(Cq39:Cal Ω "is_tuple_of" 1 3 Fq39){Fq33:Ct}(Cq33:Cal Ω "is_place_form" 3 2 Fq33):Bl Ω:=
 Bl.cons (Sm.ret (Ex.and (Bo.cons (Ex.call Cq39 (Ar.cons (Ex.var 1) (Ar.cons (Ex.ix (Ex.var 2) (Ex.var 0)) (Ar.cons (Ex.ix (Ex.var 2) (Ex.var 0)) Ar.nil)))) (Bo.one (Ex.blt fM B.all_ (Ar.cons (Ex.comp ["form","d"] [none,some 3] (Ex.call Cq33 (Ar.cons (Ex.var 0) (Ar.cons (Ex.var 1) Ar.nil))) (Tg.nm 0) (Itb.seq (Ex.var 1)) Cd.no) Ar.nil)))))) Bl.nil
noncomputable def iy(B:Bi Ω.mg){Fq40:Ct}(Cq40:Cal Ω "is_whole" 1 1 Fq40){Fq39:Ct}(Cq39:Cal Ω "is_tuple_of" 1 3 Fq39){Fq33:Ct}(Cq33:Cal Ω "is_place_form" 3 2 Fq33):Bl Ω:=
 Bl.cons (Sm.ite (Te.or (Bt.cons (Te.not (Te.val (Ex.call Cq40 (Ar.cons (Ex.var 0) Ar.nil)))) (Bt.one (Te.not (Te.ch2 (Ex.int 0) .LtE (Ex.var 0) .Lt (Ex.blt bz B.len_ (Ar.cons (Ex.var 2) Ar.nil))))))) (Bl.cons (Sm.ret (Ex.bl false)) Bl.nil) Bl.nil) (fY B Cq40 Cq39 Cq33)
noncomputable abbrev iT:Stmt:=top 22
noncomputable abbrev Ak:List Str:=["thing","widths","d"]
noncomputable abbrev An:List Str:=["thing","widths","d"]
section
variable {Fq40 : Ct} (Cq40 : Cal Ω "is_whole" 1 1 Fq40) {Fq39 : Ct} (Cq39 : Cal Ω "is_tuple_of" 1 3 Fq39) {Fq24 : Ct} (Cq24 : Cal Ω "has_few_figures" 1 1 Fq24) {Fq38 : Ct} (Cq38 : Cal Ω "is_table_with_place" 4 4 Fq38)
noncomputable def vq{Fq40:Ct}(Cq40:Cal Ω "is_whole" 1 1 Fq40){Fq39:Ct}(Cq39:Cal Ω "is_tuple_of" 1 3 Fq39){Fq24:Ct}(Cq24:Cal Ω "has_few_figures" 1 1 Fq24){Fq38:Ct}(Cq38:Cal Ω "is_table_with_place" 4 4 Fq38):Bl Ω:=
 Bl.cons (Sm.ret (Ex.call Cq38 (Ar.cons (Ex.ix (Ex.var 0) (Ex.int 1)) (Ar.cons (Ex.ix (Ex.var 0) (Ex.int 2)) (Ar.cons (Ex.var 1) (Ar.cons (Ex.var 2) Ar.nil)))))) Bl.nil
noncomputable def uW:Bl Ω:=
 Bl.cons (Sm.ite (Te.or (Bt.cons (Te.not (Te.val (Ex.call Cq40 (Ar.cons (Ex.ix (Ex.var 0) (Ex.int 0)) Ar.nil)))) (Bt.one (Te.not (Te.val (Ex.call Cq24 (Ar.cons (Ex.ix (Ex.var 0) (Ex.int 0)) Ar.nil))))))) (Bl.cons (Sm.ret (Ex.bl false)) Bl.nil) Bl.nil) (vq Cq40 Cq39 Cq24 Cq38)
noncomputable def z6:Bl Ω:=
 Bl.cons (Sm.ite (Te.not (Te.val (Ex.call Cq39 (Ar.cons (Ex.var 0) (Ar.cons (Ex.int 3) (Ar.cons (Ex.int 3) Ar.nil)))))) (Bl.cons (Sm.ret (Ex.bl false)) Bl.nil) Bl.nil) (uW Cq40 Cq39 Cq24 Cq38)
end
noncomputable abbrev gY:Stmt:=top 23
noncomputable abbrev wN:List Str:=["thing","widths","d"]
noncomputable abbrev xG:List Str:=["thing","widths","d"]
noncomputable def wB(B:Bi Ω.mg){Fq39:Ct}(Cq39:Cal Ω "is_tuple_of" 1 3 Fq39){Fq34:Ct}(Cq34:Cal Ω "is_read" 5 3 Fq34):Bl Ω:=
 Bl.cons (Sm.ret (Ex.and (Bo.cons (Ex.call Cq39 (Ar.cons (Ex.var 0) (Ar.cons (Ex.int 0) (Ar.cons (Ex.int 3) Ar.nil)))) (Bo.one (Ex.blt fM B.all_ (Ar.cons (Ex.comp ["read","widths","d"] [none,some 1,some 2] (Ex.call Cq34 (Ar.cons (Ex.var 0) (Ar.cons (Ex.var 1) (Ar.cons (Ex.var 2) Ar.nil)))) (Tg.nm 0) (Itb.seq (Ex.var 0)) Cd.no) Ar.nil)))))) Bl.nil
noncomputable abbrev iY:Stmt:=top 24
noncomputable abbrev Af:List Str:=["thing","widths","d"]
noncomputable abbrev BV:List Str:=["thing","widths","d"]
section
variable {Fq39 : Ct} (Cq39 : Cal Ω "is_tuple_of" 1 3 Fq39) {Fq37 : Ct} (Cq37 : Cal Ω "is_start" 3 2 Fq37) {Fq38 : Ct} (Cq38 : Cal Ω "is_table_with_place" 4 4 Fq38) {Fq35 : Ct} (Cq35 : Cal Ω "is_reads" 6 3 Fq35)
noncomputable def uT{Fq39:Ct}(Cq39:Cal Ω "is_tuple_of" 1 3 Fq39){Fq37:Ct}(Cq37:Cal Ω "is_start" 3 2 Fq37){Fq38:Ct}(Cq38:Cal Ω "is_table_with_place" 4 4 Fq38){Fq35:Ct}(Cq35:Cal Ω "is_reads" 6 3 Fq35):Bl Ω:=
 Bl.cons (Sm.ret (Ex.and (Bo.cons (Ex.call Cq37 (Ar.cons (Ex.ix (Ex.var 0) (Ex.int 2)) (Ar.cons (Ex.var 2) Ar.nil))) (Bo.one (Ex.call Cq35 (Ar.cons (Ex.ix (Ex.var 0) (Ex.int 3)) (Ar.cons (Ex.var 1) (Ar.cons (Ex.var 2) Ar.nil)))))))) Bl.nil
noncomputable def vd:Bl Ω:=
 Bl.cons (Sm.ite (Te.not (Te.val (Ex.call Cq38 (Ar.cons (Ex.ix (Ex.var 0) (Ex.int 0)) (Ar.cons (Ex.ix (Ex.var 0) (Ex.int 1)) (Ar.cons (Ex.var 1) (Ar.cons (Ex.var 2) Ar.nil))))))) (Bl.cons (Sm.ret (Ex.bl false)) Bl.nil) Bl.nil) (uT Cq39 Cq37 Cq38 Cq35)
noncomputable def zZ:Bl Ω:=
 Bl.cons (Sm.ite (Te.not (Te.val (Ex.call Cq39 (Ar.cons (Ex.var 0) (Ar.cons (Ex.int 4) (Ar.cons (Ex.int 4) Ar.nil)))))) (Bl.cons (Sm.ret (Ex.bl false)) Bl.nil) Bl.nil) (vd Cq39 Cq37 Cq38 Cq35)
end
noncomputable abbrev iW:Stmt:=top 25
noncomputable abbrev Ab:List Str:=["thing","widths","d"]
noncomputable abbrev Ca:List Str:=["thing","widths"]
section
variable (B : Bi Ω.mg) {Fq39 : Ct} (Cq39 : Cal Ω "is_tuple_of" 1 3 Fq39) {Fq29 : Ct} (Cq29 : Cal Ω "is_loops" 5 1 Fq29) {Fq26 : Ct} (Cq26 : Cal Ω "is_deed" 7 3 Fq26)
noncomputable def uL(B:Bi Ω.mg){Fq39:Ct}(Cq39:Cal Ω "is_tuple_of" 1 3 Fq39){Fq29:Ct}(Cq29:Cal Ω "is_loops" 5 1 Fq29){Fq26:Ct}(Cq26:Cal Ω "is_deed" 7 3 Fq26):Bl Ω:=
 Bl.cons (Sm.ret (Ex.and (Bo.cons (Ex.call Cq39 (Ar.cons (Ex.ix (Ex.var 0) (Ex.int 1)) (Ar.cons (Ex.int 1) (Ar.cons (Ex.int 4) Ar.nil)))) (Bo.one (Ex.blt fM B.all_ (Ar.cons (Ex.comp ["deed","widths","d"] [none,some 1,some 2] (Ex.call Cq26 (Ar.cons (Ex.var 0) (Ar.cons (Ex.var 1) (Ar.cons (Ex.var 2) Ar.nil)))) (Tg.nm 0) (Itb.seq (Ex.ix (Ex.var 0) (Ex.int 1))) Cd.no) Ar.nil)))))) Bl.nil
noncomputable def uK:Bl Ω:=
 Bl.cons (Sm.set 2 (Ex.blt bz B.len_ (Ar.cons (Ex.ix (Ex.var 0) (Ex.int 0)) Ar.nil))) (uL B Cq39 Cq29 Cq26)
noncomputable def Bj:Bl Ω:=
 Bl.cons (Sm.ite (Te.or (Bt.cons (Te.not (Te.val (Ex.call Cq39 (Ar.cons (Ex.var 0) (Ar.cons (Ex.int 2) (Ar.cons (Ex.int 2) Ar.nil)))))) (Bt.one (Te.not (Te.val (Ex.call Cq29 (Ar.cons (Ex.ix (Ex.var 0) (Ex.int 0)) Ar.nil))))))) (Bl.cons (Sm.ret (Ex.bl false)) Bl.nil) Bl.nil) (uK B Cq39 Cq29 Cq26)
end
noncomputable abbrev gK:Stmt:=top 26
noncomputable abbrev xf:List Str:=["thing","widths"]
noncomputable abbrev zx:List Str:=["thing","widths"]
noncomputable def wO(B:Bi Ω.mg){Fq39:Ct}(Cq39:Cal Ω "is_tuple_of" 1 3 Fq39){Fq30:Ct}(Cq30:Cal Ω "is_nest" 8 2 Fq30):Bl Ω:=
 Bl.cons (Sm.ret (Ex.and (Bo.cons (Ex.call Cq39 (Ar.cons (Ex.var 0) (Ar.cons (Ex.int 1) (Ar.cons (Ex.int 3) Ar.nil)))) (Bo.one (Ex.blt fM B.all_ (Ar.cons (Ex.comp ["nest","widths"] [none,some 1] (Ex.call Cq30 (Ar.cons (Ex.var 0) (Ar.cons (Ex.var 1) Ar.nil))) (Tg.nm 0) (Itb.seq (Ex.var 0)) Cd.no) Ar.nil)))))) Bl.nil
noncomputable abbrev cL:Stmt:=top 27
noncomputable abbrev lz:List Str:=["nests"]
noncomputable abbrev kO:List Str:=["nests"]
noncomputable def kh(B:Bi Ω.mg){Fq22:Ct}(Cq22:Cal Ω "counts_of" 3 1 Fq22):Bl Ω:=
 Bl.cons (Sm.ret (Ex.blt vR B.sum_ (Ar.cons (Ex.comp ["loops","deeds"] [none,none] (Ex.bin .Mult (Ex.blt bz B.len_ (Ar.cons (Ex.call Cq22 (Ar.cons (Ex.var 0) Ar.nil)) Ar.nil)) (Ex.blt bz B.len_ (Ar.cons (Ex.var 1) Ar.nil))) (Tg.tup [0,1]) (Itb.seq (Ex.var 0)) Cd.no) Ar.nil))) Bl.nil
noncomputable abbrev eF:Stmt:=top 28
noncomputable abbrev qT:List Str:=["widths","nests"]
noncomputable abbrev qX:List Str:=["widths","nests"]
section
variable (B : Bi Ω.mg) {Fq41 : Ct} (Cq41 : Cal Ω "is_widths" 2 1 Fq41) {Fq31 : Ct} (Cq31 : Cal Ω "is_nests" 9 2 Fq31) {Fq43 : Ct} (Cq43 : Cal Ω "number_of_steps" 4 1 Fq43)
noncomputable def pg(B:Bi Ω.mg){Fq41:Ct}(Cq41:Cal Ω "is_widths" 2 1 Fq41){Fq31:Ct}(Cq31:Cal Ω "is_nests" 9 2 Fq31){Fq43:Ct}(Cq43:Cal Ω "number_of_steps" 4 1 Fq43):Bl Ω:=
 Bl.cons (Sm.ret (Ex.tup (Ar.cons (Ex.var 0) (Ar.cons (Ex.var 1) Ar.nil)))) Bl.nil
noncomputable def oH:Bl Ω:=
 Bl.cons (Sm.ite (Te.cmp .Gt (Ex.call Cq43 (Ar.cons (Ex.var 1) Ar.nil)) (Ex.gint B.MOST_STEPS_)) (Bl.cons Sm.never Bl.nil) Bl.nil) (pg B Cq41 Cq31 Cq43)
noncomputable def oU:Bl Ω:=
 Bl.cons (Sm.ite (Te.not (Te.val (Ex.call Cq31 (Ar.cons (Ex.var 1) (Ar.cons (Ex.var 0) Ar.nil))))) (Bl.cons Sm.never Bl.nil) Bl.nil) (oH B Cq41 Cq31 Cq43)
noncomputable def rQ:Bl Ω:=
 Bl.cons (Sm.ite (Te.not (Te.val (Ex.call Cq41 (Ar.cons (Ex.var 0) Ar.nil)))) (Bl.cons Sm.never Bl.nil) Bl.nil) (oU B Cq41 Cq31 Cq43)
end
noncomputable abbrev gA:Stmt:=top 29
noncomputable abbrev yS:List Str:=["program","steps","nest","loops_and_deeds","counts","deed"]
noncomputable abbrev zL:List Str:=["program"]
section
variable (B : Bi Ω.mg) {Fq22 : Ct} (Cq22 : Cal Ω "counts_of" 3 1 Fq22)
noncomputable def qZ(B:Bi Ω.mg){Fq22:Ct}(Cq22:Cal Ω "counts_of" 3 1 Fq22):Bl Ω:=
 Bl.cons (Sm.ret (Ex.var 1)) Bl.nil
noncomputable def rH:Bl Ω:=
 Bl.cons (Sm.for (Tg.tup [2,3]) (Itb.enm B.enumerate_ (Ex.ix (Ex.var 0) (Ex.int 1))) (Bl.cons (Sm.forL (Tg.nm 4) (Ex.call Cq22 (Ar.cons (Ex.ix (Ex.var 3) (Ex.int 0)) Ar.nil)) (Bl.cons (Sm.for (Tg.nm 5) (Itb.rng1 B.range_ (Ex.blt bz B.len_ (Ar.cons (Ex.ix (Ex.var 3) (Ex.int 1)) Ar.nil))) (Bl.cons (Sm.expr (Ex.m_append (Ex.var 1) (Ex.tup (Ar.cons (Ex.var 2) (Ar.cons (Ex.var 4) (Ar.cons (Ex.var 5) Ar.nil)))))) Bl.nil)) Bl.nil)) Bl.nil)) (qZ B Cq22)
noncomputable def zp:Bl Ω:=
 Bl.cons (Sm.set 1 (Ex.own Ar.nil)) (rH B Cq22)
end
noncomputable abbrev iQ:Stmt:=top 30
noncomputable abbrev BX:List Str:=["program","step"]
noncomputable abbrev BP:List Str:=["program","step"]
noncomputable def Bh:Bl Ω:=
 Bl.cons (Sm.ret (Ex.ix (Ex.ix (Ex.ix (Ex.ix (Ex.var 0) (Ex.int 1)) (Ex.ix (Ex.var 1) (Ex.int 0))) (Ex.int 1)) (Ex.ix (Ex.var 1) (Ex.int 2)))) Bl.nil
noncomputable abbrev iR:Stmt:=top 31
noncomputable abbrev Ai:List Str:=["table","place","counts"]
noncomputable abbrev Aa:List Str:=["table","place","counts"]
noncomputable def BL(B:Bi Ω.mg){Fq21:Ct}(Cq21:Cal Ω "comes_to" 1 2 Fq21):Bl Ω:=
 Bl.cons (Sm.ret (Ex.tup (Ar.cons (Ex.var 0) (Ar.cons (Ex.typ bc B.tuple_ (Ar.cons (Ex.comp ["form","counts"] [none,some 2] (Ex.call Cq21 (Ar.cons (Ex.var 0) (Ar.cons (Ex.var 1) Ar.nil))) (Tg.nm 0) (Itb.seq (Ex.var 1)) Cd.no) Ar.nil)) Ar.nil)))) Bl.nil
noncomputable abbrev dq:Stmt:=top 32
noncomputable abbrev nJ:List Str:=["program","step","counts","deed","reads"]
noncomputable abbrev nH:List Str:=["program","step"]
section
variable {Fq23 : Ct} (Cq23 : Cal Ω "deed_of" 1 2 Fq23) {Fq18 : Ct} (Cq18 : Cal Ω "cell_at" 2 3 Fq18)
noncomputable def kJ{Fq23:Ct}(Cq23:Cal Ω "deed_of" 1 2 Fq23){Fq18:Ct}(Cq18:Cal Ω "cell_at" 2 3 Fq18):Bl Ω:=
 Bl.cons (Sm.ret (Ex.tup (Ar.cons (Ex.call Cq18 (Ar.cons (Ex.ix (Ex.var 3) (Ex.int 0)) (Ar.cons (Ex.ix (Ex.var 3) (Ex.int 1)) (Ar.cons (Ex.var 2) Ar.nil)))) (Ar.cons (Ex.var 4) Ar.nil)))) Bl.nil
noncomputable def lr:Bl Ω:=
 Bl.cons (Sm.setC 4 ["factor","table","place","counts"] [none,none,none,some 2] (Ex.call Cq18 (Ar.cons (Ex.var 1) (Ar.cons (Ex.var 2) (Ar.cons (Ex.var 3) Ar.nil)))) (Tg.tup [0,1,2]) (Itb.seq (Ex.ix (Ex.var 3) (Ex.int 3))) Cd.no) (kJ Cq23 Cq18)
noncomputable def kY:Bl Ω:=
 Bl.cons (Sm.set 3 (Ex.call Cq23 (Ar.cons (Ex.var 0) (Ar.cons (Ex.var 1) Ar.nil)))) (lr Cq23 Cq18)
noncomputable def nP:Bl Ω:=
 Bl.cons (Sm.set 2 (Ex.ix (Ex.var 1) (Ex.int 1))) (kY Cq23 Cq18)
end
noncomputable abbrev gO:Stmt:=top 33
noncomputable abbrev wX:List Str:=["program"]
noncomputable abbrev zf:List Str:=["program"]
noncomputable def xM{Fq49:Ct}(Cq49:Cal Ω "steps_of" 4 1 Fq49){Fq20:Ct}(Cq20:Cal Ω "cells_of_step" 3 2 Fq20):Bl Ω:=
 Bl.cons (Sm.ret (Ex.comp ["step","program"] [none,some 0] (Ex.call Cq20 (Ar.cons (Ex.var 1) (Ar.cons (Ex.var 0) Ar.nil))) (Tg.nm 0) (Itb.seq (Ex.call Cq49 (Ar.cons (Ex.var 0) Ar.nil))) Cd.no)) Bl.nil
noncomputable abbrev mR:Stmt:=top 35
noncomputable abbrev Iv:List Str:=["program"]
noncomputable abbrev Ho:List Str:=["program"]
noncomputable def Hj(B:Bi Ω.mg){Fq43:Ct}(Cq43:Cal Ω "number_of_steps" 4 1 Fq43):Bl Ω:=
 Bl.cons (Sm.ret (Ex.lrng B.range_ B.list_ (Ex.call Cq43 (Ar.cons (Ex.ix (Ex.var 0) (Ex.int 1)) Ar.nil)))) Bl.nil
noncomputable abbrev jT:Stmt:=top 36
noncomputable abbrev Ei:List Str:=["program","thing","number"]
noncomputable abbrev Gd:List Str:=["program","thing"]
section
variable (B : Bi Ω.mg) {Fq40 : Ct} (Cq40 : Cal Ω "is_whole" 1 1 Fq40) {Fq43 : Ct} (Cq43 : Cal Ω "number_of_steps" 4 1 Fq43)
noncomputable def zT(B:Bi Ω.mg){Fq40:Ct}(Cq40:Cal Ω "is_whole" 1 1 Fq40){Fq43:Ct}(Cq43:Cal Ω "number_of_steps" 4 1 Fq43):Bl Ω:=
 Bl.cons (Sm.ret (Ex.cmp .Eq (Ex.lset B.len_ B.set_ (Ex.var 1)) (Ex.blt bz B.len_ (Ar.cons (Ex.var 1) Ar.nil)))) Bl.nil
noncomputable def yo:Bl Ω:=
 Bl.cons (Sm.ite (Te.not (Te.val (Ex.blt fM B.all_ (Ar.cons (Ex.comp ["step","number"] [none,some 2] (Ex.and (Bo.cons (Ex.call Cq40 (Ar.cons (Ex.var 0) Ar.nil)) (Bo.one (Ex.ch2 (Ex.int 0) .LtE (Ex.var 0) .Lt (Ex.var 1))))) (Tg.nm 0) (Itb.seq (Ex.var 1)) Cd.no) Ar.nil)))) (Bl.cons (Sm.ret (Ex.bl false)) Bl.nil) Bl.nil) (zT B Cq40 Cq43)
noncomputable def yr:Bl Ω:=
 Bl.cons (Sm.set 2 (Ex.call Cq43 (Ar.cons (Ex.ix (Ex.var 0) (Ex.int 1)) Ar.nil))) (yo B Cq40 Cq43)
noncomputable def Es:Bl Ω:=
 Bl.cons (Sm.ite (Te.not (Te.val (Ex.isi B.isinstance_ (Ex.var 1) .list B.list_))) (Bl.cons (Sm.ret (Ex.bl false)) Bl.nil) Bl.nil) (yr B Cq40 Cq43)
end
noncomputable abbrev dm:Stmt:=top 38
noncomputable abbrev nO:List Str:=["one","other","told"]
noncomputable abbrev nM:List Str:=["one","other"]
section
variable (B : Bi Ω.mg)
noncomputable def eE(B:Bi Ω.mg):Bl Ω:=
 Bl.cons (Sm.ret (Ex.ssetO B.sorted_ B.set_ (Ex.var 2))) Bl.nil
noncomputable def d9:Bl Ω:=
 Bl.cons (Sm.ite (Te.cmp .In (Ex.ix (Ex.var 1) (Ex.int 0)) (Ex.ix (Ex.var 0) (Ex.int 1))) (Bl.cons (Sm.expr (Ex.m_append (Ex.var 2) (Ex.ix (Ex.var 1) (Ex.int 0)))) Bl.nil) Bl.nil) (eE B)
noncomputable def kZ:Bl Ω:=
 Bl.cons (Sm.ite (Te.or (Bt.cons (Te.cmp .Eq (Ex.ix (Ex.var 0) (Ex.int 0)) (Ex.ix (Ex.var 1) (Ex.int 0))) (Bt.one (Te.cmp .In (Ex.ix (Ex.var 0) (Ex.int 0)) (Ex.ix (Ex.var 1) (Ex.int 1)))))) (Bl.cons (Sm.expr (Ex.m_append (Ex.var 2) (Ex.ix (Ex.var 0) (Ex.int 0)))) Bl.nil) Bl.nil) (d9 B)
noncomputable def nC:Bl Ω:=
 Bl.cons (Sm.set 2 (Ex.own Ar.nil)) (kZ B)
end
noncomputable abbrev mz:Stmt:=top 39
noncomputable abbrev HQ:List Str:=["program","cells","told","i","j","touched"]
noncomputable abbrev JG:List Str:=["program"]
section
variable (B : Bi Ω.mg) {Fq19 : Ct} (Cq19 : Cal Ω "cells_of" 5 1 Fq19) {Fq50 : Ct} (Cq50 : Cal Ω "touched_cells" 1 2 Fq50)
noncomputable def sH(B:Bi Ω.mg){Fq19:Ct}(Cq19:Cal Ω "cells_of" 5 1 Fq19){Fq50:Ct}(Cq50:Cal Ω "touched_cells" 1 2 Fq50):Bl Ω:=
 Bl.cons (Sm.ite (Te.lval (Ex.var 5)) (Bl.cons (Sm.expr (Ex.m_append (Ex.var 2) (Ex.tup (Ar.cons (Ex.var 3) (Ar.cons (Ex.var 4) (Ar.cons (Ex.var 5) Ar.nil)))))) Bl.nil) Bl.nil) Bl.nil
noncomputable def vW:Bl Ω:=
 Bl.cons (Sm.set 5 (Ex.call Cq50 (Ar.cons (Ex.ix (Ex.var 1) (Ex.var 3)) (Ar.cons (Ex.ix (Ex.var 1) (Ex.var 4)) Ar.nil)))) (sH B Cq19 Cq50)
noncomputable def Bp(B:Bi Ω.mg){Fq19:Ct}(Cq19:Cal Ω "cells_of" 5 1 Fq19){Fq50:Ct}(Cq50:Cal Ω "touched_cells" 1 2 Fq50):Bl Ω:=
 Bl.cons (Sm.ret (Ex.var 2)) Bl.nil
noncomputable def Bb:Bl Ω:=
 Bl.cons (Sm.for (Tg.nm 3) (Itb.rng1 B.range_ (Ex.blt bz B.len_ (Ar.cons (Ex.var 1) Ar.nil))) (Bl.cons (Sm.for (Tg.nm 4) (Itb.rng2 B.range_ (Ex.bin .Add (Ex.var 3) (Ex.int 1)) (Ex.blt bz B.len_ (Ar.cons (Ex.var 1) Ar.nil))) (vW B Cq19 Cq50)) Bl.nil)) (Bp B Cq19 Cq50)
noncomputable def zX:Bl Ω:=
 Bl.cons (Sm.set 2 (Ex.own Ar.nil)) (Bb B Cq19 Cq50)
noncomputable def GD:Bl Ω:=
 Bl.cons (Sm.set 1 (Ex.call Cq19 (Ar.cons (Ex.var 0) Ar.nil))) (zX B Cq19 Cq50)
end
noncomputable abbrev gD:Stmt:=top 41
noncomputable abbrev yP:List Str:=["program","thing"]
noncomputable abbrev yV:List Str:=["program","thing"]
noncomputable def vU(B:Bi Ω.mg){Fq43:Ct}(Cq43:Cal Ω "number_of_steps" 4 1 Fq43){Fq36:Ct}(Cq36:Cal Ω "is_row" 5 2 Fq36):Bl Ω:=
 Bl.cons (Sm.ret (Ex.and (Bo.cons (Ex.call Cq36 (Ar.cons (Ex.var 0) (Ar.cons (Ex.var 1) Ar.nil))) (Bo.one (Ex.cmp .Eq (Ex.blt bz B.len_ (Ar.cons (Ex.var 1) Ar.nil)) (Ex.call Cq43 (Ar.cons (Ex.ix (Ex.var 0) (Ex.int 1)) Ar.nil))))))) Bl.nil
noncomputable abbrev cI:Stmt:=top 42
noncomputable abbrev kE:List Str:=["program","order"]
noncomputable abbrev lu:List Str:=["program","order"]
noncomputable def kj{Fq32:Ct}(Cq32:Cal Ω "is_order" 6 2 Fq32):Bl Ω:=
 Bl.cons (Sm.ite (Te.not (Te.val (Ex.call Cq32 (Ar.cons (Ex.var 0) (Ar.cons (Ex.var 1) Ar.nil))))) (Bl.cons Sm.never Bl.nil) Bl.nil) Bl.nil
noncomputable abbrev fQ:Stmt:=top 43
noncomputable abbrev uV:List Str:=["order","places","place","step"]
noncomputable abbrev uQ:List Str:=["order"]
section
variable (B : Bi Ω.mg)
noncomputable def qG(B:Bi Ω.mg):Bl Ω:=
 Bl.cons (Sm.ret (Ex.var 1)) Bl.nil
noncomputable def qQ:Bl Ω:=
 Bl.cons (Sm.for (Tg.tup [2,3]) (Itb.enm B.enumerate_ (Ex.var 0)) (Bl.cons (Sm.oput (Ex.var 1) (Ex.var 3) (Ex.var 2)) Bl.nil)) (qG B)
noncomputable def uE:Bl Ω:=
 Bl.cons (Sm.set 1 Ex.dnew) (qQ B)
end
noncomputable abbrev jz:Stmt:=top 44
noncomputable abbrev Gr:List Str:=["program","order","places","i","j","cells"]
noncomputable abbrev Gf:List Str:=["program","order"]
section
variable {Fq44 : Ct} (Cq44 : Cal Ω "pairs" 6 1 Fq44) {Fq48 : Ct} (Cq48 : Cal Ω "refuse_no_order" 7 2 Fq48) {Fq45 : Ct} (Cq45 : Cal Ω "places_of" 1 1 Fq45)
noncomputable def zm{Fq44:Ct}(Cq44:Cal Ω "pairs" 6 1 Fq44){Fq48:Ct}(Cq48:Cal Ω "refuse_no_order" 7 2 Fq48){Fq45:Ct}(Cq45:Cal Ω "places_of" 1 1 Fq45):Bl Ω:=
 Bl.cons (Sm.ret Ex.non) Bl.nil
noncomputable def wW:Bl Ω:=
 Bl.cons (Sm.forL (Tg.tup [3,4,5]) (Ex.call Cq44 (Ar.cons (Ex.var 0) Ar.nil)) (Bl.cons (Sm.ite (Te.cmp .Gt (Ex.oix (Ex.var 2) (Ex.var 3)) (Ex.oix (Ex.var 2) (Ex.var 4))) (Bl.cons (Sm.ret (Ex.tup (Ar.cons (Ex.var 3) (Ar.cons (Ex.var 4) Ar.nil)))) Bl.nil) Bl.nil) Bl.nil)) (zm Cq44 Cq48 Cq45)
noncomputable def yh:Bl Ω:=
 Bl.cons (Sm.set 2 (Ex.call Cq45 (Ar.cons (Ex.var 1) Ar.nil))) (wW Cq44 Cq48 Cq45)
noncomputable def Gb:Bl Ω:=
 Bl.cons (Sm.expr (Ex.call Cq48 (Ar.cons (Ex.var 0) (Ar.cons (Ex.var 1) Ar.nil)))) (yh Cq44 Cq48 Cq45)
end
noncomputable abbrev rO:Stmt:=top 45
noncomputable abbrev Ow:List Str:=["program","order","rest","exchanges","place","step","far"]
noncomputable abbrev NZ:List Str:=["program","order"]
section
variable (B : Bi Ω.mg) {Fq46 : Ct} (Cq46 : Cal Ω "plain" 5 1 Fq46) {Fq17 : Ct} (Cq17 : Cal Ω "broken" 8 2 Fq17)
noncomputable def zQ(B:Bi Ω.mg){Fq46:Ct}(Cq46:Cal Ω "plain" 5 1 Fq46){Fq17:Ct}(Cq17:Cal Ω "broken" 8 2 Fq17):Bl Ω:=
 Bl.cons (Sm.expr (Ex.m_pop (Ex.var 2) (Ex.var 6))) Bl.nil
noncomputable def zE:Bl Ω:=
 Bl.cons (Sm.expr (Ex.m_extend (Ex.var 3) (Ex.lrngD B.range_ B.list_ (Ex.bin .Sub (Ex.bin .Add (Ex.var 4) (Ex.var 6)) (Ex.int 1)) (Ex.bin .Sub (Ex.var 4) (Ex.int 1)) (Ex.neg (Ex.int 1))))) (zQ B Cq46 Cq17)
noncomputable def FQ:Bl Ω:=
 Bl.cons (Sm.set 6 (Ex.m_indexO (Ex.var 2) (Ex.var 5))) (zE B Cq46 Cq17)
noncomputable def Ja(B:Bi Ω.mg){Fq46:Ct}(Cq46:Cal Ω "plain" 5 1 Fq46){Fq17:Ct}(Cq17:Cal Ω "broken" 8 2 Fq17):Bl Ω:=
 Bl.cons (Sm.ret (Ex.var 3)) Bl.nil
noncomputable def G9:Bl Ω:=
 Bl.cons (Sm.for (Tg.tup [4,5]) (Itb.enm B.enumerate_ (Ex.var 1)) (FQ B Cq46 Cq17)) (Ja B Cq46 Cq17)
noncomputable def Hv:Bl Ω:=
 Bl.cons (Sm.set 3 (Ex.own Ar.nil)) (G9 B Cq46 Cq17)
noncomputable def Hk:Bl Ω:=
 Bl.cons (Sm.set 2 (Ex.call Cq46 (Ar.cons (Ex.var 0) Ar.nil))) (Hv B Cq46 Cq17)
noncomputable def Oq:Bl Ω:=
 Bl.cons (Sm.ite (Te.cmp .IsNot (Ex.call Cq17 (Ar.cons (Ex.var 0) (Ar.cons (Ex.var 1) Ar.nil))) Ex.non) (Bl.cons (Sm.ret Ex.non) Bl.nil) Bl.nil) (Hk B Cq46 Cq17)
end
noncomputable abbrev oW:Stmt:=top 47
noncomputable abbrev J3:List Str:=["_law_script","_law_k","_law_cell_here"]
noncomputable abbrev JR:List Str:=["_law_script","_law_k"]
section
variable (B : Bi Ω.mg)
noncomputable def Fp(B:Bi Ω.mg):Bl Ω:=
 Bl.cons (Sm.ret (Ex.bin .Mod (Ex.bin .Mult (Ex.var 2) (Ex.bin .Add (Ex.bin .Add (Ex.bin .Mod (Ex.var 2) (Ex.int 65519)) (Ex.var 1)) (Ex.int 2))) (Ex.int 2147483629))) Bl.nil
noncomputable def qy:Bl Ω:=
 Bl.cons (Sm.set 2 (Ex.bin .Mod (Ex.bin .Mult (Ex.bin .Add (Ex.bin .Add (Ex.bin .Mod (Ex.var 2) (Ex.int 2147483629)) (Ex.bin .Mult (Ex.int 6151) (Ex.var 1))) (Ex.int 1)) (Ex.int 48271)) (Ex.int 2147483647))) (Fp B)
noncomputable def qL:Bl Ω:=
 Bl.cons (Sm.ite (Te.and (Bt.cons (Te.cmp .Lt (Ex.var 1) (Ex.blt bz B.len_ (Ar.cons (Ex.var 0) Ar.nil))) (Bt.one (Te.cmp .Eq (Ex.bin .Mod (Ex.ix (Ex.var 0) (Ex.int 0)) (Ex.int 2)) (Ex.int 0))))) (Bl.cons (Sm.ret (Ex.blt Qn B.abs_ (Ar.cons (Ex.var 2) Ar.nil))) Bl.nil) Bl.nil) (qy B)
noncomputable def Gn:Bl Ω:=
 Bl.cons (Sm.ite (Te.cmp .Gt (Ex.blt bz B.len_ (Ar.cons (Ex.var 0) Ar.nil)) (Ex.int 0)) (Bl.cons (Sm.set 2 (Ex.ix (Ex.var 0) (Ex.bin .Mod (Ex.var 1) (Ex.blt bz B.len_ (Ar.cons (Ex.var 0) Ar.nil))))) Bl.nil) Bl.nil) (qL B)
noncomputable def Lz:Bl Ω:=
 Bl.cons (Sm.set 2 (Ex.int 7)) (Gn B)
end
noncomputable abbrev rW:Stmt:=top 48
noncomputable abbrev N7:List Str:=["_law_script","_law_k"]
noncomputable abbrev Ot:List Str:=["_law_script","_law_k"]
noncomputable def Nk{Fq1:Ct}(Cq1:Cal Ω "_law_cell" 1 2 Fq1):Bl Ω:=
 Bl.cons (Sm.ret (Ex.own (Ar.cons (Ex.call Cq1 (Ar.cons (Ex.var 0) (Ar.cons (Ex.var 1) Ar.nil))) (Ar.cons (Ex.var 1) (Ar.cons (Ex.var 0) Ar.nil))))) Bl.nil
noncomputable abbrev oZ:Stmt:=top 49
noncomputable abbrev KY:List Str:=["_law_pen_here","_law_many","_law_digit"]
noncomputable abbrev Ks:List Str:=["_law_pen_here","_law_many"]
section
variable {Fq1 : Ct} (Cq1 : Cal Ω "_law_cell" 1 2 Fq1)
noncomputable def uR{Fq1:Ct}(Cq1:Cal Ω "_law_cell" 1 2 Fq1):Bl Ω:=
 Bl.cons (Sm.setIx (Ex.var 0) (Ex.int 0) (Ex.call Cq1 (Ar.cons (Ex.ix (Ex.var 0) (Ex.int 2)) (Ar.cons (Ex.ix (Ex.var 0) (Ex.int 1)) Ar.nil)))) Bl.nil
noncomputable def Bk:Bl Ω:=
 Bl.cons (Sm.setIx (Ex.var 0) (Ex.int 1) (Ex.bin .Add (Ex.ix (Ex.var 0) (Ex.int 1)) (Ex.int 1))) (uR Cq1)
noncomputable def Ge{Fq1:Ct}(Cq1:Cal Ω "_law_cell" 1 2 Fq1):Bl Ω:=
 Bl.cons (Sm.ret (Ex.var 2)) Bl.nil
noncomputable def Ea:Bl Ω:=
 Bl.cons (Sm.ite (Te.cmp .Eq (Ex.ix (Ex.var 0) (Ex.int 0)) (Ex.int 0)) (Bk Cq1) Bl.nil) (Ge Cq1)
noncomputable def DR:Bl Ω:=
 Bl.cons (Sm.setIx (Ex.var 0) (Ex.int 0) (Ex.fdiv (Ex.ix (Ex.var 0) (Ex.int 0)) (Ex.var 1))) (Ea Cq1)
noncomputable def K8:Bl Ω:=
 Bl.cons (Sm.set 2 (Ex.bin .Mod (Ex.ix (Ex.var 0) (Ex.int 0)) (Ex.var 1))) (DR Cq1)
end
noncomputable abbrev pJ:Stmt:=top 50
noncomputable abbrev J9:List Str:=["_law_pen_here","_law_many","_law_wide","_law_found","_law_k"]
noncomputable abbrev Le:List Str:=["_law_pen_here","_law_many","_law_wide"]
section
variable (B : Bi Ω.mg) {Fq14 : Ct} (Cq14 : Cal Ω "_law_take" 2 2 Fq14)
noncomputable def DX(B:Bi Ω.mg){Fq14:Ct}(Cq14:Cal Ω "_law_take" 2 2 Fq14):Bl Ω:=
 Bl.cons (Sm.ret (Ex.typ bc B.tuple_ (Ar.cons (Ex.var 3) Ar.nil))) Bl.nil
noncomputable def El:Bl Ω:=
 Bl.cons (Sm.for (Tg.nm 4) (Itb.rng1 B.range_ (Ex.var 1)) (Bl.cons (Sm.expr (Ex.m_append (Ex.var 3) (Ex.ix (Ex.lst (Ar.cons (Ex.int 0) (Ar.cons (Ex.int 1) (Ar.cons (Ex.int 1) (Ar.cons (Ex.int 0) (Ar.cons (Ex.neg (Ex.int 1)) (Ar.cons (Ex.int 2) (Ar.cons (Ex.int 0) (Ar.cons (Ex.int 1) Ar.nil))))))))) (Ex.call Cq14 (Ar.cons (Ex.var 0) (Ar.cons (Ex.int 8) Ar.nil)))))) Bl.nil)) (DX B Cq14)
noncomputable def qp:Bl Ω:=
 Bl.cons (Sm.set 3 (Ex.own (Ar.cons (Ex.bin .Sub (Ex.call Cq14 (Ar.cons (Ex.var 0) (Ar.cons (Ex.bin .Add (Ex.bin .Mult (Ex.int 2) (Ex.var 2)) (Ex.int 1)) Ar.nil))) (Ex.var 2)) Ar.nil))) (El B Cq14)
noncomputable def Mh:Bl Ω:=
 Bl.cons (Sm.ite (Te.and (Bt.cons (Te.cmp .Eq (Ex.var 2) (Ex.int 1)) (Bt.one (Te.cmp .Eq (Ex.call Cq14 (Ar.cons (Ex.var 0) (Ar.cons (Ex.int 16) Ar.nil))) (Ex.int 9))))) (Bl.cons (Sm.ret (Ex.typ bc B.tuple_ (Ar.cons (Ex.comp ["_law_k","_law_pen_here"] [none,some 0] (Ex.bin .Sub (Ex.call Cq14 (Ar.cons (Ex.var 1) (Ar.cons (Ex.int 199) Ar.nil))) (Ex.int 99)) (Tg.nm 0) (Itb.rng1 B.range_ (Ex.bin .Add (Ex.var 1) (Ex.int 1))) Cd.no) Ar.nil))) Bl.nil) Bl.nil) (qp B Cq14)
end
noncomputable abbrev lZ:Stmt:=top 51
noncomputable abbrev Hu:List Str:=["_law_pen_here","_law_most","_law_loops_here","_law_room","_law_before","_law_k","_law_size","_law_low","_law_way","_law_none","_law_ahead","_law_stairs"]
noncomputable abbrev GP:List Str:=["_law_pen_here","_law_most"]
section
variable (B : Bi Ω.mg) {Fq14 : Ct} (Cq14 : Cal Ω "_law_take" 2 2 Fq14)
noncomputable def su(B:Bi Ω.mg){Fq14:Ct}(Cq14:Cal Ω "_law_take" 2 2 Fq14):Bl Ω:=
 Bl.cons (Sm.set 4 Ex.non) Bl.nil
noncomputable def rA:Bl Ω:=
 Bl.cons (Sm.set 6 (Ex.ix (Ex.var 4) (Ex.int 1))) (su B Cq14)
noncomputable def qW:Bl Ω:=
 Bl.cons (Sm.expr (Ex.m_append (Ex.var 2) (Ex.ix (Ex.var 11) (Ex.var 8)))) (rA B Cq14)
noncomputable def sZ:Bl Ω:=
 Bl.cons (Sm.expr (Ex.m_append (Ex.var 11) (Ex.tup (Ar.cons (Ex.typ bc B.tuple_ (Ar.cons (Ex.binL false .Add (Ex.lst (Ar.cons (Ex.int 0) Ar.nil)) (Ex.var 10)) Ar.nil)) (Ar.cons (Ex.typ bc B.tuple_ (Ar.cons (Ex.binL false .Add (Ex.lst (Ar.cons (Ex.blt vR B.sum_ (Ar.cons (Ex.var 4) Ar.nil)) Ar.nil)) (Ex.var 9)) Ar.nil)) Ar.nil))))) (qW B Cq14)
noncomputable def rK:Bl Ω:=
 Bl.cons (Sm.set 11 (Ex.own (Ar.cons (Ex.tup (Ar.cons (Ex.typ bc B.tuple_ (Ar.cons (Ex.binL false .Add (Ex.lst (Ar.cons (Ex.ix (Ex.var 4) (Ex.int 0)) Ar.nil)) (Ex.var 9)) Ar.nil)) (Ar.cons (Ex.typ bc B.tuple_ (Ar.cons (Ex.binL false .Add (Ex.lst (Ar.cons (Ex.int 1) Ar.nil)) (Ex.var 10)) Ar.nil)) Ar.nil))) Ar.nil))) (sZ B Cq14)
noncomputable def mD:Bl Ω:=
 Bl.cons (Sm.set 10 (Ex.binL true .Add (Ex.binL false .Mult (Ex.lst (Ar.cons (Ex.int 0) Ar.nil)) (Ex.bin .Sub (Ex.var 5) (Ex.int 1))) (Ex.lst (Ar.cons (Ex.int 1) Ar.nil)))) (rK B Cq14)
noncomputable def sW(B:Bi Ω.mg){Fq14:Ct}(Cq14:Cal Ω "_law_take" 2 2 Fq14):Bl Ω:=
 Bl.cons (Sm.set 4 Ex.non) Bl.nil
noncomputable def rG:Bl Ω:=
 Bl.cons (Sm.expr (Ex.m_append (Ex.var 2) (Ex.tup (Ar.cons (Ex.typ bc B.tuple_ (Ar.cons (Ex.binL false .Add (Ex.lst (Ar.cons (Ex.var 7) Ar.nil)) (Ex.var 10)) Ar.nil)) (Ar.cons (Ex.typ bc B.tuple_ (Ar.cons (Ex.binL false .Add (Ex.lst (Ar.cons (Ex.bin .Add (Ex.var 7) (Ex.var 6)) Ar.nil)) (Ex.var 10)) Ar.nil)) Ar.nil))))) (sW B Cq14)
noncomputable def rF:Bl Ω:=
 Bl.cons (Sm.setIx (Ex.var 10) (Ex.call Cq14 (Ar.cons (Ex.var 0) (Ar.cons (Ex.var 5) Ar.nil))) (Ex.ix (Ex.lst (Ar.cons (Ex.int 1) (Ar.cons (Ex.neg (Ex.int 1)) (Ar.cons (Ex.int 2) (Ar.cons (Ex.neg (Ex.int 2)) Ar.nil))))) (Ex.call Cq14 (Ar.cons (Ex.var 0) (Ar.cons (Ex.int 4) Ar.nil))))) (rG B Cq14)
noncomputable def il:Bl Ω:=
 Bl.cons (Sm.set 10 (Ex.binL true .Mult (Ex.lst (Ar.cons (Ex.int 0) Ar.nil)) (Ex.var 5))) (rF B Cq14)
noncomputable def tK(B:Bi Ω.mg){Fq14:Ct}(Cq14:Cal Ω "_law_take" 2 2 Fq14):Bl Ω:=
 Bl.cons (Sm.set 4 (Ex.tup (Ar.cons (Ex.var 7) (Ar.cons (Ex.var 6) Ar.nil)))) Bl.nil
noncomputable def gP:Bl Ω:=
 Bl.cons (Sm.expr (Ex.m_append (Ex.var 2) (Ex.tup (Ar.cons (Ex.typ bc B.tuple_ (Ar.cons (Ex.binL false .Add (Ex.lst (Ar.cons (Ex.var 7) Ar.nil)) (Ex.var 9)) Ar.nil)) (Ar.cons (Ex.typ bc B.tuple_ (Ar.cons (Ex.binL false .Add (Ex.lst (Ar.cons (Ex.bin .Add (Ex.var 7) (Ex.bin .Mult (Ex.var 6) (Ex.typ Us B.int_ (Ar.cons (Ex.or (Bo.cons (Ex.cmp .Lt (Ex.var 8) (Ex.int 7)) (Bo.one (Ex.cmp .Lt (Ex.var 7) (Ex.int 3))))) Ar.nil)))) Ar.nil)) (Ex.var 9)) Ar.nil)) Ar.nil))))) (tK B Cq14)
noncomputable def bQ(B:Bi Ω.mg){Fq14:Ct}(Cq14:Cal Ω "_law_take" 2 2 Fq14):Bl Ω:=
 Bl.cons (Sm.set 3 (Ex.fdiv (Ex.var 3) (Ex.var 6))) Bl.nil
noncomputable def rm:Bl Ω:=
 Bl.cons (Sm.ite (Te.and (Bt.cons (Te.cmp .Lt (Ex.var 8) (Ex.int 2)) (Bt.cons (Te.cmp .IsNot (Ex.var 4) Ex.non) (Bt.one (Te.cmp .LtE (Ex.ix (Ex.var 4) (Ex.int 1)) (Ex.var 3)))))) (mD B Cq14) (Bl.cons (Sm.ite (Te.and (Bt.cons (Te.cmp .Lt (Ex.var 8) (Ex.int 4)) (Bt.one (Te.cmp .Gt (Ex.var 5) (Ex.int 0))))) (il B Cq14) (gP B Cq14)) Bl.nil)) (bQ B Cq14)
noncomputable def sY:Bl Ω:=
 Bl.cons (Sm.set 9 (Ex.binL false .Mult (Ex.lst (Ar.cons (Ex.int 0) Ar.nil)) (Ex.var 5))) (rm B Cq14)
noncomputable def rT:Bl Ω:=
 Bl.cons (Sm.set 8 (Ex.call Cq14 (Ar.cons (Ex.var 0) (Ar.cons (Ex.int 8) Ar.nil)))) (sY B Cq14)
noncomputable def rN:Bl Ω:=
 Bl.cons (Sm.set 7 (Ex.bin .Sub (Ex.call Cq14 (Ar.cons (Ex.var 0) (Ar.cons (Ex.int 7) Ar.nil))) (Ex.int 3))) (rT B Cq14)
noncomputable def lQ:Bl Ω:=
 Bl.cons (Sm.set 6 (Ex.bin .Add (Ex.int 1) (Ex.call Cq14 (Ar.cons (Ex.var 0) (Ar.cons (Ex.blt Uw B.min_ (Ar.cons (Ex.int 4) (Ar.cons (Ex.var 3) Ar.nil))) Ar.nil))))) (rN B Cq14)
noncomputable def z7(B:Bi Ω.mg){Fq14:Ct}(Cq14:Cal Ω "_law_take" 2 2 Fq14):Bl Ω:=
 Bl.cons (Sm.ret (Ex.typ bc B.tuple_ (Ar.cons (Ex.var 2) Ar.nil))) Bl.nil
noncomputable def Ay:Bl Ω:=
 Bl.cons (Sm.for (Tg.nm 5) (Itb.rng1 B.range_ (Ex.bin .Add (Ex.int 1) (Ex.call Cq14 (Ar.cons (Ex.var 0) (Ar.cons (Ex.int 3) Ar.nil))))) (Bl.fza (lQ B Cq14))) (z7 B Cq14)
noncomputable def Az:Bl Ω:=
 Bl.cons (Sm.set 4 Ex.non) (Ay B Cq14)
noncomputable def BW:Bl Ω:=
 Bl.cons (Sm.set 3 (Ex.var 1)) (Az B Cq14)
noncomputable def Ha:Bl Ω:=
 Bl.cons (Sm.set 2 (Ex.own Ar.nil)) (BW B Cq14)
end
noncomputable abbrev oX:Stmt:=top 52
noncomputable abbrev KQ:List Str:=["_law_pen_here","_law_widths","_law_many","_law_table","_law_place","_law_start","_law_parts","_law_k","_law_other","_law_way","_law_factor"]
noncomputable abbrev LR:List Str:=["_law_pen_here","_law_widths","_law_many"]
section
variable (B : Bi Ω.mg) {Fq14 : Ct} (Cq14 : Cal Ω "_law_take" 2 2 Fq14) {Fq5 : Ct} (Cq5 : Cal Ω "_law_form" 3 3 Fq5)
noncomputable def j8(B:Bi Ω.mg){Fq14:Ct}(Cq14:Cal Ω "_law_take" 2 2 Fq14){Fq5:Ct}(Cq5:Cal Ω "_law_form" 3 3 Fq5):Bl Ω:=
 Bl.cons (Sm.expr (Ex.m_append (Ex.var 6) (Ex.tup (Ar.cons (Ex.var 10) (Ar.cons (Ex.var 8) (Ar.cons (Ex.typ bc B.tuple_ (Ar.cons (Ex.comp ["_law_j","_law_pen_here","_law_many"] [none,some 0,some 2] (Ex.call Cq5 (Ar.cons (Ex.var 1) (Ar.cons (Ex.var 2) (Ar.cons (Ex.int 1) Ar.nil)))) (Tg.nm 0) (Itb.rng1 B.range_ (Ex.ix (Ex.var 1) (Ex.var 8))) Cd.no) Ar.nil)) Ar.nil)))))) Bl.nil
noncomputable def vo:Bl Ω:=
 Bl.cons (Sm.ite (Te.cmp .Eq (Ex.var 9) (Ex.int 7)) (Bl.cons (Sm.set 10 (Ex.bin .Add (Ex.bin .Sub (Ex.call Cq14 (Ar.cons (Ex.var 0) (Ar.cons (Ex.bin .Sub (Ex.bin .Mult (Ex.int 2) (Ex.bin .Pow (Ex.int 10) (Ex.int 30))) (Ex.int 1)) Ar.nil))) (Ex.bin .Pow (Ex.int 10) (Ex.int 30))) (Ex.int 1))) Bl.nil) Bl.nil) (j8 B Cq14 Cq5)
noncomputable def uF:Bl Ω:=
 Bl.cons (Sm.set 10 (Ex.ix (Ex.lst (Ar.cons (Ex.int 1) (Ar.cons (Ex.neg (Ex.int 1)) (Ar.cons (Ex.int 2) (Ar.cons (Ex.int 3) (Ar.cons (Ex.int 0) (Ar.cons (Ex.int 1) (Ar.cons (Ex.neg (Ex.int 5)) (Ar.cons (Ex.int 0) Ar.nil))))))))) (Ex.var 9))) (vo B Cq14 Cq5)
noncomputable def vA:Bl Ω:=
 Bl.cons (Sm.set 9 (Ex.call Cq14 (Ar.cons (Ex.var 0) (Ar.cons (Ex.int 8) Ar.nil)))) (uF B Cq14 Cq5)
noncomputable def nT:Bl Ω:=
 Bl.cons (Sm.set 8 (Ex.call Cq14 (Ar.cons (Ex.var 0) (Ar.cons (Ex.blt bz B.len_ (Ar.cons (Ex.var 1) Ar.nil)) Ar.nil)))) (vA B Cq14 Cq5)
noncomputable def Ep(B:Bi Ω.mg){Fq14:Ct}(Cq14:Cal Ω "_law_take" 2 2 Fq14){Fq5:Ct}(Cq5:Cal Ω "_law_form" 3 3 Fq5):Bl Ω:=
 Bl.cons (Sm.ret (Ex.tup (Ar.cons (Ex.var 3) (Ar.cons (Ex.var 4) (Ar.cons (Ex.var 5) (Ar.cons (Ex.typ bc B.tuple_ (Ar.cons (Ex.var 6) Ar.nil)) Ar.nil)))))) Bl.nil
noncomputable def Ef:Bl Ω:=
 Bl.cons (Sm.for (Tg.nm 7) (Itb.rng1 B.range_ (Ex.call Cq14 (Ar.cons (Ex.var 0) (Ar.cons (Ex.int 4) Ar.nil)))) (nT B Cq14 Cq5)) (Ep B Cq14 Cq5)
noncomputable def Ew:Bl Ω:=
 Bl.cons (Sm.set 6 (Ex.own Ar.nil)) (Ef B Cq14 Cq5)
noncomputable def Gv:Bl Ω:=
 Bl.cons (Sm.set 5 (Ex.call Cq5 (Ar.cons (Ex.var 0) (Ar.cons (Ex.var 2) (Ar.cons (Ex.ix (Ex.lst (Ar.cons (Ex.int 1) (Ar.cons (Ex.int 9) (Ar.cons (Ex.bin .Sub (Ex.bin .Pow (Ex.int 10) (Ex.int 30)) (Ex.int 1)) Ar.nil)))) (Ex.call Cq14 (Ar.cons (Ex.var 0) (Ar.cons (Ex.int 3) Ar.nil)))) Ar.nil))))) (Ew B Cq14 Cq5)
noncomputable def FW:Bl Ω:=
 Bl.cons (Sm.set 4 (Ex.typ bc B.tuple_ (Ar.cons (Ex.comp ["_law_k","_law_pen_here","_law_many"] [none,some 0,some 2] (Ex.call Cq5 (Ar.cons (Ex.var 1) (Ar.cons (Ex.var 2) (Ar.cons (Ex.int 1) Ar.nil)))) (Tg.nm 0) (Itb.rng1 B.range_ (Ex.ix (Ex.var 1) (Ex.var 3))) Cd.no) Ar.nil))) (Gv B Cq14 Cq5)
noncomputable def Lq:Bl Ω:=
 Bl.cons (Sm.set 3 (Ex.call Cq14 (Ar.cons (Ex.var 0) (Ar.cons (Ex.blt bz B.len_ (Ar.cons (Ex.var 1) Ar.nil)) Ar.nil)))) (FW B Cq14 Cq5)
end
noncomputable abbrev iM:Stmt:=top 53
noncomputable abbrev Al:List Str:=["_law_pen_here","_law_most","_law_widths","_law_many","_law_nests","_law_k","_law_deeds","_law_loops_here"]
noncomputable abbrev zW:List Str:=["_law_pen_here","_law_most"]
section
variable (B : Bi Ω.mg) {Fq14 : Ct} (Cq14 : Cal Ω "_law_take" 2 2 Fq14) {Fq6 : Ct} (Cq6 : Cal Ω "_law_loops" 3 2 Fq6) {Fq4 : Ct} (Cq4 : Cal Ω "_law_deed" 4 3 Fq4)
noncomputable def oJ(B:Bi Ω.mg){Fq14:Ct}(Cq14:Cal Ω "_law_take" 2 2 Fq14){Fq6:Ct}(Cq6:Cal Ω "_law_loops" 3 2 Fq6){Fq4:Ct}(Cq4:Cal Ω "_law_deed" 4 3 Fq4):Bl Ω:=
 Bl.cons (Sm.expr (Ex.m_append (Ex.var 4) (Ex.tup (Ar.cons (Ex.var 7) (Ar.cons (Ex.typ bc B.tuple_ (Ar.cons (Ex.comp ["_law_j","_law_pen_here","_law_widths","_law_loops_here"] [none,some 0,some 2,some 7] (Ex.call Cq4 (Ar.cons (Ex.var 1) (Ar.cons (Ex.var 2) (Ar.cons (Ex.blt bz B.len_ (Ar.cons (Ex.var 3) Ar.nil)) Ar.nil)))) (Tg.nm 0) (Itb.rng1 B.range_ (Ex.var 6)) Cd.no) Ar.nil)) Ar.nil))))) Bl.nil
noncomputable def pF:Bl Ω:=
 Bl.cons (Sm.set 7 (Ex.call Cq6 (Ar.cons (Ex.var 0) (Ar.cons (Ex.blt Uq B.max_ (Ar.cons (Ex.int 1) (Ar.cons (Ex.fdiv (Ex.fdiv (Ex.var 1) (Ex.var 3)) (Ex.var 6)) Ar.nil))) Ar.nil)))) (oJ B Cq14 Cq6 Cq4)
noncomputable def jg:Bl Ω:=
 Bl.cons (Sm.set 6 (Ex.bin .Add (Ex.int 1) (Ex.call Cq14 (Ar.cons (Ex.var 0) (Ar.cons (Ex.int 4) Ar.nil))))) (pF B Cq14 Cq6 Cq4)
noncomputable def uM(B:Bi Ω.mg){Fq14:Ct}(Cq14:Cal Ω "_law_take" 2 2 Fq14){Fq6:Ct}(Cq6:Cal Ω "_law_loops" 3 2 Fq6){Fq4:Ct}(Cq4:Cal Ω "_law_deed" 4 3 Fq4):Bl Ω:=
 Bl.cons (Sm.ret (Ex.tup (Ar.cons (Ex.var 2) (Ar.cons (Ex.typ bc B.tuple_ (Ar.cons (Ex.var 4) Ar.nil)) Ar.nil)))) Bl.nil
noncomputable def vB:Bl Ω:=
 Bl.cons (Sm.for (Tg.nm 5) (Itb.rng1 B.range_ (Ex.var 3)) (jg B Cq14 Cq6 Cq4)) (uM B Cq14 Cq6 Cq4)
noncomputable def uI:Bl Ω:=
 Bl.cons (Sm.set 4 (Ex.own Ar.nil)) (vB B Cq14 Cq6 Cq4)
noncomputable def uG:Bl Ω:=
 Bl.cons (Sm.set 3 (Ex.bin .Add (Ex.int 1) (Ex.call Cq14 (Ar.cons (Ex.var 0) (Ar.cons (Ex.int 3) Ar.nil))))) (uI B Cq14 Cq6 Cq4)
noncomputable def zY:Bl Ω:=
 Bl.cons (Sm.set 2 (Ex.typ bc B.tuple_ (Ar.cons (Ex.comp ["_law_k","_law_pen_here"] [none,some 0] (Ex.bin .Add (Ex.int 1) (Ex.call Cq14 (Ar.cons (Ex.var 1) (Ar.cons (Ex.int 2) Ar.nil)))) (Tg.nm 0) (Itb.rng1 B.range_ (Ex.bin .Add (Ex.int 1) (Ex.call Cq14 (Ar.cons (Ex.var 0) (Ar.cons (Ex.int 3) Ar.nil))))) Cd.no) Ar.nil))) (uG B Cq14 Cq6 Cq4)
end
noncomputable abbrev yN:Stmt:=top 54
noncomputable abbrev PT:List Str:=["_law_form_here","_law_counts_here"]
noncomputable abbrev QR:List Str:=["_law_form_here","_law_counts_here"]
noncomputable def RD(B:Bi Ω.mg):Bl Ω:=
 Bl.cons (Sm.ret (Ex.bin .Add (Ex.ix (Ex.var 0) (Ex.int 0)) (Ex.blt vR B.sum_ (Ar.cons (Ex.comp ["_law_k","_law_form_here","_law_counts_here"] [none,some 0,some 1] (Ex.bin .Mult (Ex.ix (Ex.var 1) (Ex.bin .Add (Ex.int 1) (Ex.var 0))) (Ex.ix (Ex.var 2) (Ex.var 0))) (Tg.nm 0) (Itb.rng1 B.range_ (Ex.blt bz B.len_ (Ar.cons (Ex.var 1) Ar.nil))) Cd.no) Ar.nil)))) Bl.nil
noncomputable abbrev jy:Stmt:=top 55
noncomputable abbrev En:List Str:=["_law_loops_here","_law_found","_law_low","_law_high","_law_longer","_law_counts_here","_law_count"]
noncomputable abbrev Ek:List Str:=["_law_loops_here"]
section
variable (B : Bi Ω.mg) {Fq0 : Ct} (Cq0 : Cal Ω "_law_at" 1 2 Fq0)
noncomputable def qm(B:Bi Ω.mg){Fq0:Ct}(Cq0:Cal Ω "_law_at" 1 2 Fq0):Bl Ω:=
 Bl.cons (Sm.set 1 (Ex.var 4)) Bl.nil
noncomputable def pO:Bl Ω:=
 Bl.cons (Sm.forL (Tg.nm 5) (Ex.var 1) (Bl.cons (Sm.for (Tg.nm 6) (Itb.rng2 B.range_ (Ex.call Cq0 (Ar.cons (Ex.var 2) (Ar.cons (Ex.var 5) Ar.nil))) (Ex.call Cq0 (Ar.cons (Ex.var 3) (Ar.cons (Ex.var 5) Ar.nil)))) (Bl.cons (Sm.expr (Ex.m_append (Ex.var 4) (Ex.bin .Add (Ex.var 5) (Ex.tup (Ar.cons (Ex.var 6) Ar.nil))))) Bl.nil)) Bl.nil)) (qm B Cq0)
noncomputable def uH:Bl Ω:=
 Bl.cons (Sm.set 4 (Ex.own Ar.nil)) (pO B Cq0)
noncomputable def yK(B:Bi Ω.mg){Fq0:Ct}(Cq0:Cal Ω "_law_at" 1 2 Fq0):Bl Ω:=
 Bl.cons (Sm.ret (Ex.var 1)) Bl.nil
noncomputable def v9:Bl Ω:=
 Bl.cons (Sm.forL (Tg.tup [2,3]) (Ex.var 0) (Bl.fzl (uH B Cq0))) (yK B Cq0)
noncomputable def Eu:Bl Ω:=
 Bl.cons (Sm.set 1 (Ex.lst (Ar.cons (Ex.tup Ar.nil) Ar.nil))) (v9 B Cq0)
end
noncomputable abbrev oO:Stmt:=top 56
noncomputable abbrev KZ:List Str:=["_law_table","_law_place","_law_counts_here"]
noncomputable abbrev J6:List Str:=["_law_table","_law_place","_law_counts_here"]
noncomputable def Lw(B:Bi Ω.mg){Fq0:Ct}(Cq0:Cal Ω "_law_at" 1 2 Fq0):Bl Ω:=
 Bl.cons (Sm.ret (Ex.tup (Ar.cons (Ex.var 0) (Ar.cons (Ex.typ bc B.tuple_ (Ar.cons (Ex.comp ["_law_form_here","_law_counts_here"] [none,some 2] (Ex.call Cq0 (Ar.cons (Ex.var 0) (Ar.cons (Ex.var 1) Ar.nil))) (Tg.nm 0) (Itb.seq (Ex.var 1)) Cd.no) Ar.nil)) Ar.nil)))) Bl.nil
noncomputable abbrev lG:Stmt:=top 57
noncomputable abbrev HD:List Str:=["_law_program_here","_law_steps_here","_law_loops_here","_law_deeds","_law_counts_here","_law_table","_law_place","_law_start","_law_parts","_law_some"]
noncomputable abbrev HJ:List Str:=["_law_program_here"]
section
variable {Fq0 : Ct} (Cq0 : Cal Ω "_law_at" 1 2 Fq0) {Fq3 : Ct} (Cq3 : Cal Ω "_law_counts" 2 1 Fq3) {Fq12 : Ct} (Cq12 : Cal Ω "_law_spot" 2 3 Fq12)
noncomputable def rJ{Fq0:Ct}(Cq0:Cal Ω "_law_at" 1 2 Fq0){Fq3:Ct}(Cq3:Cal Ω "_law_counts" 2 1 Fq3){Fq12:Ct}(Cq12:Cal Ω "_law_spot" 2 3 Fq12):Bl Ω:=
 Bl.cons (Sm.expr (Ex.m_append (Ex.var 1) (Ex.tup (Ar.cons (Ex.call Cq12 (Ar.cons (Ex.var 5) (Ar.cons (Ex.var 6) (Ar.cons (Ex.var 4) Ar.nil)))) (Ar.cons (Ex.call Cq0 (Ar.cons (Ex.var 7) (Ar.cons (Ex.var 4) Ar.nil))) (Ar.cons (Ex.var 9) Ar.nil)))))) Bl.nil
noncomputable def yq:Bl Ω:=
 Bl.cons (Sm.setC 9 ["_law_factor","_law_other","_law_there","_law_counts_here"] [none,none,none,some 4] (Ex.tup (Ar.cons (Ex.var 0) (Ar.cons (Ex.call Cq12 (Ar.cons (Ex.var 1) (Ar.cons (Ex.var 2) (Ar.cons (Ex.var 3) Ar.nil)))) Ar.nil))) (Tg.tup [0,1,2]) (Itb.seq (Ex.var 8)) Cd.no) (rJ Cq0 Cq3 Cq12)
noncomputable def Ao{Fq0:Ct}(Cq0:Cal Ω "_law_at" 1 2 Fq0){Fq3:Ct}(Cq3:Cal Ω "_law_counts" 2 1 Fq3){Fq12:Ct}(Cq12:Cal Ω "_law_spot" 2 3 Fq12):Bl Ω:=
 Bl.cons (Sm.ret (Ex.var 1)) Bl.nil
noncomputable def Ax:Bl Ω:=
 Bl.cons (Sm.forL (Tg.tup [2,3]) (Ex.ix (Ex.var 0) (Ex.int 1)) (Bl.cons (Sm.forL (Tg.nm 4) (Ex.call Cq3 (Ar.cons (Ex.var 2) Ar.nil)) (Bl.cons (Sm.forL (Tg.tup [5,6,7,8]) (Ex.var 3) (yq Cq0 Cq3 Cq12)) Bl.nil)) Bl.nil)) (Ao Cq0 Cq3 Cq12)
noncomputable def Jk:Bl Ω:=
 Bl.cons (Sm.set 1 (Ex.own Ar.nil)) (Ax Cq0 Cq3 Cq12)
end
noncomputable abbrev lU:Stmt:=top 58
noncomputable abbrev Jw:List Str:=["_law_pen_here","_law_many","_law_found","_law_t"]
noncomputable abbrev Ir:List Str:=["_law_pen_here","_law_many"]
section
variable (B : Bi Ω.mg) {Fq14 : Ct} (Cq14 : Cal Ω "_law_take" 2 2 Fq14)
noncomputable def Ag(B:Bi Ω.mg){Fq14:Ct}(Cq14:Cal Ω "_law_take" 2 2 Fq14):Bl Ω:=
 Bl.cons (Sm.ret (Ex.var 2)) Bl.nil
noncomputable def Bv:Bl Ω:=
 Bl.cons (Sm.for (Tg.nm 3) (Itb.rng1 B.range_ (Ex.var 1)) (Bl.cons (Sm.expr (Ex.m_insert (Ex.var 2) (Ex.call Cq14 (Ar.cons (Ex.var 0) (Ar.cons (Ex.bin .Add (Ex.blt bz B.len_ (Ar.cons (Ex.var 2) Ar.nil)) (Ex.int 1)) Ar.nil))) (Ex.var 3))) Bl.nil)) (Ag B Cq14)
noncomputable def Hq:Bl Ω:=
 Bl.cons (Sm.set 2 (Ex.own Ar.nil)) (Bv B Cq14)
end
noncomputable abbrev lV:Stmt:=top 59
noncomputable abbrev IK:List Str:=["_law_one","_law_other"]
noncomputable abbrev GX:List Str:=["_law_one","_law_other"]
noncomputable def Aj:Bl Ω:=
 Bl.cons (Sm.ret (Ex.cmp .In (Ex.ix (Ex.var 1) (Ex.int 0)) (Ex.comp ["_law_factor","_law_spot_here"] [none,none] (Ex.var 1) (Tg.tup [0,1]) (Itb.seq (Ex.ix (Ex.var 0) (Ex.int 2))) Cd.no))) Bl.nil
noncomputable def Jx:Bl Ω:=
 Bl.cons (Sm.ite (Te.or (Bt.cons (Te.cmp .Eq (Ex.ix (Ex.var 0) (Ex.int 0)) (Ex.ix (Ex.var 1) (Ex.int 0))) (Bt.one (Te.cmp .In (Ex.ix (Ex.var 0) (Ex.int 0)) (Ex.comp ["_law_factor","_law_spot_here"] [none,none] (Ex.var 1) (Tg.tup [0,1]) (Itb.seq (Ex.ix (Ex.var 1) (Ex.int 2))) Cd.no))))) (Bl.cons (Sm.ret (Ex.bl true)) Bl.nil) Bl.nil) (Aj)
noncomputable abbrev jO:Stmt:=top 60
noncomputable abbrev Gm:List Str:=["_law_pen_here","_law_steps_here","_law_order_here","_law_left","_law_at_here"]
noncomputable abbrev Gs:List Str:=["_law_pen_here","_law_steps_here"]
section
variable (B : Bi Ω.mg) {Fq14 : Ct} (Cq14 : Cal Ω "_law_take" 2 2 Fq14) {Fq15 : Ct} (Cq15 : Cal Ω "_law_touch" 1 2 Fq15)
noncomputable def pU(B:Bi Ω.mg){Fq14:Ct}(Cq14:Cal Ω "_law_take" 2 2 Fq14){Fq15:Ct}(Cq15:Cal Ω "_law_touch" 1 2 Fq15):Bl Ω:=
 Bl.cons (Sm.expr (Ex.m_append (Ex.var 2) (Ex.m_pop (Ex.var 3) (Ex.var 4)))) Bl.nil
noncomputable def qR:Bl Ω:=
 Bl.cons (Sm.while (Te.val (Ex.blt U5 B.any_ (Ar.cons (Ex.comp ["_law_t","_law_steps_here","_law_left","_law_at_here"] [none,some 1,some 3,some 4] (Ex.call Cq15 (Ar.cons (Ex.ix (Ex.var 1) (Ex.var 0)) (Ar.cons (Ex.ix (Ex.var 1) (Ex.ix (Ex.var 2) (Ex.var 3))) Ar.nil))) (Tg.nm 0) (Itb.seq (Ex.sl (Ex.var 3) Po.no (Po.so (Ex.var 4)))) Cd.no) Ar.nil))) (Bl.cons (Sm.set 4 (Ex.call Cq14 (Ar.cons (Ex.var 0) (Ar.cons (Ex.var 4) Ar.nil)))) Bl.nil)) (pU B Cq14 Cq15)
noncomputable def vJ:Bl Ω:=
 Bl.cons (Sm.set 4 (Ex.call Cq14 (Ar.cons (Ex.var 0) (Ar.cons (Ex.blt bz B.len_ (Ar.cons (Ex.var 3) Ar.nil)) Ar.nil)))) (qR B Cq14 Cq15)
noncomputable def wU(B:Bi Ω.mg){Fq14:Ct}(Cq14:Cal Ω "_law_take" 2 2 Fq14){Fq15:Ct}(Cq15:Cal Ω "_law_touch" 1 2 Fq15):Bl Ω:=
 Bl.cons (Sm.ret (Ex.var 2)) Bl.nil
noncomputable def zy:Bl Ω:=
 Bl.cons (Sm.while (Te.neV (Ex.var 3) (Ex.lst Ar.nil)) (vJ B Cq14 Cq15)) (wU B Cq14 Cq15)
noncomputable def wJ:Bl Ω:=
 Bl.cons (Sm.set 3 (Ex.lrng B.range_ B.list_ (Ex.blt bz B.len_ (Ar.cons (Ex.var 1) Ar.nil)))) (zy B Cq14 Cq15)
noncomputable def Eb:Bl Ω:=
 Bl.cons (Sm.set 2 (Ex.own Ar.nil)) (wJ B Cq14 Cq15)
end
noncomputable abbrev jA:Stmt:=top 61
noncomputable abbrev Fg:List Str:=["_law_order_here","_law_many","_law_at_here"]
noncomputable abbrev Gu:List Str:=["_law_order_here"]
section
variable (B : Bi Ω.mg)
noncomputable def zV(B:Bi Ω.mg):Bl Ω:=
 Bl.cons (Sm.ret (Ex.var 1)) Bl.nil
noncomputable def zg:Bl Ω:=
 Bl.cons (Sm.for (Tg.nm 2) (Itb.rng1 B.range_ (Ex.blt bz B.len_ (Ar.cons (Ex.var 0) Ar.nil))) (Bl.cons (Sm.set 1 (Ex.bin .Add (Ex.var 1) (Ex.blt bz B.len_ (Ar.cons (Ex.comp ["_law_t","_law_order_here","_law_at_here"] [none,some 0,some 2] (Ex.var 0) (Tg.nm 0) (Itb.seq (Ex.sl (Ex.var 0) (Po.so (Ex.bin .Add (Ex.var 2) (Ex.int 1))) Po.no)) (Cd.so (Te.cmp .Lt (Ex.var 0) (Ex.ix (Ex.var 1) (Ex.var 2))))) Ar.nil)))) Bl.nil)) (zV B)
noncomputable def Fi:Bl Ω:=
 Bl.cons (Sm.set 1 (Ex.int 0)) (zg B)
end
noncomputable abbrev iD:Stmt:=top 62
noncomputable abbrev BR:List Str:=["_law_steps_here","_law_places","_law_now","_law_place"]
noncomputable abbrev Bu:List Str:=["_law_steps_here","_law_places"]
section
variable (B : Bi Ω.mg) {Fq15 : Ct} (Cq15 : Cal Ω "_law_touch" 1 2 Fq15)
noncomputable def pA(B:Bi Ω.mg){Fq15:Ct}(Cq15:Cal Ω "_law_touch" 1 2 Fq15):Bl Ω:=
 Bl.cons (Sm.set 2 (Ex.bin .Add (Ex.bin .Add (Ex.sl (Ex.var 2) Po.no (Po.so (Ex.var 3))) (Ex.lst (Ar.cons (Ex.ix (Ex.var 2) (Ex.bin .Add (Ex.var 3) (Ex.int 1))) (Ar.cons (Ex.ix (Ex.var 2) (Ex.var 3)) Ar.nil)))) (Ex.sl (Ex.var 2) (Po.so (Ex.bin .Add (Ex.var 3) (Ex.int 2))) Po.no))) Bl.nil
noncomputable def oF:Bl Ω:=
 Bl.cons (Sm.ite (Te.val (Ex.call Cq15 (Ar.cons (Ex.ix (Ex.var 0) (Ex.ix (Ex.var 2) (Ex.var 3))) (Ar.cons (Ex.ix (Ex.var 0) (Ex.ix (Ex.var 2) (Ex.bin .Add (Ex.var 3) (Ex.int 1)))) Ar.nil)))) (Bl.cons (Sm.ret Ex.non) Bl.nil) Bl.nil) (pA B Cq15)
noncomputable def rn:Bl Ω:=
 Bl.cons (Sm.ite (Te.or (Bt.cons (Te.not (Te.val (Ex.isi B.isinstance_ (Ex.var 3) .int B.int_))) (Bt.cons (Te.val (Ex.isi B.isinstance_ (Ex.var 3) .bool B.bool_)) (Bt.one (Te.not (Te.ch2 (Ex.int 0) .LtE (Ex.var 3) .Lt (Ex.bin .Sub (Ex.blt bz B.len_ (Ar.cons (Ex.var 2) Ar.nil)) (Ex.int 1)))))))) (Bl.cons (Sm.ret Ex.non) Bl.nil) Bl.nil) (oF B Cq15)
noncomputable def vp(B:Bi Ω.mg){Fq15:Ct}(Cq15:Cal Ω "_law_touch" 1 2 Fq15):Bl Ω:=
 Bl.cons (Sm.ret (Ex.var 2)) Bl.nil
noncomputable def uD:Bl Ω:=
 Bl.cons (Sm.forL (Tg.nm 3) (Ex.var 1) (rn B Cq15)) (vp B Cq15)
noncomputable def Cg:Bl Ω:=
 Bl.cons (Sm.set 2 (Ex.lrng B.range_ B.list_ (Ex.blt bz B.len_ (Ar.cons (Ex.var 0) Ar.nil)))) (uD B Cq15)
end
noncomputable abbrev lC:Stmt:=top 63
noncomputable abbrev Gy:List Str:=["_law_program_here","_law_steps_here","_law_order_here","_law_found","_law_kept"]
noncomputable abbrev Jz:List Str:=["_law_program_here","_law_steps_here","_law_order_here"]
section
variable (B : Bi Ω.mg) {Fq17 : Ct} (Cq17 : Cal Ω "broken" 8 2 Fq17) {Fq42 : Ct} (Cq42 : Cal Ω "led" 9 2 Fq42) {Fq16 : Ct} (Cq16 : Cal Ω "_law_turned" 1 1 Fq16) {Fq2 : Ct} (Cq2 : Cal Ω "_law_come_to" 2 2 Fq2)
noncomputable def BJ(B:Bi Ω.mg){Fq17:Ct}(Cq17:Cal Ω "broken" 8 2 Fq17){Fq42:Ct}(Cq42:Cal Ω "led" 9 2 Fq42){Fq16:Ct}(Cq16:Cal Ω "_law_turned" 1 1 Fq16){Fq2:Ct}(Cq2:Cal Ω "_law_come_to" 2 2 Fq2):Bl Ω:=
 Bl.cons (Sm.ret (Ex.cmp .Eq (Ex.call Cq42 (Ar.cons (Ex.var 0) (Ar.cons (Ex.var 2) Ar.nil))) (Ex.var 4))) Bl.nil
noncomputable def z8:Bl Ω:=
 Bl.cons (Sm.expr (Ex.m_append (Ex.var 3) (Ex.neg (Ex.int 1)))) (BJ B Cq17 Cq42 Cq16 Cq2)
noncomputable def Am:Bl Ω:=
 Bl.cons (Sm.set 4 (Ex.typ Q5 B.list_ (Ar.cons (Ex.var 3) Ar.nil))) (z8 B Cq17 Cq42 Cq16 Cq2)
noncomputable def By:Bl Ω:=
 Bl.cons (Sm.ite (Te.or (Bt.cons (Te.not (Te.val (Ex.isi B.isinstance_ (Ex.var 3) .list B.list_))) (Bt.cons (Te.cmp .NotEq (Ex.blt bz B.len_ (Ar.cons (Ex.var 3) Ar.nil)) (Ex.call Cq16 (Ar.cons (Ex.var 2) Ar.nil))) (Bt.one (Te.cmp .NotEq (Ex.call Cq2 (Ar.cons (Ex.var 1) (Ar.cons (Ex.var 3) Ar.nil))) (Ex.var 2)))))) (Bl.cons (Sm.ret (Ex.bl false)) Bl.nil) Bl.nil) (Am B Cq17 Cq42 Cq16 Cq2)
noncomputable def Av:Bl Ω:=
 Bl.cons (Sm.ite (Te.cmp .IsNot (Ex.call Cq17 (Ar.cons (Ex.var 0) (Ar.cons (Ex.var 2) Ar.nil))) Ex.non) (Bl.cons (Sm.ret (Ex.cmp .Is (Ex.var 3) Ex.non)) Bl.nil) Bl.nil) (By B Cq17 Cq42 Cq16 Cq2)
noncomputable def Hz:Bl Ω:=
 Bl.cons (Sm.set 3 (Ex.call Cq42 (Ar.cons (Ex.var 0) (Ar.cons (Ex.var 2) Ar.nil)))) (Av B Cq17 Cq42 Cq16 Cq2)
end
noncomputable abbrev jY:Stmt:=top 64
noncomputable abbrev R5:List Str:=["_law_script","_law_pen_here","_law_drawn","_law_steps_here","_law_program_here","_law_some","_law_order_here","_law_handed"]
noncomputable abbrev Mt:List Str:=["_law_script"]
section
variable (B : Bi Ω.mg) {Fq47 : Ct} (Cq47 : Cal Ω "program_of" 10 2 Fq47) {Fq8 : Ct} (Cq8 : Cal Ω "_law_pen" 2 2 Fq8) {Fq10 : Ct} (Cq10 : Cal Ω "_law_program" 5 2 Fq10) {Fq13 : Ct} (Cq13 : Cal Ω "_law_steps" 3 1 Fq13) {Fq7 : Ct} (Cq7 : Cal Ω "_law_order" 3 2 Fq7) {Fq9 : Ct} (Cq9 : Cal Ω "_law_picked" 3 2 Fq9) {Fq11 : Ct} (Cq11 : Cal Ω "_law_right" 10 3 Fq11)
noncomputable def Ff(B:Bi Ω.mg){Fq47:Ct}(Cq47:Cal Ω "program_of" 10 2 Fq47){Fq8:Ct}(Cq8:Cal Ω "_law_pen" 2 2 Fq8){Fq10:Ct}(Cq10:Cal Ω "_law_program" 5 2 Fq10){Fq13:Ct}(Cq13:Cal Ω "_law_steps" 3 1 Fq13){Fq7:Ct}(Cq7:Cal Ω "_law_order" 3 2 Fq7){Fq9:Ct}(Cq9:Cal Ω "_law_picked" 3 2 Fq9){Fq11:Ct}(Cq11:Cal Ω "_law_right" 10 3 Fq11):Bl Ω:=
 Bl.cons (Sm.ite (Te.or (Bt.cons (Te.not (Te.val (Ex.call Cq11 (Ar.cons (Ex.var 4) (Ar.cons (Ex.var 3) (Ar.cons (Ex.var 7) Ar.nil)))))) (Bt.one (Te.cmp .NotEq (Ex.var 7) (Ex.var 6))))) (Bl.cons (Sm.ret (Ex.bl false)) Bl.nil) Bl.nil) Bl.nil
noncomputable def KD:Bl Ω:=
 Bl.cons (Sm.set 7 (Ex.typ Ua B.list_ (Ar.cons (Ex.var 6) Ar.nil))) (Ff B Cq47 Cq8 Cq10 Cq13 Cq7 Cq9 Cq11)
noncomputable def Oi(B:Bi Ω.mg){Fq47:Ct}(Cq47:Cal Ω "program_of" 10 2 Fq47){Fq8:Ct}(Cq8:Cal Ω "_law_pen" 2 2 Fq8){Fq10:Ct}(Cq10:Cal Ω "_law_program" 5 2 Fq10){Fq13:Ct}(Cq13:Cal Ω "_law_steps" 3 1 Fq13){Fq7:Ct}(Cq7:Cal Ω "_law_order" 3 2 Fq7){Fq9:Ct}(Cq9:Cal Ω "_law_picked" 3 2 Fq9){Fq11:Ct}(Cq11:Cal Ω "_law_right" 10 3 Fq11):Bl Ω:=
 Bl.cons (Sm.ret (Ex.bl true)) Bl.nil
noncomputable def M4:Bl Ω:=
 Bl.cons (Sm.forL (Tg.nm 6) (Ex.bin .Add (Ex.var 5) (Ex.lst (Ar.cons (Ex.call Cq7 (Ar.cons (Ex.var 1) (Ar.cons (Ex.blt bz B.len_ (Ar.cons (Ex.var 3) Ar.nil)) Ar.nil))) Ar.nil))) (KD B Cq47 Cq8 Cq10 Cq13 Cq7 Cq9 Cq11)) (Oi B Cq47 Cq8 Cq10 Cq13 Cq7 Cq9 Cq11)
noncomputable def NP:Bl Ω:=
 Bl.cons (Sm.set 5 (Ex.lst (Ar.cons (Ex.lrng B.range_ B.list_ (Ex.blt bz B.len_ (Ar.cons (Ex.var 3) Ar.nil))) (Ar.cons (Ex.call Cq9 (Ar.cons (Ex.var 1) (Ar.cons (Ex.var 3) Ar.nil))) (Ar.cons (Ex.call Cq9 (Ar.cons (Ex.var 1) (Ar.cons (Ex.var 3) Ar.nil))) Ar.nil))))) (M4 B Cq47 Cq8 Cq10 Cq13 Cq7 Cq9 Cq11)
noncomputable def Ou:Bl Ω:=
 Bl.cons (Sm.set 4 (Ex.call Cq47 (Ar.cons (Ex.ix (Ex.var 2) (Ex.int 0)) (Ar.cons (Ex.ix (Ex.var 2) (Ex.int 1)) Ar.nil)))) (NP B Cq47 Cq8 Cq10 Cq13 Cq7 Cq9 Cq11)
noncomputable def Nu:Bl Ω:=
 Bl.cons (Sm.set 3 (Ex.call Cq13 (Ar.cons (Ex.var 2) Ar.nil))) (Ou B Cq47 Cq8 Cq10 Cq13 Cq7 Cq9 Cq11)
noncomputable def PJ:Bl Ω:=
 Bl.cons (Sm.set 2 (Ex.call Cq10 (Ar.cons (Ex.var 1) (Ar.cons (Ex.int 20) Ar.nil)))) (Nu B Cq47 Cq8 Cq10 Cq13 Cq7 Cq9 Cq11)
noncomputable def Sv:Bl Ω:=
 Bl.cons (Sm.set 1 (Ex.call Cq8 (Ar.cons (Ex.var 0) (Ar.cons (Ex.int 1) Ar.nil)))) (PJ B Cq47 Cq8 Cq10 Cq13 Cq7 Cq9 Cq11)
end
end
end K36
local macro_rules | `(tactic| walk_at "n") => `(tactic| ((conv => whnf); repeat (with_reducible first | apply RF.cLt | apply RF.cLe | apply RF.cGt | apply RF.cGe | apply RF.cEqI | apply RF.cNeI | apply RF.cEqB | apply RF.cNeB | apply RF.cIsN | apply RF.cIsB | apply RF.cIsNotB | apply RF.cIsNot); (conv => whnf)))
local macro_rules | `(tactic| walk_at "at") => `(tactic| first | (with_reducible assumption) | exact DL.set_get (by first | (with_reducible assumption) | exact DL.set_get (by with_reducible assumption)))
local macro_rules | `(tactic| walk_at "o") => `(tactic| first | omega | decide | (simp; done) | (simp; omega))
local macro_rules | `(tactic| walk_at "a1") => `(tactic| first
 | refine RF.wM1 (by first | exact .inl ⟨by walk_at "o", by walk_at "o"⟩ | exact .inr ⟨by walk_at "o", by walk_at "o"⟩) ?_
 | refine RF.wM2 ⟨by decide, by decide, by decide⟩ ?_
 | refine RF.wM3 ⟨by omega, by omega⟩ ?_
 | refine RF.wM4 (by omega) ?_
 | ((fail_if_success (with_reducible show (_ /\ ∃ _ : Nat -> List DL.D -> DL.Store -> Prop, _))); refine RF.wM5 (by walk_at "o") ?_)
 | refine RF.wM6 (by walk_at "o") ?_
 | (refine' RF.wM7 ?h1 ?h2 ?h3; (case h1 => walk_at "at"); (case h2 => exact rfl); (try rw [List.set_set]))
 | (refine' RF.wM8 ?h1 ?h2 ?h3; (case h1 => walk_at "at"); (case h2 => exact rfl))
 | refine RF.wM9 rfl ?_)
local macro_rules | `(tactic| walk_at "a") => `(tactic| (walk_at "n"; repeat (walk_at "a1"; walk_at "n")))
local macro_rules | `(tactic| walk_at "b") => `(tactic| (walk_at "n"; repeat ((first | walk_at "a1" | apply RF.bT | apply RF.bF | apply RF.dT | apply RF.dF); walk_at "n")))
namespace K36
open PySem L2 DL RF
variable {cs ws es : List Int} {i d k j m t v x : Nat} {ds : List D} {W : WD} {l o : List Nat} {S' J : Store}
variable {Ω : Wd} {f : Addr} {fd : FuncData}
noncomputable def whole:D->Bool
 | .int _=>true
 | _=>false
noncomputable def bx(x:D)(a b:Int):Bool:=match x with
 | .tup ds=>decide (a≤(ds.length:Int))&&decide ((ds.length:Int)≤b)
 | _=>false
noncomputable def cH(x:D)(d:Int):Bool:=match x with
 | .tup ds=>decide ((ds.length:Int)=d+1)&&ds.all whole
 | _=>false
noncomputable def f9:Ct:=λ ds S W=>∃x,ds=[x]/\W (.bl (whole x)) S
noncomputable def d8:Ct:=λ ds S W=>∃x a b,ds=[x,.int a,.int b]/\W (.bl (bx x a b)) S
noncomputable def qu:Ct:=λ ds S W=>∃x d,ds=[x,.int d]/\d≤1000/\W (.bl (cH x d)) S
noncomputable def comesTo(f:Int)(fs cs:List Int):Int:=f+(List.zipWith (λ a b=>a*b) fs cs).sum
noncomputable def qY:Ct:=λ ds S W=>∃f fs cs,ds=[.tup (.int f::fs.map .int),.tup (cs.map .int)]/\fs.length≤1000/\(∀c∈cs,-(2 ^ 64)<c/\c<2 ^ 64)/\W (.int (comesTo f fs cs)) S
theorem JC(ds:List D):(ds.map whole).all id=ds.all whole:=by rw[List.all_map];rfl
theorem Ov{fs:List Int}{d:D}(h:(List.zipWith (λ x y=>D.tup [x,y]) (fs.map D.int) (cs.map D.int))[i]? =some d):∃a b,fs[i]? =some a/\cs[i]? =some b/\d=.tup [.int a,.int b]:=by
 rw[List.getElem?_zipWith,y8,y8]at h
 cases e1:fs[i]? with
 | none=>rw[e1]at h;cases h
 | some a=>
   cases e2:cs[i]? with
   | none=>rw[e1,e2]at h;cases h
   | some b=>rw[e1,e2]at h;cases h;exact⟨a,b,rfl,rfl,rfl⟩
theorem vh(F:Fun Ω.K "is_whole" "is_whole" gH f fd)(B:Bi Ω.mg):Ok Ω 1 f fd yX f9:=by
 refine aA (N:=wV) F (wM B) (by kernel_rfl!) ?_
 rintro ds S W ⟨x,rfl,hw⟩ hl
 walk_at "n"
 refine⟨λ c=>?_,λ c=>?_⟩
 . walk_at "n"
   have e:(!isD .bool x)=whole x:=by cases x<;>first | rfl | exact ff c | exact tf c
   rw[e];exact hw
 . have e:whole x=false:=by cases x<;>first | rfl | exact ff c | exact tf c
   rw[e]at hw;exact hw
theorem pM(F:Fun Ω.K "is_tuple_of" "is_tuple_of" dY f fd)(B:Bi Ω.mg):Ok Ω 1 f fd pX d8:=by
 refine aA (N:=qz) F (qw B) (by kernel_rfl!) ?_
 rintro ds S W ⟨x,a,b,rfl,hw⟩ hl
 walk_at "n"
 cases x with
 | tup ds=>
   refine⟨λ _=>?_,λ c=>tf c⟩
   walk_at "n"
   refine⟨λ c1=>?_,λ c1=>?_⟩
   . have e:bx (.tup ds) a b=false:=by show(decide _&&decide _)=false;rw[c1];rfl
     rw[e]at hw;exact hw
   . walk_at "n"
     have e:bx (.tup ds) a b=decide ((ds.length:Int)≤b):=by show(decide _&&decide _)=_;rw[c1];rfl
     rw[e]at hw;exact hw
 | _=>exact⟨λ c=>ff c,λ _=>hw⟩
theorem wy(F:Fun Ω.K "is_form" "is_form" iB f fd)(B:Bi Ω.mg)(Cq40:Cal Ω "is_whole" 1 1 f9)(Cq39:Cal Ω "is_tuple_of" 1 3 d8):Ok Ω 2 f fd Ad qu:=by
 refine aA (N:=BZ) F (Br B Cq40 Cq39) (by kernel_rfl!) ?_
 rintro ds S W ⟨x,d,rfl,hd,hw⟩ hl
 walk_at "n"
 refine⟨rfl,_,_,_,rfl,?_⟩
 refine⟨λ c=>?_,λ c=>?_⟩
 . cases x with
   | tup ds=>
     have hlen:(ds.length:Int)=d+1:=by
      have c':(decide (d+1≤(ds.length:Int))&&decide ((ds.length:Int)≤d+1))=true:=c
      rw[Bool.and_eq_true,decide_eq_true_eq,decide_eq_true_eq]at c'
      omega
     walk_at "n"
     refine jc ⟨by omega,λ i acc S'=>acc=(ds.take i).map (λ d=>.bl (whole d))/\S'=S,⟨rfl,rfl⟩,?_,?_⟩
     . rintro i e acc S' he ⟨rfl,rfl⟩
       walk_at "n"
       refine⟨λ _=>⟨rfl,_,rfl,?_,rfl⟩,λ z=>tf z⟩
       rw[aF he,v3];rfl
     . rintro acc S' ⟨rfl,rfl⟩
       rw[List.take_length]
       refine⟨ds.map whole,by rw[List.map_map];rfl,?_⟩
       have e2:cH (.tup ds) d=(ds.map whole).all id:=by
        show(decide _&&_)=_
        rw[decide_eq_true hlen,JC];rfl
       rw[e2]at hw;exact hw
   | _=>exact ff c
 . have e:cH x d=false:=by
    cases x with
    | tup ds=>
      have c':(decide (d+1≤(ds.length:Int))&&decide ((ds.length:Int)≤d+1))=false:=c
      show(decide _&&_)=false
      rw[Bool.and_eq_false_iff,decide_eq_false_iff_not,decide_eq_false_iff_not]at c'
      rw[decide_eq_false (by omega)];rfl
    | _=>rfl
   rw[e]at hw;exact hw
theorem vH(F:Fun Ω.K "comes_to" "comes_to" gh f fd)(B:Bi Ω.mg):Ok Ω 1 f fd xK qY:=by
 refine aA (N:=wL) F (xJ B) (by kernel_rfl!) ?_
 rintro ds S W ⟨g,fs,cs,rfl,hfs,hcs,hw⟩ hl
 walk_at "n"
 refine⟨_,yU _ _,?_⟩
 walk_at "n"
 rw[yO]
 refine jc ⟨by rw[List.length_zipWith,y7];omega,λ i acc S'=>acc=((List.zipWith (λ a b=>a*b) fs cs).take i).map D.int/\S'=S,⟨rfl,rfl⟩,?_,?_⟩
 . rintro i e acc S' he ⟨rfl,rfl⟩
   obtain⟨a,b,h1,h2,rfl⟩:=Ov he
   walk_at "n"
   refine⟨rfl,λ _=>⟨.inr (hcs b (y4 h2)),?_,rfl⟩,λ z=>tf z⟩
   have e3:(List.zipWith (λ a b=>a*b) fs cs)[i]? =some (a*b):=by rw[List.getElem?_zipWith,h1,h2]
   rw[aF e3,v3];rfl
 . rintro acc S' ⟨rfl,rfl⟩
   have e:(List.zipWith (λ x y=>D.tup [x,y]) (fs.map D.int) (cs.map D.int)).length=(List.zipWith (λ a b=>a*b) fs cs).length:=by simp
   rw[e,List.take_length]
   exact⟨_,rfl,hw⟩
noncomputable def small:D->Bool
 | .int n=>decide (-2≤n)&&decide (n≤2)
 | _=>false
noncomputable def Ud:List D->Bool
 | .int a::fs=>decide (-9≤a)&&(decide (a≤9)&&fs.all small)
 | _=>false
noncomputable def bY(x:D)(d:Int):Bool:=cH x d&&Ud (match x with | .tup ds=>ds | _=>[])
noncomputable def gq(x:D)(d:Int):Bool:=match x with
 | .tup [a,b]=>bY a d&&bY b d
 | _=>false
noncomputable def eV(x:D):Bool:=match x with
 | .tup ds=>(decide (1≤(ds.length:Int))&&decide ((ds.length:Int)≤3))&&(ds.mapIdx λ i d=>gq d i).all id
 | _=>false
noncomputable def CW:Ct:=λ ds S W=>∃x d,ds=[x,.int d]/\0≤d/\d≤1000/\W (.bl (bY x d)) S
noncomputable def GC:Ct:=λ ds S W=>∃x d,ds=[x,.int d]/\0≤d/\d≤1000/\W (.bl (gq x d)) S
noncomputable def Dp:Ct:=λ ds S W=>∃x,ds=[x]/\W (.bl (eV x)) S
theorem ints_of:∀{ds:List D},ds.all whole=true->∃ns:List Int,ds=ns.map .int
 | [],_=>⟨[],rfl⟩
 | d::ds,h=>by
   rw[List.all_cons]at h
   obtain⟨h1,h2⟩:=aa h
   obtain⟨ns,rfl⟩:=ints_of h2
   cases d with
   | int i=>exact⟨i::ns,rfl⟩
   | _=>exact ff h1
theorem iJ{x:D}{d:Int}(h:cH x d=true)(hd:0≤d):∃a fs,x=.tup (.int a::List.map .int fs)/\(fs.length:Int)=d:=by
 cases x with
 | tup ds=>
   obtain⟨h1,h2⟩:=aa h
   have h1:=of_decide_eq_true h1
   cases ds with
   | nil=>simp at h1;omega
   | cons e es=>
     rw[List.all_cons]at h2
     obtain⟨h2,h3⟩:=aa h2
     have h4:=ints_of h3
     obtain⟨ns,rfl⟩:=h4
     cases e with
     | int a=>exact⟨a,ns,rfl,by simp at h1;omega⟩
     | _=>exact ff h2
 | _=>exact ff h
theorem xW(p:D->Bool)(ds:List D):(ds.map p).all id=ds.all p:=by rw[List.all_map];rfl
theorem uN (F:Fun Ω.K "is_bound" "is_bound" gJ f fd)(B:Bi Ω.mg)(Cq27:Cal Ω "is_form" 2 2 qu):Ok Ω 3 f fd v7 CW:=by
 refine aA (N:=yM) F (yc B Cq27) (by kernel_rfl!) ?_
 rintro ds S W ⟨x,d,rfl,hd0,hd,hw⟩ hl
 walk_at "a"
 refine⟨rfl,_,_,rfl,hd,?_⟩
 walk_at "a"
 cases h:cH x d with
 | false=>
   have e:bY x d=false:=by unfold bY;rw[h];rfl
   rw[e]at hw
   exact⟨λ _=>hw,λ z=>tf z⟩
 | true=>
   refine⟨λ z=>ff z,λ _=>?_⟩
   obtain⟨a,fs,rfl,hf⟩:=iJ h hd0
   have e:bY (.tup (.int a::fs.map .int)) d=(decide (-9≤a)&&(decide (a≤9)&&(fs.map D.int).all small)):=by unfold bY;rw[h];rfl
   rw[e]at hw
   walk_at "a"
   refine⟨_,yU _ _,?_⟩
   walk_at "a"
   refine⟨λ h1=>?_,λ h1=>?_⟩
   . have h1:decide (-9≤a)=false:=h1
     rw[h1]at hw
     exact⟨λ z=>ff z,λ _=>hw⟩
   have h1:decide (-9≤a)=true:=h1
   rw[h1,Bool.true_and]at hw
   walk_at "a"
   refine⟨λ h2=>?_,λ h2=>?_⟩
   . rw [h2,Bool.true_and]at hw
     walk_at "a"
     rw[yO]
     refine dB (λ d=>.bl (small d)) (by simp;omega) ?_ ?_
     . intro i e he Q hq
       rw[y8]at he
       cases e1:fs[i]? with
       | none=>rw[e1]at he;cases he
       | some n=>
         rw[e1]at he
         cases he
         walk_at "a"
         refine⟨λ h3=>?_,λ h3=>?_⟩
         . have h3:decide (-2≤n)=false:=h3
           have e:small (.int n)=false:=by show(decide _&&_)=false;rw[h3];rfl
           rw[e]at hq
           exact hq
         . have h3:decide (-2≤n)=true:=h3
           walk_at "a"
           have e:small (.int n)=decide (n≤2):=by show(decide _&&_)=_;rw[h3];rfl
           rw[e]at hq
           exact hq
     . refine⟨(fs.map D.int).map small,by simp only[List.map_map];rfl,?_⟩
       rw[xW];exact hw
   . rw[h2]at hw
     exact hw
theorem yx(F:Fun Ω.K "is_loop" "is_loop" iK f fd)(Cq39:Cal Ω "is_tuple_of" 1 3 d8)(Cq25:Cal Ω "is_bound" 3 2 CW):Ok Ω 4 f fd Aq GC:=by
 refine aA (N:=Aw) F (Bg Cq39 Cq25) (by kernel_rfl!) ?_
 rintro ds S W ⟨x,d,rfl,hd0,hd,hw⟩ hl
 walk_at "a"
 refine⟨rfl,_,_,_,rfl,?_⟩
 walk_at "a"
 cases x with
 | tup ds=>
   match ds,hw with
   | [a,b],hw=>
     refine⟨λ _=>?_,λ z=>tf z⟩
     walk_at "a"
     refine⟨rfl,_,_,rfl,hd0,hd,?_⟩
     have e:gq (.tup [a,b]) d=(bY a d&&bY b d):=rfl
     rw[e]at hw
     refine⟨λ h=>?_,λ h=>?_⟩
     . rw[h,Bool.true_and]at hw
       walk_at "a"
       exact⟨rfl,_,_,rfl,hd0,hd,hw⟩
     . rw[h]at hw;exact hw
   | [],hw=>exact⟨λ z=>ff z,λ _=>hw⟩
   | [_],hw=>exact⟨λ z=>ff z,λ _=>hw⟩
   | _::_::_::es,hw=>
     refine⟨λ z=>?_,λ _=>hw⟩
     obtain⟨_,z⟩:=aa z
     have z:=of_decide_eq_true z
     simp at z;omega
 | _=>exact⟨λ z=>ff z,λ _=>hw⟩
theorem vI(F:Fun Ω.K "is_loops" "is_loops" gZ f fd)(B:Bi Ω.mg)(Cq39:Cal Ω "is_tuple_of" 1 3 d8)(Cq28:Cal Ω "is_loop" 4 2 GC):Ok Ω 5 f fd v4 Dp:=by
 refine aA (N:=xg) F (zJ B Cq39 Cq28) (by kernel_rfl!) ?_
 rintro ds S W ⟨x,rfl,hw⟩ hl
 walk_at "a"
 refine⟨rfl,_,_,_,rfl,?_⟩
 walk_at "a"
 cases x with
 | tup ds=>
   have e:eV (.tup ds)=((decide (1≤(ds.length:Int))&&decide ((ds.length:Int)≤3))&&(ds.mapIdx λ i d=>gq d i).all id):=rfl
   rw[e]at hw
   refine⟨λ h=>?_,λ h=>?_⟩
   . have h:(decide (1≤(ds.length:Int))&&decide ((ds.length:Int)≤3))=true:=h
     rw[h,Bool.true_and]at hw
     have hlen:=of_decide_eq_true (aa h).2
     walk_at "a"
     refine dB (λ p=>match p with | .tup [.int i,d]=>.bl (gq d i) | _=>.non) (by simp;omega) ?_ ?_
     . intro i e he Q hq
       rw[List.getElem?_mapIdx]at he
       cases e1:ds[i]? with
       | none=>rw[e1]at he;cases he
       | some d0=>
         rw[e1]at he
         cases he
         have hi:i<ds.length:=(z0.mp e1).1
         walk_at "a"
         refine⟨rfl,?_⟩
         walk_at "a"
         exact⟨rfl,_,_,rfl,by omega,by omega,hq⟩
     . refine⟨ds.mapIdx λ i d=>gq d i,?_,hw⟩
       apply List.ext_getElem?
       intro i
       simp only[y8,List.getElem?_mapIdx]
       cases ds[i]?<;>rfl
   . have h:(decide (1≤(ds.length:Int))&&decide ((ds.length:Int)≤3))=false:=h
     rw[h]at hw
     exact hw
 | _=>exact⟨λ z=>ff z,λ _=>hw⟩
noncomputable abbrev Fm:=Int×List Int
noncomputable abbrev Lp:=Fm×Fm
noncomputable def dF(f:Fm):D:=.tup (.int f.1::f.2.map .int)
noncomputable def dC(cs:List Int):D:=.tup (cs.map .int)
noncomputable def dL(l:Lp):D:=.tup [dF l.1,dF l.2]
noncomputable def atC(f:Fm)(cs:List Int):Int:=comesTo f.1 f.2 cs
noncomputable def upI(a:Int)(n:Nat):List Int:=(List.range n).map λ(k:Nat)=>a+(k:Int)
noncomputable def bj(lo hi:Fm)(cs:List Int):List (List Int):=(upI (atC lo cs) (atC hi cs-atC lo cs).toNat).map λ c=>cs++[c]
noncomputable def aN(lo hi:Fm)(ahead:List (List Int)):List (List Int):=ahead.flatMap (bj lo hi)
noncomputable def cnt(ls:List Lp):List (List Int):=ls.foldl (λ acc l=>aN l.1 l.2 acc) [[]]
noncomputable def Sm6(ns:List Int):Prop:=ns.length≤10/\∀n∈ns,-1000000≤n/\n≤1000000
noncomputable def SmF(f:Fm):Prop:= -1000000≤f.1/\f.1≤1000000/\Sm6 f.2
theorem ul:∀(fs cs:List Int),(∀n∈fs,-1000000≤n/\n≤1000000)->(∀n∈cs,-1000000≤n/\n≤1000000)-> -(1000000000000*(cs.length:Int))≤(List.zipWith (λ a b=>a*b) fs cs).sum/\(List.zipWith (λ a b=>a*b) fs cs).sum≤1000000000000*(cs.length:Int)
 | [],cs,_,_=>by simp;omega
 | f::fs,[],_,_=>by simp
 | f::fs,c::cs,h1,h2=>by
   have ih:=ul fs cs (λ n hn=>h1 n (x3 _ hn)) (λ n hn=>h2 n (x3 _ hn))
   have hf:=h1 f x5
   have hc:=h2 c x5
   have hp:(f*c).natAbs≤1000000*1000000:=by rw[Int.natAbs_mul];exact Nat.mul_le_mul (by omega) (by omega)
   simp only[List.zipWith_cons_cons,List.sum_cons,List.length_cons]
   omega
theorem ue{f:Fm}(hf:SmF f)(hc:Sm6 cs): -(2 ^ 62)≤atC f cs/\atC f cs<2 ^ 62:=by
 have:=ul f.2 cs hf.2.2.2 hc.2
 have h1:=hf.1
 have h2:=hf.2.1
 have h3:=hc.1
 unfold atC comesTo
 omega
theorem Oa(a:Int)(n:Nat):(upI a n).length=n:=by simp[upI]
theorem Dr{a:Int}{n:Nat}(h:i<n):(upI a n)[i]? =some (a+i):=by simp[upI,h]
theorem cz(lo hi:Fm)(cs:List Int):(bj lo hi cs).length=(atC hi cs-atC lo cs).toNat:=by simp[bj,Oa]
theorem gm{lo hi:Fm}{ahead:List (List Int)}(h:ahead[i]? =some cs):aN lo hi (ahead.take (i+1))=aN lo hi (ahead.take i)++bj lo hi cs:=by
 unfold aN
 rw[aF h,List.flatMap_append];simp
theorem yz{lo hi:Fm}{ahead:List (List Int)}(h:ahead[i]? =some cs):(aN lo hi (ahead.take i)).length+(bj lo hi cs).length≤(aN lo hi ahead).length:=by
 have e:aN lo hi ahead=aN lo hi (ahead.take (i+1))++aN lo hi (ahead.drop (i+1)):=by
  unfold aN
  rw[←List.flatMap_append,List.take_append_drop]
 rw[e,gm h,x6,x6];omega
theorem lK(xs:List (List Int)):ak (xs.map dC)=true:=by
 induction xs with
 | nil=>rfl
 | cons x xs ih=>
   simp only[List.map_cons,ak,ih,Bool.and_true]
   show ak (x.map D.int)=true
   induction x with
   | nil=>rfl
   | cons y ys ih=>simp only[List.map_cons,ak,ih,Bool.and_true];rfl
noncomputable def zP:Ct:=λ ds S W=>∃ahead lo hi,ds=[.lst (List.map dC ahead),dF lo,dF hi]/\SmF lo/\SmF hi/\(∀cs∈ahead,Sm6 cs)/\ahead.length≤1000000/\(aN lo hi ahead).length≤1000000/\flat S/\hand W ((aN lo hi ahead).map dC) S
theorem jW(F:Fun Ω.K "with_next_count" "with_next_count" cM f fd)(B:Bi Ω.mg)(Cq21:Cal Ω "comes_to" 1 2 qY):Ok Ω 2 f fd kI zP:=by
 refine aA (N:=lw) F (Bl.frz (j9 B Cq21)) (by kernel_rfl!) ?_
 rintro ds S W ⟨ahead,lo,hi,rfl,hlo,hhi,hah,hz0,hz,hS,hw⟩ hl
 walk_at "b"
 refine aV ⟨λ i Γ' S'=>(∃o4 o5,Γ'=[some (.lst (ahead.map dC)),some (dF lo),some (dF hi),some (.loc S.length),o4,o5])/\S'=S++[(aN lo hi (ahead.take i)).map dC],⟨⟨_,_,rfl⟩,rfl⟩,?_,?_⟩
 . rintro i e Γ' S' he ⟨⟨o4,o5,rfl⟩,rfl⟩
   rw[y8]at he
   cases e1:ahead[i]? with
   | none=>rw[e1]at he;cases he
   | some cs=>
     rw[e1]at he
     cases he
     have hcs:=hah cs (y4 e1)
     have b1:=ue hlo hcs
     have b2:=ue hhi hcs
     have h64:∀c∈cs,-(2 ^ 64)<c/\c<2 ^ 64:=λ c hc=>by have:=hcs.2 c hc;omega
     walk_at "b"
     refine⟨rfl,lo.1,lo.2,cs,rfl,by have:=hlo.2.2.1;omega,h64,?_⟩
     walk_at "b"
     refine⟨rfl,hi.1,hi.2,cs,rfl,by have:=hhi.2.2.1;omega,h64,?_⟩
     walk_at "b"
     refine⟨⟨b1.1,b1.2,b2.1,b2.2⟩,aV ⟨λ j Γ' S'=>(∃o5,Γ'=[some (.lst (ahead.map dC)),some (dF lo),some (dF hi),some (.loc S.length),some (dC cs),o5])/\S'=S++[(aN lo hi (ahead.take i)++(bj lo hi cs).take j).map dC],⟨⟨_,rfl⟩,by simp⟩,?_,?_⟩⟩
     . rintro j e Γ' S' he ⟨⟨o5,rfl⟩,rfl⟩
       obtain⟨hj,rfl⟩:=bB he
       have hj':j<(bj lo hi cs).length:=by rw[cz];exact hj
       have lf:=yz (lo:=lo) (hi:=hi) e1
       walk_at "b"
       refine⟨by simp;have:=hcs.1;omega,_,b7 _ _,by simp;omega,?_⟩
       refine⟨⟨_,rfl⟩,?_⟩
       rw[cF]
       have e3:(bj lo hi cs)[j]? =some (cs++[atC lo cs+(j:Int)]):=by
        unfold bj
        rw[y8,Dr (by rw[cz]at hj';exact hj')];rfl
       have e4:dC (cs++[atC lo cs+(j:Int)])=D.tup (cs.map D.int++[D.int (comesTo lo.1 lo.2 cs+(j:Int))]):=by
        unfold dC;rw[v3];rfl
       rw[aF e3,←List.append_assoc,v3 (l₂:=[_]),List.map_singleton,e4]
     . rintro Γ' S' ⟨⟨o5,rfl⟩,rfl⟩
       refine⟨⟨_,_,rfl⟩,?_⟩
       have e5:(bj lo hi cs).take (DL.upTo (comesTo lo.1 lo.2 cs) (comesTo hi.1 hi.2 cs-comesTo lo.1 lo.2 cs).toNat).length=bj lo hi cs:=by
        rw[au];exact List.take_of_length_le (by rw[cz];exact y9 _)
       rw[e5,gm e1]
 . rintro Γ' S' ⟨⟨o4,o5,rfl⟩,rfl⟩
   rw[y7,List.take_length]
   exact pI hw (lK _) hS
noncomputable def Fits(ls:List Lp):Prop:=(∀l∈ls,SmF l.1/\SmF l.2)/\∀i,i≤ls.length->(cnt (ls.take i)).length≤1000000/\∀cs∈cnt (ls.take i),Sm6 cs
noncomputable def ph:Ct:=λ ds S W=>∃ls,ds=[.tup (List.map dL ls)]/\1≤ls.length/\Fits ls/\flat S/\hand W ((cnt ls).map dC) S
theorem jZ{ls:List Lp}{l:Lp}(h:ls[i]? =some l):cnt (ls.take (i+1))=aN l.1 l.2 (cnt (ls.take i)):=by
 unfold cnt
 rw[aF h,List.foldl_append];rfl
theorem sr(F:Fun Ω.K "counts_of" "counts_of" fP f fd)(Cq51:Cal Ω "with_next_count" 2 3 zP):Ok Ω 3 f fd vg ph:=by
 refine aA (N:=vC) F (Bl.frz (uP Cq51)) (by kernel_rfl!) ?_
 rintro ds S W ⟨ls,rfl,hn,hf,hS,hw⟩ hl
 walk_at "b"
 have turn:∀(i:Nat)(e:D),(ls.map dL)[i]? =some e->∃l,ls[i]? =some l/\e=dL l:=λ i e he=>by
  rw[y8]at he
  cases e1:ls[i]? with
  | none=>rw[e1]at he;cases he
  | some l=>rw[e1]at he;cases he;exact⟨l,rfl,rfl⟩
 have step:∀(i:Nat)(l:Lp)(W:WD),ls[i]? =some l->hand W ((cnt (ls.take (i+1))).map dC) S->zP [.lst ((cnt (ls.take i)).map dC),dF l.1,dF l.2] S W:=λ i l W h w=>by
  have hi:=(z0.mp h).1
  obtain⟨a,b⟩:=hf.1 l (y4 h)
  obtain⟨c,d⟩:=hf.2 i (by omega)
  obtain⟨c',d'⟩:=hf.2 (i+1) (by omega)
  rw[jZ h]at c' w
  exact⟨_,_,_,rfl,a,b,d,c,c',hS,w⟩
 rcases hw with hw | hw
 . refine aV ⟨λ i Γ' S'=>(∃o2 o3,Γ'=[some (.tup (ls.map dL)),some (.lst ((cnt (ls.take i)).map dC)),o2,o3])/\S'=S,⟨⟨_,_,rfl⟩,rfl⟩,?_,?_⟩
   . rintro i e Γ' S' he ⟨⟨o2,o3,rfl⟩,rfl⟩
     obtain⟨l,hl',rfl⟩:=turn i e he
     walk_at "b"
     refine⟨rfl,?_⟩
     walk_at "n"
     exact⟨rfl,step i l _ hl' (.inl ⟨⟨_,_,rfl⟩,rfl⟩)⟩
   . rintro Γ' S' ⟨⟨o2,o3,rfl⟩,rfl⟩
     rw[y7,List.take_length]
     exact .inl hw
 . refine aV ⟨λ i Γ' S'=>(i<ls.length/\(∃o2 o3,Γ'=[some (.tup (ls.map dL)),some (.lst ((cnt (ls.take i)).map dC)),o2,o3])/\S'=S)∨(i=ls.length/\(∃o2 o3,Γ'=[some (.tup (ls.map dL)),some (.loc S.length),o2,o3])/\S'=S++[(cnt ls).map dC]),.inl ⟨by omega,⟨_,_,rfl⟩,rfl⟩,?_,?_⟩
   . rintro i e Γ' S' he q
     obtain⟨l,hl',rfl⟩:=turn i e he
     have hi:=(z0.mp hl').1
     rcases q with⟨_,⟨o2,o3,rfl⟩,rfl⟩ | ⟨q,_⟩
     . walk_at "b"
       refine⟨rfl,?_⟩
       walk_at "n"
       by_cases hlast:i+1=ls.length
       . refine⟨rfl,step i l _ hl' (.inr (.inr ⟨hlast,⟨_,_,rfl⟩,?_⟩))⟩
         rw[hlast,List.take_length]
       . exact⟨rfl,step i l _ hl' (.inl (.inl ⟨by omega,⟨_,_,rfl⟩,rfl⟩))⟩
     . omega
   . rintro Γ' S' q
     rw[y7]at q
     rcases q with⟨q,_⟩ | ⟨_,⟨o2,o3,rfl⟩,rfl⟩
     . omega
     . exact .inl hw
noncomputable def BdF(f:Fm)(k:Nat):Prop:=f.2.length=k/\ -9≤f.1/\f.1≤9/\∀n∈f.2,-2≤n/\n≤2
theorem Fb{g a m:Int}(hg: -2≤g/\g≤2)(ha: -m≤a/\a≤m): -(2*m)≤g*a/\g*a≤2*m:=by
 have:g= -2∨g= -1∨g=0∨g=1∨g=2:=by omega
 rcases this with rfl | rfl | rfl | rfl | rfl<;>omega
noncomputable def bnd:Nat->Int
 | 0=>0
 | 1=>9
 | 2=>27
 | _=>117
noncomputable def Cs(i:Nat)(cs:List Int):Prop:=cs.length=i/\∀c∈cs,-(bnd i)≤c/\c≤bnd i
theorem jr{f:Fm}(hi:i≤2)(hf:BdF f i)(hc:Cs i cs): -(bnd (i+1))≤atC f cs/\atC f cs≤bnd (i+1):=by
 obtain⟨a,fs⟩:=f
 obtain⟨h1,h2,h3,h4⟩:=hf
 obtain⟨c1,c2⟩:=hc
 dsimp only at h1 h2 h3 h4
 unfold atC comesTo
 have:i=0∨i=1∨i=2:=by omega
 rcases this with rfl | rfl | rfl
 . match fs,cs,h1,c1 with
   | [],[],_,_=>simp[bnd];omega
 . match fs,cs,h1,c1 with
   | [g],[x],_,_=>
     have:=Fb (h4 g (by simp)) (c2 x (by simp))
     simp[bnd]at this ⊢;omega
 . match fs,cs,h1,c1 with
   | [g,g'],[x,x'],_,_=>
     have t1:=Fb (h4 g (by simp)) (c2 x (by simp))
     have t2:=Fb (h4 g' (by simp)) (c2 x' (by simp))
     simp[bnd]at t1 t2 ⊢;omega
theorem R4:bnd i≤bnd (i+1):=by
 match i with
 | 0=>decide
 | 1=>decide
 | 2=>decide
 | i+3=>exact Int.le_refl _
theorem zH(i:Nat):bnd i≤117:=by
 match i with
 | 0=>decide
 | 1=>decide
 | 2=>decide
 | i+3=>exact Int.le_refl _
theorem Oo{lo hi:Fm}{ds:List Int}(hi2:i≤2)(hlo:BdF lo i)(hhi:BdF hi i)(hc:Cs i cs)(h:ds∈bj lo hi cs):Cs (i+1) ds:=by
 unfold bj at h
 obtain⟨c,hc',rfl⟩:=List.mem_map.mp h
 unfold upI at hc'
 obtain⟨k,hk,rfl⟩:=List.mem_map.mp hc'
 have hk:=List.mem_range.mp hk
 have b1:=jr hi2 hlo hc
 have b2:=jr hi2 hhi hc
 refine⟨by simp[hc.1],λ c h=>?_⟩
 rcases List.mem_append.mp h with h | h
 . have:=hc.2 c h
   have:=R4 (i:=i)
   omega
 . have:c=atC lo cs+(k:Int):=by simpa using h
   omega
noncomputable def Lps(ls:List Lp):Prop:=1≤ls.length/\ls.length≤3/\∀(i:Nat)(l:Lp),ls[i]? =some l->BdF l.1 i/\BdF l.2 i
theorem lB{ls:List Lp}(h:Lps ls):∀i,i≤ls.length->∀cs∈cnt (ls.take i),Cs i cs
 | 0,_,cs,hc=>by
   have:cs=[]:=by simpa[cnt]using hc
   subst this
   exact⟨rfl,λ c hc=>by simp at hc⟩
 | i+1,hi,cs,hc=>by
   have hl:=y3 (l:=ls) (i:=i) (by omega)
   rw[jZ hl]at hc
   obtain⟨ds,hd,hc⟩:=List.mem_flatMap.mp hc
   have:=h.2.2 i _ hl
   have h3:=h.2.1
   exact Oo (by omega) this.1 this.2 (lB h i (by omega) ds hd) hc
noncomputable def Et:Nat->Nat
 | 0=>1
 | 1=>18
 | 2=>972
 | _=>227448
theorem pH{lo hi:Fm}{m:Nat}:∀{ahead:List (List Int)},(∀cs∈ahead,(bj lo hi cs).length≤m)->(aN lo hi ahead).length≤ahead.length*m
 | [],_=>by simp[aN]
 | a::as,h=>by
   have ih:=pH (ahead:=as) λ cs hc=>h cs (x3 _ hc)
   have:=h a x5
   unfold aN at ih ⊢
   rw[List.flatMap_cons,x6,List.length_cons,Nat.succ_mul]
   omega
theorem Di{ls:List Lp}(h:Lps ls):∀i,i≤ls.length->(cnt (ls.take i)).length≤Et i
 | 0,_=>by simp[cnt,Et]
 | i+1,hi=>by
   have hl:=y3 (l:=ls) (i:=i) (by omega)
   have ih:=Di h i (by omega)
   have h3:=h.2.1
   have hb:=h.2.2 i _ hl
   rw[jZ hl]
   have hm:∀cs∈cnt (ls.take i),(bj ls[i].1 ls[i].2 cs).length≤(2*bnd (i+1)).toNat:=λ cs hc=>by
    have c:=lB h i (by omega) cs hc
    have b1:=jr (by omega) hb.1 c
    have b2:=jr (by omega) hb.2 c
    rw[cz];omega
   have:=pH hm
   have:i=0∨i=1∨i=2:=by omega
   rcases this with rfl | rfl | rfl<;>simp[bnd,Et]at* <;>omega
theorem Lps.fits{ls:List Lp}(h:Lps ls):Fits ls:=by
 refine⟨λ l hl=>?_,λ i hi=>⟨?_,λ cs hc=>?_⟩⟩
 . obtain⟨i,hi⟩:=List.getElem?_of_mem hl
   have hl':=(z0.mp hi).1
   have h3:=h.2.1
   obtain⟨⟨a1,a2,a3,a4⟩,b1,b2,b3,b4⟩:=h.2.2 i l hi
   exact⟨⟨by omega,by omega,by omega,λ n hn=>by have:=a4 n hn;omega⟩,by omega,by omega,by omega,λ n hn=>by have:=b4 n hn;omega⟩
 . have:=Di h i hi
   have h3:=h.2.1
   have:i=0∨i=1∨i=2∨i=3:=by omega
   rcases this with rfl | rfl | rfl | rfl<;>simp only[Et]at* <;>omega
 . have c:=lB h i hi cs hc
   have h3:=h.2.1
   exact⟨by have:=c.1;omega,λ n hn=>by have:=c.2 n hn;have:=zH i;omega⟩
noncomputable def jC(a b:Int):D->Bool
 | .int n=>decide (a≤n)&&decide (n≤b)
 | _=>false
noncomputable def oG(n:Int):Bool:=decide ((if n<0 then-n else n)<10 ^ Int.toNat 30)
noncomputable def rP:D->Bool
 | .int n=>oG n
 | _=>false
noncomputable def parts:D->List D
 | .tup ds=>ds
 | _=>[]
noncomputable def gW(x:D):Bool:=bx x 1 3&&(parts x).all (jC 1 2)
noncomputable def isPlace(d:Int)(x:D):Bool:=cH x d&&(parts x).all (jC (-99) 99)
noncomputable def isStart(x:D)(d:Int):Bool:=cH x d&&(parts x).all rP
noncomputable def iG(t p:D)(ws:List Int)(d:Int):Bool:=match t with
 | .int n=>(decide (0≤n)&&decide (n<(ws.length:Int)))&&(bx p (ws.getD n.toNat 0) (ws.getD n.toNat 0)&&(parts p).all (isPlace d))
 | _=>false
noncomputable def je(ws:List Int)(d:Int)(x:D):Bool:=match x with
 | .tup [f,t,p]=>rP f&&iG t p ws d
 | _=>false
noncomputable def m8(x:D)(ws:List Int)(d:Int):Bool:=bx x 0 3&&(parts x).all (je ws d)
noncomputable def dX(ws:List Int)(d:Int)(x:D):Bool:=match x with
 | .tup [t,p,s,r]=>iG t p ws d&&(isStart s d&&m8 r ws d)
 | _=>false
noncomputable def gQ(ws:List Int)(x:D):Bool:=match x with
 | .tup [l,ds]=>eV l&&(bx ds 1 4&&(parts ds).all (dX ws ((parts l).length:Int)))
 | _=>false
noncomputable def mY(x:D)(ws:List Int):Bool:=bx x 1 3&&(parts x).all (gQ ws)
noncomputable def Eg:Ct:=λ ds S W=>∃n,ds=[.int n]/\W (.bl (oG n)) S
noncomputable def yE:Ct:=λ ds S W=>∃x,ds=[x]/\W (.bl (gW x)) S
noncomputable def ww:Ct:=λ ds S W=>∃x d,ds=[x,.int d]/\0≤d/\d≤1000/\W (.bl (isPlace d x)) S
noncomputable def Dk:Ct:=λ ds S W=>∃x d,ds=[x,.int d]/\0≤d/\d≤1000/\W (.bl (isStart x d)) S
noncomputable def Ws(ws:List Int):Prop:=ws.length≤3/\∀w∈ws,1≤w/\w≤2
noncomputable def Kg:Ct:=λ ds S W=>∃t p ws d,ds=[t,p,.tup (List.map .int ws),.int d]/\Ws ws/\0≤d/\d≤1000/\W (.bl (iG t p ws d)) S
noncomputable def Hn:Ct:=λ ds S W=>∃x ws d,ds=[x,.tup (List.map .int ws),.int d]/\Ws ws/\0≤d/\d≤1000/\W (.bl (je ws d x)) S
noncomputable def Dt:Ct:=λ ds S W=>∃x ws d,ds=[x,.tup (List.map .int ws),.int d]/\Ws ws/\0≤d/\d≤1000/\W (.bl (m8 x ws d)) S
noncomputable def Jv:Ct:=λ ds S W=>∃x ws d,ds=[x,.tup (List.map .int ws),.int d]/\Ws ws/\0≤d/\d≤1000/\W (.bl (dX ws d x)) S
noncomputable def Ii:Ct:=λ ds S W=>∃x ws,ds=[x,.tup (List.map .int ws)]/\Ws ws/\W (.bl (gQ ws x)) S
noncomputable def Dg:Ct:=λ ds S W=>∃x ws,ds=[x,.tup (List.map .int ws)]/\Ws ws/\W (.bl (mY x ws)) S
theorem cU{p:D->Bool}{S:Store}(w:W (.bl (ds.all p)) S):fM.wp [.lst (ds.map λ d=>.bl (p d))] S W:=
 ⟨ds.map p,by rw[List.map_map];rfl,by rw[xW];exact w⟩
theorem uz{a b:Int}(h:bx (.tup ds) a b=true):a≤(ds.length:Int)/\(ds.length:Int)≤b:=by
 obtain⟨h1,h2⟩:=aa h
 exact⟨of_decide_eq_true h1,of_decide_eq_true h2⟩
theorem cA{x:D}{a b:Int}(h:bx x a b=true):∃ds,x=.tup ds/\a≤(ds.length:Int)/\(ds.length:Int)≤b:=by
 cases x with
 | tup ds=>exact⟨ds,rfl,uz h⟩
 | _=>exact ff h
theorem ni{a b n:Int}{Q:WD}{S:Store}(hq:Q (.bl (jC a b (.int n))) S):(decide (a≤n)=false->Q (.bl false) S)/\(decide (a≤n)=true->Q (.bl (decide (n≤b))) S):=by
 have e:jC a b (.int n)=(decide (a≤n)&&decide (n≤b)):=rfl
 rw[e]at hq
 exact⟨λ h=>by rw[h]at hq;exact hq,λ h=>by rw[h]at hq;exact hq⟩
theorem jx(F:Fun Ω.K "has_few_figures" "has_few_figures" cJ f fd)(B:Bi Ω.mg):Ok Ω 1 f fd km Eg:=by
 refine aA (N:=lg) F (kW B) (by kernel_rfl!) ?_
 rintro ds S W ⟨n,rfl,hw⟩ hl
 walk_at "b"
 exact hw
theorem sE(F:Fun Ω.K "is_widths" "is_widths" fU f fd)(B:Bi Ω.mg)(Cq40:Cal Ω "is_whole" 1 1 f9)(Cq39:Cal Ω "is_tuple_of" 1 3 d8):Ok Ω 2 f fd uC yE:=by
 refine aA (N:=vD) F (uJ B Cq40 Cq39) (by kernel_rfl!) ?_
 rintro ds S W ⟨x,rfl,hw⟩ hl
 walk_at "b"
 refine⟨rfl,_,_,_,rfl,?_⟩
 walk_at "b"
 unfold gW at hw
 refine⟨λ h=>?_,λ h=>by rw[h]at hw;exact hw⟩
 rw[h]at hw
 obtain⟨ds,rfl,l1,l2⟩:=cA h
 walk_at "b"
 refine dB (λ d=>.bl (jC 1 2 d)) (by omega) ?_ (cU hw)
 intro i e he Q hq
 walk_at "b"
 refine⟨rfl,_,rfl,?_⟩
 cases e with
 | int n=>
   walk_at "b"
   refine⟨(ni hq).1,λ h=>?_⟩
   walk_at "b"
   exact(ni hq).2 h
 | _=>walk_at "b";exact hq
theorem mH(F:Fun Ω.K "is_place_form" "is_place_form" dj f fd)(B:Bi Ω.mg)(Cq27:Cal Ω "is_form" 2 2 qu):Ok Ω 3 f fd nF ww:=by
 refine aA (N:=nG) F (nD B Cq27) (by kernel_rfl!) ?_
 rintro ds S W ⟨x,d,rfl,hd0,hd,hw⟩ hl
 walk_at "b"
 refine⟨rfl,_,_,rfl,hd,?_⟩
 walk_at "b"
 unfold isPlace at hw
 refine⟨λ h=>?_,λ h=>by rw[h]at hw;exact hw⟩
 rw[h]at hw
 obtain⟨a,fs,rfl,hf⟩:=iJ h hd0
 walk_at "b"
 refine dB (λ d=>.bl (jC (-99) 99 d)) (by simp;omega) ?_ (cU hw)
 intro i e he Q hq
 have:∃n,e=.int n:=by
  have:=y4 he
  rcases List.mem_cons.mp this with rfl | h
  . exact⟨_,rfl⟩
  . obtain⟨n,_,rfl⟩:=List.mem_map.mp h
    exact⟨n,rfl⟩
 obtain⟨n,rfl⟩:=this
 walk_at "b"
 refine⟨(ni hq).1,λ h=>?_⟩
 walk_at "b"
 exact(ni hq).2 h
theorem vz(F:Fun Ω.K "is_start" "is_start" ik f fd)(B:Bi Ω.mg)(Cq27:Cal Ω "is_form" 2 2 qu)(Cq24:Cal Ω "has_few_figures" 1 1 Eg):Ok Ω 3 f fd xH Dk:=by
 refine aA (N:=xY) F (wG B Cq27 Cq24) (by kernel_rfl!) ?_
 rintro ds S W ⟨x,d,rfl,hd0,hd,hw⟩ hl
 walk_at "b"
 refine⟨rfl,_,_,rfl,hd,?_⟩
 walk_at "b"
 unfold isStart at hw
 refine⟨λ h=>?_,λ h=>by rw[h]at hw;exact hw⟩
 rw[h]at hw
 obtain⟨a,fs,rfl,hf⟩:=iJ h hd0
 walk_at "b"
 refine dB (λ d=>.bl (rP d)) (by simp;omega) ?_ (cU hw)
 intro i e he Q hq
 have:∃n,e=.int n:=by
  have:=y4 he
  rcases List.mem_cons.mp this with rfl | h
  . exact⟨_,rfl⟩
  . obtain⟨n,_,rfl⟩:=List.mem_map.mp h
    exact⟨n,rfl⟩
 obtain⟨n,rfl⟩:=this
 walk_at "b"
 exact⟨rfl,_,rfl,hq⟩
theorem gU(F:Fun Ω.K "is_table_with_place" "is_table_with_place" bW f fd)(B:Bi Ω.mg)(Cq40:Cal Ω "is_whole" 1 1 f9)(Cq39:Cal Ω "is_tuple_of" 1 3 d8)(Cq33:Cal Ω "is_place_form" 3 2 ww):Ok Ω 4 f fd ir Kg:=by
 refine aA (N:=iw) F (iy B Cq40 Cq39 Cq33) (by kernel_rfl!) ?_
 rintro ds S W ⟨t,p,ws,d,rfl,hws,hd0,hd,hw⟩ hl
 walk_at "b"
 refine⟨rfl,_,rfl,?_⟩
 cases t with
 | int n=>
   have e:iG (.int n) p ws d=((decide (0≤n)&&decide (n<(ws.length:Int)))&&(bx p (ws.getD n.toNat 0) (ws.getD n.toNat 0)&&(parts p).all (isPlace d))):=rfl
   rw[e]at hw
   have hl3:((ws.map D.int).length:Int)=(ws.length:Int):=by rw[y7]
   walk_at "b"
   refine⟨λ h=>?_,λ h=>?_⟩
   . rw[h]at hw
     walk_at "b"
     exact hw
   rw[h,Bool.true_and]at hw
   walk_at "b"
   rw[hl3]
   refine⟨λ h2=>?_,λ h2=>?_⟩
   . have h2:decide (n<(ws.length:Int))=false:=nt h2
     rw[h2]at hw
     walk_at "b"
     exact hw
   have h2:decide (n<(ws.length:Int))=true:=by
    cases q:decide (n<(ws.length:Int))with
    | true=>rfl
    | false=>rw[q]at h2;exact tf h2
   rw[h2,Bool.true_and]at hw
   have h0:=of_decide_eq_true h
   have h1:=of_decide_eq_true h2
   have hk:n.toNat<ws.length:=by omega
   have ew:ws.getD n.toNat 0=ws[n.toNat]:=by simp[List.getD,hk]
   have at1:atI (ws.map D.int) n=some (.int (ws.getD n.toNat 0)):=by
    have:=aY (xs:=ws.map D.int) (j:=n.toNat) (v:=.int ws[n.toNat]) (by rw[y8,y3 hk];rfl)
    rw[Int.toNat_of_nonneg h0]at this
    rw[ew];exact this
   have hw12:=hws.2 _ (List.getElem_mem hk)
   rw[←ew]at hw12
   generalize ws.getD n.toNat 0=w at at1 hw hw12
   walk_at "b"
   refine⟨_,at1,?_⟩
   walk_at "b"
   refine⟨_,at1,?_⟩
   walk_at "b"
   refine⟨rfl,_,_,_,rfl,?_⟩
   walk_at "b"
   refine⟨λ h3=>?_,λ h3=>by rw[h3]at hw;exact hw⟩
   rw[h3]at hw
   obtain⟨ds,rfl,l1,l2⟩:=cA h3
   walk_at "b"
   refine dB (λ x=>.bl (isPlace d x)) (by omega) ?_ (cU hw)
   intro i e he Q hq
   walk_at "b"
   exact⟨rfl,_,_,rfl,hd0,hd,hq⟩
 | _=>walk_at "b";exact hw
theorem vX(F:Fun Ω.K "is_read" "is_read" iT f fd)(Cq40:Cal Ω "is_whole" 1 1 f9)(Cq39:Cal Ω "is_tuple_of" 1 3 d8)(Cq24:Cal Ω "has_few_figures" 1 1 Eg)(Cq38:Cal Ω "is_table_with_place" 4 4 Kg):Ok Ω 5 f fd An Hn:=by
 refine aA (N:=Ak) F (z6 Cq40 Cq39 Cq24 Cq38) (by kernel_rfl!) ?_
 rintro ds S W ⟨x,ws,d,rfl,hws,hd0,hd,hw⟩ hl
 walk_at "b"
 refine⟨rfl,_,_,_,rfl,?_⟩
 cases h:bx x 3 3 with
 | false=>
   have e:je ws d x=false:=by
    cases x with
    | tup ds=>
      match ds,h with
      | [a,b,c],h=>exact tf h
      | [],_=>rfl
      | [_],_=>rfl
      | [_,_],_=>rfl
      | _::_::_::_::_,_=>rfl
    | _=>rfl
   rw[e]at hw
   walk_at "b"
   exact hw
 | true=>
   obtain⟨ds,rfl,l1,l2⟩:=cA h
   match ds,l1,l2,hw with
   | [f, t,p],_,_,hw=>
     walk_at "b"
     refine⟨rfl,_,rfl,?_⟩
     have e:je ws d (.tup [f,t,p])=(rP f&&iG t p ws d):=rfl
     rw[e]at hw
     cases f with
     | int n=>
       walk_at "b"
       refine⟨rfl,_,rfl,?_⟩
       have e:rP (.int n)=oG n:=rfl
       rw[e]at hw
       cases h2:oG n with
       | true=>
         rw[h2]at hw
         walk_at "b"
         exact⟨rfl,_,_,_,_,rfl,hws,hd0,hd,hw⟩
       | false=>
         rw[h2]at hw
         walk_at "b"
         exact hw
     | _=>walk_at "b";exact hw
   | [],l1,_,_=>simp at l1
   | [_],l1,_,_=>simp at l1
   | [_,_],l1,_,_=>simp at l1
   | _::_::_::_::es,_,l2,_=>simp at l2;omega
theorem uY(F:Fun Ω.K "is_reads" "is_reads" gY f fd)(B:Bi Ω.mg)(Cq39:Cal Ω "is_tuple_of" 1 3 d8)(Cq34:Cal Ω "is_read" 5 3 Hn):Ok Ω 6 f fd xG Dt:=by
 refine aA (N:=wN) F (wB B Cq39 Cq34) (by kernel_rfl!) ?_
 rintro ds S W ⟨x,ws,d,rfl,hws,hd0,hd,hw⟩ hl
 walk_at "b"
 refine⟨rfl,_,_,_,rfl,?_⟩
 walk_at "b"
 unfold m8 at hw
 refine⟨λ h=>?_,λ h=>by rw[h]at hw;exact hw⟩
 rw[h]at hw
 obtain⟨ds,rfl,l1,l2⟩:=cA h
 walk_at "b"
 refine dB (λ x=>.bl (je ws d x)) (by omega) ?_ (cU hw)
 intro i e he Q hq
 walk_at "b"
 exact⟨rfl,_,_,_,rfl,hws,hd0,hd,hq⟩
theorem zK(F:Fun Ω.K "is_deed" "is_deed" iY f fd)(Cq39:Cal Ω "is_tuple_of" 1 3 d8)(Cq37:Cal Ω "is_start" 3 2 Dk)(Cq38:Cal Ω "is_table_with_place" 4 4 Kg)(Cq35:Cal Ω "is_reads" 6 3 Dt):Ok Ω 7 f fd BV Jv:=by
 refine aA (N:=Af) F (zZ Cq39 Cq37 Cq38 Cq35) (by kernel_rfl!) ?_
 rintro ds S W ⟨x,ws,d,rfl,hws,hd0,hd,hw⟩ hl
 walk_at "b"
 refine⟨rfl,_,_,_,rfl,?_⟩
 cases h:bx x 4 4 with
 | false=>
   have e:dX ws d x=false:=by
    cases x with
    | tup ds=>
      match ds,h with
      | [a,b,c,d],h=>exact tf h
      | [],_=>rfl
      | [_],_=>rfl
      | [_,_],_=>rfl
      | [_,_,_],_=>rfl
      | _::_::_::_::_::_,_=>rfl
    | _=>rfl
   rw[e]at hw
   walk_at "b"
   exact hw
 | true=>
   obtain⟨ds,rfl,l1,l2⟩:=cA h
   match ds,l1,l2,hw with
   | [t, p,s,r],_,_,hw=>
     have e:dX ws d (.tup [t,p,s,r])=(iG t p ws d&&(isStart s d&&m8 r ws d)):=rfl
     rw[e]at hw
     walk_at "b"
     refine⟨rfl,_,_,_,_,rfl,hws,hd0,hd,?_⟩
     cases h2:iG t p ws d with
     | false=>
       rw[h2]at hw
       walk_at "b"
       exact hw
     | true=>
       rw[h2,Bool.true_and]at hw
       walk_at "b"
       refine⟨rfl,_,_,rfl,hd0,hd,?_⟩
       cases h3:isStart s d with
       | false=>
         rw[h3]at hw
         walk_at "b"
         exact hw
       | true=>
         rw[h3,Bool.true_and]at hw
         walk_at "b"
         exact⟨rfl,_,_,_,rfl,hws,hd0,hd,hw⟩
   | [],l1,_,_=>simp at l1
   | [_],l1,_,_=>simp at l1
   | [_,_],l1,_,_=>simp at l1
   | [_,_,_],l1,_,_=>simp at l1
   | _::_::_::_::_::es,_,l2,_=>simp at l2;omega
theorem xq(F:Fun Ω.K "is_nest" "is_nest" iW f fd)(B:Bi Ω.mg)(Cq39:Cal Ω "is_tuple_of" 1 3 d8)(Cq29:Cal Ω "is_loops" 5 1 Dp)(Cq26:Cal Ω "is_deed" 7 3 Jv):Ok Ω 8 f fd Ca Ii:=by
 refine aA (N:=Ab) F (Bj B Cq39 Cq29 Cq26) (by kernel_rfl!) ?_
 rintro ds S W ⟨x,ws,rfl,hws,hw⟩ hl
 walk_at "b"
 refine⟨rfl,_,_,_,rfl,?_⟩
 cases h:bx x 2 2 with
 | false=>
   have e:gQ ws x=false:=by
    cases x with
    | tup ds=>
      match ds,h with
      | [a,b],h=>exact tf h
      | [],_=>rfl
      | [_],_=>rfl
      | _::_::_::_,_=>rfl
    | _=>rfl
   rw[e]at hw
   walk_at "b"
   exact hw
 | true=>
   obtain⟨ds,rfl,l1,l2⟩:=cA h
   match ds,l1,l2,hw with
   | [l, dd],_,_,hw=>
     have e:gQ ws (.tup [l,dd])=(eV l&&(bx dd 1 4&&(parts dd).all (dX ws ((parts l).length:Int)))):=rfl
     rw[e]at hw
     walk_at "b"
     refine⟨rfl,_,rfl,?_⟩
     cases h2:eV l with
     | false=>
       rw[h2]at hw
       walk_at "b"
       exact hw
     | true=>
       rw[h2,Bool.true_and]at hw
       cases l with
       | tup ls=>
         have hlen:(ls.length:Int)≤3:=of_decide_eq_true (aa (aa h2).1).2
         have hw:W (.bl (bx dd 1 4&&(parts dd).all (dX ws (ls.length:Int)))) S:=hw
         walk_at "b"
         refine⟨rfl,_,_,_,rfl,?_⟩
         walk_at "b"
         refine⟨λ h3=>?_,λ h3=>by rw[h3]at hw;exact hw⟩
         rw[h3]at hw
         obtain⟨es,rfl,l1,l2⟩:=cA h3
         walk_at "b"
         refine dB (λ x=>.bl (dX ws (ls.length:Int) x)) (by omega) ?_ (cU hw)
         intro i e he Q hq
         walk_at "b"
         exact⟨rfl,_,_,_,rfl,hws,by omega,by omega,hq⟩
       | _=>exact ff h2
   | [],l1,_,_=>simp at l1
   | [_],l1,_,_=>simp at l1
   | _::_::_::es,_,l2,_=>simp at l2;omega
theorem uZ(F:Fun Ω.K "is_nests" "is_nests" gK f fd)(B:Bi Ω.mg)(Cq39:Cal Ω "is_tuple_of" 1 3 d8)(Cq30:Cal Ω "is_nest" 8 2 Ii):Ok Ω 9 f fd zx Dg:=by
 refine aA (N:=xf) F (wO B Cq39 Cq30) (by kernel_rfl!) ?_
 rintro ds S W ⟨x,ws,rfl,hws,hw⟩ hl
 walk_at "b"
 refine⟨rfl,_,_,_,rfl,?_⟩
 walk_at "b"
 unfold mY at hw
 refine⟨λ h=>?_,λ h=>by rw[h]at hw;exact hw⟩
 rw[h]at hw
 obtain⟨ds,rfl,l1,l2⟩:=cA h
 walk_at "b"
 refine dB (λ x=>.bl (gQ ws x)) (by omega) ?_ (cU hw)
 intro i e he Q hq
 walk_at "b"
 exact⟨rfl,_,_,rfl,hws,hq⟩
structure Rd where
 fac:Int
 tab:Nat
 pl:List Fm
structure Dd where
 tab:Nat
 pl:List Fm
 st:Fm
 rds:List Rd
structure Ns where
 lps:List Lp
 dds:List Dd
structure Pg where
 ws:List Int
 nss:List Ns
noncomputable def dP(pl:List Fm):D:=.tup (pl.map dF)
noncomputable def dRd(r:Rd):D:=.tup [.int r.fac,.int r.tab,dP r.pl]
noncomputable def dDd(x:Dd):D:=.tup [.int x.tab,dP x.pl,dF x.st,.tup (x.rds.map dRd)]
noncomputable def dNs(n:Ns):D:=.tup [.tup (n.lps.map dL),.tup (n.dds.map dDd)]
noncomputable def dWs(ws:List Int):D:=.tup (ws.map .int)
noncomputable def dPg(p:Pg):D:=.tup [dWs p.ws,.tup (p.nss.map dNs)]
noncomputable def many(nss:List Ns):Int:=(nss.map λ n=>((cnt n.lps).length:Int)*(n.dds.length:Int)).sum
noncomputable def lW(n:Ns):Prop:=1≤n.lps.length/\Fits n.lps/\n.dds.length≤1000
noncomputable def jm:Ct:=λ ds S W=>∃nss,ds=[.tup (List.map dNs nss)]/\nss.length≤1000/\(∀n∈nss,lW n)/\flat S/\W (.int (many nss)) S
noncomputable def xV:Ct:=λ ds S W=>∃p:Pg,ds=[dWs p.ws,.tup (List.map dNs p.nss)]/\gW (dWs p.ws)=true/\mY (.tup (p.nss.map dNs)) p.ws=true/\p.nss.length≤1000/\(∀n∈p.nss,lW n)/\many p.nss≤60/\flat S/\W (dPg p) S
theorem JB(h:gW (dWs ws)=true):Ws ws:=by
 obtain⟨h1,h2⟩:=aa h
 have:=uz h1
 refine⟨by simp at this;omega,λ w hw=>?_⟩
 have h3:=List.all_eq_true.mp h2 (.int w) (List.mem_map.mpr ⟨w,hw,rfl⟩)
 obtain⟨a,b⟩:=aa h3
 exact⟨of_decide_eq_true a,of_decide_eq_true b⟩
theorem jV(F:Fun Ω.K "number_of_steps" "number_of_steps" cL f fd)(B:Bi Ω.mg)(Cq22:Cal Ω "counts_of" 3 1 ph):Ok Ω 4 f fd kO jm:=by
 refine aA (N:=lz) F (kh B Cq22) (by kernel_rfl!) ?_
 rintro ds S W ⟨nss,rfl,hz,hok,hS,hw⟩ hl
 walk_at "b"
 refine fC (λ n=>.int (((cnt n.lps).length:Int)*(n.dds.length:Int))) (by omega) ?_ ?_
 . intro i n hn Q hq
   obtain⟨h1,h2,h3⟩:=hok n (y4 hn)
   have h4:=(h2.2 n.lps.length (y9 _)).1
   rw[List.take_length]at h4
   walk_at "b"
   refine⟨rfl,?_⟩
   walk_at "b"
   refine⟨rfl,_,rfl,h1,h2,hS,.inl ?_⟩
   have e1:(((cnt n.lps).map dC).length:Int)=((cnt n.lps).length:Int):=by rw[y7]
   have e2:((n.dds.map dDd).length:Int)=(n.dds.length:Int):=by rw[y7]
   walk_at "n"
   rw[e1,e2]
   exact⟨.inl ⟨by omega,by omega⟩,hq⟩
 . exact⟨nss.map λ(n:Ns)=>((cnt n.lps).length:Int)*(n.dds.length:Int),by rw[List.map_map];rfl,hw⟩
theorem qi(F:Fun Ω.K "program_of" "program_of" eF f fd)(B:Bi Ω.mg)(Cq41:Cal Ω "is_widths" 2 1 yE)(Cq31:Cal Ω "is_nests" 9 2 Dg)(Cq43:Cal Ω "number_of_steps" 4 1 jm):Ok Ω 10 f fd qX xV:=by
 refine aA (N:=qT) F (rQ B Cq41 Cq31 Cq43) (by kernel_rfl!) ?_
 rintro ds S W ⟨p,rfl,h1,h2,hz,hok,h60,hS,hw⟩ hl
 have hws:=JB h1
 walk_at "b"
 refine⟨rfl,_,rfl,?_⟩
 rw[h1]
 walk_at "b"
 refine⟨rfl,_,_,rfl,hws,?_⟩
 rw[h2]
 walk_at "b"
 refine⟨rfl,_,rfl,hz,hok,hS,?_⟩
 walk_at "b"
 rw[decide_eq_false (by omega)]
 walk_at "b"
 exact hw
noncomputable abbrev Stp:=Nat×List Int×Nat
noncomputable def dSt(s:Stp):D:=.tup [.int s.1,dC s.2.1,.int s.2.2]
noncomputable def cQ(i:Nat)(n:Ns):List Stp:=(cnt n.lps).flatMap λ cs=>(List.range n.dds.length).map λ s=>(i,cs,s)
noncomputable def aP(nss:List Ns):List Stp:=(nss.mapIdx cQ).flatten
noncomputable def CK:Ct:=λ ds S W=>∃p:Pg,ds=[dPg p]/\p.nss.length≤1000/\(∀n∈p.nss,lW n)/\(aP p.nss).length≤1000000/\flat S/\hand W ((aP p.nss).map dSt) S
theorem iH{nss:List Ns}{n:Ns}(h:nss[i]? =some n):aP (nss.take (i+1))=aP (nss.take i)++cQ i n:=by
 unfold aP
 rw[aF h,List.mapIdx_append,List.flatten_append]
 have hi:=(z0.mp h).1
 simp only[List.mapIdx_cons,List.mapIdx_nil,List.flatten_cons,List.flatten_nil,List.append_nil,List.length_take]
 rw[Nat.min_eq_left (by omega),Nat.zero_add]
theorem qt(xs:List Stp):ak (xs.map dSt)=true:=by
 induction xs with
 | nil=>rfl
 | cons x xs ih=>
   simp only[List.map_cons,ak,ih,Bool.and_true]
   have:=lK [x.2.1]
   simp only[List.map_cons,List.map_nil,ak,Bool.and_true]at this
   show ak [D.int _,dC x.2.1,D.int _]=true
   simp only[ak,this,Bool.and_true];rfl
theorem Hb{S:Store}{l:List D}(h:flat S)(hl:ak l=true):flat (S++[l]):=λ x hx=>by
 rcases List.mem_append.mp hx with q | q
 . exact h x q
 . rw[List.mem_singleton.mp q];exact hl
theorem HY{nss:List Ns}{n:Ns}(h:nss[i]? =some n):(aP (nss.take i)).length+(cQ i n).length≤(aP nss).length:=by
 have e:∃more,aP nss=aP (nss.take (i+1))++more:=by
  unfold aP
  conv=>enter [1,more,1,1];rw[←List.take_append_drop (i+1) nss]
  rw[List.mapIdx_append,List.flatten_append]
  exact⟨_,rfl⟩
 obtain⟨more,e⟩:=e
 rw[e,iH h,x6,x6];omega
theorem vf(F:Fun Ω.K "steps_of" "steps_of" gA f fd)(B:Bi Ω.mg)(Cq22:Cal Ω "counts_of" 3 1 ph):Ok Ω 4 f fd zL CK:=by
 refine aA (N:=yS) F (Bl.frz (zp B Cq22)) (by kernel_rfl!) ?_
 rintro ds S W ⟨p,rfl,hz,hok,hlen,hS,hw⟩ hl
 walk_at "b"
 refine aV ⟨λ i Γ' S'=>(∃o2 o3 o4 o5,Γ'=[some (dPg p),some (.loc S.length),o2,o3,o4,o5])/\S'=S++[(aP (p.nss.take i)).map dSt],⟨⟨_,_,_,_,rfl⟩,rfl⟩,?_,?_⟩
 . rintro i e Γ' S' he ⟨⟨o2,o3,o4,o5,rfl⟩,rfl⟩
   obtain⟨e',he',rfl⟩:=gf he
   obtain⟨n,hn,rfl⟩:=cW he'
   obtain⟨h1,h2,h3⟩:=hok n (y4 hn)
   have lf:=HY hn
   walk_at "b"
   refine⟨rfl,?_⟩
   walk_at "b"
   refine⟨rfl,_,rfl,h1,h2,Hb hS (qt _),.inl ?_⟩
   walk_at "n"
   refine aV ⟨λ j Γ' S'=>(∃o4 o5,Γ'=[some (dPg p),some (.loc S.length),some (.int (i:Int)),some (dNs n),o4,o5])/\S'=S++[(aP (p.nss.take i)++((cnt n.lps).take j).flatMap λ cs=>(List.range n.dds.length).map λ s=>(i,cs,s)).map dSt],⟨⟨_,_,rfl⟩,by simp⟩,?_,?_⟩
   . rintro j e Γ' S' he ⟨⟨o4,o5,rfl⟩,rfl⟩
     obtain⟨cs,hcs,rfl⟩:=cW he
     have e2:((n.dds.map dDd).length:Int)=(n.dds.length:Int):=by rw[y7]
     have lj:((cnt n.lps).take j |>.flatMap λ cs=>(List.range n.dds.length).map λ s=>(i,cs,s)).length+n.dds.length≤(cQ i n).length:=by
      have:∃more,cQ i n=((cnt n.lps).take (j+1) |>.flatMap λ cs=>(List.range n.dds.length).map λ s=>(i,cs,s))++more:=by
       unfold cQ
       conv=>enter [1,more,1,2];rw[←List.take_append_drop (j+1) (cnt n.lps)]
       rw[List.flatMap_append]
       exact⟨_,rfl⟩
      obtain⟨more,em⟩:=this
      rw[em,aF hcs,List.flatMap_append,x6,x6]
      simp
     walk_at "b"
     rw[e2]
     refine⟨⟨by omega,by omega⟩,aV ⟨λ t Γ' S'=>(∃o5,Γ'=[some (dPg p),some (.loc S.length),some (.int (i:Int)),some (dNs n),some (dC cs),o5])/\S'=S++[((aP (p.nss.take i)++((cnt n.lps).take j).flatMap λ cs=>(List.range n.dds.length).map λ s=>(i,cs,s))++(List.range t).map λ s=>(i,cs,s)).map dSt],⟨⟨_,rfl⟩,by simp⟩,?_,?_⟩⟩
     . rintro t e Γ' S' he ⟨⟨o5,rfl⟩,rfl⟩
       obtain⟨ht,rfl⟩:=bB he
       have ez:(0:Int)+(t:Int)=(t:Int):=by omega
       rw[ez]
       walk_at "b"
       refine⟨_,b7 _ _,by simp only[y7,x6,List.length_range];omega,?_⟩
       refine⟨⟨_,rfl⟩,?_⟩
       rw[cF,List.range_succ]
       simp only[v3,List.map_cons,List.map_nil,List.append_assoc]
       rfl
     . rintro Γ' S' ⟨⟨o5,rfl⟩,rfl⟩
       refine⟨⟨_,_,rfl⟩,?_⟩
       rw[au,aF hcs,List.flatMap_append,List.flatMap_singleton,←List.append_assoc,Int.toNat_natCast]
   . rintro Γ' S' ⟨⟨o4,o5,rfl⟩,rfl⟩
     refine⟨⟨_,_,_,_,rfl⟩,?_⟩
     rw[y7,List.take_length,iH hn];rfl
 . rintro Γ' S' ⟨⟨o2,o3,o4,o5,rfl⟩,rfl⟩
   have e:((p.nss.map dNs).mapIdx λ i d=>D.tup [D.int (i:Int),d]).length=p.nss.length:=by simp
   rw[e,List.take_length]
   exact pI hw (qt _) hS
noncomputable def xX:Ct:=λ ds S W=>∃(p:Pg) (s:Stp) (n:Ns) (x:Dd),ds=[dPg p,dSt s]/\p.nss[s.1]? =some n/\n.dds[s.2.2]? =some x/\W (dDd x) S
noncomputable abbrev Cell:=Nat×List Int
noncomputable def aC(c:Cell):D:=.tup [.int c.1,.tup (c.2.map .int)]
noncomputable def C64(cs:List Int):Prop:=∀c∈cs,-(2 ^ 64)<c/\c<2 ^ 64
noncomputable def FJ(pl:List Fm):Prop:=pl.length≤1000/\∀f∈pl,f.2.length≤1000
noncomputable def spot(t:Nat)(pl:List Fm)(cs:List Int):Cell:=(t,pl.map λ f=>atC f cs)
noncomputable def xZ:Ct:=λ ds S W=>∃(t:Nat) (pl:List Fm) (cs:List Int),ds=[.int t,dP pl,dC cs]/\FJ pl/\C64 cs/\W (aC (spot t pl cs)) S
theorem zj(F:Fun Ω.K "deed_of" "deed_of" iQ f fd):Ok Ω 1 f fd BP xX:=by
 refine aA (N:=BX) F (Bh) (by kernel_rfl!) ?_
 rintro ds S W ⟨p,⟨i,cs,t⟩,n,x,rfl,hn,hx,hw⟩ hl
 have a1:atI (p.nss.map dNs) ((i:Nat):Int)=some (dNs n):=aY (by rw[y8,hn];rfl)
 have a2:atI (n.dds.map dDd) ((t:Nat):Int)=some (dDd x):=aY (by rw[y8,hx];rfl)
 walk_at "b"
 refine⟨_,a1,?_⟩
 walk_at "b"
 exact⟨_,a2,hw⟩
theorem xU(F:Fun Ω.K "cell_at" "cell_at" iR f fd)(B:Bi Ω.mg)(Cq21:Cal Ω "comes_to" 1 2 qY):Ok Ω 2 f fd Aa xZ:=by
 refine aA (N:=Ai) F (BL B Cq21) (by kernel_rfl!) ?_
 rintro ds S W ⟨t,pl,cs,rfl,hpl,hcs,hw⟩ hl
 walk_at "b"
 refine fC (λ f=>.int (atC f cs)) (by have:=hpl.1;omega) ?_ ?_
 . intro i f hf Q hq
   walk_at "b"
   exact⟨rfl,f.1,f.2,cs,rfl,hpl.2 f (y4 hf),hcs,hq⟩
 . walk_at "b"
   have e:(spot t pl cs).2.map D.int=pl.map λ f=>D.int (atC f cs):=by unfold spot;rw[List.map_map];rfl
   unfold aC at hw
   rw[e]at hw
   exact hw
noncomputable def dCs(x:Dd)(cs:List Int):D:=.tup [aC (spot x.tab x.pl cs),.lst (x.rds.map λ r=>aC (spot r.tab r.pl cs))]
noncomputable def J0(x:Dd):Prop:=FJ x.pl/\x.rds.length≤1000/\∀r∈x.rds,FJ r.pl
noncomputable def nR:Ct:=λ ds S W=>∃(p:Pg) (s:Stp) (n:Ns) (x:Dd),ds=[dPg p,dSt s]/\p.nss[s.1]? =some n/\n.dds[s.2.2]? =some x/\J0 x/\C64 s.2.1/\W (dCs x s.2.1) S
theorem lY(F:Fun Ω.K "cells_of_step" "cells_of_step" dq f fd)(Cq23:Cal Ω "deed_of" 1 2 xX)(Cq18:Cal Ω "cell_at" 2 3 xZ):Ok Ω 3 f fd nH nR:=by
 refine aA (N:=nJ) F (nP Cq23 Cq18) (by kernel_rfl!) ?_
 rintro ds S W ⟨p,⟨i,cs,t⟩,n,x,rfl,hn,hx,hok,hcs,hw⟩ hl
 walk_at "b"
 refine⟨rfl,p,(i,cs,t),n,x,rfl,hn,hx,?_⟩
 walk_at "b"
 refine fC (λ r=>aC (spot r.tab r.pl cs)) (by have:=hok.2.1;omega) ?_ ?_
 . intro j r hr Q hq
   walk_at "b"
   refine⟨rfl,?_⟩
   walk_at "b"
   exact⟨rfl,r.tab,r.pl,cs,rfl,hok.2.2 r (y4 hr),hcs,hq⟩
 . walk_at "b"
   refine⟨rfl,x.tab,x.pl,cs,rfl,hok.1,hcs,?_⟩
   walk_at "b"
   exact hw
noncomputable def iC(ns:List Int)(c n:Int):List D:=[.int c,.int n,.lst (ns.map .int)]
noncomputable def aJ(S:Store)(k:Nat):Prop:=∃ns c n,S[k]? =some (iC ns c n)/\0≤n
noncomputable def aK(S:Store)(k:Nat)(S':Store):Prop:=∃ns c n,S'=S.set k (iC ns c n)/\0≤n
theorem aK.trans{S S1 S2:Store}(a:aK S k S1)(b:aK S1 k S2):aK S k S2:=by
 obtain⟨_,_,_,rfl,_⟩:=a
 obtain⟨ns,c,n,rfl,hn⟩:=b
 exact⟨ns,c,n,by rw[List.set_set],hn⟩
theorem aK.refl{S:Store}(p:aJ S k):aK S k S:=by
 obtain⟨ns,c,n,h,hn⟩:=p
 exact⟨ns,c,n,by
  obtain⟨hl,e⟩:=z0.mp h
  rw[←e,List.set_getElem_self],hn⟩
theorem aK.len{S:Store}(u:aK S k S'):S'.length=S.length:=by
 obtain⟨_,_,_,rfl,_⟩:=u
 simp
theorem aK.pen{S:Store}(p:aJ S k)(u:aK S k S'):aJ S' k:=by
 obtain⟨_,_,_,h,_⟩:=p
 obtain⟨ns,c,n,rfl,hn⟩:=u
 exact⟨ns,c,n,set_get h,hn⟩
theorem aJ.lt{S:Store}(p:aJ S k):k<S.length:=by
 obtain⟨_,_,_,h,_⟩:=p
 exact(z0.mp h).1
theorem aJ.app{S:Store}(J:Store)(p:aJ S k):aJ (S++J) k:=by
 have hl:=p.lt
 obtain⟨ns,c,n,h,hn⟩:=p
 exact⟨ns,c,n,by rw[x8 hl];exact h,hn⟩
theorem aK.split{S T:Store}(p:aJ S k)(u:aK (S++J) k T):∃S',T=S'++J/\aK S k S'/\aJ S' k:=by
 have hl:=p.lt
 obtain⟨ns,c,n,rfl,hn⟩:=u
 have u:aK S k (S.set k (iC ns c n)):=⟨ns,c,n,rfl,hn⟩
 exact⟨S.set k (iC ns c n),by rw[List.set_append_left k _ hl],u,u.pen p⟩
theorem bG(ns:List Int):ak (ns.map D.int)=true:=by
 induction ns with
 | nil=>rfl
 | cons y ys ih=>simp only[List.map_cons,ak,ih,Bool.and_true];rfl
theorem nU(ns:List Int)(c n:Int):ak (iC ns c n)=true:=by
 show(ak (ns.map D.int)&&true)=true
 rw[bG];rfl
theorem aK.flat{S:Store}(u:aK S k S')(h:flat S):RF.flat S':=by
 obtain⟨ns,c,n,rfl,_⟩:=u
 intro l hl
 rcases List.mem_or_eq_of_mem_set hl with hl | rfl
 . exact h l hl
 . exact nU ..
noncomputable def tL:Ct:=λ ds S W=>∃ns k,ds=[.lst (List.map .int ns),.int k]/\0≤k/\∀v,W (.int v) S
noncomputable def JM:Ct:=λ ds S W=>∃ns k,ds=[.lst (List.map .int ns),.int k]/\0≤k/\∀c,W (.loc S.length) (S++[iC ns c k])
noncomputable def c7:Ct:=λ ds S W=>∃k m,ds=[.loc k,.int m]/\aJ S k/\0<m/\m<1000000000000000000000000000000000000000000000000000000000000/\∀v S',0≤v->v<m->aK S k S'->aJ S' k->W (.int v) S'
theorem aM{S:Store}{m:Int}(hp:aJ S k)(h0:0<m)(h1:m<1000000000000000000000000000000000000000000000000000000000000)(w:∀v S',0≤v->v<m->aK S k S'->aJ S' k->W (.int v) S'):([D.loc k,.int m].length=2/\c7 [.loc k,.int m] S W):=⟨rfl,k,m,rfl,hp,h0,h1,w⟩
theorem Hy(F:Fun Ω.K "_law_cell" "_law_cell" oW f fd)(B:Bi Ω.mg):Ok Ω 1 f fd JR tL:=by
 refine aA (N:=J3) F (Lz B) (by kernel_rfl!) ?_
 rintro ds S W ⟨ns,k,rfl,hk,hw⟩ hl
 have last:∀v:Int,(qy B).wp [some (.lst (ns.map .int)),some (.int k),some (.int v)] S {nx:=λ _ S1=>W .non S1,rt:=W}:=by
  intro v
  have h2:=Int.emod_lt_of_pos ((v % 2147483629+6151*k+1)*48271) (b:=2147483647) (by decide)
  have h3:=Int.emod_nonneg ((v % 2147483629+6151*k+1)*48271) (b:=2147483647) (by decide)
  walk_at "b"
  exact hw _
 have two:∀v:Int,(qL B).wp [some (.lst (ns.map .int)),some (.int k),some (.int v)] S {nx:=λ _ S1=>W .non S1,rt:=W}:=by
  intro v
  walk_at "b"
  refine⟨λ q=>?_,λ q=>⟨λ z=>ff z,λ _=>last v⟩⟩
  have q:=of_decide_eq_true q
  obtain⟨x,h1,h2⟩:=g8 (ds:=ns.map D.int) (v:=0) (by decide) (by omega)
  obtain⟨y,_,rfl⟩:=List.mem_map.mp (y4 h2)
  walk_at "b"
  refine⟨_,h1,?_⟩
  walk_at "b"
  refine⟨λ _=>?_,λ _=>last v⟩
  walk_at "b"
  exact hw _
 walk_at "b"
 refine⟨λ q=>?_,λ q=>two 7⟩
 have q:=of_decide_eq_true q
 walk_at "b"
 obtain⟨x,h1,h2⟩:=g8 (ds:=ns.map D.int) (v:=k % ((ns.map D.int).length:Int)) (Int.emod_nonneg _ (by omega)) (Int.emod_lt_of_pos _ q)
 obtain⟨y,_,rfl⟩:=List.mem_map.mp (y4 h2)
 exact⟨_,h1,two y⟩
theorem J2(F:Fun Ω.K "_law_pen" "_law_pen" rW f fd)(Cq1:Cal Ω "_law_cell" 1 2 tL):Ok Ω 2 f fd Ot JM:=by
 refine aA (N:=N7) F (Nk Cq1) (by kernel_rfl!) ?_
 rintro ds S W ⟨ns,k,rfl,hk,hw⟩ hl
 walk_at "b"
 refine⟨rfl,ns,k,rfl,hk,λ c=>?_⟩
 walk_at "b"
 exact hw c
theorem Jg(F:Fun Ω.K "_law_take" "_law_take" oZ f fd)(Cq1:Cal Ω "_law_cell" 1 2 tL):Ok Ω 2 f fd Ks c7:=by
 refine aA (N:=KY) F (K8 Cq1) (by kernel_rfl!) ?_
 rintro ds S W ⟨k,m,rfl,⟨ns,c,n,hk,hn⟩,h0,h1,hw⟩ hl
 have k2:∀l:List D,(S.set k l)[k]? =some l:=λ l=>set_get hk
 have fin:∀c' n',0≤n'->W (.int (c % m)) (S.set k (iC ns c' n')):=λ c' n' h=>
  hw _ _ (Int.emod_nonneg _ (by omega)) (Int.emod_lt_of_pos _ h0) ⟨ns,c',n',rfl,h⟩ ⟨ns,c',n',k2 _,h⟩
 walk_at "b"
 refine⟨λ _=>?_,λ _=>fin (c/m) n hn⟩
 walk_at "b"
 refine⟨rfl,ns,n+1,rfl,by omega,λ v=>?_⟩
 walk_at "b"
 exact fin v (n+1) (by omega)
theorem bI{S:Store}{l:List D}{n:Nat}(h:n=S.length):(S++[l])[n]? =some l:=by subst h;exact b7 _ _
theorem eY{S:Store}{l l':List D}{n:Nat}(h:n=S.length):(S++[l]).set n l'=S++[l']:=by subst h;exact cF _ _ _
theorem cR{S:Store}{l:List D}(h:flat S)(hl:ak l=true):flat (S++[l]):=by
 intro x hx
 rcases List.mem_append.mp hx with hx | hx
 . exact h x hx
 . have:x=l:=by simpa using hx
   subst this;exact hl
theorem eQ(f:Fm):ao (dF f)=true:=bG (f.1::f.2)
noncomputable def Ln(ns:List Int):Prop:=∀n∈ns,-99≤n/\n≤99
noncomputable def FmB(d:Nat)(w:Int)(f:Fm):Prop:=f.2.length=d/\Ln f.2/\((-w≤f.1/\f.1≤w)∨(w=1/\ -99≤f.1/\f.1≤99))
noncomputable def CZ:Ct:=λ ds S W=>∃(k d:Nat) (w:Int),ds=[.loc k,.int d,.int w]/\aJ S k/\flat S/\d≤10/\1≤w/\w<1000000000000000000000000000000/\∀f S',FmB d w f->aK S k S'->aJ S' k->flat S'->W (dF f) S'
theorem oR{P:Int->Prop}:∀{ys:List D},(∀(i:Nat)(y:D),ys[i]? =some y->∃n:Int,y=D.int n/\P n)->∃fs:List Int,ys=fs.map D.int/\∀n∈fs,P n
 | [],_=>⟨[],rfl,by simp⟩
 | y::ys,h=>by
   obtain⟨n,rfl,hn⟩:=h 0 y rfl
   obtain⟨fs,rfl,hf⟩:=oR (ys:=ys) λ i y h'=>h (i+1) y (by simpa using h')
   exact⟨n::fs,rfl,by
    intro m hm
    rcases List.mem_cons.mp hm with rfl | hm
    . exact hn
    . exact hf m hm⟩
theorem G4(F:Fun Ω.K "_law_form" "_law_form" pJ f fd)(B:Bi Ω.mg)(Cq14:Cal Ω "_law_take" 2 2 c7):Ok Ω 3 f fd Le CZ:=by
 refine aA (N:=J9) F (Bl.drp (Mh B Cq14)) (by kernel_rfl!) ?_
 rintro ds S W ⟨k,d,w,rfl,hp,hS,hd,hw1,hw2,hw⟩ hl
 have one:∀S0,aK S k S0->aJ S0 k->(qp B Cq14).wp [some (.loc k),some (.int d),some (.int w),none,none] S0 {nx:=λ _ S1=>W .non S1,rt:=Drp S.length W}:=by
  intro S0 u0 p0
  walk_at "b"
  refine aM p0 (by omega) (by omega) λ v S1 v0 v1 u1 p1=>?_
  have u1:=u0.trans u1
  have f1:=u1.flat hS
  have n1:=u1.len
  walk_at "b"
  refine⟨⟨by omega,by omega⟩,aV ⟨λ i Γ' T=>∃S2 fs o4,T=S2++[D.int (v-w)::List.map D.int fs]/\aK S k S2/\aJ S2 k/\fs.length=i/\Ln fs/\Γ'=[some (.loc k),some (.int d),some (.int w),some (.loc S.length),o4],⟨S1,[],none,rfl,u1,p1,rfl,λ n hn=>by simp at hn,by rw[n1];rfl⟩,?_,?_⟩⟩
  . rintro i e Γ' T he ⟨S2,fs,o4,rfl,u2,p2,hfl,hfs,rfl⟩
    obtain⟨hi,rfl⟩:=bB he
    walk_at "b"
    refine aM (p2.app _) (by decide) (by decide) λ x T3 x0 x1 u3 p3=>?_
    obtain⟨S3,rfl,u3,p3⟩:=u3.split p2
    have u3:=u2.trans u3
    walk_at "n"
    obtain⟨y,g1,g2⟩:=g8 (ds:=[D.int 0,.int 1,.int 1,.int 0,.int (-1),.int 2,.int 0,.int 1]) x0 x1
    have hy:=y4 g2
    refine⟨y,g1,?_⟩
    obtain⟨z,rfl,hz⟩:∃z:Int,y=.int z/\ -99≤z/\z≤99:=by
     simp only[List.mem_cons,List.not_mem_nil,or_false]at hy
     rcases hy with rfl | rfl | rfl | rfl | rfl | rfl | rfl | rfl<;>exact⟨_,rfl,by decide,by decide⟩
    refine⟨_,bI u3.len.symm,by simp;omega,?_⟩
    rw[eY u3.len.symm]
    refine⟨S3,fs++[z],_,by rw[v3];rfl,u3,p3,by simp[hfl],λ n hn=>?_,rfl⟩
    rcases List.mem_append.mp hn with hn | hn
    . exact hfs n hn
    . have:n=z:=by simpa using hn
      omega
  . rintro Γ' T ⟨S2,fs,o4,rfl,u2,p2,hfl,hfs,rfl⟩
    rw[au]at hfl
    walk_at "b"
    refine⟨_,bI u2.len.symm,.inr ⟨[_],S2,rfl,by rw[u2.len];exact y9 _,eQ (v-w,fs),u2.flat hS,hw (v-w,fs) _ ⟨by simpa using hfl,hfs,.inl ⟨?_,?_⟩⟩ u2 p2 (u2.flat hS)⟩⟩
    . show-w≤v-w;omega
    . show v-w≤w;omega
 walk_at "b"
 refine⟨λ q=>?_,λ q=>⟨λ z=>ff z,λ _=>one S (.refl hp) hp⟩⟩
 have q:=of_decide_eq_true q
 walk_at "b"
 refine aM hp (by decide) (by decide) λ v S1 v0 v1 u1 p1=>?_
 walk_at "b"
 refine⟨λ _=>?_,λ _=>one S1 u1 p1⟩
 walk_at "b"
 refine⟨⟨by omega,by omega⟩,lJ (λ _ y=>∃n:Int,y=.int n/\(-99≤n/\n≤99)) (λ S'=>aK S k S'/\aJ S' k) (by rw[au];omega) ⟨u1,p1⟩ ?_ ?_⟩
 . rintro i d S' hd ⟨u,p⟩ R hR
   walk_at "b"
   refine aM p (by decide) (by decide) λ w S2 w0 w1 u2 p2=>?_
   walk_at "b"
   exact hR _ _ ⟨_,rfl,by omega,by omega⟩ ⟨u.trans u2,p2⟩
 rintro ys S' hlen hys ⟨u,p⟩
 obtain⟨fs,rfl,hf⟩:=oR hys
 rw[au,y7]at hlen
 cases fs with
 | nil=>simp at hlen
 | cons a fs=>
   walk_at "b"
   exact .inl (hw (a,fs) _ ⟨by simp at hlen;show fs.length=d;omega,λ n hn=>hf n (x3 _ hn),.inr ⟨by omega,hf a x5⟩⟩ u p (u.flat hS))
theorem zU(ls:List Lp)(l:Lp):cnt (ls++[l])=aN l.1 l.2 (cnt ls):=by
 unfold cnt
 rw[List.foldl_append];rfl
theorem ie(a:Int)(k:Nat)(cs:List Int):atC (a,List.replicate k 0) cs=a:=by
 unfold atC comesTo
 have:∀(k:Nat)(cs:List Int),(List.zipWith (λ a b=>a*b) (List.replicate k (0:Int)) cs).sum=0:=by
  intro k
  induction k with
  | zero=>intro cs;simp
  | succ k ih=>
    intro cs
    cases cs with
    | nil=>simp
    | cons c cs=>simp[List.replicate_succ,ih]
 rw[this];show a+0=a;omega
theorem Lx(a:Int)(cs:List Int)(c:Int):atC (a,List.replicate cs.length 0++[1]) (cs++[c])=a+c:=by
 unfold atC comesTo
 have:∀cs:List Int,(List.zipWith (λ a b=>a*b) (List.replicate cs.length (0:Int)++[1]) (cs++[c])).sum=c:=by
  intro cs
  induction cs with
  | nil=>simp
  | cons d cs ih=>simp[List.replicate_succ,ih]
 rw[this]
theorem JW(a b:Int)(fs cs:List Int):atC (a+b,fs) cs=atC (a,fs) cs+b:=by
 unfold atC comesTo
 dsimp only
 omega
theorem KH{ls:List Lp}{l:Lp}(h:cs∈cnt (ls++[l])):∃cs' c,cs'∈cnt ls/\cs=cs'++[c]/\atC l.1 cs'≤c/\c<atC l.2 cs':=by
 rw[zU]at h
 obtain⟨ds,hd,h⟩:=List.mem_flatMap.mp h
 unfold bj at h
 obtain⟨c,hc,rfl⟩:=List.mem_map.mp h
 unfold upI at hc
 obtain⟨k,hk,rfl⟩:=List.mem_map.mp hc
 have hk:=List.mem_range.mp hk
 exact⟨ds,_,hd,rfl,by omega,by omega⟩
theorem KC{ls:List Lp}{l:Lp}{sz:Nat}(h:∀cs∈cnt ls,atC l.2 cs-atC l.1 cs≤(sz:Int)):(cnt (ls++[l])).length≤(cnt ls).length*sz:=by
 rw[zU]
 refine pH λ cs hc=>?_
 rw[cz]
 have:=h cs hc
 omega
noncomputable def Bef(bf:D)(ls:List Lp):Prop:=bf=.non∨∃b0 b1:Int,bf=.tup [.int b0,.int b1]/\ -3≤b0/\b0≤3/\1≤b1/\b1≤4/\1≤ls.length/\∀cs∈cnt ls,∃cs' c,cs=cs'++[c]/\b0≤c/\c<b0+b1
noncomputable def LpI(ls:List Lp):Prop:=∀(i:Nat)(l:Lp),ls[i]? =some l->BdF l.1 i/\BdF l.2 i
theorem LpI.snoc{ls:List Lp}{l:Lp}(h:LpI ls)(h1:BdF l.1 ls.length)(h2:BdF l.2 ls.length):LpI (ls++[l]):=by
 intro i x hx
 by_cases hi:i<ls.length
 . rw[x8 hi]at hx;exact h i x hx
 . rw[List.getElem?_append_right (by omega)]at hx
   have:i=ls.length:=by
    have:=(z0.mp hx).1
    simp at this;omega
   subst this
   simp at hx
   subst hx
   exact⟨h1,h2⟩
noncomputable def nlO(o:Option D):Prop:=∀d,o=some d->ao d=true
theorem cG:nlO none:=λ d h=>by cases h
theorem jj(n:Int):nlO (some (.int n)):=λ d h=>by cases h;rfl
noncomputable def Hi(n:Nat)(o:Option D):Prop:=nlO o∨∃j,o=some (.loc j)/\n≤j
theorem Dz{n:Nat}{J:List (List D)}{o:Option D}(h:nlO o):iZ n J o=o:=by
 cases o with
 | none=>rfl
 | some d=>
   cases d with
   | loc j=>have:=h _ rfl;simp[ao]at this
   | _=>rfl
theorem Dm{n:Nat}{J:List (List D)}(h:j<n):iZ n J (some (.loc j))=some (.loc j):=by simp[iZ,h]
theorem rD{n:Nat}{J:List (List D)}{o:Option D}(hJ:flat J)(h:Hi n o):nlO (iZ n J o):=by
 rcases h with h | ⟨j,rfl,hj⟩
 . rw[Dz h];exact h
 . intro d hd
   have:¬j<n:=by omega
   simp only[iZ,if_neg this]at hd
   cases e:J[j-n]? with
   | none=>rw[e]at hd;cases hd
   | some ds=>rw[e]at hd;cases hd;exact hJ ds (y4 e)
theorem fL(ls:List Lp):ak (ls.map dL)=true:=by
 induction ls with
 | nil=>rfl
 | cons y ys ih=>
   simp only[List.map_cons,ak,ih,Bool.and_true]
   show ak [dF y.1,dF y.2]=true
   simp only[ak,eQ,Bool.and_true]
noncomputable def wZ:Ct:=λ ds S W=>∃(k:Nat) (m:Nat),ds=[.loc k,.int m]/\aJ S k/\flat S/\1≤m/\m≤1000/\∀ls S',Lps ls->(cnt ls).length≤m->aK S k S'->aJ S' k->flat S'->W (.tup (ls.map dL)) S'
theorem zeros(n:Int):(List.replicate n.toNat [D.int 0]).flatten=(List.replicate n.toNat (0:Int)).map D.int:=by
 generalize n.toNat=m
 induction m with
 | zero=>rfl
 | succ m ih=>simp[List.replicate_succ,ih]
theorem Rc{Ω:Wd}{b:Bl Ω}{Γ:Gam}{S:Store}{W:DL.Fin}(h:b.wp Γ S {W with nx:=vV S.length W.nx}):b.fza.wp Γ S W:=h
theorem jP{d:D}{Γ:Gam}{R:Gam->Prop}(h:R (Γ.set j (some d))):(Tg.nm j).wp d Γ R:=h
theorem aK.split2{S T:Store}{a b:List D}(p:aJ S k)(u:aK (S++[a]++[b]) k T):∃S',T=S'++[a]++[b]/\aK S k S'/\aJ S' k:=by
 obtain⟨T1,rfl,u1,p1⟩:=u.split (p.app _)
 obtain⟨S1,rfl,u2,p2⟩:=u1.split p
 exact⟨S1,rfl,u2,p2⟩
theorem mL{S:Store}{l:List D}{n:Nat}(h:n=S.length):(S++[l]++J)[n]? =some l:=by
 subst h
 rw[x8 (by simp)];exact b7 _ _
theorem sS{S:Store}{l l':List D}{n:Nat}(h:n=S.length):(S++[l]++J).set n l'=S++[l']++J:=by
 subst h
 rw[List.set_append_left _ _ (by simp),cF]
theorem Fe(ls:List Lp):∀cs∈cnt ls,cs.length=ls.length:=by
 have:∀(ls:List Lp)(acc:List (List Int))(n:Nat),(∀cs∈acc,cs.length=n)->∀cs∈ls.foldl (λ acc l=>aN l.1 l.2 acc) acc,cs.length=n+ls.length:=by
  intro ls
  induction ls with
  | nil=>intro acc n h cs hc;simpa using h cs hc
  | cons l ls ih=>
    intro acc n h cs hc
    have:=ih (aN l.1 l.2 acc) (n+1) (λ ds hd=>by
     obtain⟨es,he,hd⟩:=List.mem_flatMap.mp hd
     unfold bj at hd
     obtain⟨c,_,rfl⟩:=List.mem_map.mp hd
     simp[h es he]) cs hc
    rw[this,List.length_cons];omega
 intro cs hc
 have:=this ls [[]] 0 (by simp) cs hc
 omega
noncomputable def Ed(S:Store)(k m i:Nat)(Γ':Gam)(T:Store):Prop:=∃S2 ls room bf o5 o6 o7 o8 o9 o10 o11,T=S2++[List.map dL ls]/\aK S k S2/\aJ S2 k/\ls.length=i/\LpI ls/\1≤room/\(cnt ls).length*room≤m/\Bef bf ls/\ao bf=true/\(nlO o5/\nlO o6/\nlO o7/\nlO o8/\nlO o9/\nlO o10/\nlO o11)/\Γ'=[some (.loc k),some (.int m),some (.loc S.length),some (.int (room:Nat)),some bf,o5,o6,o7,o8,o9,o10,o11]
theorem zM{n:Nat}{o:Option D}{d:D}(h:Hi n o)(e:o=some d):ao d=true∨∃j,d=.loc j:=by
 rcases h with h | ⟨j,rfl,_⟩
 . exact .inl (h d e)
 . cases e;exact .inr ⟨j,rfl⟩
theorem Jb{S S3:Store}{room size:Nat}{ls:List Lp}{l:Lp}{bf:D}{low way:Int}{o9 o10 o11:Option D}(hp:aJ S k)(hS:flat S)(u:aK S k S3)(p:aJ S3 k)(hJ:flat J)(hln:ls.length=i)(hlp:LpI ls)(b1:BdF l.1 i)(b2:BdF l.2 i)(s1:1≤size)(s2:size≤room)(hr2:(cnt ls).length*room≤m)
 (hc:∀cs∈cnt ls,atC l.2 cs-atC l.1 cs≤(size:Int))(hbf:Bef bf (ls++[l]))(hnb:ao bf=true)(n9:Hi (S.length+1) o9)(n10:Hi (S.length+1) o10)(n11:Hi (S.length+1) o11):
 vV (S.length+1) (Ed S k m (i+1)) [some (.loc k),some (.int m),some (.loc S.length),some (.int ((room:Int)/(size:Int))),some bf,some (.int i),some (.int size),some (.int low),some (.int way),o9,o10,o11] (S3++[(ls++[l]).map dL]++J):=by
 have hl3:=u.len
 have hk:=hp.lt
 have e1:(room:Int)/(size:Int)=((room/size:Nat):Int):=(Int.natCast_ediv room size).symm
 have hlen:(S3++[(ls++[l]).map dL]).length=S.length+1:=by simp[hl3]
 refine .inr ⟨J,S3++[(ls++[l]).map dL],rfl,by rw[hlen];exact y9 _,hJ,cR (u.flat hS) (fL _),?_,?_⟩
 . intro x d hx
   match x,hx with
   | 0,hx=>cases hx;exact .inr ⟨_,rfl⟩
   | 1,hx=>cases hx;exact .inl rfl
   | 2,hx=>cases hx;exact .inr ⟨_,rfl⟩
   | 3,hx=>cases hx;exact .inl rfl
   | 4,hx=>cases hx;exact .inl hnb
   | 5,hx=>cases hx;exact .inl rfl
   | 6,hx=>cases hx;exact .inl rfl
   | 7,hx=>cases hx;exact .inl rfl
   | 8,hx=>cases hx;exact .inl rfl
   | 9,hx=>exact zM n9 (by simpa using hx)
   | 10,hx=>exact zM n10 (by simpa using hx)
   | 11,hx=>exact zM n11 (by simpa using hx)
   | x+12,hx=>simp at hx
 . rw [hlen]
   refine⟨S3,ls++[l],room/size,bf,some (.int i),some (.int size),some (.int low),some (.int way),_,_,_,rfl,u,p,by simp[hln],hlp.snoc (by rw[hln];exact b1) (by rw[hln];exact b2),Nat.div_pos s2 s1,?_,hbf,hnb,⟨jj _,jj _,jj _,jj _,rD hJ n9,rD hJ n10,rD hJ n11⟩,?_⟩
   . have h1:=KC (l:=l) hc
     have h2:=Nat.mul_le_mul_right (room/size) h1
     have h3:(cnt ls).length*size*(room/size)≤(cnt ls).length*room:=by
      rw[Nat.mul_assoc];exact Nat.mul_le_mul_left _ (Nat.mul_div_le room size)
     omega
   . show[_,_,_,_,_,_,_,_,_,_,_,_]=[_,_,_,_,_,_,_,_,_,_,_,_]
     rw[Dm (by omega),Dm (by omega),Dz (o:=some bf) (λ d h=>by cases h;exact hnb),e1]
     rfl
theorem Fo(F:Fun Ω.K "_law_loops" "_law_loops" lZ f fd)(B:Bi Ω.mg)(Cq14:Cal Ω "_law_take" 2 2 c7):Ok Ω 3 f fd GP wZ:=by
 refine aA (N:=Hu) F (Bl.drp (Ha B Cq14)) (by kernel_rfl!) ?_
 rintro ds S W ⟨k,m,rfl,hp,hS,hm1,hm2,hw⟩ hl
 walk_at "b"
 refine aM (hp.app _) (by decide) (by decide) λ v T v0 v1 u1 p1=>?_
 obtain⟨S1,rfl,u1,p1⟩:=u1.split hp
 walk_at "b"
 refine⟨⟨by omega,by omega⟩,aV ⟨Ed S k m,⟨S1,[],m,.non,none,none,none,none,none,none,none,rfl,u1,p1,rfl,λ i l h=>by simp at h,hm1,by simp[cnt],.inl rfl,rfl,⟨cG,cG,cG,cG,cG,cG,cG⟩,rfl⟩,?_,?_⟩⟩
 . rintro i e Γ' T he ⟨S2,ls,room,bf,o5,o6,o7,o8,o9,o10,o11,rfl,u2,p2,hln,hlp,hr1,hr2,hbf,hnb,⟨n5,n6,n7,n8,n9,n10,n11⟩,rfl⟩
   obtain⟨hi,rfl⟩:=bB he
   have hi3:i≤2:=by omega
   have ez:(0:Int)+(i:Int)=(i:Int):=by omega
   rw[ez]
   have hS2:(S2++[ls.map dL]).length=S.length+1:=by simp[u2.len]
   suffices body:∀Wf:DL.Fin,(∀G T,vV (S.length+1) (Ed S k m (i+1)) G T->Wf.nx G T)->(lQ B Cq14).wp [some (.loc k),some (.int m),some (.loc S.length),some (.int (room:Nat)),some bf,some (.int (i:Int)),o6,o7,o8,o9,o10,o11] (S2++[ls.map dL]) Wf by
    refine jP (Rc ?_)
    simp only[List.set_cons_succ,List.set_cons_zero]
    refine body _ λ G T h=>?_
    rw[hS2]
    exact h
   intro Wf hnx
   walk_at "b"
   refine aM (p2.app _) (by split<;>omega) (by split<;>omega) λ x T3 x0 x1 u3 p3=>?_
   obtain⟨S3,rfl,u3,p3⟩:=u3.split p2
   have u3:=u2.trans u3
   have hx:1+x≤(room:Int)/\1+x≤4:=by split at x1<;>omega
   clear x1
   walk_at "b"
   refine aM (p3.app _) (by decide) (by decide) λ y T3 y0 y1 u4 p4=>?_
   obtain⟨S4,rfl,u4,p4⟩:=u4.split p3
   have u4:=u3.trans u4
   walk_at "b"
   refine aM (p4.app _) (by decide) (by decide) λ way T3 w0 w1 u5 p5=>?_
   obtain⟨S5,rfl,u5,p5⟩:=u5.split p4
   have u5:=u4.trans u5
   walk_at "b"
   refine⟨_,_,rfl,rfl,⟨by omega,by omega⟩,by simp;omega,?_⟩
   rw[zeros,Int.toNat_natCast]
   obtain⟨sz,hsz⟩:∃n:Nat,1+x=(n:Int):=⟨(1+x).toNat,by omega⟩
   rw[hsz]at hx ⊢
   have hsz1:1≤sz:=by omega
   have hr3:sz≤room:=by omega
   have tail:∀(S':Store)(l:Lp)(J:Store)(size:Nat)(bf':D)(o9 o10 o11:Option D),aK S k S'->aJ S' k->flat J->BdF l.1 i->BdF l.2 i->1≤size->size≤4->size≤room->(∀cs∈cnt ls,atC l.2 cs-atC l.1 cs≤(size:Int))->Bef bf' (ls++[l])->ao bf'=true->Hi (S.length+1) o9->Hi (S.length+1) o10->Hi (S.length+1) o11->
    (bQ B Cq14).wp [some (.loc k),some (.int m),some (.loc S.length),some (.int room),some bf',some (.int i),some (.int size),some (.int (y-3)),some (.int way),o9,o10,o11] (S'++[(ls++[l]).map dL]++J) Wf:=by
    intro S' l J size bf' o9 o10 o11 u p hJ b1 b2 s1 s4 s2 hc hbf hnb n9 n10 n11
    walk_at "b"
    exact hnx _ _ (Jb hp hS u p hJ hln hlp b1 b2 s1 s2 hr2 hc hbf hnb n9 n10 n11)
   have zl:(List.replicate i (0:Int)).length=i:=by simp
   have z9:Hi (S.length+1) (some (.lst ((List.replicate i (0:Int)).map D.int))):=.inl λ d h=>by cases h;exact bG _
   have zb:∀a:Int,-9≤a->a≤9->BdF (a,List.replicate i 0) i:=λ a h1 h2=>⟨zl,h1,h2,λ n hn=>by have:=(List.mem_replicate.mp hn).2;omega⟩
   have br3:∀Wf':DL.Fin,(∀G T,(bQ B Cq14).wp G T Wf->Wf'.nx G T)->(gP B Cq14).wp [some (.loc k),some (.int m),some (.loc S.length),some (.int room),some bf,some (.int i),some (.int sz),some (.int (y-3)),some (.int way),some (.lst ((List.replicate i (0:Int)).map D.int)),o10,o11] (S5++[ls.map dL]) Wf':=by
    intro Wf' hx'
    have app:∀h:Int,y-3≤h->h≤y-3+sz->∃ds,(S5++[ls.map dL])[S.length]? =some ds/\ds.length<1000000/\Wf'.nx [some (.loc k),some (.int m),some (.loc S.length),some (.int room),some (.tup [.int (y-3),.int sz]),some (.int i),some (.int sz),some (.int (y-3)),some (.int way),some (.lst ((List.replicate i (0:Int)).map D.int)),o10,o11] ((S5++[ls.map dL]).set S.length (ds++[dL ((y-3,List.replicate i 0),(h,List.replicate i 0))])):=by
     intro h h1 h2
     refine⟨_,bI u5.len.symm,by simp;omega,?_⟩
     rw[eY u5.len.symm]
     have:=tail S5 ((y-3,List.replicate i 0),(h,List.replicate i 0)) [] sz (.tup [.int (y-3),.int sz]) (some (.lst ((List.replicate i (0:Int)).map D.int))) o10 o11 u5 p5 (λ l h=>by cases h) (zb _ (by omega) (by omega)) (zb _ (by omega) (by omega)) hsz1 (by omega) hr3 (λ cs _=>by
      show atC (h,List.replicate i 0) cs-atC (y-3,List.replicate i 0) cs≤_
      rw[ie,ie];omega) (.inr ⟨y-3,sz,rfl,by omega,by omega,by omega,by omega,by simp,λ cs hcs=>by
      obtain⟨cs',c,_,e,h3,h4⟩:=KH hcs
      rw[ie]at h3 h4
      exact⟨cs',c,e,h3,by omega⟩⟩) rfl z9 (.inl n10) (.inl n11)
     rw[List.append_nil,v3]at this
     exact hx' _ _ this
    walk_at "b"
    refine⟨_,_,rfl,rfl,by simp;omega,?_⟩
    walk_at "b"
    have bb:∀b:Bool,y-3≤y-3+(sz:Int)*(if b=true then 1 else 0)/\y-3+(sz:Int)*(if b=true then 1 else 0)≤y-3+sz:=λ b=>by cases b<;>simp<;>omega
    refine⟨λ q=>?_,λ q=>?_⟩
    . walk_at "b"
      obtain⟨g1,g2⟩:=bb true
      generalize (y-3+(sz:Int)*(if true=true then 1 else 0))=h at g1 g2 ⊢
      refine⟨_,_,rfl,rfl,by simp;omega,?_⟩
      walk_at "b"
      obtain⟨ds,h1,h2,h3⟩:=app h g1 g2
      refine⟨ds,h1,h2,?_⟩
      walk_at "b"
      exact h3
    . walk_at "b"
      obtain⟨g1,g2⟩:=bb (decide (y-3<3))
      generalize (y-3+(sz:Int)*(if decide (y-3<3)=true then 1 else 0))=h at g1 g2 ⊢
      refine⟨_,_,rfl,rfl,by simp;omega,?_⟩
      walk_at "b"
      obtain⟨ds,h1,h2,h3⟩:=app h g1 g2
      refine⟨ds,h1,h2,?_⟩
      walk_at "b"
      exact h3
   have br2:0<i->∀Wf':DL.Fin,(∀G T,(bQ B Cq14).wp G T Wf->Wf'.nx G T)->(il B Cq14).wp [some (.loc k),some (.int m),some (.loc S.length),some (.int room),some bf,some (.int i),some (.int sz),some (.int (y-3)),some (.int way),some (.lst ((List.replicate i (0:Int)).map D.int)),o10,o11] (S5++[ls.map dL]) Wf':=by
    intro hi0 Wf' hx'
    walk_at "b"
    refine⟨_,_,rfl,rfl,⟨by omega,by omega⟩,by simp;omega,?_⟩
    rw[zeros,Int.toNat_natCast]
    walk_at "b"
    refine aM ((p5.app _).app _) (by decide) (by decide) λ a T6 a0 a1 u6 p6=>?_
    obtain⟨S6,rfl,u6,p6⟩:=u6.split2 p5
    have u6:=u5.trans u6
    walk_at "n"
    obtain⟨z,g1,g2⟩:=g8 (ds:=[D.int 1,.int (-1),.int 2,.int (-2)]) a0 a1
    have hz:=y4 g2
    obtain⟨c,rfl,hc1,hc2⟩:∃c:Int,z=.int c/\ -2≤c/\c≤2:=by
     simp only[List.mem_cons,List.not_mem_nil,or_false]at hz
     rcases hz with rfl | rfl | rfl | rfl<;>exact⟨_,rfl,by decide,by decide⟩
    refine⟨_,g1,?_⟩
    walk_at "b"
    refine aM ((p6.app _).app _) (by omega) (by omega) λ j T7 j0 j1 u7 p7=>?_
    obtain⟨S7,rfl,u7,p7⟩:=u7.split2 p6
    have u7:=u6.trans u7
    walk_at "n"
    obtain⟨jn,rfl⟩:∃jn:Nat,j=(jn:Int):=⟨j.toNat,by omega⟩
    have hjn:jn<i:=by omega
    have len7:(S5++[ls.map dL]).length=(S7++[ls.map dL]).length:=by simp[u5.len,u7.len]
    refine⟨_,jn,bI len7,?_,?_⟩
    . unfold ixN
      simp
      omega
    rw[eY len7]
    have e1:((List.replicate i (0:Int)).map D.int).set jn (D.int c)=((List.replicate i (0:Int)).set jn c).map D.int:=by rw[List.map_set]
    rw[e1]
    have hah:∀n∈(List.replicate i (0:Int)).set jn c,-2≤n/\n≤2:=λ n hn=>by
     rcases List.mem_or_eq_of_mem_set hn with hn | rfl
     . have:=(List.mem_replicate.mp hn).2;omega
     . exact⟨hc1,hc2⟩
    have hal:((List.replicate i (0:Int)).set jn c).length=i:=by simp
    generalize (List.replicate i (0:Int)).set jn c=ah at hah hal
    have l7:(S5++[ls.map dL]).length=S.length+1:=by simp[u5.len]
    rw[l7]at len7 ⊢
    have ga:(S7++[ls.map dL]++[ah.map D.int])[S.length+1]? =some (ah.map D.int):=bI len7
    walk_at "b"
    refine⟨_,_,rfl,ga,by simp;omega,?_⟩
    walk_at "b"
    refine⟨_,_,rfl,ga,by simp;omega,?_⟩
    walk_at "b"
    refine⟨_,mL u7.len.symm,by simp;omega,?_⟩
    rw[sS u7.len.symm]
    walk_at "b"
    have:=tail S7 ((y-3,ah),(y-3+sz,ah)) [ah.map D.int] sz .non (some (.lst ((List.replicate i (0:Int)).map D.int))) (some (.loc (S.length+1))) o11 u7 p7 (λ l h=>by
     have:l=ah.map D.int:=by simpa using h
     subst this;exact bG _) ⟨hal,by show-9≤y-3;omega,by show y-3≤9;omega,hah⟩ ⟨hal,by show-9≤y-3+sz;omega,by show y-3+(sz:Int)≤9;omega,hah⟩ hsz1 (by omega) hr3 (λ cs _=>by
     show atC (y-3+sz,ah) cs-atC (y-3,ah) cs≤_
     rw[JW];omega) (.inl rfl) rfl z9 (.inr ⟨_,rfl,y9 _⟩) (.inl n11)
    rw[v3]at this
    exact hx' _ _ this
   have br1:∀b0 b1:Int,bf=.tup [.int b0,.int b1]->way<2->b1≤room->∀Wf':DL.Fin,(∀G T,(bQ B Cq14).wp G T Wf->Wf'.nx G T)->(mD B Cq14).wp [some (.loc k),some (.int m),some (.loc S.length),some (.int room),some bf,some (.int i),some (.int sz),some (.int (y-3)),some (.int way),some (.lst ((List.replicate i (0:Int)).map D.int)),o10,o11] (S5++[ls.map dL]) Wf':=by
    intro b0 b1 ebf hway hb1 Wf' hx'
    subst ebf
    rcases hbf with hbf | ⟨c0,c1,e,q1,q2,q3,q4,q5,q6⟩
    . cases hbf
    cases e
    walk_at "b"
    refine⟨_,_,rfl,rfl,⟨by omega,by omega⟩,by simp;omega,?_⟩
    have hi1:1≤i:=by omega
    have eA:(List.replicate ((i:Int)-1).toNat [D.int 0]).flatten++[D.int 1]=(List.replicate (i-1) (0:Int)++[1]).map D.int:=by
     rw[zeros,show((i:Int)-1).toNat=i-1 by omega,v3];rfl
    have hAl:(List.replicate (i-1) (0:Int)++[1]).length=i:=by simp;omega
    have hAb:∀n∈List.replicate (i-1) (0:Int)++[1],-2≤n/\n≤2:=λ n hn=>by
     rcases List.mem_append.mp hn with hn | hn
     . have:=(List.mem_replicate.mp hn).2;omega
     . have:n=1:=by simpa using hn
       omega
    have hAt:∀(a:Int)(cs':List Int)(c:Int),cs'++[c]∈cnt ls->atC (a,List.replicate (i-1) (0:Int)++[1]) (cs'++[c])=a+c:=λ a cs' c h=>by
     have h1:=Fe ls _ h
     rw[x6,List.length_singleton]at h1
     rw[show i-1=cs'.length by omega]
     exact Lx a cs' c
    generalize hAA:List.replicate (i-1) (0:Int)++[1]=A at eA hAl hAb hAt
    obtain⟨bn,rfl⟩:∃bn:Nat,b1=(bn:Int):=⟨b1.toNat,by omega⟩
    have l5:(S5++[ls.map dL]).length=S.length+1:=by simp[u5.len]
    walk_at "b"
    refine⟨_,_,rfl,rfl,by simp;omega,?_⟩
    rw[eA]
    have ga:∀J,(S5++[ls.map dL]++[A.map D.int]++J)[S.length+1]? =some (A.map D.int):=λ J=>mL l5.symm
    have ga0:(S5++[ls.map dL]++[A.map D.int])[S.length+1]? =some (A.map D.int):=bI l5.symm
    have l6:(S5++[ls.map dL]++[A.map D.int]).length=S.length+2:=by simp[u5.len]
    walk_at "n"
    rw[l5]
    walk_at "b"
    refine⟨_,_,rfl,rfl,by simp;omega,?_⟩
    walk_at "b"
    refine⟨_,_,rfl,ga0,by simp;omega,?_⟩
    walk_at "b"
    rw[l6]
    refine⟨_,_,rfl,ga _,by simp;omega,?_⟩
    walk_at "b"
    refine⟨[b0,(bn:Int)],rfl,?_⟩
    walk_at "b"
    refine⟨_,_,rfl,rfl,by simp;omega,?_⟩
    walk_at "b"
    refine⟨_,bI l6.symm,by simp,?_⟩
    rw[eY l6.symm]
    walk_at "n"
    have hsm:[b0,(bn:Int)].sum=b0+(bn:Int):=by simp
    rw[hsm]
    have fin:∀(l:Lp)(St:List D),ak St=true->BdF l.1 i->BdF l.2 i->(∀cs∈cnt ls,atC l.2 cs-atC l.1 cs≤(bn:Int))->∃ds,(S5++[ls.map dL]++[A.map D.int]++[St])[S.length]? =some ds/\ds.length<1000000/\Wf'.nx [some (.loc k),some (.int m),some (.loc S.length),some (.int room),some .non,some (.int i),some (.int bn),some (.int (y-3)),some (.int way),some (.lst ((List.replicate i (0:Int)).map D.int)),some (.loc (S.length+1)),some (.loc (S.length+2))] ((S5++[ls.map dL]++[A.map D.int]++[St]).set S.length (ds++[dL l])):=by
     intro l St hSt c1 c2 c3
     have e2:∀L:List D,S5++[L]++[A.map D.int]++[St]=S5++[L]++[A.map D.int,St]:=λ L=>by simp
     rw[e2]
     refine⟨_,mL u5.len.symm,by simp;omega,?_⟩
     rw[sS u5.len.symm]
     have:=tail S5 l [A.map D.int,St] bn .non (some (.lst ((List.replicate i (0:Int)).map D.int))) (some (.loc (S.length+1))) (some (.loc (S.length+2))) u5 p5 (λ x h=>by
      rcases List.mem_cons.mp h with rfl | h
      . exact bG _
      . have:x=St:=by simpa using h
        subst this;exact hSt) c1 c2 (by omega) (by omega) (by omega) c3 (.inl rfl) rfl z9 (.inr ⟨_,rfl,y9 _⟩) (.inr ⟨_,rfl,Nat.le_succ _⟩)
     rw[v3]at this
     exact hx' _ _ this
    have hSt:ak ([dL ((b0,List.replicate i 0),(1,A))]++[dL ((0,A),(b0+(bn:Int),List.replicate i 0))])=true:=fL [_,_]
    have:way=0∨way=1:=by omega
    rcases this with rfl | rfl
    . refine⟨_,dL ((b0,List.replicate i 0),(1,A)),bI l6.symm,rfl,?_⟩
      obtain⟨ds,h1,h2,h3⟩:=fin ((b0,List.replicate i 0),(1,A)) _ hSt (zb b0 (by omega) (by omega)) ⟨hAl,(by decide:(-9:Int)≤1),(by decide:(1:Int)≤9),hAb⟩ (λ cs hcs=>by
       obtain⟨cs',c,rfl,g1,g2⟩:=q6 cs hcs
       show atC (1,A) _-atC (b0,List.replicate i 0) _≤_
       rw[hAt _ _ _ hcs,ie];omega)
      refine⟨ds,h1,h2,?_⟩
      walk_at "b"
      exact h3
    . refine⟨_,dL ((0,A),(b0+(bn:Int),List.replicate i 0)),bI l6.symm,rfl,?_⟩
      obtain⟨ds,h1,h2,h3⟩:=fin ((0,A),(b0+(bn:Int),List.replicate i 0)) _ hSt ⟨hAl,(by decide:(-9:Int)≤0),(by decide:(0:Int)≤9),hAb⟩ (zb _ (by omega) (by omega)) (λ cs hcs=>by
       obtain⟨cs',c,rfl,g1,g2⟩:=q6 cs hcs
       show atC (b0+(bn:Int),List.replicate i 0) _-atC (0,A) _≤_
       rw[hAt _ _ _ hcs,ie];omega)
      refine⟨ds,h1,h2,?_⟩
      walk_at "b"
      exact h3
   have els:∀Wf':DL.Fin,(∀G T,(bQ B Cq14).wp G T Wf->Wf'.nx G T)->(Bl.cons (Sm.ite (Te.and (Bt.cons (Te.cmp .Lt (Ex.var 8) (Ex.int 4)) (Bt.one (Te.cmp .Gt (Ex.var 5) (Ex.int 0))))) (il B Cq14) (gP B Cq14)) Bl.nil).wp [some (.loc k),some (.int m),some (.loc S.length),some (.int room),some bf,some (.int i),some (.int sz),some (.int (y-3)),some (.int way),some (.lst ((List.replicate i (0:Int)).map D.int)),o10,o11] (S5++[ls.map dL]) Wf':=by
    intro Wf' hx'
    walk_at "b"
    refine⟨λ q=>?_,λ q=>⟨λ z=>ff z,λ _=>br3 _ hx'⟩⟩
    walk_at "b"
    refine⟨λ q2=>br2 (by have:=of_decide_eq_true q2;omega) _ hx',λ q2=>br3 _ hx'⟩
   walk_at "b"
   refine⟨λ q=>?_,λ q=>⟨λ z=>ff z,λ _=>els _ λ G T h=>h⟩⟩
   have q:=of_decide_eq_true q
   rcases hbf with rfl | ⟨b0,b1,rfl,hb⟩
   . walk_at "b"
     refine⟨λ q=>?_,λ q=>⟨λ z=>ff z,λ _=>br3 _ λ G T h=>h⟩⟩
     walk_at "b"
     exact⟨λ q2=>br2 (by have:=of_decide_eq_true q2;omega) _ λ G T h=>h,λ q2=>br3 _ λ G T h=>h⟩
   . walk_at "b"
     exact⟨λ q2=>br1 b0 b1 rfl q (of_decide_eq_true q2) _ λ G T h=>h,λ q2=>els _ λ G T h=>h⟩
 . rintro Γ' T ⟨S2,ls,room,bf,o5,o6,o7,o8,o9,o10,o11,rfl,u2,p2,hln,hlp,hr1,hr2,hbf,hnb,_,rfl⟩
   rw[au]at hln
   walk_at "b"
   refine⟨_,bI u2.len.symm,.inr ⟨[_],S2,rfl,by rw[u2.len];exact y9 _,fL ls,u2.flat hS,hw ls _ ⟨by omega,by omega,hlp⟩ ?_ u2 p2 (u2.flat hS)⟩⟩
   exact Nat.le_trans (Nat.le_mul_of_pos_right _ hr1) hr2
theorem qd{α:Type}{enc:α->D}{P:α->Prop}:∀{ys:List D},(∀(i:Nat)(y:D),ys[i]? =some y->∃a,y=enc a/\P a)->∃as,ys=List.map enc as/\∀a∈as,P a
 | [],_=>⟨[],rfl,by simp⟩
 | y::ys,h=>by
   obtain⟨a,rfl,ha⟩:=h 0 y rfl
   obtain⟨as,rfl,has⟩:=qd (enc:=enc) (P:=P) (ys:=ys) λ i y h'=>h (i+1) y (by simpa using h')
   exact⟨a::as,rfl,by
    intro b hb
    rcases List.mem_cons.mp hb with rfl | hb
    . exact ha
    . exact has b hb⟩
noncomputable def TpB(ws:List Int)(d t:Nat)(pl:List Fm):Prop:=∃w,ws[t]? =some w/\(pl.length:Int)=w/\∀f∈pl,FmB d 1 f
noncomputable def RdB(ws:List Int)(d:Nat)(r:Rd):Prop:= -1000000000000000000000000000000<r.fac/\r.fac<1000000000000000000000000000000/\TpB ws d r.tab r.pl
noncomputable def StB(d:Nat)(f:Fm):Prop:=f.2.length=d/\Ln f.2/\ -1000000000000000000000000000000<f.1/\f.1<1000000000000000000000000000000
noncomputable def DdB(ws:List Int)(d:Nat)(x:Dd):Prop:=TpB ws d x.tab x.pl/\StB d x.st/\x.rds.length≤3/\∀r∈x.rds,RdB ws d r
noncomputable def WsB(ws:List Int):Prop:=1≤ws.length/\ws.length≤3/\∀w∈ws,1≤w/\w≤2
noncomputable def CQ:Ct:=λ ds S W=>∃(k d:Nat) (ws:List Int),ds=[.loc k,dWs ws,.int d]/\aJ S k/\flat S/\d≤10/\WsB ws/\∀x S',DdB ws d x->aK S k S'->aJ S' k->flat S'->W (dDd x) S'
theorem Mw{t:Int}(hw:WsB ws)(h0:0≤t)(h1:t<(ws.map D.int).length):∃w:Int,atI (ws.map D.int) t=some (.int w)/\ws[t.toNat]? =some w/\1≤w/\w≤2:=by
 obtain⟨x,a,b⟩:=g8 h0 h1
 rw[y8]at b
 cases e:ws[t.toNat]? with
 | none=>rw[e]at b;cases b
 | some w=>rw[e]at b;cases b;exact⟨w,a,rfl,hw.2.2 w (y4 e)⟩
theorem yg(pl:List Fm):ao (dP pl)=true:=by
 show ak (pl.map dF)=true
 induction pl with
 | nil=>rfl
 | cons y ys ih=>simp only[List.map_cons,ak,ih,eQ,Bool.and_true]
theorem qK(rs:List Rd):ak (rs.map dRd)=true:=by
 induction rs with
 | nil=>rfl
 | cons y ys ih=>
   simp only[List.map_cons,ak,ih,Bool.and_true]
   show ak [D.int _,D.int _,dP y.pl]=true
   simp only[ak,yg,Bool.and_true];rfl
theorem uA(x:Dd):ao (dDd x)=true:=by
 show ak [D.int _,dP x.pl,dF x.st,.tup (x.rds.map dRd)]=true
 have:ao (.tup (x.rds.map dRd))=true:=qK x.rds
 simp only[ak,yg,eQ,this,Bool.and_true];rfl
theorem vN:(10:Int) ^ (30:Int).toNat=1000000000000000000000000000000:=by decide
noncomputable def Ms(S:Store)(k d:Nat)(ws:List Int)(t:Int)(pl:List Fm)(st:Fm)(i:Nat)(Γ':Gam)(T:Store):Prop:=∃S2 rds o7 o8 o9 o10,T=S2++[List.map dRd rds]/\aK S k S2/\aJ S2 k/\rds.length=i/\(∀r∈rds,RdB ws d r)/\Γ'=[some (.loc k),some (dWs ws),some (.int d),some (.int t),some (.tup (pl.map dF)),some (dF st),some (.loc S.length),o7,o8,o9,o10]
theorem Jr(F:Fun Ω.K "_law_deed" "_law_deed" oX f fd)(B:Bi Ω.mg)(Cq14:Cal Ω "_law_take" 2 2 c7)(Cq5:Cal Ω "_law_form" 3 3 CZ):Ok Ω 4 f fd LR CQ:=by
 refine aA (N:=KQ) F (Bl.drp (Lq B Cq14 Cq5)) (by kernel_rfl!) ?_
 rintro ds S W ⟨k,d,ws,rfl,hp,hS,hd,hws,hw⟩ hl
 obtain⟨hw1,hw2,hw3⟩:=id hws
 walk_at "b"
 have hlen:((ws.map D.int).length:Int)=(ws.length:Int):=by rw[y7]
 refine aM hp (by rw[hlen];omega) (by rw[hlen];omega) λ t S1 t0 t1 u1 p1=>?_
 obtain⟨w,g1,g2,gw1,gw2⟩:=Mw hws t0 t1
 walk_at "n"
 refine⟨_,g1,?_⟩
 walk_at "b"
 refine⟨⟨by omega,by omega⟩,lJ (λ _ y=>∃f,y=dF f/\FmB d 1 f) (λ S'=>aK S k S'/\aJ S' k/\flat S') (by rw[au];omega) ⟨u1,p1,u1.flat hS⟩ ?_ ?_⟩
 . rintro i e S' he ⟨u,p,f⟩ R hR
   walk_at "b"
   exact⟨rfl,k,d,1,rfl,p,f,hd,by decide,by decide,λ f S4 hf u4 p4 f4=>hR _ _ ⟨f,rfl,hf⟩ ⟨u.trans u4,p4,f4⟩⟩
 rintro ys S2 hyl hys ⟨u2,p2,f2⟩
 obtain⟨pl,rfl,hpl⟩:=qd hys
 rw[au,y7]at hyl
 walk_at "b"
 rw[vN]
 refine aM p2 (by decide) (by decide) λ s S3 s0 s1 u3 p3=>?_
 walk_at "n"
 obtain⟨z,h1,h2⟩:=g8 (ds:=[D.int 1,.int 9,.int (1000000000000000000000000000000-1)]) s0 s1
 have hz:=y4 h2
 obtain⟨c,rfl,hc1,hc2⟩:∃c:Int,z=.int c/\1≤c/\c<1000000000000000000000000000000:=by
  simp only[List.mem_cons,List.not_mem_nil,or_false]at hz
  rcases hz with rfl | rfl | rfl<;>exact⟨_,rfl,by decide,by decide⟩
 refine⟨_,h1,?_⟩
 have u3:=u2.trans u3
 walk_at "b"
 refine⟨rfl,k,d,c,rfl,p3,u3.flat hS,hd,hc1,hc2,λ st S4 hst u4 p4 f4=>?_⟩
 have u4:=u3.trans u4
 walk_at "b"
 refine aM (p4.app _) (by decide) (by decide) λ n T n0 n1 u5 p5=>?_
 obtain⟨S5,rfl,u5,p5⟩:=u5.split p4
 have u5:=u4.trans u5
 walk_at "n"
 refine⟨⟨by omega,by omega⟩,aV ⟨Ms S k d ws t pl st,⟨S5,[],none,none,none,none,rfl,u5,p5,rfl,λ r h=>(by cases h),by rw[←u4.len];rfl⟩,?_,?_⟩⟩
 . rintro i e Γ' T he ⟨S6,rds,o7,o8,o9,o10,rfl,u6,p6,hrl,hrd,rfl⟩
   obtain⟨hi,rfl⟩:=bB he
   suffices body:∀Wf:DL.Fin,(∀G T,Ms S k d ws t pl st (i+1) G T->Wf.nx G T)->(nT B Cq14 Cq5).wp [some (.loc k),some (dWs ws),some (.int d),some (.int t),some (.tup (pl.map dF)),some (dF st),some (.loc S.length),some (.int (0+(i:Int))),o8,o9,o10] (S6++[rds.map dRd]) Wf by
    refine jP ?_
    simp only[List.set_cons_succ,List.set_cons_zero]
    exact body _ λ G T h=>h
   intro Wf hnx
   walk_at "b"
   refine aM (p6.app _) (by rw[hlen];omega) (by rw[hlen];omega) λ o T7 o0 o1 u7 p7=>?_
   obtain⟨S7,rfl,u7,p7⟩:=u7.split p6
   have u7:=u6.trans u7
   obtain⟨w',g1',g2',gw1',gw2'⟩:=Mw hws o0 o1
   walk_at "b"
   refine aM (p7.app _) (by decide) (by decide) λ way T8 w0 w1 u8 p8=>?_
   obtain⟨S8,rfl,u8,p8⟩:=u8.split p7
   have u8:=u7.trans u8
   have rest:∀(c:Int)(S9:Store),aK S k S9->aJ S9 k-> -1000000000000000000000000000000<c->c<1000000000000000000000000000000->(j8 B Cq14 Cq5).wp [some (.loc k),some (dWs ws),some (.int d),some (.int t),some (.tup (pl.map dF)),some (dF st),some (.loc S.length),some (.int (0+(i:Int))),some (.int o),some (.int way),some (.int c)] (S9++[rds.map dRd]) Wf:=by
    intro c S9 u9 p9 c1 c2
    walk_at "n"
    refine⟨_,g1',?_⟩
    walk_at "b"
    refine⟨⟨by omega,by omega⟩,lJ (λ _ y=>∃f,y=dF f/\FmB d 1 f) (λ T=>∃S',T=S'++[rds.map dRd]/\aK S k S'/\aJ S' k) (by rw[au];omega) ⟨S9,rfl,u9,p9⟩ ?_ ?_⟩
    . rintro j e T he ⟨S',rfl,u,p⟩ R hR
      walk_at "b"
      refine⟨rfl,k,d,1,rfl,p.app _,cR (u.flat hS) (qK _),hd,by decide,by decide,λ f S4 hf u4 p4 f4=>?_⟩
      obtain⟨S5,rfl,u5,p5⟩:=u4.split p
      exact hR _ _ ⟨f,rfl,hf⟩ ⟨S5,rfl,u.trans u5,p5⟩
    rintro ys T hyl hys ⟨S10,rfl,u10,p10⟩
    obtain⟨pl',rfl,hpl'⟩:=qd hys
    rw[au,y7]at hyl
    walk_at "b"
    refine⟨_,bI u10.len.symm,by simp;omega,?_⟩
    rw[eY u10.len.symm]
    obtain⟨on,rfl⟩:∃on:Nat,o=(on:Int):=⟨o.toNat,by omega⟩
    refine hnx _ _ ⟨S10,rds++[⟨c,on,pl'⟩],some (.int (0+(i:Int))),some (.int on),some (.int way),some (.int c),by rw[v3];rfl,u10,p10,by simp[hrl],λ r hr=>?_,rfl⟩
    rcases List.mem_append.mp hr with hr | hr
    . exact hrd r hr
    . have:r=⟨c,on,pl'⟩:=by simpa using hr
      subst this
      exact⟨c1,c2,w',by simpa using g2',by show(pl'.length:Int)=w';omega,hpl'⟩
   walk_at "n"
   obtain⟨z,h1,h2⟩:=g8 (ds:=[D.int 1,.int (-1),.int 2,.int 3,.int 0,.int 1,.int (-5),.int 0]) w0 w1
   have hz:=y4 h2
   obtain⟨c,rfl,hc1,hc2⟩:∃c:Int,z=.int c/\ -1000000000000000000000000000000<c/\c<1000000000000000000000000000000:=by
    simp only[List.mem_cons,List.not_mem_nil,or_false]at hz
    rcases hz with rfl | rfl | rfl | rfl | rfl | rfl | rfl | rfl<;>exact⟨_,rfl,by decide,by decide⟩
   refine⟨(by decide:(8:Nat)≤1000000),?_⟩
   walk_at "n"
   refine⟨_,h1,?_⟩
   walk_at "b"
   refine⟨λ q=>?_,λ q=>rest c S8 u8 p8 hc1 hc2⟩
   walk_at "b"
   rw[vN]
   refine aM (p8.app _) (by decide) (by decide) λ v T9 v0 v1 u9 p9=>?_
   obtain⟨S9,rfl,u9,p9⟩:=u9.split p8
   walk_at "b"
   rw[vN]
   exact rest _ S9 (u8.trans u9) p9 (by omega) (by omega)
 . rintro Γ' T ⟨S6,rds,o7,o8,o9,o10,rfl,u6,p6,hrl,hrd,rfl⟩
   rw[au]at hrl
   obtain⟨tn,rfl⟩:∃tn:Nat,t=(tn:Int):=⟨t.toNat,by omega⟩
   walk_at "b"
   refine⟨_,bI u6.len.symm,?_⟩
   walk_at "b"
   have ok:DdB ws d ⟨tn,pl,st,rds⟩:=⟨⟨w,by simpa using g2,by show(pl.length:Int)=w;omega,hpl⟩,⟨hst.1,hst.2.1,by have:=hst.2.2;show _<st.1;omega,by have:=hst.2.2;show st.1<_;omega⟩,by show rds.length≤3;omega,hrd⟩
   exact .inr ⟨[_],S6,rfl,by rw[u6.len];exact y9 _,uA ⟨tn,pl,st,rds⟩,u6.flat hS,hw ⟨tn,pl,st,rds⟩ _ ok u6 p6 (u6.flat hS)⟩
noncomputable def NsB(ws:List Int)(m:Nat)(n:Ns):Prop:=Lps n.lps/\1≤n.dds.length/\n.dds.length≤4/\(cnt n.lps).length≤max 1 (m/n.dds.length)/\∀x∈n.dds,DdB ws n.lps.length x
noncomputable def PgB(m:Nat)(p:Pg):Prop:=WsB p.ws/\1≤p.nss.length/\p.nss.length≤3/\∀n∈p.nss,NsB p.ws (m/p.nss.length) n
noncomputable def Cq:Ct:=λ ds S W=>∃(k m:Nat),ds=[.loc k,.int m]/\aJ S k/\flat S/\12≤m/\m≤60/\∀p S',PgB m p->aK S k S'->aJ S' k->flat S'->W (dPg p) S'
theorem Fv(xs:List Dd):ak (xs.map dDd)=true:=by
 induction xs with
 | nil=>rfl
 | cons y ys ih=>simp only[List.map_cons,ak,ih,uA,Bool.and_true]
theorem G5(n:Ns):ao (dNs n)=true:=by
 show ak [.tup (n.lps.map dL),.tup (n.dds.map dDd)]=true
 have h1:ao (.tup (n.lps.map dL))=true:=fL _
 have h2:ao (.tup (n.dds.map dDd))=true:=Fv _
 simp only[ak,h1,h2,Bool.and_true]
theorem jX(xs:List Ns):ak (xs.map dNs)=true:=by
 induction xs with
 | nil=>rfl
 | cons y ys ih=>simp only[List.map_cons,ak,ih,G5,Bool.and_true]
theorem Hs(p:Pg):ao (dPg p)=true:=by
 show ak [dWs p.ws,.tup (p.nss.map dNs)]=true
 have h1:ao (dWs p.ws)=true:=bG _
 have h2:ao (.tup (p.nss.map dNs))=true:=jX _
 simp only[ak,h1,h2,Bool.and_true]
noncomputable def Mu(S:Store)(k m:Nat)(ws:List Int)(many:Nat)(i:Nat)(Γ':Gam)(T:Store):Prop:=∃S2 nss o5 o6 o7,T=S2++[List.map dNs nss]/\aK S k S2/\aJ S2 k/\nss.length=i/\(∀n∈nss,NsB ws (m/many) n)/\Γ'=[some (.loc k),some (.int m),some (dWs ws),some (.int many),some (.loc S.length),o5,o6,o7]
theorem yC(F:Fun Ω.K "_law_program" "_law_program" iM f fd)(B:Bi Ω.mg)(Cq14:Cal Ω "_law_take" 2 2 c7)(Cq6:Cal Ω "_law_loops" 3 2 wZ)(Cq4:Cal Ω "_law_deed" 4 3 CQ):Ok Ω 5 f fd zW Cq:=by
 refine aA (N:=Al) F (Bl.drp (zY B Cq14 Cq6 Cq4)) (by kernel_rfl!) ?_
 rintro ds S W ⟨k,m,rfl,hp,hS,hm1,hm2,hw⟩ hl
 walk_at "b"
 refine aM hp (by decide) (by decide) λ v S1 v0 v1 u1 p1=>?_
 walk_at "b"
 refine⟨⟨by omega,by omega⟩,lJ (λ _ y=>∃n:Int,y=.int n/\(1≤n/\n≤2)) (λ S'=>aK S k S'/\aJ S' k) (by rw[au];omega) ⟨u1,p1⟩ ?_ ?_⟩
 . rintro i d S' hd ⟨u,p⟩ R hR
   walk_at "b"
   refine aM p (by decide) (by decide) λ w S2 w0 w1 u2 p2=>?_
   walk_at "b"
   exact hR _ _ ⟨_,rfl,by omega,by omega⟩ ⟨u.trans u2,p2⟩
 rintro ys S2 hyl hys ⟨u2,p2⟩
 obtain⟨ws,rfl,hws⟩:=oR hys
 rw[au,y7]at hyl
 have hW:WsB ws:=⟨by omega,by omega,hws⟩
 walk_at "b"
 refine aM p2 (by decide) (by decide) λ mv S3 m0 m1 u3 p3=>?_
 have u3:=u2.trans u3
 obtain⟨many,hmany⟩:∃n:Nat,1+mv=(n:Int):=⟨(1+mv).toNat,by omega⟩
 walk_at "b"
 rw[hmany]
 refine⟨⟨by omega,by omega⟩,aV ⟨Mu S k m ws many,⟨S3,[],none,none,none,rfl,u3,p3,rfl,λ r h=>(by cases h),by rw[←u3.len];rfl⟩,?_,?_⟩⟩
 . rintro i e Γ' T he ⟨S4,nss,o5,o6,o7,rfl,u4,p4,hnl,hns,rfl⟩
   obtain⟨hi,rfl⟩:=bB he
   suffices body:∀Wf:DL.Fin,(∀G T,Mu S k m ws many (i+1) G T->Wf.nx G T)->(jg B Cq14 Cq6 Cq4).wp [some (.loc k),some (.int m),some (dWs ws),some (.int many),some (.loc S.length),some (.int (0+(i:Int))),o6,o7] (S4++[nss.map dNs]) Wf by
    refine jP ?_
    simp only[List.set_cons_succ,List.set_cons_zero]
    exact body _ λ G T h=>h
   intro Wf hnx
   walk_at "b"
   refine aM (p4.app _) (by decide) (by decide) λ dv T5 d0 d1 u5 p5=>?_
   obtain⟨S5,rfl,u5,p5⟩:=u5.split p4
   have u5:=u4.trans u5
   obtain⟨dn,hdn⟩:∃n:Nat,1+dv=(n:Int):=⟨(1+dv).toNat,by omega⟩
   walk_at "b"
   rw[hdn]
   have em:(if(m:Int)/(many:Int)/(dn:Int)>1 then(m:Int)/(many:Int)/(dn:Int)else 1)=((max 1 (m/many/dn):Nat):Int):=by
    rw[←Int.natCast_ediv,←Int.natCast_ediv]
    split<;>omega
   have hdiv:m/many/dn≤60:=Nat.le_trans (Nat.div_le_self _ _) (Nat.le_trans (Nat.div_le_self _ _) hm2)
   rw[em]
   refine⟨rfl,k,max 1 (m/many/dn),rfl,p5.app _,cR (u5.flat hS) (jX _),by omega,by omega,λ ls T6 hls hcn u6 p6 f6=>?_⟩
   obtain⟨S6,rfl,u6,p6⟩:=u6.split p5
   have u6:=u5.trans u6
   walk_at "b"
   have l3:=hls.2.1
   refine⟨⟨by omega,by omega⟩,lJ (λ _ y=>∃x,y=dDd x/\DdB ws ls.length x) (λ T=>∃S',T=S'++[nss.map dNs]/\aK S k S'/\aJ S' k) (by rw[au];omega) ⟨S6,rfl,u6,p6⟩ ?_ ?_⟩
   . rintro j e T he ⟨S',rfl,u,p⟩ R hR
     walk_at "b"
     rw[y7]
     refine⟨rfl,k,ls.length,ws,rfl,p.app _,cR (u.flat hS) (jX _),by omega,hW,λ f S4 hf u4 p4 f4=>?_⟩
     obtain⟨S5,rfl,u5,p5⟩:=u4.split p
     exact hR _ _ ⟨f,rfl,hf⟩ ⟨S5,rfl,u.trans u5,p5⟩
   rintro ys T hyl hys ⟨S7,rfl,u7,p7⟩
   obtain⟨dds,rfl,hdds⟩:=qd hys
   rw[au,y7]at hyl
   walk_at "b"
   refine⟨_,bI u7.len.symm,by simp;omega,?_⟩
   rw[eY u7.len.symm]
   refine hnx _ _ ⟨S7,nss++[⟨ls,dds⟩],some (.int (0+(i:Int))),some (.int dn),some (.tup (ls.map dL)),by rw[v3];rfl,u7,p7,by simp[hnl],λ r hr=>?_,rfl⟩
   rcases List.mem_append.mp hr with hr | hr
   . exact hns r hr
   . have:r=⟨ls,dds⟩:=by simpa using hr
     subst this
     have e:dds.length=dn:=by omega
     exact⟨hls,by show 1≤dds.length;omega,by show dds.length≤4;omega,by show _≤max 1 (m/many/dds.length);rw[e];exact hcn,hdds⟩
 . rintro Γ' T ⟨S4,nss,o5,o6,o7,rfl,u4,p4,hnl,hns,rfl⟩
   rw[au]at hnl
   walk_at "b"
   refine⟨_,bI u4.len.symm,?_⟩
   walk_at "b"
   have ok:PgB m ⟨ws,nss⟩:=⟨hW,by show 1≤nss.length;omega,by show nss.length≤3;omega,λ n hn=>by
    show NsB ws (m/nss.length) n
    rw[show nss.length=many by omega]
    exact hns n hn⟩
   exact .inr ⟨[_],S4,rfl,by rw[u4.len];exact y9 _,Hs ⟨ws,nss⟩,u4.flat hS,hw ⟨ws,nss⟩ _ ok u4 p4 (u4.flat hS)⟩
noncomputable def vK:Ct:=λ ds S W=>∃(f:Fm) (cs:List Int),ds=[dF f,dC cs]/\f.2.length=cs.length/\cs.length≤10/\C64 cs/\W (.int (atC f cs)) S
noncomputable def qM(fs cs:List Int):D->D
 | .int i=>.int (fs.getD i.toNat 0*cs.getD i.toNat 0)
 | d=>d
theorem Jj{fs:List Int}(h:fs.length=cs.length):(DL.upTo 0 cs.length).map (qM fs cs)=(List.zipWith (λ a b=>a*b) fs cs).map D.int:=by
 refine List.ext_getElem (by simp[h,au]) λ i h1 h2=>?_
 have hi:i<cs.length:=by simpa[au]using h1
 have hf:i<fs.length:=by omega
 simp[DL.upTo,qM,List.getD,hi,hf]
theorem Nj(F:Fun Ω.K "_law_at" "_law_at" yN f fd)(B:Bi Ω.mg):Ok Ω 1 f fd QR vK:=by
 refine aA (N:=PT) F (RD B) (by kernel_rfl!) ?_
 rintro ds S W ⟨⟨a,fs⟩,cs,rfl,hf,hz,hc,hw⟩ hl
 dsimp only at hf
 walk_at "b"
 refine⟨_,aY (j:=0) rfl,?_⟩
 walk_at "b"
 have e0:((cs.map D.int).length:Int).toNat=cs.length:=by simp
 refine⟨⟨by omega,by simp;omega⟩,?_⟩
 rw[e0]
 refine dB (qM fs cs) (by rw[au];omega) ?_ ?_
 . intro i e he Q hq
   obtain⟨hi,rfl⟩:=bB he
   have hf':i<fs.length:=by omega
   have g1:atI (D.int a::fs.map D.int) (1+(0+(i:Int)))=some (.int fs[i]):=by
    have:(1+(0+(i:Int)))=((i+1:Nat):Int):=by omega
    rw[this]
    exact aY (by simp[hf'])
   have g2:atI (cs.map D.int) (0+(i:Int))=some (.int cs[i]):=by
    have:(0+(i:Int))=((i:Nat):Int):=by omega
    rw[this]
    exact aY (by simp[hi])
   have hci:=hc cs[i] (List.getElem_mem _)
   walk_at "b"
   refine⟨_,g1,?_⟩
   walk_at "b"
   refine⟨_,g2,?_⟩
   walk_at "b"
   have e:qM fs cs (.int (0+(i:Int)))=.int (fs[i]*cs[i]):=by
    have:(0+(i:Int)).toNat=i:=by omega
    simp[qM,List.getD,hi,hf']
   rw[e]at hq
   exact hq
 . rw[Jj hf]
   refine⟨_,rfl,?_⟩
   walk_at "b"
   exact hw
noncomputable def Dq:Ct:=λ ds S W=>∃(t:Nat) (pl:List Fm) (cs:List Int),ds=[.int t,dP pl,dC cs]/\pl.length≤1000/\(∀f∈pl,f.2.length=cs.length)/\cs.length≤10/\C64 cs/\W (aC (spot t pl cs)) S
theorem Im(F:Fun Ω.K "_law_spot" "_law_spot" oO f fd)(B:Bi Ω.mg)(Cq0:Cal Ω "_law_at" 1 2 vK):Ok Ω 2 f fd J6 Dq:=by
 refine aA (N:=KZ) F (Lw B Cq0) (by kernel_rfl!) ?_
 rintro ds S W ⟨t,pl,cs,rfl,hpl,hfl,hcl,hcs,hw⟩ hl
 walk_at "b"
 refine fC (λ f=>.int (atC f cs)) (by omega) ?_ ?_
 . intro i f hf Q hq
   walk_at "b"
   exact⟨rfl,f,cs,rfl,hfl f (y4 hf),hcl,hcs,hq⟩
 . walk_at "b"
   have e:(spot t pl cs).2.map D.int=pl.map λ f=>D.int (atC f cs):=by unfold spot;rw[List.map_map];rfl
   unfold aC at hw
   rw[e]at hw
   exact hw
theorem Cs.c64(h:Cs i cs):C64 cs:=λ c hc=>by
 have:=h.2 c hc
 have:=zH i
 omega
noncomputable def Jt:Ct:=λ ds S W=>∃ls,ds=[.tup (List.map dL ls)]/\Lps ls/\flat S/\W (.lst ((cnt ls).map dC)) S
theorem xu{o:Option D}(h:nlO o):rM k ds o=o:=by
 cases o with
 | none=>rfl
 | some d=>
   cases d with
   | loc j=>have:=h _ rfl;simp[ao]at this
   | _=>rfl
theorem Kv(cs:List Int):ao (dC cs)=true:=bG cs
theorem Ae(F:Fun Ω.K "_law_counts" "_law_counts" jy f fd)(B:Bi Ω.mg)(Cq0:Cal Ω "_law_at" 1 2 vK):Ok Ω 2 f fd Ek Jt:=by
 refine aA (N:=En) F (Eu B Cq0) (by kernel_rfl!) ?_
 rintro ds S W ⟨ls,rfl,hL,hS,hw⟩ hl
 walk_at "b"
 refine aV ⟨λ i Γ' S'=>(∃o2 o3 o4 o5 o6,Γ'=[some (.tup (ls.map dL)),some (.lst ((cnt (ls.take i)).map dC)),o2,o3,o4,o5,o6]/\nlO o5/\nlO o6)/\S'=S,⟨⟨_,_,_,_,_,rfl,cG,cG⟩,rfl⟩,?_,?_⟩
 . rintro i e Γ' S' he ⟨⟨o2,o3,o4,o5,o6,rfl,n5,n6⟩,rfl⟩
   rw[y8]at he
   cases e1:ls[i]? with
   | none=>rw[e1]at he;cases he
   | some l=>
     rw[e1]at he
     cases he
     have hi:=(z0.mp e1).1
     have h3:=hL.2.1
     obtain⟨lo,hi_⟩:=l
     obtain⟨b1,b2⟩:=hL.2.2 i _ e1
     dsimp only at b1 b2
     have hcs:=lB hL i (by omega)
     have hln:=(hL.fits.2 (i+1) (by omega)).1
     have hgo:=jZ e1
     rw[hgo]at hln
     dsimp only at hgo hln
     generalize hG:cnt (ls.take i)=G at*
     walk_at "b"
     refine⟨rfl,?_⟩
     walk_at "b"
     refine aV ⟨λ m Γ' T=>(∃o5 o6,Γ'=[some (.tup (ls.map dL)),some (.lst (G.map dC)),some (dF lo),some (dF hi_),some (.loc S'.length),o5,o6]/\nlO o5/\nlO o6)/\T=S'++[(aN lo hi_ (G.take m)).map dC],⟨⟨_,_,rfl,n5,n6⟩,rfl⟩,?_,?_⟩
     . rintro m e Γ' T he ⟨⟨o5,o6,rfl,n5,n6⟩,rfl⟩
       obtain⟨cs,e2,rfl⟩:=cW he
       have hc:=hcs cs (y4 e2)
       have hb:=zH (i+1)
       have a1:=jr (by omega) b1 hc
       have a2:=jr (by omega) b2 hc
       have lf:=yz (lo:=lo) (hi:=hi_) e2
       walk_at "b"
       refine⟨rfl,lo,cs,rfl,by rw[b1.1,hc.1],by rw[hc.1];omega,hc.c64,?_⟩
       walk_at "b"
       refine⟨rfl,hi_,cs,rfl,by rw[b2.1,hc.1],by rw[hc.1];omega,hc.c64,?_⟩
       walk_at "b"
       refine⟨⟨by omega,by omega,by omega,by omega⟩,aV ⟨λ j Γ' T=>(∃o6,Γ'=[some (.tup (ls.map dL)),some (.lst (G.map dC)),some (dF lo),some (dF hi_),some (.loc S'.length),some (dC cs),o6]/\nlO o6)/\T=S'++[(aN lo hi_ (G.take m)++(bj lo hi_ cs).take j).map dC],⟨⟨_,rfl,n6⟩,by simp⟩,?_,?_⟩⟩
       . rintro j e Γ' T he ⟨⟨o6,rfl,n6⟩,rfl⟩
         obtain⟨hj,rfl⟩:=bB he
         have hj':j<(bj lo hi_ cs).length:=by rw[cz];exact hj
         walk_at "b"
         refine⟨by rw[y7,hc.1,List.length_singleton];omega,_,b7 _ _,by rw[y7,x6,List.length_take];omega,?_⟩
         refine⟨⟨_,rfl,jj _⟩,?_⟩
         rw[cF]
         have e3:(bj lo hi_ cs)[j]? =some (cs++[atC lo cs+(j:Int)]):=by
          unfold bj
          rw[y8,Dr (by rw[cz]at hj';exact hj')];rfl
         have e4:dC (cs++[atC lo cs+(j:Int)])=D.tup (cs.map D.int++[D.int (atC lo cs+(j:Int))]):=by
          unfold dC;rw[v3];rfl
         rw[aF e3,←List.append_assoc,v3 (l₂:=[_]),List.map_singleton,e4]
       . rintro Γ' T ⟨⟨o6,rfl,n6⟩,rfl⟩
         refine⟨⟨_,_,rfl,λ d h=>by cases h;exact Kv cs,n6⟩,?_⟩
         have e5:(bj lo hi_ cs).take (DL.upTo (atC lo cs) (atC hi_ cs-atC lo cs).toNat).length=bj lo hi_ cs:=by
          rw[au];exact List.take_of_length_le (by rw[cz];exact y9 _)
         rw[e5,gm e2]
     . rintro Γ' T ⟨⟨o5,o6,rfl,n5,n6⟩,rfl⟩
       rw[y7,List.take_length,←hgo]
       walk_at "b"
       refine .inr ⟨_,_,rfl,y9 _,lK _,hS,?_,⟨some (dF lo),some (dF hi_),some (.lst ((cnt (ls.take (i+1))).map dC)),o5,o6,?_,n5,n6⟩,rfl⟩
       . intro x d hx
         match x,hx with
         | 0,hx=>cases hx;exact .inl (fL _)
         | 1,hx=>cases hx;exact .inr ⟨_,rfl⟩
         | 2,hx=>cases hx;exact .inl (eQ _)
         | 3,hx=>cases hx;exact .inl (eQ _)
         | 4,hx=>cases hx;exact .inr ⟨_,rfl⟩
         | 5,hx=>exact .inl (n5 d (by simpa using hx))
         | 6,hx=>exact .inl (n6 d (by simpa using hx))
         | x+7,hx=>simp at hx
       . show[_,_,_,_,_,_,_]=[_,_,_,_,_,_,_]
         rw[xu n5,xu n6]
         simp[rM,dF]
 . rintro Γ' S' ⟨⟨o2,o3,o4,o5,o6,rfl,n5,n6⟩,rfl⟩
   rw[y7,List.take_length]
   walk_at "b"
   exact hw
noncomputable def dPt(cs:List Int)(r:Rd):D:=.tup [.int r.fac,aC (spot r.tab r.pl cs)]
noncomputable def b8(cs:List Int)(x:Dd):D:=.tup [aC (spot x.tab x.pl cs),.int (atC x.st cs),.lst (x.rds.map (dPt cs))]
noncomputable def pB(n:Ns):List D:=(cnt n.lps).flatMap λ cs=>n.dds.map (b8 cs)
noncomputable def Gq(p:Pg):List D:=p.nss.flatMap pB
noncomputable def wI:Ct:=λ ds S W=>∃(p:Pg) (m:Nat),ds=[dPg p]/\PgB m p/\m≤60/\flat S/\hand W (Gq p) S
theorem wA{α β:Type}{f:α->List β}{b:Nat}:∀{l:List α},(∀a∈l,(f a).length≤b)->(l.flatMap f).length≤l.length*b
 | [],_=>by simp
 | a::l,h=>by
   have ih:=wA (l:=l) λ x hx=>h x (x3 _ hx)
   have:=h a x5
   rw[List.flatMap_cons,x6,List.length_cons,Nat.succ_mul]
   omega
theorem nW(c:Cell):ao (aC c)=true:=by
 have h:ao (.tup (c.2.map D.int))=true:=bG _
 show ak [D.int _,.tup (c.2.map D.int)]=true
 simp only[ak,h,Bool.and_true];rfl
theorem pY{α:Type}{f:α->D}(h:∀a,ao (f a)=true):∀l:List α,ak (l.map f)=true
 | []=>rfl
 | a::l=>by simp only[List.map_cons,ak,h,pY h l,Bool.and_true]
theorem Il(cs:List Int)(r:Rd):ao (dPt cs r)=true:=by
 show ak [D.int _,aC _]=true
 simp only[ak,nW,Bool.and_true];rfl
theorem qD(cs:List Int)(x:Dd):ao (b8 cs x)=true:=by
 have h:ao (.lst (x.rds.map (dPt cs)))=true:=pY (Il cs) _
 show ak [aC _,D.int _,.lst (x.rds.map (dPt cs))]=true
 simp only[ak,nW,h,Bool.and_true];rfl
theorem jH:∀{l:List D},(∀d∈l,ao d=true)->ak l=true
 | [],_=>rfl
 | d::l,h=>by simp only[ak,h d x5,jH λ x hx=>h x (x3 _ hx),Bool.and_true]
theorem Cj(p:Pg):ak (Gq p)=true:=jH λ d hd=>by
 obtain⟨n,_,hd⟩:=List.mem_flatMap.mp hd
 obtain⟨cs,_,hd⟩:=List.mem_flatMap.mp hd
 obtain⟨x,_,rfl⟩:=List.mem_map.mp hd
 exact qD cs x
theorem Cm{α β:Type}{f:α->List β}{l:List α}{a:α}(h:l[i]? =some a):(l.take (i+1)).flatMap f=(l.take i).flatMap f++f a:=by
 rw[aF h,List.flatMap_append];simp
theorem Fw(F:Fun Ω.K "_law_steps" "_law_steps" lG f fd)(Cq0:Cal Ω "_law_at" 1 2 vK)(Cq3:Cal Ω "_law_counts" 2 1 Jt)(Cq12:Cal Ω "_law_spot" 2 3 Dq):Ok Ω 3 f fd HJ wI:=by
 refine aA (N:=HD) F (Bl.frz (Jk Cq0 Cq3 Cq12)) (by kernel_rfl!) ?_
 rintro ds S W ⟨p,m,rfl,hP,hm,hS,hw⟩ hl
 obtain⟨hW,hn1,hn3,hns⟩:=hP
 have big:∀n∈p.nss,(cnt n.lps).length≤60/\n.dds.length≤4:=λ n hn=>by
  obtain⟨_,_,h4,hc,_⟩:=hns n hn
  have h1:m/p.nss.length/n.dds.length≤60:=Nat.le_trans (Nat.div_le_self _ _) (Nat.le_trans (Nat.div_le_self _ _) hm)
  exact⟨by omega,h4⟩
 have b1:∀(n:Ns)(j:Nat),n∈p.nss->(((cnt n.lps).take j).flatMap λ cs=>n.dds.map (b8 cs)).length≤240:=λ n j hn=>by
  obtain⟨h1,h2⟩:=big n hn
  have:=wA (l:=(cnt n.lps).take j) (f:=λ cs=>n.dds.map (b8 cs)) (b:=4) (λ cs _=>by rw[y7];exact h2)
  rw[List.length_take]at this
  omega
 have b2:∀i:Nat,((p.nss.take i).flatMap pB).length≤720:=λ i=>by
  have:=wA (l:=p.nss.take i) (f:=pB) (b:=240) (λ n hn=>by
   have:=b1 n (cnt n.lps).length (List.mem_of_mem_take hn)
   rw[List.take_length]at this
   exact this)
  rw[List.length_take]at this
  omega
 walk_at "b"
 refine aV ⟨λ i Γ' S'=>(∃o2 o3 o4 o5 o6 o7 o8 o9,Γ'=[some (dPg p),some (.loc S.length),o2,o3,o4,o5,o6,o7,o8,o9])/\S'=S++[(p.nss.take i).flatMap pB],⟨⟨_,_,_,_,_,_,_,_,rfl⟩,rfl⟩,?_,?_⟩
 . rintro i e Γ' S' he ⟨⟨o2,o3,o4,o5,o6,o7,o8,o9,rfl⟩,rfl⟩
   obtain⟨n,hn,rfl⟩:=cW he
   have hnm:=y4 hn
   obtain⟨hL,d1,d4,hc,hdd⟩:=hns n hnm
   obtain⟨g1,g2⟩:=big n hnm
   have gb:=b2 i
   walk_at "b"
   refine⟨rfl,?_⟩
   walk_at "b"
   refine⟨rfl,n.lps,rfl,hL,cR hS ?_,?_⟩
   . exact jH λ d hd=>by
      obtain⟨n,_,hd⟩:=List.mem_flatMap.mp hd
      obtain⟨cs,_,hd⟩:=List.mem_flatMap.mp hd
      obtain⟨x,_,rfl⟩:=List.mem_map.mp hd
      exact qD cs x
   walk_at "n"
   refine aV ⟨λ j Γ' S'=>(∃o4 o5 o6 o7 o8 o9,Γ'=[some (dPg p),some (.loc S.length),some (.tup (n.lps.map dL)),some (.tup (n.dds.map dDd)),o4,o5,o6,o7,o8,o9])/\S'=S++[(p.nss.take i).flatMap pB++((cnt n.lps).take j).flatMap λ cs=>n.dds.map (b8 cs)],⟨⟨_,_,_,_,_,_,rfl⟩,by simp⟩,?_,?_⟩
   . rintro j e Γ' S' he ⟨⟨o4,o5,o6,o7,o8,o9,rfl⟩,rfl⟩
     obtain⟨cs,hcs,rfl⟩:=cW he
     have hC:Cs n.lps.length cs:=lB hL n.lps.length (y9 _) cs (by rw[List.take_length];exact y4 hcs)
     have hcl:cs.length≤10:=by have:=hC.1;have:=hL.2.1;omega
     have gj:=b1 n j hnm
     walk_at "b"
     refine aV ⟨λ t Γ' S'=>(∃o5 o6 o7 o8 o9,Γ'=[some (dPg p),some (.loc S.length),some (.tup (n.lps.map dL)),some (.tup (n.dds.map dDd)),some (dC cs),o5,o6,o7,o8,o9])/\S'=S++[((p.nss.take i).flatMap pB++((cnt n.lps).take j).flatMap λ cs=>n.dds.map (b8 cs))++(n.dds.take t).map (b8 cs)],⟨⟨_,_,_,_,_,rfl⟩,by simp⟩,?_,?_⟩
     . rintro t e Γ' S' he ⟨⟨o5,o6,o7,o8,o9,rfl⟩,rfl⟩
       obtain⟨x,hx,rfl⟩:=cW he
       obtain⟨⟨w,_,hwl,hpl⟩,hst,hr3,hrd⟩:=hdd x (y4 hx)
       have plen:∀{t:Nat}{pl:List Fm},TpB p.ws n.lps.length t pl->pl.length≤1000/\∀f∈pl,f.2.length=cs.length:=λ{t pl} h=>by
        obtain⟨w,hw,hl,hf⟩:=h
        have:=hW.2.2 w (y4 hw)
        exact⟨by omega,λ f h=>by rw[(hf f h).1,hC.1]⟩
       walk_at "b"
       refine⟨rfl,?_⟩
       walk_at "b"
       refine fC (dPt cs) (by omega) ?_ ?_
       . intro y r hr Q hq
         obtain⟨_,_,htp⟩:=hrd r (y4 hr)
         obtain⟨q1,q2⟩:=plen htp
         walk_at "b"
         refine⟨rfl,?_⟩
         walk_at "b"
         refine⟨rfl,r.tab,r.pl,cs,rfl,q1,q2,hcl,hC.c64,?_⟩
         walk_at "b"
         exact hq
       obtain⟨q1,q2⟩:=plen ⟨w,‹_›,hwl,hpl⟩
       walk_at "b"
       refine⟨rfl,x.tab,x.pl,cs,rfl,q1,q2,hcl,hC.c64,?_⟩
       walk_at "b"
       refine⟨rfl,x.st,cs,rfl,by rw[hst.1,hC.1],hcl,hC.c64,?_⟩
       walk_at "b"
       refine⟨_,b7 _ _,by simp only[x6,y7,List.length_take];omega,?_⟩
       rw[cF]
       refine⟨⟨_,_,_,_,_,rfl⟩,?_⟩
       rw[aF hx,v3 (l₂:=[_]),List.append_assoc];rfl
     . rintro Γ' S' ⟨⟨o5,o6,o7,o8,o9,rfl⟩,rfl⟩
       refine⟨⟨_,_,_,_,_,_,rfl⟩,?_⟩
       rw[y7,List.take_length,Cm hcs,←List.append_assoc]
   . rintro Γ' S' ⟨⟨o4,o5,o6,o7,o8,o9,rfl⟩,rfl⟩
     refine⟨⟨_,_,_,_,_,_,_,_,rfl⟩,?_⟩
     rw[y7,List.take_length,Cm hn];rfl
 . rintro Γ' S' ⟨⟨o2,o3,o4,o5,o6,o7,o8,o9,rfl⟩,rfl⟩
   rw[y7,List.take_length]
   exact pI hw (Cj p) hS
theorem all_map{α:Type}{enc:α->D}{q:D->Bool}{l:List α}(h:∀a∈l,q (enc a)=true):(l.map enc).all q=true:=by
 rw[List.all_eq_true]
 intro x hx
 obtain⟨a,ha,rfl⟩:=List.mem_map.mp hx
 exact h a ha
theorem fG{α:Type}{enc:α->D}{l:List α}{a b:Int}(h1:a≤(l.length:Int))(h2:(l.length:Int)≤b):bx (.tup (l.map enc)) a b=true:=by
 show(decide _&&decide _)=true
 rw[y7,decide_eq_true h1,decide_eq_true h2];rfl
theorem sI{f:Fm}(h:f.2.length=d):cH (dF f) (d:Int)=true:=by
 show(decide _&&((f.1::f.2).map D.int).all whole)=true
 rw[decide_eq_true (by simp;omega),all_map (λ _ _=>rfl)];rfl
theorem xT{a b n:Int}(h1:a≤n)(h2:n≤b):jC a b (.int n)=true:=by
 show(decide _&&decide _)=true
 rw[decide_eq_true h1,decide_eq_true h2];rfl
theorem JQ{f:Fm}(h:FmB d 1 f):isPlace (d:Int) (dF f)=true:=by
 obtain⟨h1,h2,h3⟩:=h
 show(cH (dF f) (d:Int)&&((f.1::f.2).map D.int).all (jC (-99) 99))=true
 rw[sI h1,all_map λ n hn=>?_]
 . rfl
 . rcases List.mem_cons.mp hn with rfl | hn
   . exact xT (by omega) (by omega)
   . exact xT (h2 n hn).1 (h2 n hn).2
theorem xr{n:Int}(h1: -1000000000000000000000000000000<n)(h2:n<1000000000000000000000000000000):oG n=true:=by
 unfold oG
 rw[vN]
 exact decide_eq_true (by split<;>omega)
theorem K3{f:Fm}(h:StB d f):isStart (dF f) (d:Int)=true:=by
 obtain⟨h1,h2,h3,h4⟩:=h
 show(cH (dF f) (d:Int)&&((f.1::f.2).map D.int).all rP)=true
 rw[sI h1,all_map λ n hn=>?_]
 . rfl
 . rcases List.mem_cons.mp hn with rfl | hn
   . exact xr h3 h4
   . have:=h2 n hn
     exact xr (by omega) (by omega)
theorem Mr{pl:List Fm}(h:TpB ws d t pl):iG (.int t) (dP pl) ws (d:Int)=true:=by
 obtain⟨w,hw,hl,hf⟩:=h
 have ht:=(z0.mp hw).1
 have e:ws.getD ((t:Int)).toNat 0=w:=by simp[List.getD,hw]
 show((decide _&&decide _)&&(bx (.tup (pl.map dF)) (ws.getD ((t:Int)).toNat 0) (ws.getD ((t:Int)).toNat 0)&&(pl.map dF).all (isPlace d)))=true
 rw[e,decide_eq_true (p:=(0:Int)≤t) (by omega),decide_eq_true (p:=(t:Int)<ws.length) (by omega),fG (by omega) (by omega),all_map λ f hf'=>JQ (hf f hf')];rfl
theorem M5{x:Dd}(h:DdB ws d x):dX ws (d:Int) (dDd x)=true:=by
 obtain⟨h1,h2,h3,h4⟩:=h
 show(iG (.int x.tab) (dP x.pl) ws d&&(isStart (dF x.st) d&&(bx (.tup (x.rds.map dRd)) 0 3&&(x.rds.map dRd).all (je ws d))))=true
 rw[Mr h1,K3 h2,fG (by omega) (by omega),all_map λ r hr=>?_]
 . rfl
 . obtain⟨a,b,c⟩:=h4 r hr
   show(oG r.fac&&iG (.int r.tab) (dP r.pl) ws d)=true
   rw[xr a b,Mr c];rfl
theorem zq{f:Fm}(h:BdF f i):bY (dF f) (i:Int)=true:=by
 obtain⟨h1,h2,h3,h4⟩:=h
 show(cH (dF f) (i:Int)&&(decide _&&(decide _&&(f.2.map D.int).all small)))=true
 rw[sI h1,decide_eq_true h2,decide_eq_true h3,all_map λ n hn=>?_]
 . rfl
 . have:=h4 n hn
   show(decide _&&decide _)=true
   rw[decide_eq_true this.1,decide_eq_true this.2];rfl
theorem Ld{ls:List Lp}(h:Lps ls):eV (.tup (ls.map dL))=true:=by
 obtain⟨h1,h2,h3⟩:=h
 show((decide _&&decide _)&&((ls.map dL).mapIdx λ i d=>gq d i).all id)=true
 rw[y7,decide_eq_true (by omega),decide_eq_true (by omega),List.all_eq_true.mpr λ b hb=>?_]
 . rfl
 . obtain⟨i,hi⟩:=List.getElem?_of_mem hb
   rw[List.getElem?_mapIdx,y8]at hi
   cases e:ls[i]? with
   | none=>rw[e]at hi;cases hi
   | some l=>
     rw[e]at hi
     cases hi
     show(bY (dF l.1) i&&bY (dF l.2) i)=true
     rw[zq (h3 i l e).1,zq (h3 i l e).2];rfl
theorem Nx{n:Ns}(h:NsB ws m n):gQ ws (dNs n)=true:=by
 obtain⟨h1,h2,h3,h4,h5⟩:=h
 show(eV (.tup (n.lps.map dL))&&(bx (.tup (n.dds.map dDd)) 1 4&&(n.dds.map dDd).all (dX ws ((n.lps.map dL).length:Int))))=true
 rw[Ld h1,fG (by omega) (by omega),y7,all_map λ x hx=>M5 (h5 x hx)];rfl
theorem PgB.widths{p:Pg}(h:PgB m p):gW (dWs p.ws)=true:=by
 obtain⟨⟨h1,h2,h3⟩,_⟩:=h
 show(bx (.tup (p.ws.map D.int)) 1 3&&(p.ws.map D.int).all (jC 1 2))=true
 rw[fG (by omega) (by omega),all_map λ w hw=>xT (h3 w hw).1 (h3 w hw).2];rfl
theorem PgB.nests{p:Pg}(h:PgB m p):mY (.tup (p.nss.map dNs)) p.ws=true:=by
 obtain⟨_,h1,h2,h3⟩:=h
 show(bx (.tup (p.nss.map dNs)) 1 3&&(p.nss.map dNs).all (gQ p.ws))=true
 rw[fG (by omega) (by omega),all_map λ n hn=>Nx (h3 n hn)];rfl
theorem PgB.ok{p:Pg}(h:PgB m p):∀n∈p.nss,lW n:=λ n hn=>by
 obtain⟨h1,h2,h3,_⟩:=h.2.2.2 n hn
 exact⟨h1.1,h1.fits,by omega⟩
theorem Rf{l:List Int}{b:Int}(h:∀x∈l,x≤b):l.sum≤(l.length:Int)*b:=by
 induction l with
 | nil=>simp
 | cons x l ih=>
   have:=ih λ y hy=>h y (x3 _ hy)
   have:=h x x5
   rw[List.sum_cons,List.length_cons,Int.natCast_add,Int.add_mul]
   omega
theorem PgB.many{p:Pg}(h:PgB m p)(hm:12≤m):many p.nss≤m:=by
 obtain⟨_,h1,h2,h3⟩:=h
 have h4:4≤m/p.nss.length:=by
  rw[Nat.le_div_iff_mul_le (by omega)];omega
 have one:∀n∈p.nss,((cnt n.lps).length:Int)*(n.dds.length:Int)≤((m/p.nss.length:Nat):Int):=λ n hn=>by
  obtain⟨_,d1,d4,hc,_⟩:=h3 n hn
  have h5:1≤m/p.nss.length/n.dds.length:=by
   rw[Nat.le_div_iff_mul_le (by omega)];omega
  have h6:(cnt n.lps).length*n.dds.length≤m/p.nss.length:=by
   have h7:(cnt n.lps).length≤m/p.nss.length/n.dds.length:=by omega
   exact Nat.le_trans (Nat.mul_le_mul_right _ h7) (Nat.div_mul_le_self _ _)
  rw[←Int.natCast_mul]
  exact Int.ofNat_le.mpr h6
 show(p.nss.map λ n=>((cnt n.lps).length:Int)*(n.dds.length:Int)).sum≤_
 have:=Rf (l:=p.nss.map λ n=>((cnt n.lps).length:Int)*(n.dds.length:Int)) (b:=((m/p.nss.length:Nat):Int)) (λ x hx=>by
  obtain⟨n,hn,rfl⟩:=List.mem_map.mp hx
  exact one n hn)
 rw[y7]at this
 have h8:p.nss.length*(m/p.nss.length)≤m:=Nat.mul_div_le _ _
 have h9:(p.nss.length:Int)*((m/p.nss.length:Nat):Int)≤(m:Int):=by rw[←Int.natCast_mul];exact Int.ofNat_le.mpr h8
 omega
theorem Lg{p:Pg}{S:Store}(h:PgB m p)(h12:12≤m)(h60:m≤60)(hS:flat S)(w:W (dPg p) S):xV [dWs p.ws,.tup (p.nss.map dNs)] S W:=
 ⟨p,rfl,h.widths,h.nests,by have:=h.2.2.1;omega,h.ok,by have:=h.many h12;omega,hS,w⟩
theorem Ht{nss:List Ns}{s:Stp}(h:s∈aP nss):∃n,nss[s.1]? =some n/\s.2.1∈cnt n.lps/\s.2.2<n.dds.length:=by
 unfold aP at h
 obtain⟨l,hl,hs⟩:=List.mem_flatten.mp h
 obtain⟨i,hi,rfl⟩:=List.mem_mapIdx.mp hl
 unfold cQ at hs
 obtain⟨cs,hcs,hs⟩:=List.mem_flatMap.mp hs
 obtain⟨t,ht,rfl⟩:=List.mem_map.mp hs
 exact⟨nss[i],y3 hi,hcs,List.mem_range.mp ht⟩
noncomputable def fc(p:Pg)(s:Stp):D:=match p.nss[s.1]? with
 | some n=>(match n.dds[s.2.2]? with | some x=>dCs x s.2.1 | none=>.non)
 | none=>.non
noncomputable def lL:Ct:=λ ds S W=>∃p:Pg,ds=[dPg p]/\p.nss.length≤1000/\(∀n∈p.nss,lW n/\∀x∈n.dds,J0 x)/\(aP p.nss).length≤1000000/\flat S/\W (.lst ((aP p.nss).map (fc p))) S
theorem lW.c64{n:Ns}(h:lW n){cs:List Int}(hc:cs∈cnt n.lps):C64 cs:=λ c hcc=>by
 have:=((h.2.1.2 n.lps.length (y9 _)).2 cs (by rw[List.take_length];exact hc)).2 c hcc
 omega
theorem vG(F:Fun Ω.K "cells_of" "cells_of" gO f fd)(Cq49:Cal Ω "steps_of" 4 1 CK)(Cq20:Cal Ω "cells_of_step" 3 2 nR):Ok Ω 5 f fd zf lL:=by
 refine aA (N:=wX) F (xM Cq49 Cq20) (by kernel_rfl!) ?_
 rintro ds S W ⟨p,rfl,hz,hok,hlen,hS,hw⟩ hl
 walk_at "b"
 refine⟨rfl,p,rfl,hz,λ n hn=>(hok n hn).1,hlen,hS,.inl ?_⟩
 walk_at "n"
 refine fC (fc p) hlen ?_ hw
 intro i s hs Q hq
 obtain⟨n,h1,h2,h3⟩:=Ht (y4 hs)
 obtain⟨ok,dd⟩:=hok n (y4 h1)
 have e:n.dds[s.2.2]? =some n.dds[s.2.2]:=y3 h3
 have ec:fc p s=dCs n.dds[s.2.2] s.2.1:=by
  unfold fc
  rw[h1]
  show(match n.dds[s.2.2]? with | some x=>dCs x s.2.1 | none=>D.non)=_
  rw[e]
 rw[ec]at hq
 walk_at "b"
 exact⟨rfl,p,s,n,n.dds[s.2.2],rfl,h1,e,dd _ (List.getElem_mem _),ok.c64 h2,hq⟩
theorem TpB.pl{pl:List Fm}(hW:WsB ws)(hd:d≤3)(h:TpB ws d t pl):FJ pl:=by
 obtain⟨w,hw,hl,hf⟩:=h
 have:=hW.2.2 w (y4 hw)
 exact⟨by omega,λ f hf'=>by rw[(hf f hf').1];omega⟩
theorem PgB.deeds{p:Pg}(h:PgB m p):∀n∈p.nss,lW n/\∀x∈n.dds,J0 x:=λ n hn=>by
 refine⟨h.ok n hn,λ x hx=>?_⟩
 obtain⟨hL,_,_,_,hd⟩:=h.2.2.2 n hn
 obtain⟨h1,h2,h3,h4⟩:=hd x hx
 exact⟨h1.pl h.1 hL.2.1,by omega,λ r hr=>(h4 r hr).2.2.pl h.1 hL.2.1⟩
theorem Ga(i:Nat)(n:Ns):(cQ i n).length=(cnt n.lps).length*n.dds.length:=by
 unfold cQ
 generalize cnt n.lps=l
 induction l with
 | nil=>simp
 | cons c l ih=>rw[List.flatMap_cons,x6,ih,List.length_cons,Nat.succ_mul];simp[Nat.add_comm]
theorem ju(nss:List Ns):((aP nss).length:Int)=many nss:=by
 have:∀i,i≤nss.length->((aP (nss.take i)).length:Int)=many (nss.take i):=by
  intro i
  induction i with
  | zero=>intro _;rfl
  | succ i ih=>
    intro hi
    have hl:=y3 (l:=nss) (i:=i) (by omega)
    rw[iH hl,x6,Int.natCast_add,ih (by omega),Ga,aF hl]
    unfold many
    rw[v3,List.sum_append]
    simp
 have:=this nss.length (y9 _)
 rw[List.take_length]at this
 exact this
theorem Jl{p:Pg}{S:Store}(h:PgB m p)(h12:12≤m)(h60:m≤60)(hS:flat S)(w:W (.lst ((aP p.nss).map (fc p))) S):lL [dPg p] S W:=
 ⟨p,rfl,by have:=h.2.2.1;omega,h.deeds,by have:=h.many h12;have:=ju p.nss;omega,hS,w⟩
noncomputable def toC(c:Cell):Int×List Int:=((c.1:Int),c.2)
theorem Lb(l:List Cell):l.map aC=(l.map toC).map cD:=by rw[List.map_map];rfl
noncomputable def tch(a b:Cell×List Cell):List Cell:=(if a.1=b.1∨a.1∈b.2 then[a.1]else[])++(if b.1∈a.2 then[b.1]else[])
noncomputable def eH(a b:Cell×List Cell):Bool:=(decide (a.1=b.1)||decide (a.1∈b.2))||decide (b.1∈a.2)
noncomputable def dCR(a:Cell×List Cell):D:=.tup [aC a.1,.lst (a.2.map aC)]
theorem lR:∀(xs ys:List Int),cu (xs.map D.int) (ys.map D.int)=decide (xs=ys)
 | [],[]=>by simp[cu]
 | [],_::_=>by simp[cu]
 | _::_,[]=>by simp[cu]
 | x::xs,y::ys=>by
   simp only[List.map_cons,cu,eqD,lR xs ys]
   rw[Bool.eq_iff_iff]
   simp
theorem yf(a b:Cell):eqD (aC a) (aC b)=decide (a=b):=by
 unfold aC
 simp only[eqD,cu,lR,Bool.and_true]
 rw[Bool.eq_iff_iff]
 simp[Prod.ext_iff]
 intro _
 omega
theorem K5(c:Cell)(l:List Cell):((l.map aC).any λ d=>eqD d (aC c))=decide (c∈l):=by
 rw[List.any_map]
 rw[Bool.eq_iff_iff,List.any_eq_true]
 simp only[Function.comp_apply,yf,decide_eq_true_eq]
 exact⟨λ⟨x,h1,h2⟩=>h2▸h1,λ h=>⟨c,h,rfl⟩⟩
theorem dR:∀xs:List Int,bM (xs.map D.int)=true
 | []=>rfl
 | x::xs=>by simp only[List.map_cons,bM,okD,dR xs,Bool.and_true]
theorem dh:∀xs:List Int,aR (xs.map D.int)=0
 | []=>rfl
 | x::xs=>by simp only[List.map_cons,aR,deep,dh xs];rfl
theorem jK(c:Cell):okD (aC c)=true:=by unfold aC;simp only[okD,bM,dR,Bool.and_true]
theorem tZ(c:Cell):deep (aC c)=2:=by unfold aC;simp only[deep,aR,dh];rfl
theorem qI:∀l:List Cell,bM (l.map aC)=true
 | []=>rfl
 | c::l=>by simp only[List.map_cons,bM,jK,qI l,Bool.and_true]
theorem oA:∀l:List Cell,aR (l.map aC)≤2
 | []=>by simp[aR]
 | c::l=>by have:=oA l;simp only[List.map_cons,aR,tZ];omega
theorem cell_eq{a b:Cell}{S:Store}{W:Bool->Store->Prop}(w:W (decide (a=b)) S):aQ .Eq (aC a) (aC b) S W:=by
 rw[←yf]at w
 unfold aQ
 exact⟨⟨jK a,jK b,by show deep (aC a)≤50;rw[tZ];decide⟩,w⟩
theorem cell_in{c:Cell}{l:List Cell}{S:Store}{W:Bool->Store->Prop}(w:W (decide (c∈l)) S):aQ .In (aC c) (.lst (l.map aC)) S W:=by
 rw[←K5]at w
 exact cIn (ds:=l.map aC) rfl (jK c) (qI l) (Nat.le_trans (oA l) (by decide)) w
theorem J4(l:List Cell):((sset id (l.map toC)).map cD).isEmpty=l.isEmpty:=by
 match l with
 | []=>rfl
 | [a]=>rfl
 | [a,b]=>
   show((if toC b=toC a then[toC a]else if ltC (toC b) (toC a)=true then[toC b,toC a]else[toC a,toC b]).map cD).isEmpty=false
   split
   . rfl
   . split<;>rfl
 | _::_::_::_=>rfl
theorem Dn(a b:Cell×List Cell):(tch a b).length≤2:=by
 unfold tch
 split<;>split<;>simp
theorem Pb(a b:Cell×List Cell):(!(tch a b).isEmpty)=eH a b:=by
 unfold tch eH
 by_cases h1:a.1=b.1
 . simp[h1]
 . by_cases h2:a.1∈b.2
   . simp[h2]
   . by_cases h3:b.1∈a.2<;>simp[h1,h2,h3]
noncomputable def aD(p:Pg):List (Dd×List Int):=p.nss.flatMap λ n=>(cnt n.lps).flatMap λ cs=>n.dds.map λ x=>(x,cs)
noncomputable def crs(x:Dd×List Int):Cell×List Cell:=(spot x.1.tab x.1.pl x.2,x.1.rds.map λ r=>spot r.tab r.pl x.2)
theorem Pj(x:Dd×List Int):dCR (crs x)=dCs x.1 x.2:=by
 unfold dCR crs dCs
 rw[List.map_map];rfl
theorem jQ{α β:Type}{f g:α->List β}:∀{l:List α},(∀a∈l,f a=g a)->l.flatMap f=l.flatMap g
 | [],_=>rfl
 | a::l,h=>by rw[List.flatMap_cons,List.flatMap_cons,h a x5,jQ λ x hx=>h x (x3 _ hx)]
theorem K4(p:Pg):Gq p=(aD p).map λ x=>b8 x.2 x.1:=by
 unfold Gq aD
 rw[List.map_flatMap]
 refine jQ λ n _=>?_
 unfold pB
 rw[List.map_flatMap]
 refine jQ λ cs _=>?_
 rw[List.map_map];rfl
theorem yu{p:Pg}{n:Ns}(h:p.nss[i]? =some n):(cQ i n).map (fc p)=((cnt n.lps).flatMap λ cs=>n.dds.map λ x=>(x,cs)).map λ x=>dCR (crs x):=by
 unfold cQ
 rw[List.map_flatMap,List.map_flatMap]
 refine jQ λ cs _=>?_
 rw[List.map_map,List.map_map]
 apply List.ext_getElem
 . simp
 . intro s h1 h2
   have hs:s<n.dds.length:=by simpa using h2
   rw[List.getElem_map,List.getElem_map,List.getElem_range]
   show fc p (i,cs,s)=dCR (crs (n.dds[s],cs))
   rw[Pj]
   unfold fc
   show(match p.nss[i]? with | some n=>(match n.dds[s]? with | some x=>dCs x cs | none=>D.non) | none=>D.non)=_
   rw[h]
   show(match n.dds[s]? with | some x=>dCs x cs | none=>D.non)=_
   rw[y3 hs]
theorem mJ(p:Pg):(aP p.nss).map (fc p)=(aD p).map λ x=>dCR (crs x):=by
 unfold aP aD
 rw[List.map_flatten,List.map_flatMap,List.flatMap_def]
 congr 1
 apply List.ext_getElem
 . simp
 . intro i h1 h2
   have hi:i<p.nss.length:=by simpa using h2
   rw[List.getElem_map,List.getElem_mapIdx,List.getElem_map]
   exact yu (y3 hi)
noncomputable def oK:Ct:=λ ds S W=>∃x y:Dd×List Int,ds=[b8 x.2 x.1,b8 y.2 y.1]/\x.1.rds.length≤1000/\y.1.rds.length≤1000/\W (.bl (eH (crs x) (crs y))) S
theorem yZ{c:Cell}{x:Dd×List Int}{S:Store}{W:Bool->Store->Prop}(w:W (decide (c∈(crs x).2)) S):aQ .In (aC c) (.lst (x.1.rds.map λ r=>aC (spot r.tab r.pl x.2))) S W:=by
 have e:(x.1.rds.map λ r=>aC (spot r.tab r.pl x.2))=(crs x).2.map aC:=by unfold crs;rw[List.map_map];rfl
 rw[e]
 exact cell_in w
theorem Er(F:Fun Ω.K "_law_touch" "_law_touch" lV f fd):Ok Ω 1 f fd GX oK:=by
 refine aA (N:=IK) F (Jx) (by kernel_rfl!) ?_
 rintro ds S W ⟨x,y,rfl,hx,hy,hw⟩ hl
 unfold eH at hw
 walk_at "b"
 refine cell_eq (a:=(crs x).1) (b:=(crs y).1) ?_
 by_cases h:(crs x).1=(crs y).1
 . rw[decide_eq_true h]at hw ⊢
   walk_at "b"
   exact hw
 . rw [decide_eq_false h]at hw ⊢
   walk_at "b"
   refine fC (λ r:Rd=>aC (spot r.tab r.pl y.2)) (by omega) ?_ ?_
   . intro k r hr Q hq
     walk_at "b"
     refine⟨rfl,?_⟩
     walk_at "b"
     exact hq
   refine yZ (c:=(crs x).1) (x:=y) ?_
   by_cases h2:(crs x).1∈(crs y).2
   . rw[decide_eq_true h2]at hw ⊢
     walk_at "b"
     exact hw
   . rw[decide_eq_false h2]at hw ⊢
     walk_at "b"
     refine fC (λ r:Rd=>aC (spot r.tab r.pl x.2)) (by omega) ?_ ?_
     . intro k r hr Q hq
       walk_at "b"
       refine⟨rfl,?_⟩
       walk_at "b"
       exact hq
     refine yZ (c:=(crs y).1) (x:=x) ?_
     exact hw
noncomputable def ssC(a b:Cell×List Cell):List (Int×List Int):=sset id ((tch a b).map toC)
theorem Nb(a b:Cell×List Cell):((ssC a b).map cD).isEmpty=(ssC a b).isEmpty:=by cases ssC a b<;>rfl
theorem Pq(a b:Cell×List Cell):(ssC a b).length≤2:=by
 unfold ssC
 have h:=Dn a b
 generalize tch a b=l at h
 match l,h with
 | [],_=>exact Nat.zero_le _
 | [x],_=>exact Nat.le_succ _
 | [x,y],_=>
   show(if toC y=toC x then[toC x]else if ltC (toC y) (toC x)=true then[toC y,toC x]else[toC x,toC y]).length≤2
   split
   . exact Nat.le_succ _
   . split<;>exact y9 _
noncomputable def qO:Ct:=λ ds S W=>∃a b:Cell×List Cell,ds=[dCR a,dCR b]/\W (.loc (S.length+1)) (S++[(tch a b).map aC]++[(ssC a b).map cD])
theorem lN(F:Fun Ω.K "touched_cells" "touched_cells" dm f fd)(B:Bi Ω.mg):Ok Ω 1 f fd nM qO:=by
 refine aA (N:=nO) F (nC B) (by kernel_rfl!) ?_
 rintro ds S W ⟨a,b,rfl,hw⟩ hl
 have fin:∀l:List Cell,l=tch a b->(eE B).wp [some (dCR a),some (dCR b),some (.loc S.length)] (S++[l.map aC]) {nx:=λ _ S1=>W .non S1,rt:=W}:=by
  rintro l rfl
  walk_at "b"
  refine⟨(tch a b).map toC,by rw[y7];exact Dn a b,.inr ⟨_,rfl,?_⟩,?_⟩
  . rw[←Lb];exact b7 _ _
  . have e:(S++[(tch a b).map aC]).length=S.length+1:=by simp
    rw[e]
    exact hw
 have two:∀l:List Cell,l=(if a.1=b.1∨a.1∈b.2 then[a.1]else[])->(d9 B).wp [some (dCR a),some (dCR b),some (.loc S.length)] (S++[l.map aC]) {nx:=λ _ S1=>W .non S1,rt:=W}:=by
  intro l el
  have hlen:l.length≤1:=by rw[el];split<;>simp
  walk_at "b"
  refine cell_in ?_
  by_cases h:b.1∈a.2
  . rw[decide_eq_true h]
    walk_at "b"
    refine⟨_,b7 _ _,by rw[y7];omega,?_⟩
    rw[cF]
    have:=fin (l++[b.1]) (by unfold tch;rw[el,if_pos h])
    rw[v3]at this
    exact this
  . rw[decide_eq_false h]
    walk_at "b"
    exact fin l (by unfold tch;rw[el,if_neg h,List.append_nil])
 walk_at "b"
 refine cell_eq ?_
 by_cases h:a.1=b.1
 . rw[decide_eq_true h]
   walk_at "b"
   refine⟨_,b7 _ _,by simp,?_⟩
   rw[cF]
   exact two [a.1] (by rw[if_pos (.inl h)])
 . rw[decide_eq_false h]
   walk_at "b"
   refine cell_in ?_
   by_cases h2:a.1∈b.2
   . rw[decide_eq_true h2]
     walk_at "b"
     refine⟨_,b7 _ _,by simp,?_⟩
     rw[cF]
     exact two [a.1] (by rw[if_pos (.inr h2)])
   . rw[decide_eq_false h2]
     refine bF ?_
     exact two [] (by rw[if_neg (λ z=>z.elim h h2)])
theorem DN(c:List (Int×List Int)):(c.map cD).isEmpty=c.isEmpty:=by cases c<;>rfl
noncomputable abbrev Pr:=Nat×Nat×List (Int×List Int)
noncomputable abbrev CR:=Cell×List Cell
noncomputable def pN(xs:List CR)(i j:Nat):List Pr:=match xs[i]?,xs[j]? with
 | some a,some b=>if(ssC a b).isEmpty then[]else[(i,j,ssC a b)]
 | _,_=>[]
noncomputable def fj(xs:List CR)(i k:Nat):List Pr:=(List.range k).flatMap λ t=>pN xs i (i+1+t)
noncomputable def bJ(xs:List CR)(k:Nat):List Pr:=(List.range k).flatMap λ i=>fj xs i (xs.length-(i+1))
theorem Cw{xs:List CR}{a b:CR}(ha:xs[i]? =some a)(hb:xs[j]? =some b):pN xs i j=if(ssC a b).isEmpty then[]else[(i,j,ssC a b)]:=by
 unfold pN;rw[ha,hb]
theorem jG(xs:List CR)(i k:Nat):fj xs i (k+1)=fj xs i k++pN xs i (i+1+k):=by
 unfold fj;rw[List.range_succ,List.flatMap_append];simp
theorem qe(xs:List CR)(k:Nat):bJ xs (k+1)=bJ xs k++fj xs k (xs.length-(k+1)):=by
 unfold bJ;rw[List.range_succ,List.flatMap_append];simp
theorem Kc(xs:List CR)(i j:Nat):(pN xs i j).length≤1:=by
 unfold pN
 split
 . split<;>simp
 . simp
theorem lM(xs:List CR)(i:Nat):∀k,(fj xs i k).length≤k
 | 0=>by simp[fj]
 | k+1=>by rw[jG,x6];have:=lM xs i k;have:=Kc xs i (i+1+k);omega
theorem tX(xs:List CR):∀k,(bJ xs k).length≤k*xs.length
 | 0=>by simp[bJ]
 | k+1=>by
   rw[qe,x6,Nat.succ_mul]
   have:=tX xs k
   have:=lM xs k (xs.length-(k+1))
   omega
inductive IsPr(n:Nat)(J:Store):List D->List Pr->Prop
 | nil:IsPr n J [] []
 | cons{m:Nat}{q:Pr}{ds:List D}{qs:List Pr}(h1:n+1≤m)(h2:J[m-(n+1)]? =some (q.2.2.map cD))(t:IsPr n J ds qs):IsPr n J (.tup [.int (q.1:Int),.int (q.2.1:Int),.loc m]::ds) (q::qs)
theorem IsPr.more{n:Nat}{J':Store}{qs:List Pr}(h:IsPr n J ds qs):IsPr n (J++J') ds qs:=by
 induction h with
 | nil=>exact .nil
 | cons h1 h2 _ ih=>exact .cons h1 (by rw[x8 (z0.mp h2).1];exact h2) ih
theorem IsPr.snoc{n:Nat}{qs:List Pr}{q:Pr}(h:IsPr n J ds qs)(h1:n+1≤m)(h2:J[m-(n+1)]? =some (q.2.2.map cD)):IsPr n J (ds++[.tup [.int (q.1:Int),.int (q.2.1:Int),.loc m]]) (qs++[q]):=by
 induction h with
 | nil=>exact .cons h1 h2 .nil
 | cons g1 g2 _ ih=>exact .cons g1 g2 ih
theorem IsPr.length{n:Nat}{qs:List Pr}(h:IsPr n J ds qs):ds.length=qs.length:=by
 induction h with
 | nil=>rfl
 | cons _ _ _ ih=>simp[ih]
noncomputable def zF:Ct:=λ ds S W=>∃(p:Pg) (m:Nat),ds=[dPg p]/\PgB m p/\12≤m/\m≤60/\flat S/\∀its J,IsPr S.length J its (bJ ((aD p).map crs) (aD p).length)->W (.loc S.length) (S++[its]++J)
theorem KN{p:Pg}(hP:PgB m p)(h12:12≤m)(h60:m≤60):(aD p).length≤60:=by
 have h1:=hP.many h12
 have h2:=ju p.nss
 have h3:(aP p.nss).length=(aD p).length:=by
  have:=congrArg List.length (mJ p)
  rw[y7,y7]at this
  exact this
 omega
theorem Ej(F:Fun Ω.K "pairs" "pairs" mz f fd)(B:Bi Ω.mg)(Cq19:Cal Ω "cells_of" 5 1 lL)(Cq50:Cal Ω "touched_cells" 1 2 qO):Ok Ω 6 f fd JG zF:=by
 refine aA (N:=HQ) F (GD B Cq19 Cq50) (by kernel_rfl!) ?_
 rintro ds S W ⟨p,m,rfl,hP,h12,h60,hS,hw⟩ hl
 have hN:=KN hP h12 h60
 have eC:(aP p.nss).map (fc p)=((aD p).map crs).map dCR:=by rw[mJ,List.map_map];rfl
 walk_at "b"
 refine⟨rfl,Jl hP h12 h60 hS ?_⟩
 rw[eC]
 have hL:((aD p).map crs).length=(aD p).length:=y7 _
 rw[←hL]at hw hN
 generalize (aD p).map crs=xs at*
 walk_at "b"
 rw[y7]
 refine⟨⟨by omega,by omega⟩,aV ⟨λ i Γ' S'=>∃o3 o4 o5 its J,Γ'=[some (dPg p),some (.lst (xs.map dCR)),some (.loc S.length),o3,o4,o5]/\S'=S++[its]++J/\IsPr S.length J its (bJ xs i),⟨_,_,_,[],[],rfl,by simp,.nil⟩,?_,?_⟩⟩
 . rintro i e Γ' S' he ⟨o3,o4,o5,its,J,rfl,rfl,hp⟩
   obtain⟨hi,rfl⟩:=bB he
   have e2:(0:Int)+(i:Int)=(i:Int):=by omega
   rw[e2]
   have hi':i<xs.length:=by omega
   have ax:atI (xs.map dCR) ((i:Nat):Int)=some (dCR xs[i]):=aY (by rw[y8,y3 hi'];rfl)
   walk_at "b"
   rw[y7]
   refine⟨⟨by omega,by omega⟩,aV ⟨λ k Γ' S'=>∃o4 o5 its J,Γ'=[some (dPg p),some (.lst (xs.map dCR)),some (.loc S.length),some (.int (i:Int)),o4,o5]/\S'=S++[its]++J/\IsPr S.length J its (bJ xs i++fj xs i k),⟨_,_,its,J,rfl,rfl,by unfold fj;simpa using hp⟩,?_,?_⟩⟩
   . rintro k e Γ' S' he ⟨o4,o5,its,J,rfl,rfl,hp⟩
     obtain⟨hk,rfl⟩:=bB he
     have e3:((i:Int)+1)+(k:Int)=((i+1+k:Nat):Int):=by omega
     rw[e3]
     have hj:i+1+k<xs.length:=by omega
     have aj:atI (xs.map dCR) ((i+1+k:Nat):Int)=some (dCR xs[i+1+k]):=aY (by rw[y8,y3 hj];rfl)
     have ePr:=Cw (y3 hi') (y3 hj)
     walk_at "b"
     refine⟨_,ax,?_⟩
     walk_at "b"
     refine⟨_,aj,?_⟩
     walk_at "b"
     refine⟨rfl,xs[i],xs[i+1+k],rfl,?_⟩
     have eL:S++[its]++J++[(tch xs[i] xs[i+1+k]).map aC]++[(ssC xs[i] xs[i+1+k]).map cD]=S++[its]++(J++[(tch xs[i] xs[i+1+k]).map aC,(ssC xs[i] xs[i+1+k]).map cD]):=by simp
     rw[eL]
     have nm:(S++[its]++J).length+1=S.length+1+(J.length+1):=by simp;omega
     rw[nm]
     generalize hc:ssC xs[i] xs[i+1+k]=c at*
     generalize (tch xs[i] xs[i+1+k]).map aC=tl at*
     have hcl:c.length≤2:=by rw[←hc];exact Pq _ _
     have hget:(S++[its]++(J++[tl,c.map cD]))[S.length+1+(J.length+1)]? =some (c.map cD):=by
      rw[List.getElem?_append_right (by simp)]
      rw[show S.length+1+(J.length+1)-(S++[its]).length=J.length+1 from by simp]
      rw[List.getElem?_append_right (by omega)]
      simp
     walk_at "b"
     refine⟨c.map cD,by simp only[vw];rw[hget],.inr ⟨_,rfl,hget⟩,by rw[y7];omega,?_⟩
     have hmore:IsPr S.length (J++[tl,c.map cD]) its (bJ xs i++fj xs i k):=hp.more
     by_cases hz:c.isEmpty=true
     . have e5:(!(c.map cD).isEmpty)=false:=by rw[DN,hz];rfl
       rw[e5]
       refine bF ?_
       exact⟨_,_,its,_,rfl,rfl,by rw[jG,ePr,if_pos hz,List.append_nil];exact hmore⟩
     . have e5:(!(c.map cD).isEmpty)=true:=by rw[DN,show c.isEmpty=false from by cases h9:c.isEmpty with | false=>rfl | true=>exact absurd h9 hz];rfl
       rw[e5]
       walk_at "b"
       have hil:its.length≤4000:=by
        have:=hp.length
        rw[x6]at this
        have a1:=tX xs i
        have a2:=lM xs i k
        have a3:i*xs.length≤60*60:=Nat.mul_le_mul (by omega) hN
        omega
       refine⟨its,mL rfl,by omega,?_⟩
       rw[sS rfl]
       refine⟨_,_,_,_,rfl,rfl,?_⟩
       rw[jG,ePr,if_neg hz,←List.append_assoc]
       refine IsPr.snoc (q:=(i,i+1+k,c)) hmore (by omega) ?_
       rw[show S.length+1+(J.length+1)-(S.length+1)=J.length+1 from by omega]
       rw[List.getElem?_append_right (by omega)]
       simp
   . rintro Γ' S' ⟨o4,o5,its,J,rfl,rfl,hp⟩
     refine⟨_,_,_,its,J,rfl,rfl,?_⟩
     rw[qe]
     rw[au]at hp
     rw[show(((xs.length:Nat):Int)-((i:Int)+1)).toNat=xs.length-(i+1)from by omega]at hp
     exact hp
 . rintro Γ' S' ⟨o3,o4,o5,its,J,rfl,rfl,hp⟩
   rw[au,Int.toNat_natCast]at hp
   exact hw its J hp
theorem Kz{α:Type}[DecidableEq α](kvs:List (α×D))(ns ms:α)(d:D):bC (putD kvs ns d) ms=if ms=ns then some d else bC kvs ms:=by
 have h1:∀l:List (α×D),bC (l++[(ns,d)]) ms=(bC l ms).or (if ms=ns then some d else none):=λ l=>by
  unfold bC
  rw[List.find?_append]
  cases h:l.find? λ kv=>decide (kv.1=ms)with
  | some x=>rfl
  | none=>
    by_cases e:ms=ns
    . subst e;simp
    . have e':¬ns=ms:=λ z=>e z.symm
      simp[List.find?_cons,e,e']
 have h2:∀l:List (α×D),bC (l.map λ kv=>if kv.1=ns then(kv.1,d)else kv) ms=(bC l ms).map λ x=>if ms=ns then d else x:=λ l=>by
  induction l with
  | nil=>rfl
  | cons a l ih=>
    unfold bC at ih ⊢
    rw[List.map_cons,List.find?_cons,List.find?_cons]
    by_cases e:a.1=ms
    . subst e
      by_cases e2:a.1=ns<;>simp[e2]
    . by_cases e2:a.1=ns
      . have e3:¬ns=ms:=λ z=>e (e2.trans z)
        simp only[e2,if_true,e3,decide_false]
        exact ih
      . simp only[e2,if_false,e,decide_false]
        exact ih
 unfold putD
 rw[K9]
 cases h4:bC kvs ns with
 | some x=>
   simp only[Option.isSome_some,if_true]
   rw[h2]
   by_cases e:ms=ns
   . subst e;rw[h4];simp
   . simp[e]
 | none=>
   simp only[Option.isSome_none,Bool.false_eq_true,if_false]
   rw[h1]
   by_cases e:ms=ns
   . subst e;rw[h4];simp
   . simp[e]
theorem Oe{α:Type}[DecidableEq α](kvs:List (α×D))(ns:α)(d:D):(putD kvs ns d).length≤kvs.length+1:=by
 unfold putD
 split<;>simp
noncomputable def dN(l:List Nat):List D:=l.map λ(t:Nat)=>D.int (t:Int)
theorem iz(l:List Nat):ak (dN l)=true:=by
 unfold dN
 induction l with
 | nil=>rfl
 | cons y ys ih=>exact ih
noncomputable def nlV{α:Type}(kv:List (α×D)):Prop:=∀x∈kv,ao x.2=true
theorem Od{α:Type}[DecidableEq α]{kv:List (α×D)}{c:α}{d:D}(h:nlV kv)(hd:ao d=true):nlV (putD kv c d):=by
 unfold putD
 split
 . intro x hx
   obtain⟨y,hy,rfl⟩:=List.mem_map.mp hx
   split
   . exact hd
   . exact h y hy
 . intro x hx
   rcases List.mem_append.mp hx with hx | hx
   . exact h x hx
   . rw[List.mem_singleton.mp hx];exact hd
theorem Gg{l:List D}(h:∀d∈l,ao d=true):ak l=true:=by
 induction l with
 | nil=>rfl
 | cons y ys ih=>simp only[ak,h y x5,ih λ d hd=>h d (x3 _ hd),Bool.and_true]
theorem Kf{kv:Ko}(h:nlV kv):ak (kv.map bu)=true:=Gg λ d hd=>by
 obtain⟨x,hx,rfl⟩:=List.mem_map.mp hd
 show ak [oD x.1,x.2]=true
 have:ao (oD x.1)=true:=by cases x.1<;>rfl
 simp only[ak,this,h x hx,Bool.and_true]
noncomputable def vM(n:Nat)(o:List Nat):Prop:=(∀t∈o,t<n)/\o.Nodup
theorem Bx(p:Pg):(aP p.nss).length=(aD p).length:=by
 have:=congrArg List.length (mJ p)
 rw[y7,y7]at this
 exact this
theorem um(p:Pg):many p.nss=((aD p).length:Int):=by rw[←ju,Bx]
theorem cX{p:Pg}(hP:PgB m p)(h12:12≤m)(h60:m≤60):(aD p).length≤60:=by
 have h1:=hP.many h12
 have h2:=um p
 omega
theorem fZ(l:List Nat):dN l=(l.map λ(t:Nat)=>(t:Int)).map D.int:=by unfold dN;rw[List.map_map];rfl
theorem bH(l:List Nat):(dN l).length=l.length:=y7 _
theorem xN{d:D}(h:(dN l)[i]? =some d):∃t,l[i]? =some t/\d=.int (t:Int):=by
 unfold dN at h
 rw[y8]at h
 cases e:l[i]? with
 | none=>rw[e]at h;cases h
 | some t=>rw[e]at h;cases h;exact⟨t,rfl,rfl⟩
theorem fX(h:l[i]? =some t):(dN l)[i]? =some (.int (t:Int)):=by unfold dN;rw[y8,h];rfl
theorem mW{α:Type}{l:List α}(h:l.Nodup){i j:Nat}(hij:i<j)(hj:j<l.length):l[i]?≠l[j]?:=by
 rw[y3 (by omega),y3 hj]
 intro z
 have z:=Option.some.inj z
 have:=(List.pairwise_iff_getElem.mp h) i j (by omega) hj hij
 exact this z
theorem Jh{ns:List Int}(h:ns.Nodup):unl ns=ns.length:=by
 unfold unl
 have key:∀i,i≤ns.length->PyProof.Rows.firstMet (λ i=>ns.getD i 0) i=ns.take i:=by
  intro i
  induction i with
  | zero=>intro _;rfl
  | succ i ih=>
    intro hi
    have hl:i<ns.length:=by omega
    rw[PyProof.Rows.firstMet_succ,ih (by omega),aF (y3 hl)]
    have e:ns.getD i 0=ns[i]:=by simp[List.getD,hl]
    unfold PyProof.Rows.step_dedup
    rw[e,if_neg]
    intro z
    rw[List.any_eq_true]at z
    obtain⟨x,hx,z⟩:=z
    have z:=eq_of_beq z
    subst z
    obtain⟨j,hj⟩:=List.getElem?_of_mem hx
    rw[List.getElem?_take]at hj
    split at hj
    . rename_i hji
      exact mW h hji hl (by rw[hj,y3 hl])
    . cases hj
 rw[key _ (y9 _),List.take_length]
theorem Jd(h:o.Nodup):(o.map λ(t:Nat)=>(t:Int)).Nodup:=by
 induction o with
 | nil=>exact List.nodup_nil
 | cons x xs ih=>
   rw[List.nodup_cons]at h
   rw[List.map_cons,List.nodup_cons]
   refine⟨λ z=>?_,ih h.2⟩
   obtain⟨y,hy,e⟩:=List.mem_map.mp z
   exact h.1 (by rw[show x=y from by omega];exact hy)
noncomputable def CV:Ct:=λ ds S W=>∃(p:Pg) (m:Nat) (o:List Nat),ds=[dPg p,.lst (dN o)]/\PgB m p/\12≤m/\m≤60/\flat S/\o.length≤60/\vM (aD p).length o/\W (.bl true) S
theorem lF{p:Pg}{S:Store}(hP:PgB m p)(hS:flat S)(w:W (.int ((aD p).length:Int)) S):jm [.tup (p.nss.map dNs)] S W:=
 ⟨p.nss,rfl,by have:=hP.2.2.1;omega,λ n hn=>(hP.deeds n hn).1,hS,by rw[um];exact w⟩
theorem Ah(F:Fun Ω.K "is_row" "is_row" jT f fd)(B:Bi Ω.mg)(Cq40:Cal Ω "is_whole" 1 1 f9)(Cq43:Cal Ω "number_of_steps" 4 1 jm):Ok Ω 5 f fd Gd CV:=by
 refine aA (N:=Ei) F (Es B Cq40 Cq43) (by kernel_rfl!) ?_
 rintro ds S W ⟨p,m,o,rfl,hP,h12,h60,hS,ho,hO,hw⟩ hl
 walk_at "b"
 refine⟨rfl,lF hP hS ?_⟩
 walk_at "b"
 unfold dN
 refine Do (C0:=λ _=>True) (xs:=o) (enc:=λ(t:Nat)=>D.int (t:Int)) (λ _=>.bl true) (by omega) trivial ?_ (.inl ?_)
 . intro i t ht Q hq
   have hlt:=hO.1 t (y4 ht)
   walk_at "b"
   refine⟨rfl,_,rfl,?_⟩
   walk_at "b"
   rw[decide_eq_true (show(t:Int)<((aD p).length:Int)from by omega)]
   exact hq
 walk_at "b"
 refine⟨List.replicate o.length true,by rw[List.map_replicate,←List.map_const'],?_⟩
 have e3:(List.replicate o.length true).all id=true:=by simp
 rw[e3]
 walk_at "b"
 refine⟨_,by show gV S (.lst (dN o))=_;rw[fZ];rfl,by rw[y7];show _<4096;omega,?_⟩
 rw[Jh (Jd hO.2),y7]
 walk_at "b"
 rw[y7,decide_eq_true rfl]
 exact hw
noncomputable def CG:Ct:=λ ds S W=>∃(p:Pg) (m:Nat) (o:List Nat),ds=[dPg p,.lst (dN o)]/\PgB m p/\12≤m/\m≤60/\flat S/\o.length=(aD p).length/\vM (aD p).length o/\W (.bl true) S
theorem uO(F:Fun Ω.K "is_order" "is_order" gD f fd)(B:Bi Ω.mg)(Cq43:Cal Ω "number_of_steps" 4 1 jm)(Cq36:Cal Ω "is_row" 5 2 CV):Ok Ω 6 f fd yV CG:=by
 refine aA (N:=yP) F (vU B Cq43 Cq36) (by kernel_rfl!) ?_
 rintro ds S W ⟨p,m,o,rfl,hP,h12,h60,hS,ho,hO,hw⟩ hl
 have hN:=cX hP h12 h60
 walk_at "b"
 refine⟨rfl,p,m,o,rfl,hP,h12,h60,hS,by omega,hO,?_⟩
 walk_at "b"
 refine⟨rfl,lF hP hS ?_⟩
 walk_at "b"
 rw[bH,decide_eq_true (by omega)]
 exact hw
noncomputable def xQ:Ct:=λ ds S W=>∃(p:Pg) (m:Nat) (o:List Nat),ds=[dPg p,.lst (dN o)]/\PgB m p/\12≤m/\m≤60/\flat S/\o.length=(aD p).length/\vM (aD p).length o/\W .non S
theorem jD(F:Fun Ω.K "refuse_no_order" "refuse_no_order" cI f fd)(Cq32:Cal Ω "is_order" 6 2 CG):Ok Ω 7 f fd lu xQ:=by
 refine aA (N:=kE) F (kj Cq32) (by kernel_rfl!) ?_
 rintro ds S W ⟨p,m,o,rfl,hP,h12,h60,hS,ho,hO,hw⟩ hl
 walk_at "b"
 refine⟨rfl,p,m,o,rfl,hP,h12,h60,hS,ho,hO,?_⟩
 walk_at "b"
 exact hw
noncomputable def Plc(o:List Nat)(i:Nat)(kv:Ko):Prop:=kv.length≤i/\nlV kv/\∀t j:Nat,(o.take i)[j]? =some t->bC kv (some (t:Int))=some (.int (j:Int))
theorem Plc.put{kv:Ko}(h:Plc o i kv)(ho:o.Nodup)(ht:o[i]? =some t):Plc o (i+1) (putD kv (some (t:Int)) (.int (i:Int))):=by
 have hi:=(z0.mp ht).1
 refine⟨by have:=h.1;have:=Oe kv (some (t:Int)) (.int (i:Int));omega,Od h.2.1 rfl,λ u j hj=>?_⟩
 rw[Kz]
 rw[aF ht]at hj
 by_cases hji:j<i
 . rw[x8 (by rw[List.length_take];omega)]at hj
   have hj':=hj
   rw[List.getElem?_take,if_pos hji]at hj'
   have hne:u≠t:=λ e=>mW ho hji hi (by rw[hj',ht,e])
   rw[if_neg (λ z=>hne (by have:=Option.some.inj z;omega))]
   exact h.2.2 u j hj
 . have hl:(o.take i).length=i:=by rw[List.length_take];omega
   rw[List.getElem?_append_right (by omega),hl]at hj
   have hj0:j-i=0:=by
    have:=(z0.mp hj).1
    simp at this
    omega
   rw[hj0]at hj
   simp at hj
   subst hj
   rw[if_pos rfl,show j=i from by omega]
noncomputable def pR:Ct:=λ ds S W=>∃(o:List Nat),ds=[.lst (dN o)]/\o.length≤60/\o.Nodup/\∀kv,Plc o o.length kv->W (.dlo S.length) (S++[kv.map bu])
theorem ym{e:D}(h:((dN l).mapIdx λ i d=>D.tup [.int i,d])[i]? =some e):∃t,l[i]? =some t/\e=.tup [.int (i:Int),.int (t:Int)]:=by
 rw[List.getElem?_mapIdx]at h
 cases e1:(dN l)[i]? with
 | none=>rw[e1]at h;cases h
 | some d=>
   rw[e1]at h
   cases h
   obtain⟨t,ht,rfl⟩:=xN e1
   exact⟨t,ht,rfl⟩
theorem sU(F:Fun Ω.K "places_of" "places_of" fQ f fd)(B:Bi Ω.mg):Ok Ω 1 f fd uQ pR:=by
 refine aA (N:=uV) F (uE B) (by kernel_rfl!) ?_
 rintro ds S W ⟨o,rfl,hn,ho,hw⟩ hl
 walk_at "b"
 refine aV ⟨λ i Γ' T=>∃o2 o3 kv,Γ'=[some (.lst (dN o)),some (.dlo S.length),o2,o3]/\T=S++[List.map bu kv]/\Plc o i kv,⟨_,_,[],rfl,rfl,Nat.zero_le _,(λ x h=>by cases h),λ t j h=>by simp at h⟩,?_,?_⟩
 . rintro i e Γ' T he ⟨o2,o3,kv,rfl,rfl,hk⟩
   obtain⟨t,ht,rfl⟩:=ym he
   have hi:=(z0.mp ht).1
   have hka:=hk.1
   walk_at "b"
   refine⟨rfl,?_⟩
   walk_at "b"
   refine⟨some (t:Int),kv,rfl,by simp,by omega,?_⟩
   have e:(S++[kv.map bu]).set S.length ((putD kv (some (t:Int)) (.int (i:Int))).map bu)=S++[(putD kv (some (t:Int)) (.int (i:Int))).map bu]:=by
    rw[List.set_append_right _ _ (y9 _)];simp
   rw[e]
   exact⟨_,_,_,rfl,rfl,hk.put ho ht⟩
 . rintro Γ' T ⟨o2,o3,kv,rfl,rfl,hk⟩
   have e:((dN o).mapIdx λ i d=>D.tup [.int i,d]).length=o.length:=by rw[List.length_mapIdx,bH]
   rw[e]at hk
   walk_at "b"
   exact hw _ hk
theorem cZ{n:Nat}(h:o.Perm (List.range n)):vM n o:=⟨λ t ht=>List.mem_range.mp (h.mem_iff.mp ht),h.nodup_iff.mpr List.nodup_range⟩
theorem cB{n:Nat}(h:o.Perm (List.range n)):o.length=n:=h.length_eq.trans List.length_range
theorem za{n:Nat}(h:o.Perm (List.range n)){t:Nat}(ht:t<n):t∈o:=h.mem_iff.mpr (List.mem_range.mpr ht)
theorem gf(h:t∈o):o[o.idxOf t]? =some t:=by
 have hl:=List.idxOf_lt_length_of_mem h
 rw[y3 hl,List.getElem_idxOf hl]
noncomputable def brk(o:List Nat)(l:List Pr):Option (Nat×Nat):=(l.find? λ q=>decide (o.idxOf q.2.1<o.idxOf q.1)).map λ q=>(q.1,q.2.1)
noncomputable def dBr:Option (Nat×Nat)->D
 | none=>.non
 | some q=>.tup [.int (q.1:Int),.int (q.2:Int)]
theorem Ky{xs:List CR}{q:Pr}(h:q∈bJ xs xs.length):q.1<xs.length/\q.2.1<xs.length:=by
 obtain⟨i,hi,h⟩:=List.mem_flatMap.mp h
 obtain⟨t,ht,h⟩:=List.mem_flatMap.mp h
 have hi:=List.mem_range.mp hi
 have ht:=List.mem_range.mp ht
 unfold pN at h
 split at h
 . split at h
   . cases h
   . rw[List.mem_singleton]at h
     rw[h]
     exact⟨hi,by show i+1+t<xs.length;omega⟩
 . cases h
theorem IsPr.get{n:Nat}{qs:List Pr}(h:IsPr n J ds qs){i:Nat}{d:D}(hd:ds[i]? =some d):∃q m,qs[i]? =some q/\d=.tup [.int (q.1:Int),.int (q.2.1:Int),.loc m]:=by
 induction h generalizing i with
 | nil=>simp at hd
 | @cons m q ds qs h1 h2 _ ih=>
   cases i with
   | zero=>cases hd;exact⟨q,m,rfl,rfl⟩
   | succ i=>exact ih hd
theorem tM{α:Type}{l:List α}{x:α}(h:l[i]? =some x)(f:α->Bool)(hn:(l.take i).find? f=none):(l.take (i+1)).find? f=if f x=true then some x else none:=by
 rw[aF h,List.find?_append,hn]
 simp[List.find?_cons]
 cases f x<;>rfl
theorem Iw{α:Type}{l:List α}{x:α}(h:l[i]? =some x)(f:α->Bool)(hn:(l.take i).find? f=none)(hx:f x=true):l.find? f=some x:=by
 have e:l=l.take (i+1)++l.drop (i+1):=(List.take_append_drop _ _).symm
 rw[e,List.find?_append,tM h f hn,if_pos hx];rfl
noncomputable def oV:Ct:=λ ds S W=>∃(p:Pg) (m:Nat) (o:List Nat),ds=[dPg p,.lst (dN o)]/\PgB m p/\12≤m/\m≤60/\flat S/\o.Perm (List.range (aD p).length)/\W (dBr (brk o (bJ ((aD p).map crs) (aD p).length))) S
theorem Bs(F:Fun Ω.K "broken" "broken" jz f fd)(Cq44:Cal Ω "pairs" 6 1 zF)(Cq48:Cal Ω "refuse_no_order" 7 2 xQ)(Cq45:Cal Ω "places_of" 1 1 pR):Ok Ω 8 f fd Gf oV:=by
 refine aA (N:=Gr) F (Bl.drp (Gb Cq44 Cq48 Cq45)) (by kernel_rfl!) ?_
 rintro ds S W ⟨p,m,o,rfl,hP,h12,h60,hS,hO,hw⟩ hl
 have hN:=cX hP h12 h60
 have hlo:=cB hO
 walk_at "b"
 refine⟨rfl,p,m,o,rfl,hP,h12,h60,hS,hlo,cZ hO,?_⟩
 walk_at "b"
 refine⟨rfl,o,rfl,by omega,(cZ hO).2,λ kv hk=>?_⟩
 have fk:=Kf hk.2.1
 have f1:flat (S++[kv.map bu]):=λ l hl=>by
  rcases List.mem_append.mp hl with hl | hl
  . exact hS l hl
  . rw[List.mem_singleton.mp hl];exact fk
 walk_at "b"
 refine⟨rfl,p,m,rfl,hP,h12,h60,f1,λ its J hI=>?_⟩
 have hL:((aD p).map crs).length=(aD p).length:=y7 _
 rw[←hL]at hw hI hO
 generalize (aD p).map crs=xs at*
 have look:∀t,t<xs.length->bC kv (some (t:Int))=some (.int ((o.idxOf t:Nat):Int)):=λ t ht=>hk.2.2 t _ (by rw[List.take_length];exact gf (za hO ht))
 have gk:(S++[kv.map bu]++[its]++J)[S.length]? =some (kv.map bu):=by
  rw[List.append_assoc,List.append_assoc,List.getElem?_append_right (y9 _),Nat.sub_self];rfl
 have gi:(S++[kv.map bu]++[its]++J)[(S++[kv.map bu]).length]? =some its:=mL rfl
 walk_at "b"
 refine⟨its,gi,Dw ⟨λ i Γ' T=>(∃o3 o4 o5,Γ'=[some (dPg p),some (.lst (dN o)),some (.dlo S.length),o3,o4,o5])/\T=S++[kv.map bu]++[its]++J/\((bJ xs xs.length).take i).find? (λ q=>decide (o.idxOf q.2.1<o.idxOf q.1))=none,⟨⟨_,_,_,rfl⟩,rfl,rfl⟩,?_,?_,?_⟩⟩
 . rintro i Γ' T ⟨⟨o3,o4,o5,rfl⟩,rfl,_⟩
   exact gi
 . rintro i d Γ' T hd ⟨⟨o3,o4,o5,rfl⟩,rfl,hf⟩
   obtain⟨q,m',hq,rfl⟩:=hI.get hd
   obtain⟨q1,q2⟩:=Ky (y4 hq)
   walk_at "b"
   refine⟨rfl,?_⟩
   walk_at "b"
   refine⟨some (q.1:Int),kv,rfl,gk,_,look _ q1,?_⟩
   walk_at "b"
   refine⟨some (q.2.1:Int),kv,rfl,gk,_,look _ q2,?_⟩
   walk_at "b"
   by_cases h:o.idxOf q.2.1<o.idxOf q.1
   . refine⟨λ _=>?_,λ z=>?_⟩
     . have e:brk o (bJ xs xs.length)=some (q.1,q.2.1):=by
        unfold brk
        rw[Iw hq _ hf (decide_eq_true h)];rfl
       rw[e]at hw
       walk_at "b"
       exact .inr ⟨_,S,by rw[List.append_assoc,List.append_assoc],y9 _,rfl,hS,hw⟩
     . have:=of_decide_eq_false z
       omega
   . refine⟨λ z=>?_,λ _=>?_⟩
     . have:=of_decide_eq_true z
       omega
     . walk_at "b"
       refine⟨⟨_,_,_,rfl⟩,rfl,?_⟩
       rw[tM hq _ hf,if_neg (by rw[decide_eq_false h];exact y6)]
 . rintro Γ' T ⟨⟨o3,o4,o5,rfl⟩,rfl,hf⟩
   rw[hI.length,List.take_length]at hf
   have e:brk o (bJ xs xs.length)=none:=by unfold brk;rw[hf];rfl
   rw[e]at hw
   walk_at "b"
   exact .inr ⟨_,S,by rw[List.append_assoc,List.append_assoc],y9 _,rfl,hS,hw⟩
theorem my{S R:Store}{m:Int}(hp:aJ S k)(h0:0<m)(h1:m<1000000000000000000000000000000000000000000000000000000000000)(w:∀v S',0≤v->v<m->aK S k S'->aJ S' k->W (.int v) (S'++R)):([D.loc k,.int m].length=2/\c7 [.loc k,.int m] (S++R) W):=by
 refine aM (hp.app R) h0 h1 λ v T v0 v1 u p=>?_
 obtain⟨S',rfl,u',p'⟩:=u.split hp
 exact w v S' v0 v1 u' p'
theorem ig{S:Store}{l:List D}(h:S.length=S'.length):(S'++[l])[S.length]? =some l:=by rw[h];simp
theorem Mp{S:Store}{l z:List D}(h:S.length=S'.length):(S'++[l]).set S.length z=S'++[z]:=by rw[h,List.set_append_right _ _ (y9 _),Nat.sub_self];rfl
theorem JP(h:o.Perm (List.range i)):(o.take v++i::o.drop v).Perm (List.range (i+1)):=by
 refine List.perm_middle.trans ?_
 rw[List.take_append_drop,List.range_succ]
 exact(List.Perm.cons _ h).trans (List.perm_append_singleton _ _).symm
noncomputable def Ds:Ct:=λ ds S W=>∃(k n:Nat),ds=[.loc k,.int (n:Int)]/\aJ S k/\n≤60/\flat S/\∀(o:List Nat) S',o.Perm (List.range n)->aK S k S'->aJ S' k->W (.lst (dN o)) S'
theorem FT(F:Fun Ω.K "_law_order" "_law_order" lU f fd)(B:Bi Ω.mg)(Cq14:Cal Ω "_law_take" 2 2 c7):Ok Ω 3 f fd Ir Ds:=by
 refine aA (N:=Jw) F (Bl.frz (Hq B Cq14)) (by kernel_rfl!) ?_
 rintro ds S W ⟨k,n,rfl,hp,hn,hS,hw⟩ hl
 walk_at "b"
 refine⟨⟨by omega,by omega⟩,aV ⟨λ i Γ' T=>∃(S':Store) (o:List Nat) (o3:Option D),Γ'=[some (.loc k),some (.int (n:Int)),some (.loc S.length),o3]/\T=S'++[dN o]/\o.Perm (List.range i)/\aK S k S'/\aJ S' k,⟨S,[],_,rfl,rfl,.refl _,aK.refl hp,hp⟩,?_,?_⟩⟩
 . rintro i e Γ' T he ⟨S2,o,o3,rfl,rfl,hO,u2,p2⟩
   obtain⟨hi,rfl⟩:=bB he
   have hol:=cB hO
   have hi:i<60:=by omega
   have e0:(0+(i:Int))=((i:Nat):Int):=by omega
   rw[e0]
   refine jP ?_
   simp only[List.set_cons_succ,List.set_cons_zero]
   walk_at "b"
   refine⟨_,ig u2.len.symm,?_⟩
   walk_at "b"
   rw[bH,hol]
   refine my p2 (by omega) (by omega) λ v S3 v0 v1 u3 p3=>?_
   have u3:=u2.trans u3
   obtain⟨vn,rfl⟩:∃vn:Nat,v=(vn:Int):=⟨v.toNat,by omega⟩
   walk_at "b"
   refine⟨vn,dN o,rfl,ig u3.len.symm,by rw[bH];omega,by rw[bH];omega,?_⟩
   rw[Mp u3.len.symm]
   walk_at "b"
   refine⟨S3,o.take vn++i::o.drop vn,_,rfl,?_,JP hO,u3,p3⟩
   unfold dN
   rw[v3,List.map_cons,List.map_take,List.map_drop]
 . rintro Γ' T ⟨S2,o,o3,rfl,rfl,hO,u2,p2⟩
   rw[au,Int.toNat_natCast]at hO
   walk_at "b"
   exact .inr ⟨_,S2,by rw[u2.len],rfl,by rw[u2.len];exact y9 _,iz o,u2.flat hS,hw o S2 hO u2 p2⟩
theorem RV(a b:CR):(ssC a b).isEmpty= !eH a b:=by
 rw[←Pb,Bool.not_not,←Nb]
 exact J4 (tch a b)
theorem HS(hO:o.Nodup){t m u:Nat}(ht:t∈o)(hm:m<o.idxOf t)(hu:o[m]? =some u):u≠t:=by
 intro e
 subst e
 have hl:=List.idxOf_lt_length_of_mem ht
 exact mW hO hm hl (by rw[hu,gf ht])
theorem Tr{S:Store}{P:Nat->Prop}(hO:o.Nodup)(ht:t∈o)(w:P (o.idxOf t)):bM (dN o)=true/\okD (vw S (.int (t:Int)))=true/\aR (dN o)≤50/\∃(j:Nat) (y:D),(dN o)[j]? =some y/\eqD y (vw S (.int (t:Int)))=true/\(∀(m:Nat)(z:D),m<j->(dN o)[m]? =some z->eqD z (vw S (.int (t:Int)))=false)/\P j:=by
 refine⟨by rw[fZ];exact dR _,rfl,by rw[fZ,dh];omega,o.idxOf t,_,fX (gf ht),?_,λ m z hm hz=>?_,w⟩
 . show eqD (.int (t:Int)) (.int (t:Int))=true
   simp[eqD]
 . obtain⟨u,hu,rfl⟩:=xN hz
   have:=HS hO ht hm hu
   show eqD (.int (u:Int)) (.int (t:Int))=false
   simp[eqD]
   omega
mutual
theorem Q7(S:Store):∀d:D,ao d=true->vwD S d=d
 | .non,_=>rfl
 | .bl _,_=>rfl
 | .int _,_=>rfl
 | .str _,_=>rfl
 | .dic,_=>rfl
 | .loc _,h=>by simp[ao]at h
 | .dlo _,h=>by simp[ao]at h
 | .tup ds,h=>by simp only[vwD];rw[nA S ds (by simpa[ao]using h)]
 | .lst ds,h=>by simp only[vwD];rw[nA S ds (by simpa[ao]using h)]
theorem nA(S:Store):∀ds:List D,ak ds=true->gr S ds=ds
 | [],_=>rfl
 | d::ds,h=>by
   simp only[ak,Bool.and_eq_true]at h
   simp only[gr]
   rw[Q7 S d h.1,nA S ds h.2]
end
noncomputable def Good(xs:List CR)(o:List Nat):Prop:=∀(pre post:List Nat)(x:Nat),o=pre++x::post->∀i,i<x->∀a b,xs[i]? =some a->xs[x]? =some b->eH a b=true->i∈pre
theorem Good.nil(xs:List CR):Good xs []:=λ pre post x e=>by simp at e
theorem Good.snoc{xs:List CR}{y:Nat}(h:Good xs o)(hy:∀i,i<y->∀a b,xs[i]? =some a->xs[y]? =some b->eH a b=true->i∈o):Good xs (o++[y]):=by
 intro pre post x e i hi a b ha hb ht
 rcases List.eq_nil_or_concat post with rfl | ⟨L,z,rfl⟩
 . have:=List.append_inj' e rfl
   obtain⟨rfl,e2⟩:=this
   cases e2
   exact hy i hi a b ha hb ht
 . have e':o++[y]=(pre++x::L)++[z]:=by rw[e];simp
   have:=List.append_inj' e' rfl
   exact h pre L x this.1 i hi a b ha hb ht
theorem vQ(n:Nat):DL.upTo 0 n=dN (List.range n):=by
 unfold DL.upTo dN
 refine List.map_congr_left λ k _=>?_
 rw[Int.zero_add]
section
variable {S R : Store} {a b z : List D} {n : Nat}
theorem t_a(h:n=S.length):(S++[a,b])[n]? =some a:=by subst h;simp
theorem t_b(h:n=S.length):(S++[a,b])[n+1]? =some b:=by subst h;simp
theorem Rm(h:n=S.length):(S++[a,b]).set n z=S++[z,b]:=by subst h;rw[List.set_append_right _ _ (y9 _),Nat.sub_self];rfl
theorem Ri(h:n=S.length):(S++[a,b]).set (n+1) z=S++[a,z]:=by subst h;rw[List.set_append_right _ _ (by omega),show S.length+1-S.length=1 from by omega];rfl
end
noncomputable def tcN(zs:List (Dd×List Int))(t u:Nat):Bool:=match zs[t]?,zs[u]? with
 | some a,some b=>eH (crs a) (crs b)
 | _,_=>false
theorem Ck(hs:l.Pairwise (· <·)){q i:Nat}(hq:q<l.length)(hm:i∈l)(hi:i<l[q]):i∈l.take q:=by
 obtain⟨j,hj⟩:=List.getElem?_of_mem hm
 obtain⟨hjl,e⟩:=z0.mp hj
 have hjq:j<q:=by
  rcases Nat.lt_trichotomy j q with h | h | h
  . exact h
  . subst h;omega
  . have:=List.pairwise_iff_getElem.mp hs q j hq hjl h
    omega
 have:(l.take q)[j]? =some i:=by rw[List.getElem?_take,if_pos hjq];exact hj
 exact y4 this
noncomputable def zB:Ct:=λ ds S W=>∃(k:Nat) (zs:List (Dd×List Int)),ds=[.loc k,.lst (zs.map λ x=>b8 x.2 x.1)]/\aJ S k/\zs.length≤60/\(∀z∈zs,z.1.rds.length≤1000)/\flat S/\∀(o:List Nat) S',o.Perm (List.range zs.length)->Good (zs.map crs) o->aK S k S'->aJ S' k->W (.lst (dN o)) S'
theorem Ci(F:Fun Ω.K "_law_picked" "_law_picked" jO f fd)(B:Bi Ω.mg)(Cq14:Cal Ω "_law_take" 2 2 c7)(Cq15:Cal Ω "_law_touch" 1 2 oK):Ok Ω 3 f fd Gs zB:=by
 refine aA (N:=Gm) F (Bl.fro (Eb B Cq14 Cq15)) (by kernel_rfl!) ?_
 rintro ds S W ⟨k,zs,rfl,hp,hN,hr,hS,hw⟩ hl
 have az:∀i(h:i<zs.length),atI (zs.map λ x=>b8 x.2 x.1) ((i:Nat):Int)=some (b8 zs[i].2 zs[i].1):=λ i h=>aY (by rw[y8,y3 h];rfl)
 have hx:∀i(h:i<zs.length),(zs.map crs)[i]? =some (crs zs[i]):=λ i h=>by rw[y8,y3 h];rfl
 walk_at "b"
 rw[y7]
 refine⟨⟨by omega,by omega⟩,.inr ?_⟩
 rw[Int.toNat_natCast,vQ,show(S++[([]:List D)]).length=S.length+1 from by simp,show S++[([]:List D)]++[dN (List.range zs.length)]=S++[dN [],dN (List.range zs.length)]from by simp[dN]]
 walk_at "b"
 refine yL ⟨λ m Γ' T=>∃(S':Store) (o l:List Nat) (o4:Option D),Γ'=[some (.loc k),some (.lst (zs.map λ x=>b8 x.2 x.1)),some (.loc S.length),some (.loc (S.length+1)),o4]/\T=S'++[dN o,dN l]/\l.length=m/\(o++l).Perm (List.range zs.length)/\l.Pairwise (· <·)/\Good (zs.map crs) o/\aK S k S'/\aJ S' k,zs.length,⟨S,[],List.range zs.length,none,rfl,rfl,List.length_range,.refl _,List.pairwise_lt_range,Good.nil _,aK.refl hp,hp⟩,?_⟩
 rintro m Γ' T ⟨S2,o,l,o4,rfl,rfl,hm,hO,hs,hg,u2,p2⟩
 have en:∀S',aK S k S'->S.length=S'.length:=λ S' u=>u.len.symm
 have hlt:∀t∈l,t<zs.length:=λ t ht=>List.mem_range.mp (hO.mem_iff.mp (List.mem_append.mpr (.inr ht)))
 have hll:l.length≤60:=by have:=hO.length_eq;rw[x6,List.length_range]at this;omega
 have va:vwT (S2++[dN o,dN l]) (.loc (S.length+1))=.lst (dN l):=by
  simp only[vwT,t_b (en S2 u2)]
  rw[nA _ _ (iz l)]
 have ok:okD (.lst (dN l))=true:=by show bM _=true;rw[fZ];exact dR _
 have dp:deep (.lst (dN l))≤50:=by show aR _+1≤50;rw[fZ,dh];omega
 walk_at "b"
 rw[va]
 have e1:eqD (.lst (dN l)) (vwT (S2++[dN o,dN l]) (.lst []))=l.isEmpty:=by cases l<;>rfl
 rw[e1]
 refine⟨ok,rfl,dp,?_⟩
 refine⟨λ q=>?_,λ q=>?_⟩
 . have hne:0<l.length:=by
    cases l with
    | nil=>cases q
    | cons=>simp
   walk_at "b"
   refine⟨_,t_b (en S2 u2),?_⟩
   walk_at "b"
   rw[bH]
   refine my p2 (by omega) (by omega) λ v S3 v0 v1 u3 p3=>?_
   have u3:=u2.trans u3
   obtain⟨vn,rfl⟩:∃vn:Nat,v=(vn:Int):=⟨v.toNat,by omega⟩
   walk_at "b"
   refine yL ⟨λ q Γ' T=>∃(S':Store),Γ'=[some (.loc k),some (.lst (zs.map λ x=>b8 x.2 x.1)),some (.loc S.length),some (.loc (S.length+1)),some (.int (q:Int))]/\T=S'++[dN o,dN l]/\q<l.length/\aK S k S'/\aJ S' k,vn,⟨S3,rfl,rfl,by omega,u3,p3⟩,?_⟩
   rintro q Γ' T ⟨S4,rfl,rfl,hql,u4,p4⟩
   have hx0:=hlt l[q] (List.getElem_mem hql)
   have gl:(S4++[dN o,dN l])[S.length+1]? =some (dN l):=t_b (en S4 u4)
   have alq:atI (dN l) (q:Int)=some (.int (l[q]:Int)):=aY (fX (y3 hql))
   walk_at "b"
   refine⟨_,gl,?_⟩
   walk_at "b"
   rw[Iu (by omega),Int.toNat_natCast,show(dN l).take q=(l.take q).map λ t=>D.int ((t:Nat):Int)from by unfold dN;rw[List.map_take]]
   refine Do (λ t=>.bl (tcN zs t l[q])) (by rw[List.length_take];omega) trivial ?_ (.inl ?_)
   . intro i t ht Q hq
     have htl:t<zs.length:=hlt t (List.mem_of_mem_take (y4 ht))
     have et:tcN zs t l[q]=eH (crs zs[t]) (crs zs[l[q]]):=by unfold tcN;rw[y3 htl,y3 hx0]
     rw[et]at hq
     walk_at "b"
     refine⟨_,az t htl,?_⟩
     walk_at "b"
     refine⟨_,_,gl,alq,?_⟩
     walk_at "b"
     refine⟨_,az _ hx0,?_⟩
     walk_at "b"
     exact⟨rfl,zs[t],zs[l[q]],rfl,hr _ (List.getElem_mem htl),hr _ (List.getElem_mem hx0),hq⟩
   walk_at "b"
   refine⟨(l.take q).map λ t=>tcN zs t l[q],by rw[List.map_map];rfl,?_⟩
   refine⟨λ h=>?_,λ h=>?_⟩
   . have hq0:0<q:=by
      rcases Nat.eq_zero_or_pos q with h0 | h0
      . subst h0;simp at h
      . exact h0
     walk_at "b"
     refine my p4 (by omega) (by omega) λ v S5 v0 v1 u5 p5=>?_
     obtain⟨vm,rfl⟩:∃vm:Nat,v=(vm:Int):=⟨v.toNat,by omega⟩
     walk_at "b"
     exact⟨vm,by omega,S5,rfl,rfl,by omega,u4.trans u5,p5⟩
   . have hno:∀t∈l.take q,tcN zs t l[q]=false:=λ t ht=>by
      cases e:tcN zs t l[q]with
      | false=>rfl
      | true=>
        have:((l.take q).map λ t=>tcN zs t l[q]).any id=true:=List.any_eq_true.mpr ⟨_,List.mem_map_of_mem ht,e⟩
        rw[this]at h
        cases h
     have hgo:Good (zs.map crs) (o++[l[q]]):=hg.snoc λ i hi a b ha hb hab=>by
      have hil:i<zs.length:=by have:=(z0.mp ha).1;rw[y7]at this;exact this
      rcases List.mem_append.mp (za hO hil)with hm | hm
      . exact hm
      . have e:=hno i (Ck hs hql hm hi)
        rw[hx i hil]at ha
        rw[hx _ hx0]at hb
        cases ha
        cases hb
        unfold tcN at e
        rw[y3 hil,y3 hx0]at e
        have e:eH (crs zs[i]) (crs zs[l[q]])=false:=e
        rw[hab]at e
        cases e
     have hol:o.length≤60:=by have:=hO.length_eq;rw[x6,List.length_range]at this;omega
     walk_at "b"
     refine⟨q,_,_,rfl,gl,fX (y3 hql),by rw[bH];omega,?_⟩
     rw[Ri (en S4 u4)]
     refine⟨_,t_a (en S4 u4),by rw[bH];omega,?_⟩
     rw[Rm (en S4 u4),show dN o++[D.int (l[q]:Int)]=dN (o++[l[q]])from by unfold dN;rw[v3];rfl,show(dN l).eraseIdx q=dN (l.eraseIdx q)from by unfold dN;rw[List.eraseIdx_eq_take_drop_succ,List.eraseIdx_eq_take_drop_succ,v3,List.map_take,List.map_drop]]
     refine⟨(l.eraseIdx q).length,?_,S4,o++[l[q]],l.eraseIdx q,_,rfl,rfl,rfl,?_,hs.sublist (List.eraseIdx_sublist _ _),hgo,u4,p4⟩
     . rw[List.length_eraseIdx,if_pos hql];omega
     . refine List.Perm.trans ?_ hO
       rw[List.append_assoc]
       refine List.Perm.append_left _ ?_
       rw[List.eraseIdx_eq_take_drop_succ]
       refine(List.perm_middle (l₁:=l.take q)).symm.trans ?_
       rw[←List.drop_eq_getElem_cons hql,List.take_append_drop]
 . have hl0:l=[]:=by
    cases l with
    | nil=>rfl
    | cons=>cases q
   subst hl0
   rw[List.append_nil]at hO
   walk_at "b"
   exact .inr ⟨[dN o,dN []],S2,S.length,dN o,rfl,rfl,by rw[u2.len];exact y9 _,by rw[u2.len];exact y9 _,t_a (en S2 u2),iz o,u2.flat hS,hw o S2 hO hg u2 p2⟩
noncomputable def swp(o:List Nat)(v a b:Nat):List Nat:=o.take v++[b,a]++o.drop (v+2)
theorem Oj{a b:Nat}(h1:o[v]? =some a)(h2:o[v+1]? =some b):(dN o).take v++[D.int (b:Int),D.int (a:Int)]++(dN o).drop (v+2)=dN (swp o v a b):=by
 unfold swp dN
 rw[v3,v3,List.map_take,List.map_drop];rfl
theorem swap_perm{a b n:Nat}(h1:o[v]? =some a)(h2:o[v+1]? =some b)(hO:o.Perm (List.range n)):(swp o v a b).Perm (List.range n):=by
 refine List.Perm.trans ?_ hO
 obtain⟨l1,e1⟩:=z0.mp h1
 obtain⟨l2,e2⟩:=z0.mp h2
 have e:o=o.take v++[a,b]++o.drop (v+2):=by
  rw[List.append_assoc]
  show o=o.take v++(a::b::o.drop (v+1+1))
  rw[←e2,←List.drop_eq_getElem_cons l2,←e1,←List.drop_eq_getElem_cons l1,List.take_append_drop]
 unfold swp
 conv=>rhs;rw[e]
 exact List.Perm.append_right _ (List.Perm.append_left _ (List.Perm.swap _ _ _))
noncomputable def tN(xs:List CR)(a b:Nat):Bool:=match xs[a]?,xs[b]? with
 | some x,some y=>eH x y
 | _,_=>false
theorem SN{xs:List CR}{a b:Nat}{x y:CR}(ha:xs[a]? =some x)(hb:xs[b]? =some y):tN xs a b=eH x y:=by unfold tN;rw[ha,hb]
noncomputable def exc(xs:List CR)(l:List Nat)(e:Int):Option (List Nat):=
 if 0≤e/\e<(l.length:Int)-1 then
  match l[e.toNat]?,l[e.toNat+1]? with
  | some a,some b=>if tN xs a b=true then none else some (swp l e.toNat a b)
  | _,_=>none
 else none
noncomputable def excs(xs:List CR)(l:List Nat)(es:List Int):Option (List Nat):=es.foldlM (exc xs) l
theorem lE(xs:List CR)(l:List Nat)(es:List Int)(e:Int):excs xs l (es++[e])=(excs xs l es).bind λ k=>exc xs k e:=by
 unfold excs
 rw[List.foldlM_append]
 cases es.foldlM (exc xs) l with
 | none=>rfl
 | some k=>show(List.foldlM (exc xs) k [e])=_;simp[List.foldlM_cons]
theorem HW{xs:List CR}(h:excs xs l (es.take i)=none):excs xs l es=none:=by
 unfold excs at h ⊢
 rw[←List.take_append_drop i es,List.foldlM_append,h];rfl
theorem Hl{xs:List CR}{a b:Nat}(ha:l[v]? =some a)(hb:l[v+1]? =some b):exc xs l (v:Int)=if tN xs a b=true then none else some (swp l v a b):=by
 have:=(z0.mp hb).1
 unfold exc
 rw[if_pos ⟨by omega,by omega⟩,Int.toNat_natCast,ha,hb]
theorem N5{xs:List CR}{e:Int}(h:¬(0≤e/\e<(l.length:Int)-1)):exc xs l e=none:=if_neg h
noncomputable def Cz:Ct:=λ ds S W=>∃(p:Pg) (m:Nat),ds=[dPg p]/\PgB m p/\12≤m/\m≤60/\flat S/\W (.loc S.length) (S++[dN (List.range (aD p).length)])
theorem Fl(F:Fun Ω.K "plain" "plain" mR f fd)(B:Bi Ω.mg)(Cq43:Cal Ω "number_of_steps" 4 1 jm):Ok Ω 5 f fd Ho Cz:=by
 refine aA (N:=Iv) F (Hj B Cq43) (by kernel_rfl!) ?_
 rintro ds S W ⟨p,m,rfl,hP,h12,h60,hS,hw⟩ hl
 have hN:=cX hP h12 h60
 walk_at "b"
 refine⟨rfl,lF hP hS ?_⟩
 walk_at "b"
 refine⟨⟨by omega,by omega⟩,.inr ?_⟩
 rw[Int.toNat_natCast,vQ]
 exact hw
noncomputable def Exo(xs:List CR)(o:List Nat)(i:Nat)(l:List Nat)(es:List Int):Prop:=∃r,l=o.take i++r/\r.Pairwise (· <·)/\excs xs (List.range xs.length) es=some l/\l.Perm (List.range xs.length)/\es.length≤i*60
noncomputable def Exi(xs:List CR)(o:List Nat)(i x m:Nat)(l:List Nat)(es:List Int):Prop:=∃r1 rest,r1.length=m/\l=o.take i++(r1++x::rest)/\(r1++rest).Pairwise (· <·)/\(∀y∈r1,y<x)/\excs xs (List.range xs.length) es=some l/\l.Perm (List.range xs.length)/\es.length+m≤(i+1)*60
theorem Exo.start{xs:List CR}(h:Exo xs o i l es)(hO:o.Perm (List.range xs.length))(hx:o[i]? =some x)(hn:xs.length≤60):∃m,l.idxOf x=i+m/\x∈l/\Exi xs o i x m l es:=by
 obtain⟨r,rfl,hr,he,hp,hl⟩:=h
 have hi:=(z0.mp hx).1
 have hxm:x∈o.take i++r:=hp.mem_iff.mpr (hO.mem_iff.mp (y4 hx))
 have ndo:=(cZ hO).2
 have hxn:x∉o.take i:=λ z=>by
  obtain⟨j,hj⟩:=List.getElem?_of_mem z
  rw[List.getElem?_take]at hj
  split at hj
  . exact mW ndo (by assumption) hi (by rw[hj,hx])
  . cases hj
 have hxr:x∈r:=(List.mem_append.mp hxm).resolve_left hxn
 obtain⟨r1,rest,rfl⟩:=List.append_of_mem hxr
 have nd:=(cZ hp).2
 have hx1:x∉r1:=λ z=>by
  have:=(List.nodup_append.mp nd).2.1
  exact(List.nodup_append.mp this).2.2 x z x x5 rfl
 have hll:=hp.length_eq
 rw[List.length_range,x6,x6]at hll
 rw[List.pairwise_append,List.pairwise_cons]at hr
 obtain⟨q1,⟨q2,q3⟩,q4⟩:=hr
 refine⟨r1.length,?_,hxm,r1,rest,rfl,rfl,?_,λ y hy=>q4 y hy x x5,he,hp,?_⟩
 . rw[List.idxOf_append,if_neg hxn,List.idxOf_append,if_neg hx1,List.idxOf_cons_self,List.length_take]
   omega
 . rw[List.pairwise_append]
   exact⟨q1,q3,λ a ha b hb=>q4 a ha b (x3 _ hb)⟩
 . rw[Nat.succ_mul];omega
theorem Exi.fin{xs:List CR}(h:Exi xs o i x 0 l es)(hx:o[i]? =some x):Exo xs o (i+1) l es:=by
 obtain⟨r1,rest,e0,rfl,hr,hy,he,hp,hl⟩:=h
 have e1:r1=[]:=List.eq_nil_of_length_eq_zero e0
 subst e1
 exact⟨rest,by rw[aF hx,List.append_assoc];rfl,hr,he,hp,by omega⟩
theorem Exi.step{xs:List CR}(h:Exi xs o i x (m+1) l es)(hg:Good xs o)(hO:o.Perm (List.range xs.length))(hx:o[i]? =some x):∃y,l[i+m]? =some y/\l[i+m+1]? =some x/\Exi xs o i x m (swp l (i+m) y x) (es++[((i+m:Nat):Int)]):=by
 obtain⟨r1,rest,e0,rfl,hr,hy,he,hp,hl⟩:=h
 have hi:=(z0.mp hx).1
 have hlt:(o.take i).length=i:=by rw[List.length_take];omega
 rcases List.eq_nil_or_concat r1 with rfl | ⟨r2,y,rfl⟩
 . cases e0
 . rw [List.concat_eq_append]at*
   have e0:r2.length=m:=by simpa using e0
   have g1:(o.take i++(r2++[y]++x::rest))[i+m]? =some y:=by
    rw[List.getElem?_append_right (by omega),hlt,List.append_assoc,List.getElem?_append_right (by omega)]
    rw[show i+m-i-r2.length=0 from by omega];rfl
   have g2:(o.take i++(r2++[y]++x::rest))[i+m+1]? =some x:=by
    rw[List.getElem?_append_right (by omega),hlt,List.append_assoc,List.getElem?_append_right (by omega)]
    rw[show i+m+1-i-r2.length=1 from by omega];rfl
   have es1:swp (o.take i++(r2++[y]++x::rest)) (i+m) y x=o.take i++(r2++x::(y::rest)):=by
    have e3:o.take i++(r2++[y]++x::rest)=(o.take i++r2)++(y::x::rest):=by simp
    unfold swp
    rw[e3,List.take_left' (by rw[x6];omega),show i+m+2=(o.take i++r2).length+2 from by rw[x6];omega,List.drop_append]
    simp
   have hyx:y<x:=hy y (by simp)
   have nd:=(cZ hp).2
   have hyn:y∉o.take i:=λ z=>(List.nodup_append.mp nd).2.2 y z y (by simp) rfl
   have ht:tN xs y x=false:=by
    cases e:tN xs y x with
    | false=>rfl
    | true=>
      unfold tN at e
      split at e
      . rename_i a b ha hb
        exact absurd (hg (o.take i) (o.drop (i+1)) x (by rw[←z0.mp hx |>.2,←List.drop_eq_getElem_cons hi,List.take_append_drop]) y hyx a b ha hb e) hyn
      . cases e
   refine⟨y,g1,g2,r2,y::rest,e0,es1,?_,λ z hz=>hy z (by simp[hz]),?_,swap_perm g1 g2 hp,by rw[x6];show _+1+_≤_;omega⟩
   . rw[List.append_assoc]at hr;exact hr
   . rw[lE,he]
     show exc xs _ _=_
     rw[Hl g1 g2,ht];rfl
theorem yQ{xs:List CR}(hO:o.Perm (List.range xs.length))(h:brk o (bJ xs xs.length)=none):Good xs o:=by
 intro pre post x e i hi a b ha hb ht
 have hxl:=(z0.mp hb).1
 have hm:(i,x,ssC a b)∈bJ xs xs.length:=by
  unfold bJ
  refine List.mem_flatMap.mpr ⟨i,List.mem_range.mpr (by omega),List.mem_flatMap.mpr ⟨x-(i+1),List.mem_range.mpr (by omega),?_⟩⟩
  rw[show i+1+(x-(i+1))=x from by omega,Cw ha hb,RV,ht]
  exact List.mem_singleton.mpr rfl
 have h2:¬o.idxOf x<o.idxOf i:=λ z=>by
  unfold brk at h
  have h:=Option.map_eq_none_iff.mp h
  exact List.find?_eq_none.mp h _ hm (decide_eq_true z)
 have nd:=(cZ hO).2
 have hnx:x∉pre:=λ w=>by
  rw[e]at nd
  exact(List.nodup_append.mp nd).2.2 _ w _ x5 rfl
 have ex:o.idxOf x=pre.length:=by
  rw[e,List.idxOf_append,if_neg hnx,List.idxOf_cons_self];omega
 by_cases hp:i∈pre
 . exact hp
 . have ei:pre.length<o.idxOf i:=by
    rw[e,List.idxOf_append,if_neg hp,List.idxOf_cons]
    rw[show(x==i)=false from beq_eq_false_iff_ne.mpr (by omega)]
    simp
   omega
noncomputable def dD(n:Nat)(o:List Nat):Nat×List Nat×List Int:=o.foldl (λ s x=>(s.1+1,s.2.1.eraseIdx (s.2.1.idxOf x),s.2.2++dnI ((s.1:Int)+(s.2.1.idxOf x:Int)-1) (s.2.1.idxOf x))) (0,List.range n,[])
theorem tQ(n:Nat)(o:List Nat)(x:Nat):dD n (o++[x])=((dD n o).1+1,(dD n o).2.1.eraseIdx ((dD n o).2.1.idxOf x),(dD n o).2.2++dnI (((dD n o).1:Int)+((dD n o).2.1.idxOf x:Int)-1) ((dD n o).2.1.idxOf x)):=by
 unfold dD
 rw[List.foldl_append];rfl
noncomputable def fO(o:List Nat):List Int:=(dD o.length o).2.2
noncomputable def inv(o:List Nat):Nat->Nat
 | 0=>0
 | i+1=>inv o i+((o.drop (i+1)).filter λ t=>decide (t<o.getD i 0)).length
theorem Ku(a:Int)(m:Nat):dnI (a+1) (m+1)=(a+1)::dnI a m:=by
 unfold dnI
 rw[List.range_succ_eq_map,List.map_cons,List.map_map]
 congr 1
 . simp
 . refine List.map_congr_left λ k _=>?_
   simp only[Function.comp]
   omega
theorem Exi.all{xs:List CR}{o:List Nat}{i x:Nat}(hg:Good xs o)(hO:o.Perm (List.range xs.length))(hx:o[i]? =some x):∀(m:Nat)(l:List Nat)(es:List Int),Exi xs o i x m l es->∃l',Exi xs o i x 0 l' (es++dnI ((i:Int)+(m:Int)-1) m)
 | 0,l,es,h=>⟨l,by rw[show dnI ((i:Int)+((0:Nat):Int)-1) 0=[]from rfl,List.append_nil];exact h⟩
 | m+1,l,es,h=>by
   obtain⟨y,_,_,h2⟩:=h.step hg hO hx
   obtain⟨l',h3⟩:=Exi.all hg hO hx m _ _ h2
   refine⟨l',?_⟩
   rw[show(i:Int)+((m+1:Nat):Int)-1=((i:Int)+(m:Int)-1)+1 from by omega,Ku]
   rw[show((i:Int)+(m:Int)-1)+1=((i+m:Nat):Int)from by omega]
   rw[List.append_assoc]at h3
   exact h3
theorem PX{a b:List Nat}(ha:a.Pairwise (· <·))(hb:b.Pairwise (· <·))(h:a.Perm b):a=b:=h.eq_of_pairwise (λ x y _ _ h1 h2=>by omega) ha hb
theorem Fy(h:j<l.length):(l[j]::l.eraseIdx j).Perm l:=by
 rw[List.eraseIdx_eq_take_drop_succ]
 refine(List.perm_middle (l₁:=l.take j)).symm.trans ?_
 rw[←List.drop_eq_getElem_cons h,List.take_append_drop]
theorem LK{r:List Nat}(hr:r.Pairwise (· <·)){x:Nat}(hx:x∈r):r.idxOf x=(r.filter λ t=>decide (t<x)).length:=by
 induction r with
 | nil=>cases hx
 | cons y r ih=>
   rw[List.pairwise_cons]at hr
   by_cases e:y=x
   . subst e
     rw[List.idxOf_cons_self,List.filter_cons,if_neg (by simp)]
     have:r.filter (λ t=>decide (t<y))=[]:=List.filter_eq_nil_iff.mpr λ t ht=>by have:=hr.1 t ht;simp;omega
     rw[this];rfl
   . have hxr:x∈r:=(List.mem_cons.mp hx).resolve_left λ z=>e z.symm
     have:=hr.1 x hxr
     rw[List.idxOf_cons,show(y==x)=false from beq_eq_false_iff_ne.mpr e,List.filter_cons,if_pos (by simp;omega)]
     show r.idxOf x+1=_
     rw[ih hr.2 hxr];rfl
noncomputable def lD(xs:List CR)(o:List Nat)(i:Nat):Prop:=∃rest es,dD o.length (o.take i)=(i,rest,es)/\rest.Pairwise (· <·)/\(o.take i++rest).Perm (List.range xs.length)/\excs xs (List.range xs.length) es=some (o.take i++rest)/\es.length=inv o i
theorem lD.next{xs:List CR}(h:lD xs o i)(hg:Good xs o)(hO:o.Perm (List.range xs.length))(hn:xs.length≤60)(hx:o[i]? =some x):lD xs o (i+1):=by
 obtain⟨rest,es,e0,hr,hp,he,hl⟩:=h
 have hol:=cB hO
 have hi:=(z0.mp hx).1
 have nd:=(cZ hp).2
 have hxm:x∈o.take i++rest:=hp.mem_iff.mpr (hO.mem_iff.mp (y4 hx))
 have hxn:x∉o.take i:=λ z=>by
  obtain⟨j,hj⟩:=List.getElem?_of_mem z
  rw[List.getElem?_take]at hj
  split at hj
  . exact mW (cZ hO).2 (by assumption) hi (by rw[hj,hx])
  . cases hj
 have hxr:x∈rest:=(List.mem_append.mp hxm).resolve_left hxn
 have hpd:rest.Perm (o.drop i):=by
  have:(o.take i++rest).Perm (o.take i++o.drop i):=by rw[List.take_append_drop];exact hp.trans hO.symm
  exact(List.perm_append_left_iff _).mp this
 have hinv:∀j,inv o j≤j*60:=λ j=>by
  induction j with
  | zero=>exact Nat.zero_le _
  | succ j ih=>
    have h1:=List.length_filter_le (λ t=>decide (t<o.getD j 0)) (o.drop (j+1))
    rw[List.length_drop]at h1
    show inv o j+_≤_
    rw[Nat.succ_mul]
    omega
 have hE:Exo xs o i (o.take i++rest) es:=⟨rest,rfl,hr,he,hp,by rw[hl];exact hinv i⟩
 obtain⟨m,hm,_,hI⟩:=hE.start hO hx hn
 have hfar:m=rest.idxOf x:=by
  rw[List.idxOf_append,if_neg hxn,List.length_take]at hm
  omega
 subst hfar
 obtain⟨l',hF⟩:=Exi.all hg hO hx _ _ _ hI
 obtain⟨r',e1,hr',he',hp',_⟩:=hF.fin hx
 subst e1
 have hE2:rest.eraseIdx (rest.idxOf x)=r':=by
  refine PX (hr.sublist (List.eraseIdx_sublist _ _)) hr' ?_
  have h1:(x::rest.eraseIdx (rest.idxOf x)).Perm rest:=by
   have hlt:=List.idxOf_lt_length_of_mem hxr
   have e:=Fy hlt
   rw[List.getElem_idxOf hlt]at e
   exact e
  have h2:(o.take i++(x::r')).Perm (o.take i++rest):=by
   rw[aF hx,List.append_assoc]at hp'
   exact hp'.trans hp.symm
  have h3:=(List.perm_append_left_iff _).mp h2
  exact(List.perm_cons x).mp (h1.trans h3.symm)
 refine⟨r',_,?_,hr',hp',he',?_⟩
 . rw[aF hx,tQ,e0]
   show(i+1,rest.eraseIdx (rest.idxOf x),_)=_
   rw[hE2]
 . rw[x6,hl,show inv o (i+1)=inv o i+((o.drop (i+1)).filter λ t=>decide (t<o.getD i 0)).length from rfl]
   congr 1
   have:(dnI ((i:Int)+(rest.idxOf x:Int)-1) (rest.idxOf x)).length=rest.idxOf x:=by simp[dnI]
   rw[this,LK hr hxr]
   have e2:o.getD i 0=x:=by simp[List.getD,hx]
   rw[e2,(hpd.filter _).length_eq,List.drop_eq_getElem_cons hi,List.filter_cons,if_neg (by rw[(z0.mp hx).2];simp)]
theorem lD.all{xs:List CR}{o:List Nat}(hg:Good xs o)(hO:o.Perm (List.range xs.length))(hn:xs.length≤60):∀i,i≤o.length->lD xs o i
 | 0,_=>⟨List.range o.length,[],rfl,List.pairwise_lt_range,by rw[cB hO];exact .refl _,by rw[cB hO];rfl,rfl⟩
 | i+1,h=>(lD.all hg hO hn i (by omega)).next hg hO hn (y3 (by omega))
theorem R1{xs:List CR}(hg:Good xs o)(hO:o.Perm (List.range xs.length))(hn:xs.length≤60):excs xs (List.range xs.length) (fO o)=some o/\(fO o).length=inv o o.length:=by
 obtain⟨rest,es,e0,hr,hp,he,hl⟩:=lD.all hg hO hn o.length (y9 _)
 rw[List.take_length]at e0 hp he
 have hr0:rest=[]:=by
  have:=hp.length_eq
  rw[x6,List.length_range,cB hO]at this
  exact List.eq_nil_of_length_eq_zero (by omega)
 subst hr0
 rw[List.append_nil]at he
 unfold fO
 rw[e0]
 exact⟨he,hl⟩
noncomputable def M3:Ct:=λ ds S W=>∃(p:Pg) (m:Nat) (o:List Nat),ds=[dPg p,.lst (dN o)]/\PgB m p/\12≤m/\m≤60/\flat S/\o.Perm (List.range (aD p).length)/\(brk o (bJ ((aD p).map crs) (aD p).length)=none->W (.loc S.length) (S++[(fO o).map .int]))/\(∀q,brk o (bJ ((aD p).map crs) (aD p).length)=some q->W .non S)
theorem Q3{S:Store}{P:Nat->Prop}(hk:S[k]? =some (dN l))(hO:l.Nodup)(ht:t∈l)(w:P (l.idxOf t)):∃ds,S[k]? =some ds/\bM ds=true/\okD (vw S (.int (t:Int)))=true/\aR ds≤50/\∃(j:Nat) (y:D),ds[j]? =some y/\eqD y (vw S (.int (t:Int)))=true/\(∀(m:Nat)(z:D),m<j->ds[m]? =some z->eqD z (vw S (.int (t:Int)))=false)/\P j:=⟨_,hk,Tr hO ht w⟩
theorem GR{n:Nat}(h:o.length≤n):∀j,inv o j≤j*n:=λ j=>by
 induction j with
 | zero=>exact Nat.zero_le _
 | succ j ih=>
   have h1:=List.length_filter_le (λ t=>decide (t<o.getD j 0)) (o.drop (j+1))
   rw[List.length_drop]at h1
   show inv o j+_≤_
   rw[Nat.succ_mul]
   omega
theorem J8(F:Fun Ω.K "led" "led" rO f fd)(B:Bi Ω.mg)(Cq46:Cal Ω "plain" 5 1 Cz)(Cq17:Cal Ω "broken" 8 2 oV):Ok Ω 9 f fd NZ M3:=by
 refine aA (N:=Ow) F (Bl.owq (Oq B Cq46 Cq17)) (by kernel_rfl!) ?_
 rintro ds S W ⟨p,m,o,rfl,hP,h12,h60,hS,hO,hw,hw2⟩ hl
 have hN:=cX hP h12 h60
 have hol:=cB hO
 have hL:((aD p).map crs).length=(aD p).length:=y7 _
 walk_at "b"
 refine⟨rfl,p,m,o,rfl,hP,h12,h60,hS,hO,?_⟩
 cases hb:brk o (bJ ((aD p).map crs) (aD p).length)with
 | some q=>
   walk_at "b"
   exact .inl (hw2 q hb)
 | none=>
   have hwn:=hw hb
   have hXL:((aD p).map crs).length=o.length:=by rw[hL,hol]
   have hO':o.Perm (List.range ((aD p).map crs).length):=by rw[hL];exact hO
   have hg:Good ((aD p).map crs) o:=yQ hO' (by rw[hL];exact hb)
   have hall:=λ i h=>lD.all hg hO' (by omega) i h
   walk_at "b"
   refine⟨rfl,p,m,rfl,hP,h12,h60,hS,?_⟩
   rw[show(aD p).length=o.length from hol.symm]
   rw[←hol]at hN
   generalize (aD p).map crs=xs at hO' hg hall hXL
   walk_at "b"
   rw[show(S++[dN (List.range o.length)]).length=S.length+1 from by simp,show S++[dN (List.range o.length)]++[([]:List D)]=S++[dN (List.range o.length),([]:List Int).map D.int]from by simp]
   refine aV ⟨λ i Γ' T=>∃(o4 o5 o6:Option D),Γ'=[some (dPg p),some (.lst (dN o)),some (.loc S.length),some (.loc (S.length+1)),o4,o5,o6]/\T=S++[dN (dD o.length (o.take i)).2.1,(dD o.length (o.take i)).2.2.map .int],⟨_,_,_,rfl,rfl⟩,?_,?_⟩
   . rintro i e Γ' T he ⟨o4,o5,o6,rfl,rfl⟩
     obtain⟨x,hx,rfl⟩:=ym he
     have hi:=(z0.mp hx).1
     obtain⟨rest,es,e0,hr,hp,he2,hlen⟩:=hall i (by omega)
     have hxm:x∈rest:=by
      have hm:x∈o.take i++rest:=hp.mem_iff.mpr (hO'.mem_iff.mp (y4 hx))
      refine(List.mem_append.mp hm).resolve_left λ z=>?_
      obtain⟨j,hj⟩:=List.getElem?_of_mem z
      rw[List.getElem?_take]at hj
      split at hj
      . exact mW (cZ hO).2 (by assumption) hi (by rw[hj,hx])
      . cases hj
     have hrl:rest.length≤60:=by have:=hp.length_eq;rw[x6,List.length_range]at this;omega
     have hfl:=List.idxOf_lt_length_of_mem hxm
     have hel:es.length≤3600:=by
      have h1:=GR (o:=o) (n:=60) (by omega) i
      have h2:i*60≤60*60:=Nat.mul_le_mul (by omega) (y9 _)
      omega
     have hnd:rest.Nodup:=hr.imp λ h=>by omega
     have e1:=tQ o.length (o.take i) x
     rw[←aF hx,e0]at e1
     rw[show(dD o.length (o.take i)).2.1=rest from by rw[e0],show(dD o.length (o.take i)).2.2=es from by rw[e0]]
     walk_at "b"
     refine⟨rfl,?_⟩
     walk_at "b"
     refine Q3 (t_a rfl) hnd hxm ?_
     have hdl:(dnI ((i:Int)+(rest.idxOf x:Int)-1) (rest.idxOf x)).length=rest.idxOf x:=by simp[dnI]
     have hcn:(((i:Int)+(rest.idxOf x:Int)-1)-((i:Int)-1)).toNat=rest.idxOf x:=by omega
     walk_at "b"
     refine⟨rfl,⟨by omega,by omega,by omega,by omega,by omega⟩,?_⟩
     rw[hcn,MP]
     refine⟨_,_,t_b rfl,rfl,by rw[y7,y7,hdl];omega,?_⟩
     rw[Ri rfl,←v3]
     walk_at "b"
     refine⟨rest.idxOf x,_,_,rfl,t_a rfl,fX (gf hxm),by rw[bH];omega,?_⟩
     rw[Rm rfl]
     walk_at "b"
     refine⟨_,_,_,rfl,?_⟩
     rw[e1,show(dN rest).eraseIdx (rest.idxOf x)=dN (rest.eraseIdx (rest.idxOf x))from by unfold dN;rw[List.eraseIdx_eq_take_drop_succ,List.eraseIdx_eq_take_drop_succ,v3,List.map_take,List.map_drop]]
   . rintro Γ' T ⟨o4,o5,o6,rfl,rfl⟩
     have e:((dN o).mapIdx λ i d=>D.tup [.int i,d]).length=o.length:=by rw[List.length_mapIdx,bH]
     rw[e,List.take_length]
     walk_at "b"
     exact .inr ⟨false,_,S,S.length+1,_,rfl,rfl,y9 _,Nat.le_succ _,t_b rfl,bG _,hS,hwn⟩
theorem Km(o:List Nat)(i:Nat):inv o (i+1)=inv o i+((o.drop (i+1)).filter λ t=>decide (t<o.getD i 0)).length:=rfl
noncomputable def xn:Ct:=λ ds S W=>∃o:List Nat,ds=[.lst (dN o)]/\o.length≤60/\W (.int (inv o o.length:Nat)) S
theorem NQ(l:List Nat)(i:Nat):(dN l).drop i=dN (l.drop i):=by unfold dN;rw[List.map_drop]
theorem Be(F:Fun Ω.K "_law_turned" "_law_turned" jA f fd)(B:Bi Ω.mg):Ok Ω 1 f fd Gu xn:=by
 refine aA (N:=Fg) F (Fi B) (by kernel_rfl!) ?_
 rintro ds S W ⟨o,rfl,hN,hw⟩ hl
 walk_at "b"
 rw[bH]
 refine⟨⟨by omega,by omega⟩,aV ⟨λ i Γ' T=>∃(o2:Option D),Γ'=[some (.lst (dN o)),some (.int (inv o i:Nat)),o2]/\T=S,⟨_,rfl,rfl⟩,?_,?_⟩⟩
 . rintro i e Γ' T he ⟨o2,rfl,rfl⟩
   obtain⟨hi,rfl⟩:=bB he
   have hi:i<o.length:=by omega
   have e0:(0+(i:Int))=((i:Nat):Int):=by omega
   have goi:o[i]? =some o[i]:=y3 hi
   have egd:o.getD i 0=o[i]:=by simp[List.getD,goi]
   rw[e0]
   refine jP ?_
   simp only[List.set_cons_succ,List.set_cons_zero]
   walk_at "b"
   rw[v6 (by omega),show((i:Int)+1).toNat=i+1 from by omega,NQ]
   have hdl:(o.drop (i+1)).length≤60:=by rw[List.length_drop];omega
   generalize hr:o.drop (i+1)=r at*
   refine oY ⟨by rw[bH];omega,λ j acc T'=>T'=T/\acc=dN ((r.take j).filter λ t=>decide (t<o[i])),⟨rfl,rfl⟩,λ _ _ _ _=>trivial,?_,?_⟩
   . rintro j d acc T' hd ⟨rfl,rfl⟩
     obtain⟨t,ht,rfl⟩:=xN hd
     refine jP ?_
     walk_at "b"
     refine⟨_,aY (fX goi),?_⟩
     walk_at "b"
     refine⟨λ h=>?_,λ h=>?_⟩
     . have h:=of_decide_eq_true h
       walk_at "b"
       refine⟨rfl,?_⟩
       rw[aF ht,List.filter_append,List.filter_cons,if_pos (decide_eq_true (by omega))]
       unfold dN
       rw[v3];rfl
     . have h:=of_decide_eq_false h
       refine⟨rfl,?_⟩
       rw[aF ht,List.filter_append,List.filter_cons,if_neg (by simp;omega)]
       simp
   . rintro acc T' ⟨rfl,rfl⟩
     refine .inl ?_
     rw[bH,List.take_length]
     walk_at "b"
     rw[bH]
     rw[show((inv o i:Nat):Int)+(((r.filter λ t=>decide (t<o[i])).length:Nat):Int)=((inv o (i+1):Nat):Int)from by rw[Km,egd,hr];omega]
     exact⟨_,rfl,rfl⟩
 . rintro Γ' T ⟨o2,rfl,rfl⟩
   rw[au,Int.toNat_natCast]
   walk_at "b"
   exact hw
noncomputable def Jy:Ct:=λ ds S W=>∃(zs:List (Dd×List Int)) (es:List Int) (o:List Nat) (k:Nat),ds=[.lst (zs.map λ x=>b8 x.2 x.1),.loc k]/\S[k]? =some (es.map .int)/\zs.length≤60/\(∀z∈zs,z.1.rds.length≤1000)/\excs (zs.map crs) (List.range zs.length) es=some o/\W (.lst (dN o)) S
theorem zN(F:Fun Ω.K "_law_come_to" "_law_come_to" iD f fd)(B:Bi Ω.mg)(Cq15:Cal Ω "_law_touch" 1 2 oK):Ok Ω 2 f fd Bu Jy:=by
 refine aA (N:=BR) F (Cg B Cq15) (by kernel_rfl!) ?_
 rintro ds S W ⟨zs,es,o,kk,rfl,hkk,hN,hr,hxo,hw⟩ hl
 have hL:(zs.map crs).length=zs.length:=y7 _
 have az:∀i(h:i<zs.length),atI (zs.map λ x=>b8 x.2 x.1) ((i:Nat):Int)=some (b8 zs[i].2 zs[i].1):=λ i h=>aY (by rw[y8,y3 h];rfl)
 have hx:∀i(h:i<zs.length),(zs.map crs)[i]? =some (crs zs[i]):=λ i h=>by rw[y8,y3 h];rfl
 walk_at "b"
 rw[y7]
 refine⟨⟨by omega,by omega⟩,.inl ?_⟩
 rw[Int.toNat_natCast,vQ]
 walk_at "b"
 refine⟨_,hkk,Dw ⟨λ i Γ' T=>∃(l:List Nat) (o3:Option D),Γ'=[some (.lst (zs.map λ x=>b8 x.2 x.1)),some (.loc kk),some (.lst (dN l)),o3]/\T=S/\excs (zs.map crs) (List.range zs.length) (es.take i)=some l/\l.Perm (List.range zs.length),⟨List.range zs.length,_,rfl,rfl,rfl,.refl _⟩,?_,?_,?_⟩⟩
 . rintro i Γ' T ⟨l,o3,rfl,rfl,_⟩
   exact hkk
 . rintro i e Γ' T he ⟨l,o4,rfl,rfl,hxs,hp⟩
   obtain⟨e,hei,rfl⟩:=cW he
   have hll:=cB hp
   obtain⟨l2,hex⟩:∃l2,exc (zs.map crs) l e=some l2:=by
    cases h:exc (zs.map crs) l e with
    | some l2=>exact⟨l2,rfl⟩
    | none=>
      have:excs (zs.map crs) (List.range zs.length) es=none:=HW (i:=i+1) (by rw[aF hei,lE,hxs];exact h)
      rw[this]at hxo;cases hxo
   have hnx:excs (zs.map crs) (List.range zs.length) (es.take (i+1))=some l2:=by rw[aF hei,lE,hxs];exact hex
   have hbd:0≤e/\e<(l.length:Int)-1:=by
    by_cases h:0≤e/\e<(l.length:Int)-1
    . exact h
    . rw[N5 h]at hex;cases hex
   obtain⟨v,rfl⟩:∃v:Nat,e=(v:Int):=⟨e.toNat,by omega⟩
   have g1:l[v]? =some l[v]:=y3 (by omega)
   have g2:l[v+1]? =some l[v+1]:=y3 (by omega)
   have n1:l[v]<zs.length:=List.mem_range.mp (hp.mem_iff.mp (List.getElem_mem _))
   have n2:l[v+1]<zs.length:=List.mem_range.mp (hp.mem_iff.mp (List.getElem_mem _))
   have et:tN (zs.map crs) l[v] l[v+1]=eH (crs zs[l[v]]) (crs zs[l[v+1]]):=SN (hx _ n1) (hx _ n2)
   rw[Hl g1 g2]at hex
   have ht:tN (zs.map crs) l[v] l[v+1]=false:=by
    cases h:tN (zs.map crs) l[v] l[v+1]with
    | false=>rfl
    | true=>rw[h]at hex;cases hex
   rw[ht]at hex
   cases hex
   rw[et]at ht
   walk_at "b"
   rw[bH,decide_eq_true hbd.2]
   walk_at "b"
   refine⟨_,aY (fX g1),?_⟩
   walk_at "b"
   refine⟨_,az _ n1,?_⟩
   walk_at "b"
   refine⟨_,aY (j:=v+1) (fX g2),?_⟩
   walk_at "b"
   refine⟨_,az _ n2,?_⟩
   walk_at "b"
   refine⟨rfl,zs[l[v]],zs[l[v+1]],rfl,hr _ (List.getElem_mem n1),hr _ (List.getElem_mem n2),?_⟩
   rw[ht]
   walk_at "b"
   refine⟨_,aY (j:=v+1) (fX g2),?_⟩
   walk_at "b"
   refine⟨_,aY (fX g1),?_⟩
   walk_at "b"
   rw[Iu (by omega),Int.toNat_natCast]
   refine⟨by rw[List.length_take,bH];show _+2≤_;omega,?_⟩
   walk_at "b"
   rw[v6 (by omega),show((v:Int)+2).toNat=v+2 from by omega]
   refine⟨by rw[x6,List.length_take,List.length_drop,bH];show _+2+_≤_;omega,?_⟩
   rw[Oj g1 g2]
   walk_at "b"
   exact⟨_,_,rfl,rfl,hnx,swap_perm g1 g2 hp⟩
 . rintro Γ' T ⟨l,o4,rfl,rfl,hxs,hp⟩
   rw[y7,List.take_length,hxo]at hxs
   cases hxs
   walk_at "b"
   exact hw
theorem MF{x:List Nat}{S:Store}{W:Bool->Store->Prop}(w:W false S):aQ .NotEq (.lst (dN x)) (.lst (dN x)) S W:=by
 unfold aQ
 refine .inr ⟨rfl,iz x,?_,w⟩
 show aR _+1≤50
 rw[fZ,dh]
 omega
theorem M7{S:Store}{l:List Int}{W:Bool->Store->Prop}(hk:S[k]? =some (l.map .int))(w:W true S):aQ .Eq (.loc k) (.lst (l.map .int)) S W:=by
 unfold aQ
 have e1:vw S (.loc k)=.lst (l.map .int):=by simp only[vw,hk]
 refine⟨⟨by rw[e1];exact dR _,dR _,by rw[e1];show aR _+1≤50;rw[dh];omega⟩,?_⟩
 rw[e1]
 show W (cu (l.map .int) (l.map .int)) S
 rw[lR,decide_eq_true rfl];exact w
theorem yG{p:Pg}(hP:PgB m p):∀z∈aD p,z.1.rds.length≤1000:=by
 intro z hm
 obtain⟨n,hn,hm⟩:=List.mem_flatMap.mp hm
 obtain⟨cs,_,hm⟩:=List.mem_flatMap.mp hm
 obtain⟨x,hx,hm⟩:=List.mem_map.mp hm
 rw[←hm]
 exact((hP.deeds n hn).2 x hx).2.1
noncomputable def ut:Ct:=λ ds S W=>∃(p:Pg) (m:Nat) (o:List Nat),ds=[dPg p,.lst ((aD p).map λ x=>b8 x.2 x.1),.lst (dN o)]/\PgB m p/\12≤m/\m≤60/\flat S/\o.Perm (List.range (aD p).length)/\W (.bl true) S
theorem Fx(F:Fun Ω.K "_law_right" "_law_right" lC f fd)(B:Bi Ω.mg)(Cq17:Cal Ω "broken" 8 2 oV)(Cq42:Cal Ω "led" 9 2 M3)(Cq16:Cal Ω "_law_turned" 1 1 xn)(Cq2:Cal Ω "_law_come_to" 2 2 Jy):Ok Ω 10 f fd Jz ut:=by
 refine aA (N:=Gy) F (Bl.drp (Hz B Cq17 Cq42 Cq16 Cq2)) (by kernel_rfl!) ?_
 rintro ds S W ⟨p,m,o,rfl,hP,h12,h60,hS,hO,hw⟩ hl
 have hN:=cX hP h12 h60
 have hr:=yG hP
 have hol:=cB hO
 have hL:((aD p).map crs).length=(aD p).length:=y7 _
 walk_at "b"
 refine⟨rfl,p,m,o,rfl,hP,h12,h60,hS,hO,λ hb=>?_,λ q hb=>?_⟩
 . have hO':o.Perm (List.range ((aD p).map crs).length):=by rw[hL];exact hO
   have hg:Good ((aD p).map crs) o:=yQ hO' (by rw[hL];exact hb)
   obtain⟨hx,hle⟩:=R1 hg hO' (by omega)
   rw[hL]at hx
   have hel:(fO o).length≤3600:=by
    have h1:=GR (o:=o) (n:=60) (by omega) o.length
    have h2:o.length*60≤60*60:=Nat.mul_le_mul (by omega) (y9 _)
    omega
   have f1:flat (S++[(fO o).map D.int]):=cR hS (bG _)
   walk_at "b"
   refine⟨rfl,p,m,o,rfl,hP,h12,h60,f1,hO,?_⟩
   rw[hb]
   walk_at "b"
   refine⟨_,ig rfl,?_⟩
   rw[y7]
   walk_at "b"
   refine⟨rfl,o,rfl,by omega,?_⟩
   rw[hle]
   walk_at "b"
   rw[show decide ((inv o o.length:Int)=(inv o o.length:Int))=true from decide_eq_true rfl]
   walk_at "b"
   refine⟨rfl,aD p,fO o,o,_,rfl,ig rfl,hN,hr,hx,?_⟩
   refine MF ?_
   walk_at "b"
   refine⟨_,ig rfl,?_⟩
   walk_at "b"
   refine⟨_,ig rfl,by rw[y7];omega,?_⟩
   rw[Mp rfl,show(fO o).map D.int++[D.int (-1)]=(fO o++[-1]).map D.int from by rw[v3];rfl]
   have f2:flat (S++[(fO o++[-1]).map D.int]):=cR hS (bG _)
   walk_at "b"
   refine⟨rfl,p,m,o,rfl,hP,h12,h60,f2,hO,λ _=>?_,λ q z=>by rw[hb]at z;cases z⟩
   refine M7 (ig rfl) ?_
   exact .inr ⟨[(fO o++[-1]).map D.int,(fO o).map D.int],S,by simp,y9 _,rfl,hS,hw⟩
 . walk_at "b"
   refine⟨rfl,p,m,o,rfl,hP,h12,h60,hS,hO,?_⟩
   rw[hb]
   walk_at "b"
   exact .inl hw
theorem RK(F:Fun Ω.K "law" "law" jY f fd)(B:Bi Ω.mg)(Cq47:Cal Ω "program_of" 10 2 xV)(Cq8:Cal Ω "_law_pen" 2 2 JM)(Cq10:Cal Ω "_law_program" 5 2 Cq)(Cq13:Cal Ω "_law_steps" 3 1 wI)(Cq7:Cal Ω "_law_order" 3 2 Ds)(Cq9:Cal Ω "_law_picked" 3 2 zB)(Cq11:Cal Ω "_law_right" 10 3 ut):Ok Ω 11 f fd Mt nu:=by
 refine aA (N:=R5) F (Sv B Cq47 Cq8 Cq10 Cq13 Cq7 Cq9 Cq11) (by kernel_rfl!) ?_
 rintro ds S W ⟨ns,rfl,hn,hw,hS0⟩ hl
 subst hS0
 walk_at "b"
 refine⟨rfl,ns,1,rfl,by decide,λ c=>?_⟩
 have p0:aJ ([]++[iC ns c 1]) 0:=⟨ns,c,1,by simp,by decide⟩
 have f0:flat ([]++[iC ns c 1]):=cR (λ l hl=>by cases hl) (nU ..)
 generalize ([]++[iC ns c 1]:Store)=S0 at*
 have h12:12≤20:=by decide
 have h60:20≤60:=by decide
 walk_at "b"
 refine⟨rfl,0,20,rfl,p0,f0,h12,h60,λ p S2 hP u2 p2 f2=>?_⟩
 walk_at "b"
 refine⟨rfl,p,20,rfl,hP,h60,f2,.inl ?_⟩
 walk_at "b"
 refine⟨rfl,Lg hP h12 h60 f2 ?_⟩
 have hN:=cX hP h12 h60
 have hr:=yG hP
 rw[K4]
 walk_at "b"
 rw[y7]
 refine⟨⟨by omega,by omega⟩,.inl ?_⟩
 rw[Int.toNat_natCast,vQ]
 walk_at "b"
 refine⟨rfl,0,aD p,rfl,p2,hN,hr,f2,λ o S3 hO hg u3 p3=>?_⟩
 have f3:=u3.flat f2
 walk_at "b"
 refine⟨rfl,0,aD p,rfl,p3,hN,hr,f3,λ o' S4 hO' hg' u4 p4=>?_⟩
 have f4:=u4.flat f3
 walk_at "b"
 rw[y7]
 refine⟨rfl,0,(aD p).length,rfl,p4,hN,f4,λ o2 S5 hO2 u5 p5=>?_⟩
 have f5:=u5.flat f4
 walk_at "b"
 refine aV ⟨λ i Γ' T=>(∃o5 o6 o7,Γ'=[some (.lst (ns.map .int)),some (.loc 0),some (dPg p),some (.lst ((aD p).map λ x=>b8 x.2 x.1)),some (dPg p),o5,o6,o7])/\T=S5,⟨⟨_,_,_,rfl⟩,rfl⟩,?_,λ Γ' S' _=>hw _⟩
 rintro i d Γ' T hd ⟨⟨o5,o6,o7,rfl⟩,rfl⟩
 obtain⟨x,rfl,hx⟩:∃x:List Nat,d=.lst (dN x)/\x.Perm (List.range (aD p).length):=by
  have hm:=y4 hd
  simp only[List.cons_append,List.nil_append,List.mem_cons,List.not_mem_nil,or_false]at hm
  rcases hm with h | h | h | h
  . exact⟨_,h,.refl _⟩
  . exact⟨_,h,hO⟩
  . exact⟨_,h,hO'⟩
  . exact⟨_,h,hO2⟩
 refine jP ?_
 simp only[List.set_cons_succ,List.set_cons_zero]
 walk_at "b"
 refine⟨rfl,p,20,x,rfl,hP,h12,h60,f5,hx,?_⟩
 walk_at "b"
 refine MF ?_
 walk_at "b"
 exact⟨⟨_,_,_,rfl⟩,rfl⟩
end K36
namespace K36
open PySem PySem.Spec L2 DL RF
open PyProof.Rows
variable {Ω : Wd} {f : Addr} {fd : FuncData}
theorem by1{G:List Value->Prop}(h:∀a0:Value,G [a0])(us:List Value)(e:us.length=1):G us:=by
 obtain⟨a0,us,rfl⟩:=List.exists_cons_of_length_eq_add_one e
 replace e:=Nat.succ.inj e
 obtain rfl:=List.eq_nil_of_length_eq_zero e
 exact h a0
theorem by2{G:List Value->Prop}(h:∀a0 a1:Value,G [a0,a1])(us:List Value)(e:us.length=2):G us:=by
 obtain⟨a0,us,rfl⟩:=List.exists_cons_of_length_eq_add_one e
 replace e:=Nat.succ.inj e
 obtain⟨a1,us,rfl⟩:=List.exists_cons_of_length_eq_add_one e
 replace e:=Nat.succ.inj e
 obtain rfl:=List.eq_nil_of_length_eq_zero e
 exact h a0 a1
theorem by3{G:List Value->Prop}(h:∀a0 a1 a2:Value,G [a0,a1,a2])(us:List Value)(e:us.length=3):G us:=by
 obtain⟨a0,us,rfl⟩:=List.exists_cons_of_length_eq_add_one e
 replace e:=Nat.succ.inj e
 obtain⟨a1,us,rfl⟩:=List.exists_cons_of_length_eq_add_one e
 replace e:=Nat.succ.inj e
 obtain⟨a2,us,rfl⟩:=List.exists_cons_of_length_eq_add_one e
 replace e:=Nat.succ.inj e
 obtain rfl:=List.eq_nil_of_length_eq_zero e
 exact h a0 a1 a2
theorem by4{G:List Value->Prop}(h:∀a0 a1 a2 a3:Value,G [a0,a1,a2,a3])(us:List Value)(e:us.length=4):G us:=by
 obtain⟨a0,us,rfl⟩:=List.exists_cons_of_length_eq_add_one e
 replace e:=Nat.succ.inj e
 obtain⟨a1,us,rfl⟩:=List.exists_cons_of_length_eq_add_one e
 replace e:=Nat.succ.inj e
 obtain⟨a2,us,rfl⟩:=List.exists_cons_of_length_eq_add_one e
 replace e:=Nat.succ.inj e
 obtain⟨a3,us,rfl⟩:=List.exists_cons_of_length_eq_add_one e
 replace e:=Nat.succ.inj e
 obtain rfl:=List.eq_nil_of_length_eq_zero e
 exact h a0 a1 a2 a3
noncomputable def FI(K:PySem.W.Frag)(x:Str)(t:Stmt):Prop:=∃(f:Addr) (oc:Value) (od:Option Addr) (kV dc pm:Value) (an:Option Addr) (cd ct:Value) (sl:Array (Option Value)),PySem.W.nsIn K mainGlobals x=some (some (.ref f))/\K.lookup f=some ⟨oc,od,.func (PySem.W.fnOf x x (eX t) (cj t) (aL t) .none kV dc pm an cd ct),sl⟩/\PySem.W.codeIn K cd x=true/\PySem.W.keepIn K (.ref f)=true
theorem FI.mk{K:PySem.W.Frag}{x:Str}{t:Stmt}{f:Addr}{oc:Value}{od:Option Addr}{kV dc pm:Value}{an:Option Addr}{cd ct:Value}{sl:Array (Option Value)}(a:PySem.W.nsIn K mainGlobals x=some (some (.ref f)))(l:K.lookup f=some ⟨oc,od,.func (PySem.W.fnOf x x (eX t) (cj t) (aL t) .none kV dc pm an cd ct),sl⟩)(c:PySem.W.codeIn K cd x=true)(k:PySem.W.keepIn K (.ref f)=true):FI K x t:=⟨f,oc,od,kV,dc,pm,an,cd,ct,sl,a,l,c,k⟩
noncomputable abbrev FU(Ω:Wd)(x:Str)(t:Stmt):Prop:=∃f fd,Fun Ω.K x x t f fd/\Ω.mg x=some (.ref f)
theorem FI.use{Ω:Wd}{h:Heap}{x:Str}{t:Stmt}(X:Ω.K.In h)(G:h.Ns mainGlobals Ω.mg)(q:FI Ω.K x t):FU Ω x t:=by
 obtain⟨f,oc,od,kV,dc,pm,an,cd,ct,sl,a,l,c,k⟩:=q
 exact⟨f,_,Io (st:=t) l c k,PySem.W.mg_of X G a⟩
theorem Rq{Ω:Wd}(B:Bi Ω.mg)
(u0:FU Ω "is_whole" gH)
(u1:FU Ω "is_tuple_of" dY)
(u2:FU Ω "is_widths" fU)
(u3:FU Ω "is_form" iB)
(u4:FU Ω "is_bound" gJ)
(u5:FU Ω "is_loop" iK)
(u6:FU Ω "is_loops" gZ)
(u7:FU Ω "has_few_figures" cJ)
(u8:FU Ω "is_start" ik)
(u9:FU Ω "is_place_form" dj)
(u10:FU Ω "is_table_with_place" bW)
(u11:FU Ω "is_read" iT)
(u12:FU Ω "is_reads" gY)
(u13:FU Ω "is_deed" iY)
(u14:FU Ω "is_nest" iW)
(u15:FU Ω "is_nests" gK)
(u16:FU Ω "comes_to" gh)
(u17:FU Ω "with_next_count" cM)
(u18:FU Ω "counts_of" fP)
(u19:FU Ω "number_of_steps" cL)
(u20:FU Ω "program_of" eF)
(u21:FU Ω "_law_cell" oW)
(u22:FU Ω "_law_pen" rW)
(u23:FU Ω "_law_take" oZ)
(u24:FU Ω "_law_loops" lZ)
(u25:FU Ω "_law_form" pJ)
(u26:FU Ω "_law_deed" oX)
(u27:FU Ω "_law_program" iM)
(u28:FU Ω "_law_at" yN)
(u29:FU Ω "_law_counts" jy)
(u30:FU Ω "_law_spot" oO)
(u31:FU Ω "_law_steps" lG)
(u32:FU Ω "_law_order" lU)
(u33:FU Ω "_law_touch" lV)
(u34:FU Ω "_law_picked" jO)
(u35:FU Ω "steps_of" gA)
(u36:FU Ω "deed_of" iQ)
(u37:FU Ω "cell_at" iR)
(u38:FU Ω "cells_of_step" dq)
(u39:FU Ω "cells_of" gO)
(u40:FU Ω "touched_cells" dm)
(u41:FU Ω "pairs" mz)
(u42:FU Ω "is_row" jT)
(u43:FU Ω "is_order" gD)
(u44:FU Ω "refuse_no_order" cI)
(u45:FU Ω "places_of" fQ)
(u46:FU Ω "broken" jz)
(u47:FU Ω "plain" mR)
(u48:FU Ω "led" rO)
(u49:FU Ω "_law_turned" jA)
(u50:FU Ω "_law_come_to" iD)
(u51:FU Ω "_law_right" lC)
{f:Addr}{fd:FuncData}(F:Fun Ω.K "law" "law" jY f fd):Ok Ω 11 f fd Mt nu:=by
 obtain⟨_,_,F0,g0⟩:=u0
 have Cq40:=callee F0 (vh F0 B) g0 (F0.binds λ _ _ _ _ _ _=>by1 λ _=>rfl)
 obtain⟨_,_,F0,g0⟩:=u1
 have Cq39:=callee F0 (pM F0 B) g0 (F0.binds λ _ _ _ _ _ _=>by3 λ _ _ _=>rfl)
 obtain⟨_,_,F0,g0⟩:=u2
 have Cq41:=callee F0 (sE F0 B Cq40 Cq39) g0 (F0.binds λ _ _ _ _ _ _=>by1 λ _=>rfl)
 obtain⟨_,_,F0,g0⟩:=u3
 have Cq27:=callee F0 (wy F0 B Cq40 Cq39) g0 (F0.binds λ _ _ _ _ _ _=>by2 λ _ _=>rfl)
 obtain⟨_,_,F0,g0⟩:=u4
 have Cq25:=callee F0 (uN F0 B Cq27) g0 (F0.binds λ _ _ _ _ _ _=>by2 λ _ _=>rfl)
 obtain⟨_,_,F0,g0⟩:=u5
 have Cq28:=callee F0 (yx F0 Cq39 Cq25) g0 (F0.binds λ _ _ _ _ _ _=>by2 λ _ _=>rfl)
 obtain⟨_,_,F0,g0⟩:=u6
 have Cq29:=callee F0 (vI F0 B Cq39 Cq28) g0 (F0.binds λ _ _ _ _ _ _=>by1 λ _=>rfl)
 obtain⟨_,_,F0,g0⟩:=u7
 have Cq24:=callee F0 (jx F0 B) g0 (F0.binds λ _ _ _ _ _ _=>by1 λ _=>rfl)
 obtain⟨_,_,F0,g0⟩:=u8
 have Cq37:=callee F0 (vz F0 B Cq27 Cq24) g0 (F0.binds λ _ _ _ _ _ _=>by2 λ _ _=>rfl)
 obtain⟨_,_,F0,g0⟩:=u9
 have Cq33:=callee F0 (mH F0 B Cq27) g0 (F0.binds λ _ _ _ _ _ _=>by2 λ _ _=>rfl)
 obtain⟨_,_,F0,g0⟩:=u10
 have Cq38:=callee F0 (gU F0 B Cq40 Cq39 Cq33) g0 (F0.binds λ _ _ _ _ _ _=>by4 λ _ _ _ _=>rfl)
 obtain⟨_,_,F0,g0⟩:=u11
 have Cq34:=callee F0 (vX F0 Cq40 Cq39 Cq24 Cq38) g0 (F0.binds λ _ _ _ _ _ _=>by3 λ _ _ _=>rfl)
 obtain⟨_,_,F0,g0⟩:=u12
 have Cq35:=callee F0 (uY F0 B Cq39 Cq34) g0 (F0.binds λ _ _ _ _ _ _=>by3 λ _ _ _=>rfl)
 obtain⟨_,_,F0,g0⟩:=u13
 have Cq26:=callee F0 (zK F0 Cq39 Cq37 Cq38 Cq35) g0 (F0.binds λ _ _ _ _ _ _=>by3 λ _ _ _=>rfl)
 obtain⟨_,_,F0,g0⟩:=u14
 have Cq30:=callee F0 (xq F0 B Cq39 Cq29 Cq26) g0 (F0.binds λ _ _ _ _ _ _=>by2 λ _ _=>rfl)
 obtain⟨_,_,F0,g0⟩:=u15
 have Cq31:=callee F0 (uZ F0 B Cq39 Cq30) g0 (F0.binds λ _ _ _ _ _ _=>by2 λ _ _=>rfl)
 obtain⟨_,_,F0,g0⟩:=u16
 have Cq21:=callee F0 (vH F0 B) g0 (F0.binds λ _ _ _ _ _ _=>by2 λ _ _=>rfl)
 obtain⟨_,_,F0,g0⟩:=u17
 have Cq51:=callee F0 (jW F0 B Cq21) g0 (F0.binds λ _ _ _ _ _ _=>by3 λ _ _ _=>rfl)
 obtain⟨_,_,F0,g0⟩:=u18
 have Cq22:=callee F0 (sr F0 Cq51) g0 (F0.binds λ _ _ _ _ _ _=>by1 λ _=>rfl)
 obtain⟨_,_,F0,g0⟩:=u19
 have Cq43:=callee F0 (jV F0 B Cq22) g0 (F0.binds λ _ _ _ _ _ _=>by1 λ _=>rfl)
 obtain⟨_,_,F0,g0⟩:=u20
 have Cq47:=callee F0 (qi F0 B Cq41 Cq31 Cq43) g0 (F0.binds λ _ _ _ _ _ _=>by2 λ _ _=>rfl)
 obtain⟨_,_,F0,g0⟩:=u21
 have Cq1:=callee F0 (Hy F0 B) g0 (F0.binds λ _ _ _ _ _ _=>by2 λ _ _=>rfl)
 obtain⟨_,_,F0,g0⟩:=u22
 have Cq8:=callee F0 (J2 F0 Cq1) g0 (F0.binds λ _ _ _ _ _ _=>by2 λ _ _=>rfl)
 obtain⟨_,_,F0,g0⟩:=u23
 have Cq14:=callee F0 (Jg F0 Cq1) g0 (F0.binds λ _ _ _ _ _ _=>by2 λ _ _=>rfl)
 obtain⟨_,_,F0,g0⟩:=u24
 have Cq6:=callee F0 (Fo F0 B Cq14) g0 (F0.binds λ _ _ _ _ _ _=>by2 λ _ _=>rfl)
 obtain⟨_,_,F0,g0⟩:=u25
 have Cq5:=callee F0 (G4 F0 B Cq14) g0 (F0.binds λ _ _ _ _ _ _=>by3 λ _ _ _=>rfl)
 obtain⟨_,_,F0,g0⟩:=u26
 have Cq4:=callee F0 (Jr F0 B Cq14 Cq5) g0 (F0.binds λ _ _ _ _ _ _=>by3 λ _ _ _=>rfl)
 obtain⟨_,_,F0,g0⟩:=u27
 have Cq10:=callee F0 (yC F0 B Cq14 Cq6 Cq4) g0 (F0.binds λ _ _ _ _ _ _=>by2 λ _ _=>rfl)
 obtain⟨_,_,F0,g0⟩:=u28
 have Cq0:=callee F0 (Nj F0 B) g0 (F0.binds λ _ _ _ _ _ _=>by2 λ _ _=>rfl)
 obtain⟨_,_,F0,g0⟩:=u29
 have Cq3:=callee F0 (Ae F0 B Cq0) g0 (F0.binds λ _ _ _ _ _ _=>by1 λ _=>rfl)
 obtain⟨_,_,F0,g0⟩:=u30
 have Cq12:=callee F0 (Im F0 B Cq0) g0 (F0.binds λ _ _ _ _ _ _=>by3 λ _ _ _=>rfl)
 obtain⟨_,_,F0,g0⟩:=u31
 have Cq13:=callee F0 (Fw F0 Cq0 Cq3 Cq12) g0 (F0.binds λ _ _ _ _ _ _=>by1 λ _=>rfl)
 obtain⟨_,_,F0,g0⟩:=u32
 have Cq7:=callee F0 (FT F0 B Cq14) g0 (F0.binds λ _ _ _ _ _ _=>by2 λ _ _=>rfl)
 obtain⟨_,_,F0,g0⟩:=u33
 have Cq15:=callee F0 (Er F0) g0 (F0.binds λ _ _ _ _ _ _=>by2 λ _ _=>rfl)
 obtain⟨_,_,F0,g0⟩:=u34
 have Cq9:=callee F0 (Ci F0 B Cq14 Cq15) g0 (F0.binds λ _ _ _ _ _ _=>by2 λ _ _=>rfl)
 obtain⟨_,_,F0,g0⟩:=u35
 have Cq49:=callee F0 (vf F0 B Cq22) g0 (F0.binds λ _ _ _ _ _ _=>by1 λ _=>rfl)
 obtain⟨_,_,F0,g0⟩:=u36
 have Cq23:=callee F0 (zj F0) g0 (F0.binds λ _ _ _ _ _ _=>by2 λ _ _=>rfl)
 obtain⟨_,_,F0,g0⟩:=u37
 have Cq18:=callee F0 (xU F0 B Cq21) g0 (F0.binds λ _ _ _ _ _ _=>by3 λ _ _ _=>rfl)
 obtain⟨_,_,F0,g0⟩:=u38
 have Cq20:=callee F0 (lY F0 Cq23 Cq18) g0 (F0.binds λ _ _ _ _ _ _=>by2 λ _ _=>rfl)
 obtain⟨_,_,F0,g0⟩:=u39
 have Cq19:=callee F0 (vG F0 Cq49 Cq20) g0 (F0.binds λ _ _ _ _ _ _=>by1 λ _=>rfl)
 obtain⟨_,_,F0,g0⟩:=u40
 have Cq50:=callee F0 (lN F0 B) g0 (F0.binds λ _ _ _ _ _ _=>by2 λ _ _=>rfl)
 obtain⟨_,_,F0,g0⟩:=u41
 have Cq44:=callee F0 (Ej F0 B Cq19 Cq50) g0 (F0.binds λ _ _ _ _ _ _=>by1 λ _=>rfl)
 obtain⟨_,_,F0,g0⟩:=u42
 have Cq36:=callee F0 (Ah F0 B Cq40 Cq43) g0 (F0.binds λ _ _ _ _ _ _=>by2 λ _ _=>rfl)
 obtain⟨_,_,F0,g0⟩:=u43
 have Cq32:=callee F0 (uO F0 B Cq43 Cq36) g0 (F0.binds λ _ _ _ _ _ _=>by2 λ _ _=>rfl)
 obtain⟨_,_,F0,g0⟩:=u44
 have Cq48:=callee F0 (jD F0 Cq32) g0 (F0.binds λ _ _ _ _ _ _=>by2 λ _ _=>rfl)
 obtain⟨_,_,F0,g0⟩:=u45
 have Cq45:=callee F0 (sU F0 B) g0 (F0.binds λ _ _ _ _ _ _=>by1 λ _=>rfl)
 obtain⟨_,_,F0,g0⟩:=u46
 have Cq17:=callee F0 (Bs F0 Cq44 Cq48 Cq45) g0 (F0.binds λ _ _ _ _ _ _=>by2 λ _ _=>rfl)
 obtain⟨_,_,F0,g0⟩:=u47
 have Cq46:=callee F0 (Fl F0 B Cq43) g0 (F0.binds λ _ _ _ _ _ _=>by1 λ _=>rfl)
 obtain⟨_,_,F0,g0⟩:=u48
 have Cq42:=callee F0 (J8 F0 B Cq46 Cq17) g0 (F0.binds λ _ _ _ _ _ _=>by2 λ _ _=>rfl)
 obtain⟨_,_,F0,g0⟩:=u49
 have Cq16:=callee F0 (Be F0 B) g0 (F0.binds λ _ _ _ _ _ _=>by1 λ _=>rfl)
 obtain⟨_,_,F0,g0⟩:=u50
 have Cq2:=callee F0 (zN F0 B Cq15) g0 (F0.binds λ _ _ _ _ _ _=>by2 λ _ _=>rfl)
 obtain⟨_,_,F0,g0⟩:=u51
 have Cq11:=callee F0 (Fx F0 B Cq17 Cq42 Cq16 Cq2) g0 (F0.binds λ _ _ _ _ _ _=>by3 λ _ _ _=>rfl)
 exact RK F B Cq47 Cq8 Cq10 Cq13 Cq7 Cq9 Cq11
theorem all_mk{l:PySem.W.OpenLaw}{w:World}{K:PySem.W.Frag}{h:Heap}{mg:Str->Option Value}{fa:Addr}(X:K.In h)(G:h.Ns mainGlobals mg)(hfa:mg "law"=some (.ref fa))(q:FI K "law" jY)
(q0:FI K "is_whole" gH)
(q1:FI K "is_tuple_of" dY)
(q2:FI K "is_widths" fU)
(q3:FI K "is_form" iB)
(q4:FI K "is_bound" gJ)
(q5:FI K "is_loop" iK)
(q6:FI K "is_loops" gZ)
(q7:FI K "has_few_figures" cJ)
(q8:FI K "is_start" ik)
(q9:FI K "is_place_form" dj)
(q10:FI K "is_table_with_place" bW)
(q11:FI K "is_read" iT)
(q12:FI K "is_reads" gY)
(q13:FI K "is_deed" iY)
(q14:FI K "is_nest" iW)
(q15:FI K "is_nests" gK)
(q16:FI K "comes_to" gh)
(q17:FI K "with_next_count" cM)
(q18:FI K "counts_of" fP)
(q19:FI K "number_of_steps" cL)
(q20:FI K "program_of" eF)
(q21:FI K "_law_cell" oW)
(q22:FI K "_law_pen" rW)
(q23:FI K "_law_take" oZ)
(q24:FI K "_law_loops" lZ)
(q25:FI K "_law_form" pJ)
(q26:FI K "_law_deed" oX)
(q27:FI K "_law_program" iM)
(q28:FI K "_law_at" yN)
(q29:FI K "_law_counts" jy)
(q30:FI K "_law_spot" oO)
(q31:FI K "_law_steps" lG)
(q32:FI K "_law_order" lU)
(q33:FI K "_law_touch" lV)
(q34:FI K "_law_picked" jO)
(q35:FI K "steps_of" gA)
(q36:FI K "deed_of" iQ)
(q37:FI K "cell_at" iR)
(q38:FI K "cells_of_step" dq)
(q39:FI K "cells_of" gO)
(q40:FI K "touched_cells" dm)
(q41:FI K "pairs" mz)
(q42:FI K "is_row" jT)
(q43:FI K "is_order" gD)
(q44:FI K "refuse_no_order" cI)
(q45:FI K "places_of" fQ)
(q46:FI K "broken" jz)
(q47:FI K "plain" mR)
(q48:FI K "led" rO)
(q49:FI K "_law_turned" jA)
(q50:FI K "_law_come_to" iD)
(q51:FI K "_law_right" lC)
 {t_MOST_STEPS:Tok}(z_MOST_STEPS:PySem.W.nsIn K mainGlobals "MOST_STEPS"=some (some (.int 60 t_MOST_STEPS)))
 (z_abs:PySem.W.nsIn K mainGlobals "abs"=some none)
 (z_all:PySem.W.nsIn K mainGlobals "all"=some none)
 (z_any:PySem.W.nsIn K mainGlobals "any"=some none)
 (z_bool:PySem.W.nsIn K mainGlobals "bool"=some none)
 (z_enumerate:PySem.W.nsIn K mainGlobals "enumerate"=some none)
 (z_int:PySem.W.nsIn K mainGlobals "int"=some none)
 (z_isinstance:PySem.W.nsIn K mainGlobals "isinstance"=some none)
 (z_len:PySem.W.nsIn K mainGlobals "len"=some none)
 (z_list:PySem.W.nsIn K mainGlobals "list"=some none)
 (z_max:PySem.W.nsIn K mainGlobals "max"=some none)
 (z_min:PySem.W.nsIn K mainGlobals "min"=some none)
 (z_range:PySem.W.nsIn K mainGlobals "range"=some none)
 (z_set:PySem.W.nsIn K mainGlobals "set"=some none)
 (z_sorted:PySem.W.nsIn K mainGlobals "sorted"=some none)
 (z_sum:PySem.W.nsIn K mainGlobals "sum"=some none)
 (z_tuple:PySem.W.nsIn K mainGlobals "tuple"=some none)
 (z_zip:PySem.W.nsIn K mainGlobals "zip"=some none)
 :∃fd:FuncData,(∀(s:Shared)(v:Value),BindsTo s fd ⟨[v],[]⟩ [("_law_script",v)])/\∀base:Heap,K.In base->base.Ns mainGlobals mg->FnOk l.prog w K mg base CX0 11 fa fd ["_law_script"] (spC K 1 nu):=by
 obtain⟨f,oc,od,kV,dc,pm,an,cd,ct,sl,a,l',c,k⟩:=q
 have e:=hfa.symm.trans (PySem.W.mg_of X G a)
 cases e
 refine⟨PySem.W.fnOf "law" "law" (eX jY) (cj jY) (aL jY) .none kV dc pm an cd ct,λ s v=>.of_eq rfl,λ base _ _=>?_⟩
 have B:Bi mg:=⟨⟨_,PySem.W.mg_of X G z_MOST_STEPS⟩,PySem.W.mg_none_of X G z_abs,PySem.W.mg_none_of X G z_all,PySem.W.mg_none_of X G z_any,PySem.W.mg_none_of X G z_bool,PySem.W.mg_none_of X G z_enumerate,PySem.W.mg_none_of X G z_int,PySem.W.mg_none_of X G z_isinstance,PySem.W.mg_none_of X G z_len,PySem.W.mg_none_of X G z_list,PySem.W.mg_none_of X G z_max,PySem.W.mg_none_of X G z_min,PySem.W.mg_none_of X G z_range,PySem.W.mg_none_of X G z_set,PySem.W.mg_none_of X G z_sorted,PySem.W.mg_none_of X G z_sum,PySem.W.mg_none_of X G z_tuple,PySem.W.mg_none_of X G z_zip⟩
 exact Rq (Ω:=⟨_,w,K,mg,base⟩) B (q0.use X G) (q1.use X G) (q2.use X G) (q3.use X G) (q4.use X G) (q5.use X G) (q6.use X G) (q7.use X G) (q8.use X G) (q9.use X G) (q10.use X G) (q11.use X G) (q12.use X G) (q13.use X G) (q14.use X G) (q15.use X G) (q16.use X G) (q17.use X G) (q18.use X G) (q19.use X G) (q20.use X G) (q21.use X G) (q22.use X G) (q23.use X G) (q24.use X G) (q25.use X G) (q26.use X G) (q27.use X G) (q28.use X G) (q29.use X G) (q30.use X G) (q31.use X G) (q32.use X G) (q33.use X G) (q34.use X G) (q35.use X G) (q36.use X G) (q37.use X G) (q38.use X G) (q39.use X G) (q40.use X G) (q41.use X G) (q42.use X G) (q43.use X G) (q44.use X G) (q45.use X G) (q46.use X G) (q47.use X G) (q48.use X G) (q49.use X G) (q50.use X G) (q51.use X G) (Io (st:=jY) l' c k)
end K36
namespace PySem.W.Fast
def tw7982435820042897137:=()
def tw14455932139581853492:=()
def tw10035859250350557688:=()
def tw885144155670689327:=()
def tw16452734501767390611:=()
def tw11629385729573348912:=()
def tw2735876766305027055:=()
def tw14371907167502432794:=()
def tw15213783677667656078:=()
def tw5326533543721055446:=()
def tw2318747787655570574:=()
def tw1559756489098710580:=()
def tw7160939755987067259:=()
def tw2318140790565424814:=()
def tw12675603195709074659:=()
def tw16345465999538932888:=()
def tw10575754084875997237:=()
def tw16461625517583520632:=()
def tw2823394511257264283:=()
def tw13347375606020433117:=()
def tw1222576766350088330:=()
def tw8914895393528579225:=()
def tw15567940426085699245:=()
def tw6710410429859526326:=()
def tw7183875681042631551:=()
def tw1888868486467703997:=()
def tw16160862439916983246:=()
def tw8964159847441747755:=()
def tw7901882272991101410:=()
def tw9783305512222423886:=()
def tw9018655091335157431:=()
def tw8384981301208133859:=()
def tw192873755509550448:=()
def tw14142849865845241130:=()
def tw5008100017731051472:=()
def tw17507926759646573774:=()
def tw9729642015166621238:=()
def tw9831057405239305996:=()
def tw8390734078829370724:=()
def tw6274751383244972707:=()
def tw14606250786525721151:=()
def tw12693488163006555038:=()
def tw9387751244530037349:=()
def tw4578137200760043738:=()
def tw8237967655866105663:=()
def tw9354918875280853061:=()
def tw14047477033021180099:=()
def tw14895696098613266462:=()
def tw13079521325672378379:=()
def tw15061121289326574178:=()
def tw9149128184261150526:=()
def tw17163870680514712143:=()
def tw14093291922086040525:=()
def tw9013333674827944948:=()
def tw11147984732564441487:=()
def tw15888313996984121491:=()
def tw1541208260903635221:=()
def tw3309149854975784252:=()
def tw17773232747059383515:=()
def tw15000040909042794171:=()
def tw3211631789709326129:=()
def tw17507853459436488157:=()
def tw14787121162702790290:=()
def tw1129673437047894932:=()
def tw17156855619173630964:=()
def tw8725769511753010894:=()
def tw5026870162537026942:=()
def tw12444738492516151819:=()
def tw11636878325500289705:=()
def tw514127013490633429:=()
def tw885052107691447509:=()
def tw555748221522360527:=()
def tw11475132179124031171:=()
def tw13718508387351863413:=()
def tw4102775442140466716:=()
def tw1894991983596061254:=()
def tw12891828549420879439:=()
def tw3693830870239272811:=()
def tw9640012306558842420:=()
def tw8948614902497138995:=()
def tw5461867307221945681:=()
def tw9926450514767371850:=()
def tw993050601261543978:=()
def tw4865550252823587239:=()
def tw12617933109161113395:=()
def tw16676845822364496140:=()
def tw5672495539769273913:=()
def tw6031749850922035838:=()
def tw15261894105182661507:=()
def tw17901053564184607158:=()
def tw13036066771743045680:=()
def tw6263946674839406447:=()
def tw2948056620883358803:=()
def tw12261243094818424086:=()
def tw12331460272915923706:=()
def tw16402987738092526951:=()
def tw13996988654257356861:=()
def tw11637016767386257192:=()
def tw3247569413386904891:=()
def tw11876602620246228328:=()
def tw2363403814049313519:=()
def tw6451902093710719573:=()
def tw7989031575468121680:=()
def tw6057381613544584646:=()
def tw15570245828492076143:=()
def tw3311494974838917218:=()
def tw9208930664175124671:=()
def tw1778036546599396855:=()
def tw13890418852609328964:=()
def tw16052836150814903917:=()
def tw10258708438442023386:=()
def tw6901485917207429604:=()
def tw403756470198411749:=()
def tw1847441093220896209:=()
def tw6506006669908283043:=()
def tw11844896544709042215:=()
def tw17175978708643246935:=()
def tw842731857184070711:=()
def tw11151545107432761186:=()
def tw18192846392063146225:=()
def tw16340220016180251413:=()
def tw18209578871768149456:=()
def tw11486144983370689067:=()
def tw10967046233960864476:=()
def tw16534512070439170674:=()
def tw17691104939236934989:=()
def tw16051530631463856410:=()
def tw6382300809982506084:=()
def tw13442260376812897469:=()
def tw5477165393511649847:=()
def tw9060722707144110952:=()
def tw5093799939266873153:=()
def tw1884626170262405603:=()
def tw9993702639281316643:=()
def tw11688123207882315493:=()
def tw14942375134188512320:=()
def tw10222498936984475868:=()
def tw10512360081861469225:=()
def tw4284102257148736762:=()
def tw9741701471213775962:=()
def tw10815916353256534388:=()
def tw7797729962016357978:=()
def tw17462471092935414526:=()
def tw12068401120663120995:=()
def tw9427616576961541731:=()
def tw1047661914472645691:=()
def tw10872469313230007430:=()
def tw13657521344182632978:=()
def tw8492238713517028326:=()
def tw17910985029934880890:=()
def tw2276097047888522489:=()
def tw12327435641266806665:=()
def tw8739390999198999489:=()
def tw18208815639220196231:=()
def tw12833479032736687794:=()
def tw2449969193494714721:=()
def tw2736599808674098597:=()
def tw16282983978153504457:=()
def tw10244689518912202224:=()
def tw4115898915026932802:=()
def tw16440526053241890569:=()
def tw17596719349912523272:=()
def tw8185820013155857421:=()
def tw13081044473667519695:=()
def tw3183874499257541464:=()
def tw15318232209250673149:=()
def tw15000356085451284811:=()
def tw10972827628559963348:=()
def tw6148481310844693147:=()
def tw1445565735678453097:=()
def tw5135235066588932909:=()
def tw3018137601586664668:=()
def tw17539370583991433696:=()
def tw13640977507326069089:=()
def tw17771951280959110421:=()
def tw2367749973762492395:=()
def tw2823763077190030443:=()
def tw15563926266154110997:=()
def tw17651072063220804046:=()
def tw11160128751203832770:=()
def tw7195547305310000481:=()
def tw15278575207630228752:=()
def tw3841803854780319453:=()
def tw14604349334292172505:=()
def tw16524832275225706843:=()
def tw15408218141681931408:=()
def tw7993393712696412834:=()
def tw7820501397526769315:=()
def tw10802946438080676369:=()
def tw8695517363798113942:=()
def tw13975023433221521242:=()
def tw6253817167526429572:=()
def tw6249126469042849859:=()
def tw5243469913997615118:=()
def tw7398678161041530193:=()
def tw7081855309378954854:=()
def tw4707464113157441724:=()
def tw4715977881753153285:=()
def tw594210373520404346:=()
def tw3185905013139818736:=()
def tw6937320290780386802:=()
def tw11661051081075560847:=()
def tw11163556956959017707:=()
def tw11294398552817557237:=()
def tw11678273887496375792:=()
def tw16935952838961518567:=()
def tw15599544640970608862:=()
def tw13984421993281125048:=()
def tw7855862370526560558:=()
def tw12913157828337552470:=()
def tw14911313442416093980:=()
def tw11785077611829557332:=()
def tw17161702448070608827:=()
def tw3575430582119671538:=()
def tw6624460110988791347:=()
def tw13964035129497591779:=()
def tw18418409409546031311:=()
def tw5359233424067554418:=()
def tw16076439555417904721:=()
def tw1020271527799470656:=()
def tw5293330615383957922:=()
def tw8634617540990565021:=()
def tw12413349718894308905:=()
def tw6945917081245635820:=()
def tw17228249862295075635:=()
def tw14129383383976669277:=()
def tw8206183820227786883:=()
def tw17973954358520851980:=()
def tw17150006492837003363:=()
def tw3403100301573576222:=()
def tw14728051653064034773:=()
def tw1254647332420088874:=()
def tw14302886289219324688:=()
def tw16156347897405577486:=()
def tw6916751900082870727:=()
def tw6553288535336095056:=()
def tw5094302859776500529:=()
def tw13620363790189779120:=()
def tw760304453559082646:=()
def tw18046021728514994081:=()
def tw14426388803774157775:=()
def tw15594871520505263737:=()
def tw15024090590380917969:=()
def tw10432390791836619489:=()
def tw362035885424076646:=()
def tw5114290658406005442:=()
def tw16443779836035254043:=()
def tw8698289991297804394:=()
def tw8049897638099514563:=()
def tw6430162923192810837:=()
def tw1643582836359631623:=()
def tw10015159181243423326:=()
def tw10884177750153257700:=()
def tw5897031782416779778:=()
def tw441345528399085340:=()
def tw14935153551397705388:=()
def tw10431680040045747182:=()
def tw16761832054803717388:=()
def tw12387598770275209675:=()
def tw1191625158711913989:=()
def tw4411953770374790122:=()
def tw2949951546212823646:=()
def tw17918840139982518511:=()
def tw5848761900180140540:=()
def tw13560481922450874959:=()
def tw504934141463160035:=()
def tw15055838599900721249:=()
def tw4961891663199705445:=()
def tw13678932242675471109:=()
def tw2950924672704017365:=()
def tw8264822918817095835:=()
def tw2720194262524869287:=()
def tw1500929051258123046:=()
def tw8983688949984668184:=()
def tw4420884437954194163:=()
def tw15258887348373202220:=()
def tw16971048332493583394:=()
def tw16391845253025270659:=()
def tw14300252593556728129:=()
def tw334195848842102129:=()
def tw3668167553530618557:=()
def tw6367262350878118040:=()
def tw6944102683354230211:=()
def tw14676433637005779675:=()
def tw994713598372609283:=()
def tw6328490805450627909:=()
def tw13383688317037237532:=()
def tw10453426809227945841:=()
def tw1301054342775385293:=()
def tw12982684245728117140:=()
def tw10078037336985080054:=()
def tw4443024807213195180:=()
def tw10727999432480547408:=()
def tw7537532576848028297:=()
def tw11303778615945127581:=()
def tw2679764415690329736:=()
def tw3488289442635006298:=()
def tw18019634176900234362:=()
def tw452342626109233138:=()
def tw565244994705032021:=()
def tw5185115460911400270:=()
def tw16285633892433686874:=()
def tw13217001743383939017:=()
def tw2274659150049650352:=()
def tw4311791588025170296:=()
def tw5794818678728172960:=()
def tw4030611632693353365:=()
def tw623576763080539938:=()
def tw445998615938101967:=()
def tw4235888315375296038:=()
def tw16995222059944427348:=()
def tw14251324850255275776:=()
def tw1797592080209743584:=()
def tw15901473056296362937:=()
def tw8220449718565464234:=()
def tw6497789080864881350:=()
def tw9867756445275727099:=()
def tw11354227651098741904:=()
def tw13787732774827957026:=()
def tw8195047814614826194:=()
def tw10026210874360940094:=()
def tw8085063313284817155:=()
def tw9323690704018463938:=()
def tw5434584233756853567:=()
def tw5691745433882419728:=()
def tw952756089465231390:=()
def tw4590583775520693268:=()
def tw15410953295808589285:=()
def tw2529257522757784732:=()
def tw686371461296564783:=()
def tw3694895015340356722:=()
def tw8118293899866065829:=()
def tw10932529760953361774:=()
def tw14678012196625979359:=()
def tw13422111320038890768:=()
def tw12821896392351595245:=()
def tw15093449243155183030:=()
def tw13428401779126634493:=()
def tw15910287309491215555:=()
def tw18197499029885152019:=()
def tw4514770653361278101:=()
def tw18354874507625963400:=()
def tw857684014393839055:=()
def tw609444812399645962:=()
def tw10371732605454966218:=()
def tw1287581067967559782:=()
def tw15741990037147975368:=()
def tw11049073264563238293:=()
def tw4857313215775072913:=()
def tw17657353747354532103:=()
def tw3951677731902404330:=()
end PySem.W.Fast
open PySem PySem.W PyProof.Rows
set_option maxRecDepth 100000 in
set_option maxHeartbeats 0 in
theorem PySem.Challenge.cw_nestturn_k36_exchanges_told_holds : PySem.Challenge.rw_nestturn_k36_exchanges_told.Holds := by
 w_on; o_law; k_head; (case hw => w_witness2)
 k_fill
 refine RF.walk (l := PySem.Challenge.rw_nestturn_k36_exchanges_told) (lev := 11) (x := "_law_script") rfl rfl ⟨rfl, by decide, by decide⟩ (λ w h Y => by first | exact PySem.W.kIn_of Y | exact PySem.W.km_in_of Y) ?F
 case F =>
  intro w mg fa h KX G hmg
  refine' K36.all_mk KX G hmg ?_ ?_ ?_ ?_ ?_ ?_ ?_ ?_ ?_ ?_ ?_ ?_ ?_ ?_ ?_ ?_ ?_ ?_ ?_ ?_ ?_ ?_ ?_ ?_ ?_ ?_ ?_ ?_ ?_ ?_ ?_ ?_ ?_ ?_ ?_ ?_ ?_ ?_ ?_ ?_ ?_ ?_ ?_ ?_ ?_ ?_ ?_ ?_ ?_ ?_ ?_ ?_ ?_ ?_ ?_ ?_ ?_ ?_ ?_ ?_ ?_ ?_ ?_ ?_ ?_ ?_ ?_ ?_ ?_ ?_ ?_
  all_goals try first | (refine' K36.FI.mk ?a ?l ?c ?k; (case a => k_is); (case l => k_is); (case c => k_is); (case k => k_is)) | (show _ = _; k_is)
