import PyProof.Rows.All
import Wide.All
import OpenK.AllK
import Wide.FinOn
import Lean
import PyProof.EqAt
import PyProof.EqKinds
import PyProof.TupleCall
import KE.KEqDict
import PyProof.ZipIter
import PyProof.ListMulAny
import KE.KTryMore
import PyProof.NsDelKeeps
import KE.KUnpack
import KE.KRevIter
import PyProof.DictUpdate
import PyProof.ListRange
import PyProof.Rows.CallKwBuiltin
import PyProof.WalkInts
import PySem.Challenge.RW_nestturn_k37_exchanges_looked_at
theorem fE{α:Prop}(h:false=true):α:=(Bool.false_ne_true h).elim
noncomputable section
set_option Elab.async false
set_option linter.all false
def z0:=@List.getElem?_eq_some_iff
def y3:=@List.getElem?_eq_getElem
def y4:=@List.mem_of_getElem?
def y6:=@Bool.false_ne_true
def y7:=@List.length_map
def y8:=@List.getElem?_map
def y9:=@Nat.le_refl
def x3:=@List.mem_cons_of_mem
def x4:=@List.size_toArray
def x5:=@List.mem_cons_self
def x6:=@List.length_append
def x8:=@List.getElem?_append_left
def x9:=@Nat.lt_of_lt_of_le
def w9:=@Nat.ne_of_lt
def v3:=@List.map_append
set_option bootstrap.genMatcherCode false
set_option maxRecDepth 100000
namespace L2
open PySem PySem.Spec PyProof.Rows
noncomputable abbrev Key:=Sum Int Str
noncomputable def nC:Key->Value->Bool
 | .inl k,v=>Value.isInt k v
 | .inr x,v=>Value.isStrOf x v
noncomputable def U3(w:World):Key->Int
 | .inl k=>hashInt k
 | .inr x=>hashStr w x
theorem bD:∀{k:Key}{v:Value},nC k v=true->(∃i t,k=Sum.inl i/\v=Value.int i t)∨(∃x t,k=Sum.inr x/\v=Value.str x t)
 | .inl i,v,h=>by
   obtain⟨t,e⟩:=Value.isInt_shape (k:=i) (v:=v) h
   exact .inl ⟨i,t,rfl,e⟩
 | .inr x,v,h=>by
   obtain⟨t,e⟩:=Value.isStrOf_shape (x:=x) (v:=v) h
   exact .inr ⟨x,t,rfl,e⟩
theorem Hb(i:Int)(t:Tok):nC (.inl i) (.int i t)=true:=by simp[nC,Value.isInt]
theorem Hd(x:Str)(t:Tok):nC (.inr x) (.str x t)=true:=by simp[nC,Value.isStrOf]
theorem Rv(a b:Int):decide ((Sum.inl a:Key)=Sum.inl b)=(a==b):=by
 by_cases e:a=b
 . subst e;simp
 . have h:¬(Sum.inl a:Key)=Sum.inl b:=λ q=>e (Sum.inl.inj q)
   rw[decide_eq_false h]
   exact(beq_eq_false_iff_ne.mpr e).symm
theorem Qs(a b:Str):decide ((Sum.inr a:Key)=Sum.inr b)=decide (a=b):=by
 by_cases e:a=b
 . subst e;simp
 . have h:¬(Sum.inr a:Key)=Sum.inr b:=λ q=>e (Sum.inr.inj q)
   rw[decide_eq_false h,decide_eq_false e]
theorem Qn(a:Int)(b:Str):decide ((Sum.inl a:Key)=Sum.inr b)=false:=decide_eq_false (λ q=>nomatch q)
theorem RG(a:Str)(b:Int):decide ((Sum.inr a:Key)=Sum.inl b)=false:=decide_eq_false (λ q=>nomatch q)
noncomputable def aY(prog:Program)(w:World):PySem.KeyKind prog w Key where
 is:=nC
 hash:=U3 w
 inj:=λ v a b ha hb=>by
  rcases bD ha with⟨i,t,rfl,rfl⟩ | ⟨x,t,rfl,rfl⟩
  . rcases bD hb with⟨j,u,rfl,e⟩ | ⟨y,u,rfl,e⟩
    . injection e with e1 _;rw[e1]
    . exact nomatch e
  . rcases bD hb with⟨j,u,rfl,e⟩ | ⟨y,u,rfl,e⟩
    . exact nomatch e
    . injection e with e1 _;rw[e1]
 byValue:=λ k v h=>by
  rcases bD h with⟨i,t,rfl,rfl⟩ | ⟨x,t,rfl,rfl⟩<;>rfl
 pyHash:=λ hv h=>by
  rcases bD hv with⟨i,t,rfl,rfl⟩ | ⟨x,t,rfl,rfl⟩
  . exact wpAny_pyHash_int h
  . exact wpAny_pyHash_str h
 eqBool:=λ hu hv h=>by
  rcases bD hu with⟨i,t,rfl,rfl⟩ | ⟨x,t,rfl,rfl⟩
  . rcases bD hv with⟨j,u,rfl,rfl⟩ | ⟨y,u,rfl,rfl⟩
    . rw[Rv]at h;exact wpAny_eqBool_int h
    . rw[Qn]at h;exact SeqAt.EqAt.int_str i t y u _ _ _ _ h
  . rcases bD hv with⟨j,u,rfl,rfl⟩ | ⟨y,u,rfl,rfl⟩
    . rw[RG]at h;exact SeqAt.EqAt.str_int x t j u _ _ _ _ h
    . rw[Qs]at h;exact wpAny_eqBool_str h
 «strs»:=λ k x t v h=>by
  rcases bD h with⟨i,u,rfl,e⟩ | ⟨y,u,rfl,e⟩
  . exact nomatch e
  . injection e with e1 _
    subst e1
    cases v<;>rfl
theorem Bq(prog:Program)(w:World)(i:Int)(t:Tok):(aY prog w).is (.inl i) (.int i t)=true:=Hb i t
theorem Ba(prog:Program)(w:World)(x:Str)(t:Tok):(aY prog w).is (.inr x) (.str x t)=true:=Hd x t
end L2
namespace L2
open PySem PySem.Spec PyProof.Rows
variable {b : Addr}
inductive V where
 | non | bl(b:Bool) | int(i:Int) | str(x:Str) | byt(b:Array UInt8) | flt(b:UInt64) | ref(a:Addr) | ty(n:String)
 deriving DecidableEq
noncomputable def RelV:V->Value->Prop
 | .non,u=>u=Value.none
 | .bl b,u=>u=Value.bool b
 | .int i,u=>∃t,u=Value.int i t
 | .str x,u=>∃t,u=Value.str x t
 | .byt b,u=>∃t,u=Value.bytes b t
 | .flt b,u=>∃t,u=Value.float b t
 | .ref a,u=>u=Value.ref a
 | .ty n,u=>u=Value.type n
noncomputable abbrev Vals:List V->List Value->Prop:=Paired RelV
theorem Vals.length{xs:List V}{us:List Value}(r:Vals xs us):xs.length=us.length:=Paired.length r
theorem Vals.get:∀{xs:List V}{us:List Value}{i:Nat}{x:V},Vals xs us->xs[i]? =some x->∃u,us[i]? =some u/\RelV x u
 | _,_,_,_,.nil,e=>by simp at e
 | _,_,0,_,.cons r _,e=>by simp at e;subst e;exact⟨_,rfl,r⟩
 | _,_,i+1,x,.cons _ t,e=>by
   obtain⟨u,h1,h2⟩:=Vals.get (i:=i) (x:=x) t (by simpa using e)
   exact⟨u,by simpa using h1,h2⟩
theorem Vals.set{x:V}{u:Value}(r:RelV x u):∀{xs:List V}{us:List Value}(i:Nat),Vals xs us->Vals (xs.set i x) (us.set i u)
 | _,_,_,.nil=>.nil
 | _,_,0,.cons _ t=>.cons r t
 | _,_,i+1,.cons q t=>.cons q (Vals.set r i t)
theorem Vals.append:∀{xs ys:List V}{us ws:List Value},Vals xs us->Vals ys ws->Vals (xs++ys) (us++ws)
 | _,_,_,_,.nil,s=>s
 | _,_,_,_,.cons r t,s=>.cons r (Vals.append t s)
theorem Vals.take:∀{xs:List V}{us:List Value}(n:Nat),Vals xs us->Vals (xs.take n) (us.take n)
 | _,_,0,_=>.nil
 | _,_,_+1,.nil=>.nil
 | _,_,n+1,.cons r t=>.cons r (Vals.take n t)
theorem Vals.drop:∀{xs:List V}{us:List Value}(n:Nat),Vals xs us->Vals (xs.drop n) (us.drop n)
 | _,_,0,r=>r
 | _,_,_+1,.nil=>.nil
 | _,_,n+1,.cons _ t=>Vals.drop n t
noncomputable def tD:Option V->Option Value->Prop
 | some v,some u=>RelV v u
 | none,none=>True
 | _,_=>False
noncomputable def KV{κ:Type}:List (κ×V)->List (κ×Value)->Prop:=Paired λ(p:κ×V) (q:κ×Value)=>p.1=q.1/\RelV p.2 q.2
noncomputable def kV:Key->V
 | .inl i=>.int i
 | .inr x=>.str x
inductive HO where
 /-- a list -/
 | lst(xs:List V)
 /-- a tuple (never changes) -/
 | tup(xs:List V)
 /-- a dict whose keys are ints and texts; one whose keys are tuples of ints and texts (the empty one is both) -/
 | dK(kvs:List (Key×V)) | dT(kvs:List (List Key×V))
 /-- a set of ints: its members, its size -/
 | set(S:Int->Bool)(n:Nat)
 /-- an instance of the class at C, its dict at dx, its attributes -/
 | ins(C dx:Addr)(fs:List (Str×V))
 /-- the dict of the instance at x -/
 | own(x:Addr)
 /-- the dict of an exception -/
 | xd(fs:List (Str×V))
 /-- a bound method, f of x -/
 | met(f x:Addr)
 /-- a range object lo, lo + 1, .. below hi -/
 | rng(lo hi:Int)
 /-- a thing that is known to the object (the script; a dict while a loop walks it): read, never written while it is so -/
 | frz(o:Obj)(u:HO)
 /-- a code object's table -/
 | tbl(ps:Array Value)
 /-- any other thing, by what is true of its one object (a def of one's own: SetO a S n := HO.ext λ h => ..) -/
 | ext(φ:Heap->Prop)
noncomputable abbrev Hp:=Addr->Option HO
noncomputable def upd(H:Hp)(a:Addr)(o:HO):Hp:=λ b=>if b=a then some o else H b
theorem aQ{H:Hp}{a:Addr}{o:HO}:upd H a o a=some o:=by unfold upd;rw[if_pos rfl]
theorem aq{H:Hp}{a:Addr}{o:HO}(h:b≠a):upd H a o b=H b:=by unfold upd;rw[if_neg h]
theorem Ut{H:Hp}{a:Addr}{o u:HO}(h:H a=some o)(h':H b=some u)(d:o≠u):a≠b:=by
 intro e;subst e;rw[h]at h';exact d (Option.some.inj h')
theorem aD{H:Hp}{a:Addr}{o:HO}(h:H a=some o)(h':H b=none):a≠b:=by
 intro e;subst e;rw[h]at h';cases h'
section
variable (P : Program) (w : World)
noncomputable def aX(H:Hp)(h:Heap)(a:Addr):HO->Prop
 | .lst xs=>xs.length≤sizeLine/\∃(its:List Value) (n:Nat),Vals xs its/\h.get? a=some {cls:=.type "list",data:=.seq its.toArray n}
 | .tup xs=>xs.length≤sizeLine/\∃its:List Value,Vals xs its/\IsTup h a its.toArray
 | .dK kvs=>kvs.length≤sizeLine/\(a==sysModules)=false/\∃vs,KV kvs vs/\h.DictOf (aY P w) a vs
 | .dT kvs=>kvs.length≤sizeLine/\(a==sysModules)=false/\∃xs:List (List Key×Addr×Value),
  Paired (λ(p:List Key×V) (q:List Key×Addr×Value)=>p.1=q.1/\H q.2.1=some (.tup (p.1.map kV))/\RelV p.2 q.2.2) kvs xs/\
  ∃o es ep,h.get? a=some o/\o.ExactDict/\o.data=.dict es ep/\es.toList=xs.map (entryOfKey (tupleKind (aY P w)))/\(xs.map (·.1)).Nodup
 | .set S n=>h.SetOf (intKind P w) a S n
 | .ins C dx fs=>H dx=some (.own a)/\fs.length≤1000/\dx≠a/\h.get? a=some (PySem.W.instObj C dx)/\
  ∃mA,h.Ns1 dx mA/\(∀f,tD (fs.lookup f) (mA f))/\PySem.Within mA (fs.map (·.1))
 | .own _=>∃o,h.get? a=some o
 | .xd fs=>∃mA,h.Ns1 a mA/\∀f,tD (fs.lookup f) (mA f)
 | .rng lo hi=>∃t u v,h.get? a=some {cls:=.type "range",data:=.fields #[.int lo t,.int hi u,.int 1 v]}
 | .frz o u=>h.get? a=some o/\aX H h a u
 | .tbl ps=>h.get? a=some {cls:=.none,data:=.fields ps}
 | .met f x=>h.get? a=some (PySem.W.methodObj (.ref f) (.ref x))
 | .ext φ=>φ h/\(∃o,h.get? a=some o)/\∀h1 h2:Heap,φ h1->(∀o,h1.get? a=some o->h2.get? a=some o)->φ h2
noncomputable def HOk(H:Hp)(h:Heap):Prop:=∀a o,H a=some o->aX P w H h a o
end
section
variable {P : Program} {w : World} {H H' : Hp} {h h' : Heap} {a : Addr} {o : HO}
theorem aX.lt(x:aX P w H h a o):a<h.objs.size:=by
 cases o with
 | lst xs=>obtain⟨_,_,_,_,e⟩:=x;exact Heap.lt_size e
 | tup xs=>obtain⟨_,_,_,p⟩:=x;exact p.lt
 | dK kvs=>obtain⟨_,_,_,_,o,_,_,e,_⟩:=x;exact Heap.lt_size e
 | dT kvs=>obtain⟨_,_,_,_,o,_,_,e,_⟩:=x;exact Heap.lt_size e
 | set S n=>obtain⟨o,_,_,_,e,_⟩:=x;exact Heap.lt_size e
 | ins C dx fs=>obtain⟨_,_,_,e,_⟩:=x;exact Heap.lt_size e
 | own y=>obtain⟨_,e⟩:=x;exact Heap.lt_size e
 | xd fs=>obtain⟨_,⟨_,_,_,e,_⟩,_⟩:=x;exact Heap.lt_size e
 | rng lo hi=>obtain⟨_,_,_,e⟩:=x;exact Heap.lt_size e
 | frz ob u=>obtain⟨e,_⟩:=x;exact Heap.lt_size e
 | tbl ps=>exact Heap.lt_size (show h.get? a=some _ from x)
 | met f y=>exact Heap.lt_size (show h.get? a=some _ from x)
 | ext φ=>obtain⟨_,⟨_,e⟩,_⟩:=x;exact Heap.lt_size e
theorem Paired.mapP{α β:Type}{F G:α->β->Prop}:∀{l₁:List α}{l₂:List β},Paired F l₁ l₂->(∀a b,F a b->G a b)->Paired G l₁ l₂
 | _,_,.nil,_=>.nil
 | _,_,.cons r t,f=>.cons (f _ _ r) (Paired.mapP t f)
theorem aX.stay(x:aX P w H h a o)(k:∀b u,(b=a∨H b=some (.own a))->h.get? b=some u->h'.get? b=some u)
 (ho:∀b,H b=some (.own a)->H' b=some (.own a))(ht:∀b xs,H b=some (.tup xs)->H' b=some (.tup xs)):aX P w H' h' a o:=by
 induction o with
 | lst xs=>obtain⟨z,its,n,r,e⟩:=x;exact⟨z,its,n,r,k _ _ (.inl rfl) e⟩
 | tup xs=>obtain⟨z,its,r,ob,e,c⟩:=x;exact⟨z,its,r,ob,k _ _ (.inl rfl) e,c⟩
 | dK kvs=>obtain⟨z,y,vs,r,ob,es,ep,e,c⟩:=x;exact⟨z,y,vs,r,ob,es,ep,k _ _ (.inl rfl) e,c⟩
 | dT kvs=>
   obtain⟨z,y,xs,r,ob,es,ep,e,c⟩:=x
   exact⟨z,y,xs,Paired.mapP r λ p q z=>⟨z.1,ht _ _ z.2.1,z.2.2⟩,ob,es,ep,k _ _ (.inl rfl) e,c⟩
 | set S n=>obtain⟨ob,es,ep,t,e,c⟩:=x;exact⟨ob,es,ep,t,k _ _ (.inl rfl) e,c⟩
 | ins C dx fs=>
   obtain⟨d,z,ne,e,mA,⟨od,es,ep,e2,c⟩,r⟩:=x
   exact⟨ho _ d,z,ne,k _ _ (.inl rfl) e,mA,⟨od,es,ep,k _ _ (.inr d) e2,c⟩,r⟩
 | own y=>obtain⟨ob,e⟩:=x;exact⟨ob,k _ _ (.inl rfl) e⟩
 | xd fs=>obtain⟨mA,⟨od,es,ep,e,c⟩,r⟩:=x;exact⟨mA,⟨od,es,ep,k _ _ (.inl rfl) e,c⟩,r⟩
 | rng lo hi=>obtain⟨t,u,v,e⟩:=x;exact⟨t,u,v,k _ _ (.inl rfl) e⟩
 | frz ob u ih=>obtain⟨e,q⟩:=x;exact⟨k _ _ (.inl rfl) e,ih q⟩
 | tbl ps=>
   have e:h.get? a=some {cls:=.none,data:=.fields ps}:=x
   show h'.get? a=some {cls:=.none,data:=.fields ps}
   exact k a _ (.inl rfl) e
 | met f y=>
   have e:h.get? a=some (PySem.W.methodObj (.ref f) (.ref y)):=x
   show h'.get? a=some (PySem.W.methodObj (.ref f) (.ref y))
   exact k a _ (.inl rfl) e
 | ext φ=>obtain⟨p,⟨o,e⟩,st⟩:=x;exact⟨st _ _ p λ o q=>k _ _ (.inl rfl) q,⟨o,k _ _ (.inl rfl) e⟩,st⟩
theorem HOk.lt(x:HOk P w H h)(e:H a=some o):a<h.objs.size:=(x a o e).lt
theorem HOk.fresh(x:HOk P w H h)(e:h.objs.size≤a):H a=none:=by
 cases q:H a with
 | none=>rfl
 | some u=>exact absurd (x9 (x.lt q) e) (Nat.lt_irrefl _)
theorem HOk.kept(x:HOk P w H h)(k:∀b u,h.get? b=some u->h'.get? b=some u):HOk P w H h':=λ a o e=>
 (x a o e).stay (λ b u _ q=>k b u q) (λ _ q=>q) λ _ _ q=>q
theorem HOk.laid(x:HOk P w H h)(k:∀b u,h.get? b=some u->h'.get? b=some u)(hp:h.objs.size≤a)(new:aX P w (upd H a o) h' a o):HOk P w (upd H a o) h':=λ b u e=>by
 have hn:=x.fresh hp
 by_cases hb:b=a
 . subst hb;rw[aQ]at e;cases e;exact new
 . rw[aq hb]at e
   exact(x b u e).stay (λ c v _ q=>k c v q) (λ c q=>by rw[aq (aD q hn)];exact q) λ c xs q=>by rw[aq (aD q hn)];exact q
end
noncomputable def Rd(H:Hp)(a:Addr)(u:HO):Prop:=H a=some u∨∃o,H a=some (.frz o u)
theorem Rd.ok{P:Program}{w:World}{H:Hp}{h:Heap}{a:Addr}{u:HO}(r:Rd H a u)(x:HOk P w H h):aX P w H h a u:=by
 rcases r with r | ⟨o,r⟩
 . exact x a u r
 . obtain⟨_,q⟩:=x a _ r
   exact q
noncomputable def Mut:Option HO->Prop
 | some (.lst _)=>True
 | some (.dK _)=>True
 | some (.dT _)=>True
 | some (.set _ _)=>True
 | some (.ins _ _ _)=>True
 | some (.ext _)=>True
 | _=>False
section
variable {P : Program} {w : World} {H : Hp} {h h' : Heap} {x e : Addr} {o' : HO}
theorem HOk.write(ok:HOk P w H h)(mu:Mut (H x))(he:e=x∨H e=some (.own x))(k:∀b u,b≠e->h.get? b=some u->h'.get? b=some u)(heo:∃u,h'.get? e=some u)
 (new:aX P w (upd H x o') h' x o'):HOk P w (upd H x o') h':=λ b u q=>by
 have nown:∀c y,H c=some (.own y)->c≠x:=λ c y r z=>by subst z;rw[r]at mu;exact mu
 have ntup:∀c xs,H c=some (.tup xs)->c≠x:=λ c xs r z=>by subst z;rw[r]at mu;exact mu
 by_cases hb:b=x
 . subst hb;rw[aQ]at q;cases q;exact new
 . rw [aq hb]at q
   by_cases hbe:b=e
   . have q':H b=some (.own x):=by
      rcases he with z | z
      . exact absurd (hbe.trans z) hb
      . rw[hbe];exact z
     rw[q]at q';cases q'
     obtain⟨v,hv⟩:=heo
     exact⟨v,by rw[hbe];exact hv⟩
   . refine(ok b u q).stay (λ c v hc r=>k c v ?_ r) (λ c r=>by rw[aq (nown c b r)];exact r) λ c xs r=>by rw[aq (ntup c xs r)];exact r
     rcases hc with rfl | hc
     . exact hbe
     . rintro rfl
       rcases he with z | z
       . exact nown c b hc z
       . rw[hc]at z;cases z;exact hb rfl
end
structure Un(fs ex:List Addr)(H H':Hp)(h h':Heap):Prop where
 keep:∀b o,h.get? b=some o->H b=none->b∉fs->b∉ex->h'.get? b=some o
 slot:∀b o,h.get? b=some o->H b=none->b∈fs->b∉ex->∃sl,h'.get? b=some {o with slots:=sl}
 free:∀b o,h.get? b=some o->H b=none->b∉ex->H' b=none
 there:∀b o,h.get? b=some o->b∉ex->∃o',h'.get? b=some o'
 tups:∀b xs,H b=some (.tup xs)->H' b=some (.tup xs)
 frzs:∀b o u,H b=some (.frz o u)->H' b=some (.frz o u)
 tbls:∀b ps,H b=some (.tbl ps)->∃more,H' b=some (.tbl (ps++more))
section
variable {fs fs' ex ex' : List Addr} {H H1 H2 : Hp} {h h1 h2 h' : Heap} {a x e : Addr} {o : HO}
theorem Un.any(u:Un fs ex H H1 h h1){b:Addr}{ob:Obj}(q:h.get? b=some ob)(n:H b=none)(hx:b∉ex):∃sl,h1.get? b=some {ob with slots:=sl}:=by
 by_cases hb:b∈fs
 . exact u.slot b ob q n hb hx
 . exact⟨ob.slots,u.keep b ob q n hb hx⟩
theorem Un.kept(k:∀b u,h.get? b=some u->h'.get? b=some u):Un fs ex H H h h':=
 ⟨λ b ob q _ _ _=>k b ob q,λ b ob q _ _ _=>⟨ob.slots,k b ob q⟩,λ _ _ _ n _=>n,λ b ob q _=>⟨ob,k b ob q⟩,λ _ _ q=>q,λ _ _ _ q=>q,λ _ ps q=>⟨#[],by rw[q];simp⟩⟩
theorem Un.refl:Un fs ex H H h h:=Un.kept λ _ _ q=>q
theorem Un.laid(k:∀b u,h.get? b=some u->h'.get? b=some u)(hp:h.objs.size≤a)(hn:H a=none):Un fs ex H (upd H a o) h h' where
 keep:=λ b u q _ _ _=>k b u q
 slot:=λ b u q _ _ _=>⟨u.slots,k b u q⟩
 free:=λ b u q n _=>by rw[aq (w9 (x9 (Heap.lt_size q) hp))];exact n
 there:=λ b u q _=>⟨u,k b u q⟩
 tups:=λ b xs q=>by rw[aq (aD q hn)];exact q
 frzs:=λ b u xs q=>by rw[aq (aD q hn)];exact q
 tbls:=λ b ps q=>⟨#[],by rw[aq (aD q hn),q];simp⟩
theorem Un.write(mu:Mut (H x))(he:e=x∨H e=some (.own x))(k:∀b u,b≠e->h.get? b=some u->h'.get? b=some u)(heo:∃u,h'.get? e=some u):Un fs ex H (upd H x o) h h':=by
 have hx:∀b,H b=none->b≠x:=λ b n z=>by subst z;rw[n]at mu;exact mu
 have hb:∀b,H b=none->b≠e:=λ b n z=>by
  subst z
  rcases he with r | r
  . exact hx b n r
  . rw[n]at r;cases r
 have hm:∀b u,H b=some u->¬Mut (some u)->b≠x:=λ b u q nm z=>by subst z;rw[q]at mu;exact nm mu
 refine⟨λ b u q n _ _=>k b u (hb b n) q,λ b u q n _ _=>⟨u.slots,k b u (hb b n) q⟩,λ b u q n _=>by rw[aq (hx b n)];exact n,λ b u q _=>?_,
  λ b xs q=>by rw[aq (hm b _ q λ z=>z)];exact q,λ b u xs q=>by rw[aq (hm b _ q λ z=>z)];exact q,λ b ps q=>⟨#[],by rw[aq (hm b _ q λ z=>z),q];simp⟩⟩
 by_cases hbe:b=e
 . subst hbe;exact heo
 . exact⟨u,k b u hbe q⟩
end
noncomputable def trk(h:Heap)(H:Hp):List Addr:=(List.range h.objs.size).filter λ a=>(H a).isSome
noncomputable def jR(h:Heap)(H:Hp):Heap:=PySem.W.hideAll h (trk h H)
theorem HR(h:Heap)(H:Hp):(jR h H).objs.size=h.objs.size:=PySem.W.hideAll_size _ _
theorem KN{h:Heap}{H:Hp}{o:Obj}(e:h.get? b=some o)(n:H b=none):(jR h H).get? b=some o:=
 PySem.W.hideAll_get _ e λ hm=>by
  have q:(H b).isSome=true:=(List.mem_filter.mp hm).2
  rw[n]at q;simp at q
theorem Py{h:Heap}{H:Hp}{o:Obj}(e:(jR h H).get? b=some o):h.get? b=some o/\H b=none:=by
 have e':h.get? b=some o:=PySem.W.of_hideAll (trk h H) e
 refine⟨e',?_⟩
 cases q:H b with
 | none=>rfl
 | some x=>
   have hm:b∈trk h H:=List.mem_filter.mpr ⟨List.mem_range.mpr (Heap.lt_size e'),by simp[q]⟩
   have z:(jR h H).get? b=none:=PySem.W.hideAll_none (trk h H) hm
   rw[z]at e;cases e
end L2
namespace L2
open PySem PySem.Spec PyProof.Rows
variable {t' : Nat}
structure Mod(K:PySem.W.Frag)(mg:Str->Option Value)(base:Heap):Prop where
 kin:K.In base
 glob:base.Ns mainGlobals mg
 blt:∃mb,base.Ns builtinsNs mb/\∀x:Str,x≠"__name__"->mb x=bootBuiltins x
 nolimit:base.NoLimit
structure Cx where
 prog:Program
 w:World
 K:PySem.W.Frag
 mg:Str->Option Value
 base:Heap
 A:Around
 N:List Str
 s₀:Shared
 H₀:Hp
 env:Env
 outer:List Env
 stack:List Env
 ex:List Addr
 fn:Str->Bool
 calm:Bool
 pn:List (Addr×Obj)
 xe:Value->Shared->Prop
noncomputable def frs(l:List Env):List Addr:=l.filterMap (·.frame)
noncomputable abbrev Cx.fs(X:Cx):List Addr:=frs X.outer
noncomputable def Vis(sc:Scope)(x:Str):Prop:=sc.names.lookup x=some .local∨sc.names.lookup x=some .cell∨sc.names.lookup x=some .free
noncomputable def Loc(sc:Scope)(x:Str):Prop:=sc.names.lookup x=some .local∨sc.names.lookup x=some .cell
noncomputable def Look(env:Env)(h:Heap)(m:Str->Option Value)(x:Str)(u:Value):Prop:=
 (env.kindOf x=some .local/\m x=some u)∨((env.kindOf x=some .cell∨env.kindOf x=some .free)/\∃c,env.cells.lookup x=some c/\h.IsCell c (some u))
structure Cx.Ok(X:Cx):Prop where
 mod:Mod X.K X.mg X.base
 kind:X.env.scope.kind=.function
 glob:X.env.globals=mainGlobals
 blt:X.env.builtins=builtinsNs
 above:X.s₀.heap.objs.size≤X.env.locals
 inj:∀x y c,X.env.cells.lookup x=some c->X.env.cells.lookup y=some c->x=y
 has:∀x,(X.env.kindOf x=some .cell∨X.env.kindOf x=some .free)->∃c,X.env.cells.lookup x=some c
 cab:∀x c,X.fn x=true->X.env.cells.lookup x=some c->X.s₀.heap.objs.size≤c
 hd:X.calm=true->X.A.handled=none
 frames:X.A.frames=some X.stack
 stk:X.stack=X.outer∨(X.stack=X.env::X.outer/\X.env.frame=some X.env.locals)
 exf:∀b∈X.ex,b≠X.env.locals/\∀x c,X.env.cells.lookup x=some c->c≠b
 bs:∀b o,X.base.get? b=some o->X.s₀.heap.get? b=some o/\X.H₀ b=none
 bsz:X.base.objs.size≤X.s₀.heap.objs.size
 noex:∀b o,X.base.get? b=some o->b∉X.ex
 exfs:∀b∈X.ex,b∉X.fs
 funs:X.s₀.heap.FunFrames X.base X.outer
 frf:∀b∈X.fs,X.H₀ b=none
structure Inv(X:Cx)(pins:List (Addr×Obj))(σ:List (Option V))(H:Hp)(s:Shared):Prop where
 ok:X.Ok
 os:s.os=X.s₀.os
 bare:AllBare s.gens
 base:Un X.fs X.ex X.H₀ H X.s₀.heap s.heap
 loc:∃m,s.heap.Ns X.env.locals m/\∀(i:Nat)(x:Str)(v:V),X.N[i]? =some x->σ[i]? =some (some v)->Vis X.env.scope x->∃u,RelV v u/\Look X.env s.heap m x u
 cell:∀x c,X.env.cells.lookup x=some c->∃v,s.heap.IsCell c v
 free:H X.env.locals=none
 freeC:∀x c,X.env.cells.lookup x=some c->H c=none
 pin:∀p∈X.pn++pins,s.heap.get? p.1=some p.2/\H p.1=none/\p.1≠X.env.locals/\p.1∉X.fs/\∀v,p.2.data≠.cell v
 hok:HOk X.prog X.w H s.heap
 len:σ.length=X.N.length
section
variable {X : Cx} {pins : List (Addr × Obj)} {σ : List (Option V)} {H H' : Hp} {s : Shared} {h' : Heap}
theorem Cx.Ok.nofr(ok:X.Ok){b:Addr}{o:Obj}(e:X.base.get? b=some o):b∉X.fs:=λ hb=>by
 have:=(ok.funs.mem hb).1
 rw[e]at this;cases this
theorem Inv.bs(I:Inv X pins σ H s):∀b o,X.base.get? b=some o->s.heap.get? b=some o/\H b=none:=λ b o e=>
 ⟨I.base.keep b o (I.ok.bs b o e).1 (I.ok.bs b o e).2 (I.ok.nofr e) (I.ok.noex b o e),I.base.free b o (I.ok.bs b o e).1 (I.ok.bs b o e).2 (I.ok.noex b o e)⟩
theorem Inv.bk(I:Inv X pins σ H s):∀b o,X.base.get? b=some o->s.heap.get? b=some o:=λ b o e=>(I.bs b o e).1
theorem Inv.mod(I:Inv X pins σ H s):Mod X.K X.mg X.base:=I.ok.mod
theorem Inv.kIn(I:Inv X pins σ H s):X.K.In s.heap:=I.ok.mod.kin.keeps I.bk
theorem Inv.lt(I:Inv X pins σ H s):X.env.locals<s.heap.objs.size:=let ⟨_,hn,_⟩:=I.loc;hn.lt
theorem Inv.sz(I:Inv X pins σ H s):X.s₀.heap.objs.size≤s.heap.objs.size:=Nat.le_trans I.ok.above (Nat.le_of_lt I.lt)
theorem Inv.nofs(I:Inv X pins σ H s){a:Addr}(h:s.heap.objs.size≤a):a∉X.fs:=λ hb=>by
 obtain⟨_,o,ho,_⟩:=I.ok.funs.mem hb
 exact absurd (x9 (Heap.lt_size ho) (Nat.le_trans I.sz h)) (Nat.lt_irrefl _)
theorem Inv.cne(I:Inv X pins σ H s):∀x c,X.env.cells.lookup x=some c->c≠X.env.locals:=λ x c e z=>by
 obtain⟨v,o,ho,hd⟩:=I.cell x c e
 obtain⟨m,⟨o',es,ep,ho',hd',_⟩,_⟩:=I.loc
 rw[z,ho']at ho;cases ho;rw[hd']at hd;cases hd
theorem Inv.funs(I:Inv X pins σ H s):s.heap.FunFrames X.base X.outer:=by
 have all:∀(l:List Env),(∀b∈frs l,b∈X.fs)->X.s₀.heap.FunFrames X.base l->s.heap.FunFrames X.base l:=by
  intro l
  induction l with
  | nil=>intro _ _;trivial
  | cons env r ih=>
    intro hs hl
    obtain⟨hk,⟨L,o,hf,hn,ho,hd⟩,hr⟩:=hl
    have hL:L∈X.fs:=hs L (by unfold frs;rw[List.filterMap_cons,hf];exact x5)
    obtain⟨sl,e⟩:=I.base.slot L o ho (I.ok.frf L hL) hL λ z=>I.ok.exfs L z hL
    exact⟨hk,⟨L,_,hf,hn,e,hd⟩,ih (λ b hb=>hs b (by unfold frs;rw[List.filterMap_cons,hf];exact x3 _ hb)) hr⟩
 exact all X.outer (λ _ hb=>hb) I.ok.funs
theorem Inv.stack(I:Inv X pins σ H s):s.heap.FunFrames X.base X.stack:=by
 rcases I.ok.stk with e | ⟨e,hf⟩
 . rw[e];exact I.funs
 . rw[e]
   obtain⟨m,hn,_⟩:=I.loc
   refine .cons (by rw[I.ok.kind];decide) hf hn ?_ I.funs
   exact Heap.get?_none_of_le (Nat.le_trans I.ok.bsz I.ok.above)
theorem Inv.stkSub(I:Inv X pins σ H s):∀b∈frs X.stack,b∈X.env.locals::X.fs:=λ b hb=>by
 rcases I.ok.stk with e | ⟨e,hf⟩
 . rw[e]at hb;exact x3 _ hb
 . rw[e]at hb
   unfold frs at hb
   rw[List.filterMap_cons,hf]at hb
   exact hb
theorem Inv.stkFree(I:Inv X pins σ H s):∀b∈frs X.stack,H b=none:=λ b hb=>by
 rcases List.mem_cons.mp (I.stkSub b hb)with e | hb
 . rw[e];exact I.free
 . obtain⟨_,o,ho,_⟩:=I.ok.funs.mem hb
   exact I.base.free b o ho (I.ok.frf b hb) λ z=>I.ok.exfs b z hb
theorem Inv.step{g':Array GenState}{d':Drawn}{ch:List Addr}(I:Inv X pins σ H s)
 (hch:∀b∈ch,(b∈X.ex∨X.s₀.heap.objs.size≤b)/\b≠X.env.locals/\(∀x c,X.env.cells.lookup x=some c->c≠b)/\∀p∈X.pn++pins,p.1≠b)
 (keep:∀b o,b≠X.env.locals->b∉X.fs->b∉ch->s.heap.get? b=some o->H b=none->h'.get? b=some o)
 (slot:∀b o,b≠X.env.locals->b∈X.fs->b∉ch->s.heap.get? b=some o->H b=none->∃sl,h'.get? b=some {o with slots:=sl})(free:∀b o,b∉ch->s.heap.get? b=some o->H b=none->H' b=none)
 (there:∀b o,b∉ch->s.heap.get? b=some o->∃o',h'.get? b=some o')
 (tups:∀b xs,H b=some (.tup xs)->H' b=some (.tup xs))(frzs:∀b o u,H b=some (.frz o u)->H' b=some (.frz o u))(tbls:∀b ps,H b=some (.tbl ps)->∃more,H' b=some (.tbl (ps++more)))
 (ns:∀m,s.heap.Ns X.env.locals m->h'.Ns X.env.locals m)(hok:HOk X.prog X.w H' h')(hg:AllBare g'):
 Inv X pins σ H' {s with heap:=h',gens:=g',drawn:=d',toks:=t'}:=by
 have neL:∀b o,X.s₀.heap.get? b=some o->b≠X.env.locals:=λ b o e=>w9 (x9 (Heap.lt_size e) I.ok.above)
 have neC:∀b o,X.s₀.heap.get? b=some o->b∉X.ex->b∉ch:=λ b o e hx hb=>by
  rcases(hch b hb).1 with z | z
  . exact hx z
  . exact absurd (x9 (Heap.lt_size e) z) (Nat.lt_irrefl _)
 have cellK:∀x c,X.env.cells.lookup x=some c->∀v,s.heap.IsCell c v->h'.IsCell c v:=λ x c e v ⟨o,ho,hd⟩=>by
  have nch:c∉ch:=λ z=>(hch c z).2.2.1 x c e rfl
  by_cases hc:c∈X.fs
  . obtain⟨sl,q⟩:=slot c o (I.cne x c e) hc nch ho (I.freeC x c e)
    exact⟨_,q,hd⟩
  . exact⟨o,keep c o (I.cne x c e) hc nch ho (I.freeC x c e),hd⟩
 refine⟨I.ok,I.os,hg,⟨λ b o e n hb hx=>?_,λ b o e n hb hx=>?_,λ b o e n hx=>?_,λ b o e hx=>?_,λ b xs e=>tups b xs (I.base.tups b xs e),λ b o xs e=>frzs b o xs (I.base.frzs b o xs e),λ b ps e=>?_⟩,?_,λ x c e=>?_,?_,λ x c e=>?_,λ p hp=>?_,hok,I.len⟩
 . exact keep b o (neL b o e) hb (neC b o e hx) (I.base.keep b o e n hb hx) (I.base.free b o e n hx)
 . obtain⟨sl,e1⟩:=I.base.slot b o e n hb hx
   obtain⟨sl',e2⟩:=slot b _ (neL b o e) hb (neC b o e hx) e1 (I.base.free b o e n hx)
   exact⟨sl',e2⟩
 . obtain⟨o',e1⟩:=I.base.there b o e hx
   exact free b o' (neC b o e hx) e1 (I.base.free b o e n hx)
 . obtain⟨o',e1⟩:=I.base.there b o e hx
   exact there b o' (neC b o e hx) e1
 . obtain⟨m1,e1⟩:=I.base.tbls b ps e
   obtain⟨m2,e2⟩:=tbls b _ e1
   exact⟨m1++m2,by rw[e2,Array.append_assoc]⟩
 . obtain⟨m,hn,hl⟩:=I.loc
   refine⟨m,ns m hn,λ i x v e1 e2 e3=>?_⟩
   obtain⟨u,r,l⟩:=hl i x v e1 e2 e3
   refine⟨u,r,?_⟩
   rcases l with l | ⟨k,c,e,z⟩
   . exact .inl l
   . exact .inr ⟨k,c,e,cellK x c e _ z⟩
 . obtain⟨v,z⟩:=I.cell x c e
   exact⟨v,cellK x c e v z⟩
 . obtain⟨m,⟨o,_,_,ho,_⟩,_⟩:=I.loc
   exact free _ o (λ z=>(hch _ z).2.1 rfl) ho I.free
 . obtain⟨v,o,ho,hd⟩:=I.cell x c e
   exact free c o (λ z=>(hch c z).2.2.1 x c e rfl) ho (I.freeC x c e)
 . obtain⟨e,n,ne,nf,d⟩:=I.pin p hp
   have nch:p.1∉ch:=λ z=>(hch p.1 z).2.2.2 p hp rfl
   exact⟨keep p.1 p.2 ne nf nch e n,free p.1 p.2 nch e n,ne,nf,d⟩
theorem Inv.un(I:Inv X pins σ H s)(u:Un X.fs [] H H' s.heap h')(hok:HOk X.prog X.w H' h'):Inv X pins σ H' {s with heap:=h',toks:=t'}:=by
 obtain⟨m,⟨o,es,ep,ho,r⟩,_⟩:=id I.loc
 obtain⟨sl,hL⟩:=u.any ho I.free (by simp)
 exact I.step (g':=s.gens) (d':=s.drawn) (ch:=[]) (λ _ z=>nomatch z) (λ b o _ hb _ e n=>u.keep b o e n hb (by simp)) (λ b o _ hb _ e n=>u.slot b o e n hb (by simp)) (λ b o _ e n=>u.free b o e n (by simp)) (λ b o _ e=>u.there b o e (by simp)) u.tups u.frzs u.tbls (λ m' hm=>by
  obtain⟨o',es',ep',ho',r'⟩:=hm
  rw[ho]at ho';cases ho'
  exact⟨_,es',ep',hL,r'⟩) hok I.bare
theorem Inv.call{g':Array GenState}{d':Drawn}{ch:List Addr}(I:Inv X pins σ H s)(u:Un (frs X.stack) ch H H' s.heap h')(hok:HOk X.prog X.w H' h')(hg:AllBare g')
 (hch:∀b∈ch,(b∈X.ex∨X.s₀.heap.objs.size≤b)/\b≠X.env.locals/\(∀x c,X.env.cells.lookup x=some c->c≠b)/\∀p∈X.pn++pins,p.1≠b):
 Inv X pins σ H' {s with heap:=h',gens:=g',drawn:=d',toks:=t'}:=by
 obtain⟨m,⟨o,es,ep,ho,r⟩,_⟩:=id I.loc
 obtain⟨sl,hL⟩:=u.any ho I.free λ z=>(hch _ z).2.1 rfl
 exact I.step (ch:=ch) hch (λ b o hL hb hc e n=>u.keep b o e n (λ z=>(List.mem_cons.mp (I.stkSub b z)).elim hL hb) hc) (λ b o _ _ hc e n=>u.any e n hc) (λ b o hc e n=>u.free b o e n hc) (λ b o hc e=>u.there b o e hc) u.tups u.frzs u.tbls (λ m' hm=>by
  obtain⟨o',es',ep',ho',r'⟩:=hm
  rw[ho]at ho';cases ho'
  exact⟨_,es',ep',hL,r'⟩) hok hg
theorem Inv.turned{it:Addr}(I:Inv X pins σ H s)(k:∀b o,b≠it->s.heap.get? b=some o->h'.get? b=some o)(hn:H it=none)(hL:it≠X.env.locals)
 (h1:it∈X.ex∨X.s₀.heap.objs.size≤it)(h2:∀x c,X.env.cells.lookup x=some c->c≠it)(h3:∀p∈X.pn++pins,p.1≠it):Inv X pins σ H {s with heap:=h',toks:=t'}:=by
 have nit:∀b u,H b=some u->b≠it:=λ b u e z=>by rw[z,hn]at e;cases e
 refine I.step (g':=s.gens) (d':=s.drawn) (ch:=[it]) (λ b hb=>?_) (λ b o _ _ hc e _=>k b o (λ z=>hc (by simp[z])) e) (λ b o _ _ hc e _=>⟨o.slots,k b o (λ z=>hc (by simp[z])) e⟩) (λ _ _ _ _ n=>n)
  (λ b o hc e=>⟨o,k b o (λ z=>hc (by simp[z])) e⟩) (λ _ _ e=>e) (λ _ _ _ e=>e) (λ b ps e=>⟨#[],by rw[e];simp⟩) (λ m hm=>?_) (λ b u e=>?_) I.bare
 . have e:b=it:=by simpa using hb
   subst e
   exact⟨h1,hL,h2,h3⟩
 . obtain⟨o,es,ep,ho,r⟩:=hm
   exact⟨o,es,ep,k _ o (Ne.symm hL) ho,r⟩
 . refine(I.hok b u e).stay (λ c v hc q=>k c v ?_ q) (λ _ q=>q) λ _ _ q=>q
   rcases hc with z | z
   . rw[z];exact nit b u e
   . exact nit c _ z
theorem Inv.tok(I:Inv X pins σ H s)(t:Nat):Inv X pins σ H {s with toks:=t}:=I.un (h':=s.heap) (t':=t) Un.refl I.hok
theorem Inv.kept(I:Inv X pins σ H s)(k:∀b u,s.heap.get? b=some u->h'.get? b=some u):Inv X pins σ H {s with heap:=h',toks:=t'}:=I.un (Un.kept k) (I.hok.kept k)
theorem Inv.laid{a:Addr}{o:HO}(I:Inv X pins σ H s)(k:∀b u,s.heap.get? b=some u->h'.get? b=some u)(hp:s.heap.objs.size≤a)(new:aX X.prog X.w (upd H a o) h' a o):
 Inv X pins σ (upd H a o) {s with heap:=h',toks:=t'}:=I.un (Un.laid k hp (I.hok.fresh hp)) (I.hok.laid k hp new)
theorem Inv.write{x e:Addr}{o:HO}(I:Inv X pins σ H s)(mu:Mut (H x))(he:e=x∨H e=some (.own x))(k:∀b u,b≠e->s.heap.get? b=some u->h'.get? b=some u)(heo:∃u,h'.get? e=some u)
 (new:aX X.prog X.w (upd H x o) h' x o):Inv X pins σ (upd H x o) {s with heap:=h',toks:=t'}:=I.un (Un.write mu he k heo) (I.hok.write mu he k heo new)
theorem Inv.pins_of{pins':List (Addr×Obj)}(I:Inv X pins σ H s)(h:∀p∈pins',s.heap.get? p.1=some p.2/\H p.1=none/\p.1≠X.env.locals/\p.1∉X.fs/\∀v,p.2.data≠.cell v):Inv X pins' σ H s:=
 ⟨I.ok,I.os,I.bare,I.base,I.loc,I.cell,I.free,I.freeC,λ p hp=>(List.mem_append.mp hp).elim (λ z=>I.pin p (List.mem_append_left _ z)) (h p),I.hok,I.len⟩
theorem wQ{N:List Str}(hN:N.Nodup){i j:Nat}{x:Str}(a:N[i]? =some x)(b:N[j]? =some x):i=j:=by
 obtain⟨h1,e1⟩:=z0.mp a
 obtain⟨h2,e2⟩:=z0.mp b
 exact(List.getElem_inj hN).mp (e1.trans e2.symm)
theorem ur{M:Model}{A:Around}{E:Value->Shared->Prop}{i:Nat}{x:Str}{v:V}{u:Value}{Q:Unit->Shared->Prop}(I:Inv X pins σ H s)(hN:X.N.Nodup)(hi:X.N[i]? =some x)(hx:Loc X.env.scope x)(r:RelV v u)
 (h:∀s',Inv X pins (σ.set i (some v)) H s'->(∃a,Heap.SameBut a s.heap s'.heap/\(a=X.env.locals∨X.env.cells.lookup x=some a))->Q () s')(hf:X.fn x=true∨X.env.scope.names.lookup x=some .local:=by first | exact .inl rfl | exact .inr rfl | assumption):wpAny M A (storeName X.env x u) Q E s:=by
 obtain⟨m,hn,hl⟩:=id I.loc
 have hcls:(X.env.scope.kind==.class||(X.env.scope.kind==.module&&X.env.locals !=X.env.globals))=false:=by rw[I.ok.kind];rfl
 have hiσ:i<σ.length:=by rw[I.len];exact(z0.mp hi).1
 have cne:=I.cne
 have tracked:∀{a:Addr}{h':Heap},(∃o,s.heap.get? a=some o/\H a=none)->Heap.SameBut a s.heap h'->HOk X.prog X.w H h':=λ{a h'} ha hs b ob e=>by
  obtain⟨_,_,hfree⟩:=ha
  refine(I.hok b ob e).stay (λ c w' hc q=>(hs.2 c ?_).trans q) (λ _ q=>q) λ _ _ q=>q
  rintro rfl
  rcases hc with rfl | hc
  . rw[hfree]at e;cases e
  . rw[hfree]at hc;cases hc
 rcases hx with hk | hk
 . refine wpAny_storeName_local hk hn (λ h' hn' hs=>?_) hcls
   obtain⟨oL,_,_,hoL,_⟩:=id hn
   refine h _ ⟨I.ok,I.os,I.bare,⟨λ b o e n hb hx=>?_,λ b o e n hb hx=>?_,I.base.free,λ b o e hx=>?_,I.base.tups,I.base.frzs,I.base.tbls⟩,⟨_,hn',λ j y v' e1 e2 e3=>?_⟩,λ y c e=>?_,I.free,I.freeC,λ p hp=>?_,tracked ⟨oL,hoL,I.free⟩ hs,by simpa using I.len⟩ ⟨_,hs,.inl rfl⟩
   . exact(hs.2 b (w9 (x9 (Heap.lt_size e) I.ok.above))).trans (I.base.keep b o e n hb hx)
   . obtain⟨sl,e1⟩:=I.base.slot b o e n hb hx
     exact⟨sl,(hs.2 b (w9 (x9 (Heap.lt_size e) I.ok.above))).trans e1⟩
   . obtain⟨o',e1⟩:=I.base.there b o e hx
     exact⟨o',(hs.2 b (w9 (x9 (Heap.lt_size e) I.ok.above))).trans e1⟩
   . by_cases hj:j=i
     . subst hj
       rw[hi]at e1;cases e1
       rw[List.getElem?_set_self hiσ]at e2
       cases e2
       exact⟨u,r,.inl ⟨hk,by simp⟩⟩
     . rw[List.getElem?_set_ne (Ne.symm hj)]at e2
       obtain⟨u',r',q⟩:=hl j y v' e1 e2 e3
       refine⟨u',r',?_⟩
       rcases q with⟨k,e⟩ | ⟨k,c,e,z⟩
       . refine .inl ⟨k,?_⟩
         have:y≠x:=λ e=>hj (wQ hN e1 (e▸hi))
         simp[this,e]
       . exact .inr ⟨k,c,e,z.sameBut hs (cne y c e)⟩
   . obtain⟨w',z⟩:=I.cell y c e
     exact⟨w',z.sameBut hs (cne y c e)⟩
   . obtain⟨e,n,ne,nf,d⟩:=I.pin p hp
     exact⟨(hs.2 p.1 ne).trans e,n,ne,nf,d⟩
 . have hfn:X.fn x=true:=by
    rcases hf with z | z
    . exact z
    . rw[z]at hk;cases hk
   obtain⟨c,hc⟩:=I.ok.has x (.inl hk)
   obtain⟨w',z⟩:=I.cell x c hc
   refine wpAny_storeName_cell I.ok.kind hk hc z (λ h' hc' hs=>?_)
   obtain⟨oc,hoc,hocd⟩:=id z
   refine h {s with heap:=h'} ⟨I.ok,I.os,I.bare,⟨λ b o e n hb hx=>?_,λ b o e n hb hx=>?_,I.base.free,λ b o e hx=>?_,I.base.tups,I.base.frzs,I.base.tbls⟩,⟨m,hn.sameBut hs (Ne.symm (cne x c hc)),λ j y v' e1 e2 e3=>?_⟩,λ y c' e=>?_,I.free,I.freeC,λ p hp=>?_,tracked ⟨oc,hoc,I.freeC x c hc⟩ hs,by simpa using I.len⟩ ⟨c,hs,.inr hc⟩
   . exact(hs.2 b (w9 (x9 (Heap.lt_size e) (I.ok.cab x c hfn hc)))).trans (I.base.keep b o e n hb hx)
   . obtain⟨sl,e1⟩:=I.base.slot b o e n hb hx
     exact⟨sl,(hs.2 b (w9 (x9 (Heap.lt_size e) (I.ok.cab x c hfn hc)))).trans e1⟩
   . obtain⟨o',e1⟩:=I.base.there b o e hx
     exact⟨o',(hs.2 b (w9 (x9 (Heap.lt_size e) (I.ok.cab x c hfn hc)))).trans e1⟩
   . by_cases hj:j=i
     . subst hj
       rw[hi]at e1;cases e1
       rw[List.getElem?_set_self hiσ]at e2
       cases e2
       exact⟨u,r,.inr ⟨.inl hk,c,hc,hc'⟩⟩
     . rw[List.getElem?_set_ne (Ne.symm hj)]at e2
       obtain⟨u',r',q⟩:=hl j y v' e1 e2 e3
       refine⟨u',r',?_⟩
       rcases q with q | ⟨k,c',e,z'⟩
       . exact .inl q
       . refine .inr ⟨k,c',e,z'.sameBut hs ?_⟩
         rintro rfl
         exact hj (wQ hN e1 (I.ok.inj _ _ _ e hc▸hi))
   . by_cases hcc:c'=c
     . subst hcc;exact⟨_,hc'⟩
     . obtain⟨w2,z2⟩:=I.cell y c' e
       exact⟨w2,z2.sameBut hs hcc⟩
   . obtain⟨e,n,ne,nf,d⟩:=I.pin p hp
     refine⟨(hs.2 p.1 ?_).trans e,n,ne,nf,d⟩
     intro q
     rw[q,hoc]at e
     have q':oc=p.2:=Option.some.inj e
     exact d w' (by rw[←q'];exact hocd)
theorem zc{M:Model}{A:Around}{E:Value->Shared->Prop}{i:Nat}{x:Str}{v:V}{u:Value}{Q:Unit->Shared->Prop}(I:Inv X pins σ H s)(hN:X.N.Nodup)(hi:X.N[i]? =some x)(hx:Loc X.env.scope x)(r:RelV v u)
 (h:∀s',Inv X pins (σ.set i (some v)) H s'->Q () s')(hf:X.fn x=true∨X.env.scope.names.lookup x=some .local:=by first | exact .inl rfl | exact .inr rfl | assumption):wpAny M A (storeName X.env x u) Q E s:=
 ur I hN hi hx r (λ s' I' _=>h s' I') hf
theorem Inv.call'{s':Shared}{ch:List Addr}(I:Inv X pins σ H s)(ho:s'.os=s.os)(u:Un (frs X.stack) ch H H' s.heap s'.heap)(hok:HOk X.prog X.w H' s'.heap)(hg:AllBare s'.gens)
 (hch:∀b∈ch,(b∈X.ex∨X.s₀.heap.objs.size≤b)/\b≠X.env.locals/\(∀x c,X.env.cells.lookup x=some c->c≠b)/\∀p∈X.pn++pins,p.1≠b):Inv X pins σ H' s':=by
 obtain⟨h',g',d',t',o'⟩:=s'
 have e:o'=s.os:=ho
 subst e
 exact I.call (g':=g') (t':=t') (d':=d') u hok hg hch
end
noncomputable abbrev XK:=Value->Option Addr->Hp->Prop
noncomputable abbrev St:=List (Option V)
noncomputable abbrev VK:=V->Hp->Prop
noncomputable abbrev TE:=St->Hp->VK->Prop
noncomputable abbrev TT:=St->Hp->(Bool->Hp->Prop)->Prop
noncomputable abbrev TA:=St->Hp->(List V->Hp->Prop)->Prop
structure Ends where
 nx:St->Hp->Prop
 rt:VK
 bk:St->Hp->Prop:=λ _ _=>False
 ct:St->Hp->Prop:=λ _ _=>False
noncomputable abbrev TS:=Ends->St->Hp->Prop
noncomputable def EP(X:Cx)(pins:List (Addr×Obj))(σ:St)(Q:VK)(u:Value)(s':Shared):Prop:=∃v H',Inv X pins σ H' s'/\RelV v u/\Q v H'
noncomputable def TP(X:Cx)(pins:List (Addr×Obj))(σ:St)(Q:Bool->Hp->Prop)(b:Bool)(s':Shared):Prop:=∃H',Inv X pins σ H' s'/\Q b H'
noncomputable def AP(X:Cx)(pins:List (Addr×Obj))(σ:St)(Q:List V->Hp->Prop)(us:List Value)(s':Shared):Prop:=∃vs H',Inv X pins σ H' s'/\Vals vs us/\Q vs H'
noncomputable def SP(X:Cx)(pins:List (Addr×Obj))(D:Ends)(f:Flow)(s':Shared):Prop:=
 match f with
 | .next=>∃σ' H',Inv X pins σ' H' s'/\D.nx σ' H'
 | .brk=>∃σ' H',Inv X pins σ' H' s'/\D.bk σ' H'
 | .cont=>∃σ' H',Inv X pins σ' H' s'/\D.ct σ' H'
 | .ret u=>∃v σ' H',Inv X pins σ' H' s'/\RelV v u/\D.rt v H'
noncomputable def PE(X:Cx)(e:Expr)(t:TE):Prop:=
 ∀(pins:List (Addr×Obj))(s:Shared)(σ:St)(H:Hp)(Q:VK),Inv X pins σ H s->t σ H Q->wpAny (model X.prog X.w) X.A (eval e X.env) (EP X pins σ Q) X.xe s
noncomputable def PA(X:Cx)(es:List Expr)(t:TA):Prop:=
 ∀(pos:Pos)(pins:List (Addr×Obj))(s:Shared)(σ:St)(H:Hp)(Q:List V->Hp->Prop),Inv X pins σ H s->t σ H Q->wpAny (model X.prog X.w) X.A (spliced (backTo pos (starEach es X.env))) (AP X pins σ Q) X.xe s
noncomputable def PS(X:Cx)(st:Stmt)(t:TS):Prop:=
 ∀(pins:List (Addr×Obj))(s:Shared)(σ:St)(H:Hp)(D:Ends),Inv X pins σ H s->t D σ H->wpAny (model X.prog X.w) X.A (exec st X.env) (SP X pins D) X.xe s
noncomputable def PSs(X:Cx)(st:List Stmt)(t:TS):Prop:=
 ∀(pins:List (Addr×Obj))(s:Shared)(σ:St)(H:Hp)(D:Ends),Inv X pins σ H s->t D σ H->wpAny (model X.prog X.w) X.A (execs st X.env) (SP X pins D) X.xe s
theorem thn{α:Type}{t:Sem α}{Q Q':α->Shared->Prop}{M:Model}{A:Around}{E:Value->Shared->Prop}{s:Shared}(h:wpAny M A t Q E s)(hQ:∀a s,Q a s->Q' a s):wpAny M A t Q' E s:=wpAny_mono h hQ λ _ _ x=>x
end L2
namespace L2
open PySem PySem.Spec PyProof.Rows
variable {x : Str} {u : Value}
section
variable {X : Cx}
noncomputable def Vj(i:Nat):TE:=λ σ H Q=>∃v,σ[i]? =some (some v)/\Q v H
noncomputable def tC(v:V):TE:=λ _ H Q=>Q v H
theorem QH{i:Nat}{pos:Pos}(hN:X.N[i]? =some x)(hv:Vis X.env.scope x)(hd:(x==("__debug__":Str))=false:=by decide)(hcd:(x==("__classdict__":Str))=false:=by decide):PE X (.Name x pos) (Vj i):=by
 intro pins s σ H Q I h
 obtain⟨v,e,h⟩:=h
 obtain⟨m,hn,hl⟩:=I.loc
 obtain⟨u,r,l⟩:=hl i x v hN e hv
 have fin:EP X pins σ Q u s:=⟨v,H,I,r,h⟩
 rcases l with⟨hk,hm⟩ | ⟨hk,c,hc,hcell⟩
 . exact wpAny_Name (wpAny_loadName_local I.ok.kind hk hn hm fin) hd
 . rcases hk with hk | hk
   . exact wpAny_Name (wpAny_loadName_cell I.ok.kind hk hc hcell fin) hd
   . exact wpAny_Name (wpAny_loadName_free I.ok.kind hk hc hcell fin hcd) hd
theorem R4{i j pos}:PE X (.Constant (.int i) j pos) (tC (.int i)):=λ _ _ _ H _ I h=>wpAny_Constant_int ⟨.int i,H,I.tok _,⟨_,rfl⟩,h⟩
theorem Uy{b j pos}:PE X (.Constant (.bool b) j pos) (tC (.bl b)):=λ _ _ _ H _ I h=>Constant_bool ⟨.bl b,H,I,rfl,h⟩
theorem QM{j pos}:PE X (.Constant .none j pos) (tC .non):=λ _ _ _ H _ I h=>Constant_none ⟨.non,H,I,rfl,h⟩
noncomputable def Gl(X:Cx)(x:Str):Prop:=X.env.kindOf x=some .globalImplicit
theorem DX{E:Value->Shared->Prop}{pins:List (Addr×Obj)}{s:Shared}{σ:St}{H:Hp}{pos:Pos}{Q:Value->Shared->Prop}(I:Inv X pins σ H s)(hg:Gl X x)(hm:X.mg x=some u)(h:Q u s)
 (hd:(x==("__debug__":Str))=false:=by decide):wpAny (model X.prog X.w) X.A (eval (.Name x pos) X.env) Q E s:=
 Calls.Name_function_global I.ok.kind hg (Calls.loadGlobal_global (by rw[I.ok.glob];exact I.mod.glob.keeps I.bk) hm h) hd
theorem bY{E:Value->Shared->Prop}{pins:List (Addr×Obj)}{s:Shared}{σ:St}{H:Hp}{pos:Pos}{Q:Value->Shared->Prop}(I:Inv X pins σ H s)(hg:Gl X x)(hm:X.mg x=none)(hv:bootBuiltins x=some u)(h:Q u s)
 (hn:x≠"__name__":=by decide)(hd:(x==("__debug__":Str))=false:=by decide):wpAny (model X.prog X.w) X.A (eval (.Name x pos) X.env) Q E s:=by
 obtain⟨mb,h1,h2⟩:=I.mod.blt
 exact Calls.Name_function_global I.ok.kind hg (Calls.loadGlobal_builtin (by rw[I.ok.glob];exact I.mod.glob.keeps I.bk) hm (by rw[I.ok.blt];exact h1.keeps I.bk) ((h2 x hn).trans hv) h) hd
theorem Nq{v:V}{pos:Pos}(hg:Gl X x)(hm:X.mg x=some u)(r:RelV v u)(hd:(x==("__debug__":Str))=false:=by decide):PE X (.Name x pos) (tC v):=
 λ _ _ _ H _ I h=>DX I hg hm ⟨v,H,I,r,h⟩ hd
theorem Nx{v:V}{pos:Pos}(hg:Gl X x)(hm:X.mg x=none)(hv:bootBuiltins x=some u)(r:RelV v u)(hn:x≠"__name__":=by decide)(hd:(x==("__debug__":Str))=false:=by decide):PE X (.Name x pos) (tC v):=
 λ _ _ _ H _ I h=>bY I hg hm hv ⟨v,H,I,r,h⟩ hn hd
variable {a b : Expr} {ta tb : TE} {pos : Pos}
variable {tA tB' : TT} {rest : List Expr}
end
end L2
namespace L2
open PySem PySem.Spec PyProof.Rows
variable {K : PySem.W.Frag} {tg : Expr}
noncomputable def SqL(K:PySem.W.Frag)(H:Hp)(a:Addr)(xs:List V):Prop:=
 Rd H a (.lst xs)∨
  ∃(o:Obj) (its:Array Value) (n:Nat),K.lookup a=some o/\o.cls=.type "list"/\o.dict=none/\o.data=.seq its n/\its.size≤sizeLine/\Vals xs its.toList
noncomputable def SqT(K:PySem.W.Frag)(H:Hp)(a:Addr)(xs:List V):Prop:=
 Rd H a (.tup xs)∨
  ∃(o:Obj) (its:Array Value) (n:Nat),K.lookup a=some o/\o.cls=.type "tuple"/\o.data=.seq its n/\its.size≤sizeLine/\Vals xs its.toList
noncomputable def U7:Value->Option V
 | .none=>some .non
 | .bool b=>some (.bl b)
 | .int i _=>some (.int i)
 | .str x _=>some (.str x)
 | .bytes b _=>some (.byt b)
 | .float b _=>some (.flt b)
 | .ref a=>some (.ref a)
 | .type n=>some (.ty n)
 | _=>none
theorem RelV.abs{x:V}{u:Value}(r:RelV x u):U7 u=some x:=by
 cases x with
 | non=>cases r;rfl
 | bl _=>cases r;rfl
 | int _=>obtain⟨t,rfl⟩:=r;rfl
 | str _=>obtain⟨t,rfl⟩:=r;rfl
 | byt _=>obtain⟨t,rfl⟩:=r;rfl
 | flt _=>obtain⟨t,rfl⟩:=r;rfl
 | ref _=>cases r;rfl
 | ty _=>cases r;rfl
theorem RelV.inj{x y:V}{u:Value}(r:RelV x u)(q:RelV y u):x=y:=Option.some.inj (r.abs.symm.trans q.abs)
theorem Vals.inj:∀{xs ys:List V}{us:List Value},Vals xs us->Vals ys us->xs=ys
 | _,_,_,.nil,.nil=>rfl
 | _,_,_,.cons r t,.cons r' t'=>by rw[r.inj r',Vals.inj t t']
section
variable {X : Cx} {pins : List (Addr × Obj)} {σ : St} {H : Hp} {s : Shared} {a : Addr} {xs ys : List V}
theorem SqL.of(h:H a=some (.lst xs)):SqL K H a xs:=.inl (.inl h)
theorem Inv.list(I:Inv X pins σ H s)(h:SqL X.K H a xs):∃its:List Value,Vals xs its/\PlainL s.heap a its.toArray/\xs.length≤sizeLine:=by
 rcases h with h | ⟨o,its,n,hk,hc,hd,hs,hz,r⟩
 . obtain⟨z,its,n,r,e⟩:=h.ok I.hok
   exact⟨its,r,⟨_,n,e,rfl,rfl,rfl⟩,z⟩
 . refine⟨its.toList,r,⟨o,n,I.kIn a o hk,hc,hd,by simpa using hs⟩,?_⟩
   have e:=r.length
   simp only[Array.length_toList]at e
   omega
theorem Inv.tuple(I:Inv X pins σ H s)(h:SqT X.K H a xs):∃its:List Value,Vals xs its/\IsTup s.heap a its.toArray/\xs.length≤sizeLine:=by
 rcases h with h | ⟨o,its,n,hk,hc,hs,hz,r⟩
 . obtain⟨z,its,r,p⟩:=h.ok I.hok
   exact⟨its,r,p,z⟩
 . refine⟨its.toList,r,⟨o,I.kIn a o hk,hc,n,by simpa using hs⟩,?_⟩
   have e:=r.length
   simp only[Array.length_toList]at e
   omega
theorem Inv.list_inj(I:Inv X pins σ H s)(h:SqL X.K H a xs)(h':SqL X.K H a ys):xs=ys:=by
 obtain⟨its,r,⟨o,n,e,_,_,d⟩,_⟩:=I.list h
 obtain⟨its',r',⟨o',n',e',_,_,d'⟩,_⟩:=I.list h'
 rw[e]at e';cases e'
 rw[d]at d'
 injection d' with d1 _
 have:its=its':=by simpa using congrArg Array.toList d1
 subst this
 exact r.inj r'
theorem Inv.tuple_inj(I:Inv X pins σ H s)(h:SqT X.K H a xs)(h':SqT X.K H a ys):xs=ys:=by
 obtain⟨its,r,⟨o,e,_,n,d⟩,_⟩:=I.tuple h
 obtain⟨its',r',⟨o',e',_,n',d'⟩,_⟩:=I.tuple h'
 rw[e]at e';cases e'
 rw[d]at d'
 injection d' with d1 _
 have:its=its':=by simpa using congrArg Array.toList d1
 subst this
 exact r.inj r'
end
noncomputable abbrev Cx.wish(X:Cx)(E:Value->Shared->Prop):Cx:={X with xe:=E}
noncomputable abbrev Cx.nox(X:Cx):Cx:=X.wish λ _ _=>False
theorem Cx.Ok.wish{X:Cx}(ok:X.Ok)(E:Value->Shared->Prop):(X.wish E).Ok:=
 ⟨ok.mod,ok.kind,ok.glob,ok.blt,ok.above,ok.inj,ok.has,ok.cab,ok.hd,ok.frames,ok.stk,ok.exf,ok.bs,ok.bsz,ok.noex,ok.exfs,ok.funs,ok.frf⟩
theorem Cx.Ok.unwish{X:Cx}{E:Value->Shared->Prop}(ok:(X.wish E).Ok):X.Ok:=
 ⟨ok.mod,ok.kind,ok.glob,ok.blt,ok.above,ok.inj,ok.has,ok.cab,ok.hd,ok.frames,ok.stk,ok.exf,ok.bs,ok.bsz,ok.noex,ok.exfs,ok.funs,ok.frf⟩
section
variable {X : Cx} {pins : List (Addr × Obj)} {σ : St} {H : Hp} {s : Shared} {E : Value -> Shared -> Prop}
theorem Inv.wish(I:Inv X pins σ H s)(E:Value->Shared->Prop):Inv (X.wish E) pins σ H s:=⟨I.ok.wish E,I.os,I.bare,I.base,I.loc,I.cell,I.free,I.freeC,I.pin,I.hok,I.len⟩
theorem Inv.unwish(I:Inv (X.wish E) pins σ H s):Inv X pins σ H s:=⟨I.ok.unwish,I.os,I.bare,I.base,I.loc,I.cell,I.free,I.freeC,I.pin,I.hok,I.len⟩
theorem SP.unwish{D:Ends}{f:Flow}{s':Shared}(h:SP (X.wish E) pins D f s'):SP X pins D f s':=by
 cases f with
 | next=>obtain⟨σ',H',I,q⟩:=h;exact⟨σ',H',I.unwish,q⟩
 | brk=>obtain⟨σ',H',I,q⟩:=h;exact⟨σ',H',I.unwish,q⟩
 | cont=>obtain⟨σ',H',I,q⟩:=h;exact⟨σ',H',I.unwish,q⟩
 | ret u=>obtain⟨v,σ',H',I,r,q⟩:=h;exact⟨v,σ',H',I.unwish,r,q⟩
theorem PSs.nox{st:List Stmt}{t:TS}(h:PSs X.nox st t):PSs X st t:=λ pins s σ H D I hw=>
 wpAny_mono (h pins s σ H D (I.wish _) hw) (λ _ _ q=>q.unwish) λ _ _ z=>False.elim z
end
section
variable {X : Cx} {st : Stmt} {rest : List Stmt} {t u : TS} {e : Expr} {te : TE} {pos : Pos}
theorem Inv.quiet{pins:List (Addr×Obj)}{σ:St}{H:Hp}{s:Shared}(I:Inv X pins σ H s):interactive X.env=false:=by simp[interactive,I.ok.kind]
end
noncomputable abbrev TG:=V->St->Hp->(St->Hp->Prop)->Prop
noncomputable def PG(X:Cx)(target:Expr)(t:TG):Prop:=
 ∀ (pins:List (Addr×Obj))(s:Shared)(σ:St)(H:Hp)(v:V)(u:Value)(Q:St->Hp->Prop),Inv X pins σ H s->RelV v u->t v σ H Q->
   wpAny (model X.prog X.w) X.A (assign target X.env u) (λ _ s'=>∃σ' H',Inv X pins σ' H' s'/\Q σ' H') X.xe s
noncomputable abbrev U5:=V->V->V->Hp->(Hp->Prop)->Prop
noncomputable def UG(X:Cx)(t:U5):Prop:=
 ∀ (pins:List (Addr×Obj))(s:Shared)(σ:St)(H:Hp)(o i v:V)(ov iv u:Value)(Q:Hp->Prop),Inv X pins σ H s->RelV o ov->RelV i iv->RelV v u->t o i v H Q->
   wpAny (model X.prog X.w) X.A (setItem ov iv u) (λ _ s'=>∃H',Inv X pins σ H' s'/\Q H') X.xe s
structure It where
 go:Nat->Hp->Prop
 yld:Nat->Hp->V->Hp->Prop
 stop:Nat->Hp->Prop
noncomputable def eG(X:Cx)(pins:List (Addr×Obj))(H:Hp)(b:Addr):Prop:=
 H b=none/\b≠X.env.locals/\b∉X.fs/\(b∈X.ex∨X.s₀.heap.objs.size≤b)/\(∀x c,X.env.cells.lookup x=some c->c≠b)/\∀p∈X.pn++pins,p.1≠b
theorem Inv.fpOk{X:Cx}{pins:List (Addr×Obj)}{σ:St}{H H':Hp}{s:Shared}{b:Addr}(I:Inv X pins σ H s)(hb:s.heap.objs.size≤b)(hn:H' b=none):eG X pins H' b:=by
 refine⟨hn,Nat.ne_of_gt (x9 I.lt hb),I.nofs hb,.inr (Nat.le_trans I.sz hb),λ x c e z=>?_,λ p hp z=>?_⟩
 . obtain⟨v,q⟩:=I.cell x c e
   exact absurd (x9 q.lt (by rw[z];exact hb)) (Nat.lt_irrefl _)
 . exact absurd (x9 (Heap.lt_size (I.pin p hp).1) (by rw[z];exact hb)) (Nat.lt_irrefl _)
structure Turn(P:Program)(w:World)(K:PySem.W.Frag)(tg:Expr)(J:It)(fp:List Addr)(it:Addr)(tn:Nat->Heap->Prop):Prop where
 mem:it∈fp
 obj:∀i h,tn i h->∀b∈fp,∃o,h.get? b=some o/\∀v,o.data≠.cell v
 keep:∀i h h',tn i h->(∀b∈fp,∀o,h.get? b=some o->h'.get? b=some o)->tn i h'
 item:∀(X:Cx),X.prog=P->X.w=w->X.K=K->X.calm=true->∀(i:Nat)(pins:List (Addr×Obj))(s:Shared)(σ:St)(H:Hp)(E:Value->Shared->Prop),Inv X pins σ H s->(∀b∈fp,eG X pins H b)->tn i s.heap->J.go i H->
  wpAny (model P w) X.A (pyNext (.ref it)) (λ r s1=>∃u,r=some u/\
   wpAny (model P w) X.A (letOwnedTupleGo tg (.ref it) u) (λ _ s2=>∃x H',Inv X pins σ H' s2/\RelV x u/\J.yld i H x H'/\tn (i+1) s2.heap/\∀b∈fp,H' b=none) E s1) E s
 done:∀(X:Cx),X.prog=P->X.w=w->X.K=K->X.calm=true->∀(i:Nat)(pins:List (Addr×Obj))(s:Shared)(σ:St)(H:Hp)(E:Value->Shared->Prop),Inv X pins σ H s->(∀b∈fp,eG X pins H b)->tn i s.heap->J.stop i H->
  wpAny (model P w) X.A (pyNext (.ref it)) (λ r s1=>r=none/\Inv X pins σ H s1) E s
 self:∀(A:Around)(i:Nat)(s:Shared)(Q:Value->Shared->Prop)(E:Value->Shared->Prop),tn i s.heap->Q (.ref it) s->wpAny (model P w) A (pyIter (.ref it)) Q E s
noncomputable abbrev TI:=St->Hp->(It->Hp->Prop)->Prop
noncomputable def PIE(X:Cx)(pins:List (Addr×Obj))(σ:St)(tg:Expr)(R:It->Hp->Prop)(itv:Value)(s2:Shared):Prop:=
 ∃(it:Addr) (fp:List Addr) (tn:Nat->Heap->Prop) (J:It) (H':Hp),itv=.ref it/\Inv X pins σ H' s2/\Turn X.prog X.w X.K tg J fp it tn/\tn 0 s2.heap/\(∀b∈fp,eG X pins H' b)/\R J H'
noncomputable def PI(X:Cx)(tg iter:Expr)(wi:TI):Prop:=
 ∀ (pins:List (Addr×Obj))(s:Shared)(σ:St)(H:Hp)(R:It->Hp->Prop),Inv X pins σ H s->wi σ H R->
   wpAny (model X.prog X.w) X.A (eval iter X.env) (λ v s1=>wpAny (model X.prog X.w) X.A (pyIter v) (PIE X pins σ tg R) X.xe s1) X.xe s
theorem FN{M:Model}{A:Around}{E:Value->Shared->Prop}{s:Shared}{it:Addr}{u:Value}{o:Obj}{n:String}{vs:Array Value}{Q:Unit->Shared->Prop}(ho:s.heap.get? it=some o)(hc:o.cls=.type n)(hd:o.data=.fields vs)
 (hn:["enumerate","zip","dict_itemiterator","dict_reverseitemiterator","odict_iterator","itertools.zip_longest","itertools.pairwise"].contains n=false)(hQ:Q () s):wpAny M A (letOwnedTupleGo tg (.ref it) u) Q E s:=by
 unfold letOwnedTupleGo
 cases tg<;>first
  | exact wpAny_pure hQ
  | (cases u<;>first
   | exact wpAny_pure hQ
   | (refine wpAny_bind (wpAny_load ho ?_)
      rw[hc,hd]
      show wpAny M A (if(["enumerate","zip","dict_itemiterator","dict_reverseitemiterator","odict_iterator","itertools.zip_longest","itertools.pairwise"].contains n&&vs[0]? ==some (rawInt _))=true then _ else _) Q E s
      rw[if_neg (by intro h;rw[hn,Bool.false_and]at h;cases h)]
      exact wpAny_pure hQ))
noncomputable def Itl(K:PySem.W.Frag)(a:Addr):It:=
 ⟨λ i H=>∃xs x,SqL K H a xs/\xs[i]? =some x,λ i H x H'=>H'=H/\∀xs,SqL K H a xs->xs[i]? =some x,λ i H=>∃xs,SqL K H a xs/\xs.length≤i⟩
noncomputable def Itt(K:PySem.W.Frag)(a:Addr):It:=
 ⟨λ i H=>∃xs x,SqT K H a xs/\xs[i]? =some x,λ i H x H'=>H'=H/\∀xs,SqT K H a xs->xs[i]? =some x,λ i H=>∃xs,SqT K H a xs/\xs.length≤i⟩
noncomputable def Itr(lo:Int)(n:Nat):It:=⟨λ i _=>i<n,λ i H x H'=>H'=H/\x=.int (lo+i),λ i _=>n≤i⟩
theorem mH{P:Program}{w:World}(a it:Addr):Turn P w K tg (Itl K a) [it] it (λ i h=>h.IsListIter it a i) where
 mem:=by simp
 obj:=λ i h st b hb=>by
  have e:b=it:=by simpa using hb
  subst e
  obtain⟨o,e,c,d⟩:=st
  exact⟨o,e,λ v z=>by rw[d]at z;cases z⟩
 keep:=λ i h h' st k=>st.at λ o e=>k it (by simp) o e
 item:=by
  intro X hP hw hK hc i pins s σ H E I hf st hg
  subst hP hw hK
  obtain⟨xs,x,hq,hx⟩:=hg
  obtain⟨its,rv,p,hz⟩:=I.list hq
  obtain⟨u,hu,ru⟩:=rv.get hx
  obtain⟨f0,f1,f2,f3,f4,f5⟩:=hf it (by simp)
  refine wpAny_pyNext_list_item st p.isList (x:=u) (by simpa using hu) λ h' st' sb=>?_
  have I1:Inv X pins σ H {s with heap:=h'}:=I.turned (t':=s.toks) (λ b o hb e=>(sb.2 b hb).trans e) f0 f1 f3 f4 f5
  obtain⟨o,e,c,d⟩:=id st'
  exact⟨u,rfl,FN (s:={s with heap:=h'}) e c d (by decide) ⟨x,H,I1,ru,⟨rfl,λ ys hy=>by rw[I.list_inj hy hq];exact hx⟩,st',λ b hb=>(hf b hb).1⟩⟩
 done:=by
  intro X hP hw hK hc i pins s σ H E I hf st hg
  subst hP hw hK
  obtain⟨xs,hq,hx⟩:=hg
  obtain⟨its,rv,p,hz⟩:=I.list hq
  obtain⟨f0,f1,f2,f3,f4,f5⟩:=hf it (by simp)
  have hl:=rv.length
  exact wpAny_pyNext_list_end (I.ok.hd hc) st p.isList (by simp;omega) λ h' eb=>⟨rfl,I.turned (t':=s.toks) (λ b o hb e=>eb b o hb e) f0 f1 f3 f4 f5⟩
 self:=λ _ _ _ _ _ st h=>wpAny_pyIter_listiter st h
theorem qQ{P:Program}{w:World}(a it:Addr):Turn P w K tg (Itt K a) [it] it (λ i h=>h.IsTupleIter it a i) where
 mem:=by simp
 obj:=λ i h st b hb=>by
  have e:b=it:=by simpa using hb
  subst e
  obtain⟨o,e,c,d⟩:=st
  exact⟨o,e,λ v z=>by rw[d]at z;cases z⟩
 keep:=λ i h h' st k=>st.at λ o e=>k it (by simp) o e
 item:=by
  intro X hP hw hK hc i pins s σ H E I hf st hg
  subst hP hw hK
  obtain⟨xs,x,hq,hx⟩:=hg
  obtain⟨its,rv,p,hz⟩:=I.tuple hq
  obtain⟨u,hu,ru⟩:=rv.get hx
  obtain⟨f0,f1,f2,f3,f4,f5⟩:=hf it (by simp)
  refine wpAny_pyNext_tuple_item st (show s.heap.IsTuple a its.toArray from p) (x:=u) (by simpa using hu) λ h' st' sb=>?_
  have I1:Inv X pins σ H {s with heap:=h'}:=I.turned (t':=s.toks) (λ b o hb e=>(sb.2 b hb).trans e) f0 f1 f3 f4 f5
  obtain⟨o,e,c,d⟩:=id st'
  exact⟨u,rfl,FN (s:={s with heap:=h'}) e c d (by decide) ⟨x,H,I1,ru,⟨rfl,λ ys hy=>by rw[I.tuple_inj hy hq];exact hx⟩,st',λ b hb=>(hf b hb).1⟩⟩
 done:=by
  intro X hP hw hK hc i pins s σ H E I hf st hg
  subst hP hw hK
  obtain⟨xs,hq,hx⟩:=hg
  obtain⟨its,rv,p,hz⟩:=I.tuple hq
  obtain⟨f0,f1,f2,f3,f4,f5⟩:=hf it (by simp)
  have hl:=rv.length
  exact wpAny_pyNext_tuple_end (I.ok.hd hc) st (show s.heap.IsTuple a its.toArray from p) (by simp;omega) λ h' eb=>⟨rfl,I.turned (t':=s.toks) (λ b o hb e=>eb b o hb e) f0 f1 f3 f4 f5⟩
 self:=λ _ _ _ _ _ st h=>wpAny_pyIter_tupleiter st h
theorem Gh{P:Program}{w:World}(it:Addr)(lo:Int)(n:Nat):Turn P w K tg (Itr lo n) [it] it (λ i h=>IsRangeIter h it (lo+(i:Nat)*1) ((n:Int)-(i:Nat)) 1) where
 mem:=by simp
 obj:=λ i h st b hb=>by
  have e:b=it:=by simpa using hb
  subst e
  exact⟨_,st,λ v z=>by
   have z':Data.fields _=Data.cell v:=z
   cases z'⟩
 keep:=λ i h h' st k=>k it (by simp) _ st
 item:=by
  intro X hP hw hK hc i pins s σ H E I hf st hg
  subst hP hw hK
  obtain⟨f0,f1,f2,f3,f4,f5⟩:=hf it (by simp)
  have W:=Walks.range (prog:=X.prog) (w:=X.w) (I.ok.hd hc) it lo 1 n
  refine W.item i s _ _ hg st λ v h' tk hv st' kk=>?_
  obtain⟨t,rfl⟩:=hv
  have I1:Inv X pins σ H {s with heap:=h',toks:=tk}:=I.turned (λ b o hb e=>kk b o (by simpa using hb) e) f0 f1 f3 f4 f5
  refine⟨_,rfl,FN (s:={s with heap:=h',toks:=tk}) (n:="range_iterator") st' rfl rfl (by decide) ⟨.int (lo+i),H,I1,⟨t,?_⟩,⟨rfl,rfl⟩,st',λ b hb=>(hf b hb).1⟩⟩
  rw[Int.mul_one]
 done:=by
  intro X hP hw hK hc i pins s σ H E I hf st hg
  subst hP hw hK
  obtain⟨f0,f1,f2,f3,f4,f5⟩:=hf it (by simp)
  exact wpAny_pyNext_range_end (I.ok.hd hc) st (by have:n≤i:=hg;omega) λ h' eb=>⟨rfl,I.turned (t':=s.toks) (λ b o hb e=>eb b o hb e) f0 f1 f3 f4 f5⟩
 self:=λ _ _ _ _ _ st h=>wpAny_pyIter_rangeiter st h
end L2
namespace L2
open PySem PySem.Spec PyProof.Rows
section
variable {X : Cx} {tg : Expr}
theorem xT{pins:List (Addr×Obj)}{σ:St}{H:Hp}{s:Shared}{R:It->Hp->Prop}{E:Value->Shared->Prop}{lo hi:Int}{t u v:Tok}{tk:Nat}(I:Inv X pins σ H s)(h1: -(2 ^ 62)≤lo)(h2:lo<2 ^ 62)(h3: -(2 ^ 62)≤hi)(h4:hi<2 ^ 62)
 (q:R (Itr lo (hi-lo).toNat) H):wpAny (model X.prog X.w) X.A (pyIter (.ref s.heap.objs.size)) (PIE X pins σ tg R) E {s with heap:=s.heap.push {cls:=.type "range",data:=.fields #[.int lo t,.int hi u,.int 1 v]},toks:=tk}:=by
 refine wpAny_pyIter_range (IsRange.new ..) (small_one h1 h2 h3 h4) ?_
 have I1:Inv X pins σ H {s with heap:=s.heap.push {cls:=.type "range",data:=.fields #[.int lo t,.int hi u,.int 1 v]},toks:=tk}:=I.kept λ b o e=>Heap.get?_push_of_some _ e
 refine⟨(s.heap.push {cls:=.type "range",data:=.fields #[.int lo t,.int hi u,.int 1 v]}).objs.size,[(s.heap.push {cls:=.type "range",data:=.fields #[.int lo t,.int hi u,.int 1 v]}).objs.size],_,_,H,rfl,
  I1.kept (t':=tk) λ b o e=>Heap.get?_push_of_some _ e,Gh _ lo (hi-lo).toNat,?_,λ b hb=>?_,q⟩
 . have e1:lo+((0:Nat):Int)*1=lo:=by simp
   have e2:(((hi-lo).toNat:Nat):Int)-((0:Nat):Int)=Builtin.Range.rangeSize lo hi 1:=by rw[rangeSize_one];split<;>omega
   show IsRangeIter _ _ (lo+((0:Nat):Int)*1) ((((hi-lo).toNat:Nat):Int)-((0:Nat):Int)) 1
   rw[e1,e2]
   exact Heap.get?_push_size _ rfl
 . have e:b=(s.heap.push {cls:=.type "range",data:=.fields #[.int lo t,.int hi u,.int 1 v]}).objs.size:=by simpa using hb
   subst e
   exact I1.fpOk (y9 _) (I1.hok.fresh (y9 _))
noncomputable def Tj(ta:TA):TI:=λ σ H R=>ta σ H λ vs H1=>∃j:Int,vs=[.int j]/\ -(2 ^ 62)≤j/\j<2 ^ 62/\R (Itr 0 j.toNat) H1
noncomputable def Td(ta:TA):TI:=λ σ H R=>ta σ H λ vs H1=>∃i j:Int,vs=[.int i,.int j]/\(-(2 ^ 62)≤i/\i<2 ^ 62/\ -(2 ^ 62)≤j/\j<2 ^ 62)/\R (Itr i (j-i).toNat) H1
theorem Iv{a:Expr}{ta:TA}{p pos:Pos}(hg:Gl X "range")(hm:X.mg "range"=none)(ha:PA X [a] ta)(hs:starEach [a] X.env=[(false,eval a X.env)]:=by rfl):PI X tg (.Call (.Name "range" p) [a] [] pos) (Tj ta):=by
 intro pins s σ H R I h
 refine Call_ (bY I hg hm boot_range (PyProof.Rows.callWith_type1 (thn (ha pos pins s σ H _ I h) λ us s1 ⟨vs,H1,I1,r1,q1⟩=>?_) hs rfl))
 obtain⟨j,e,q1,q2,q⟩:=q1
 subst e
 cases r1 with
 | cons r rr=>
   cases rr
   obtain⟨t,rfl⟩:=r
   exact call_range_1 (xT I1 (by omega) (by omega) q1 q2 (by simpa using q))
theorem Ji{a b:Expr}{ta:TA}{p pos:Pos}(hg:Gl X "range")(hm:X.mg "range"=none)(ha:PA X [a,b] ta)(hs:starEach [a,b] X.env=[(false,eval a X.env),(false,eval b X.env)]:=by rfl)(hs2:starEach [b] X.env=[(false,eval b X.env)]:=by rfl):
 PI X tg (.Call (.Name "range" p) [a,b] [] pos) (Td ta):=by
 intro pins s σ H R I h
 refine Call_ (bY I hg hm boot_range (PyProof.Rows.callWith_type1 (thn (ha pos pins s σ H _ I h) λ us s1 ⟨vs,H1,I1,r1,q1⟩=>?_) (by rw[hs,hs2]) (by rw[hs2];rfl)))
 obtain⟨i,j,e,⟨q1,q2,q3,q4⟩,q⟩:=q1
 subst e
 cases r1 with
 | cons r rr=>
   cases rr with
   | cons r' rr=>
     cases rr
     obtain⟨t,rfl⟩:=r
     obtain⟨t',rfl⟩:=r'
     exact call_range_2 (xT I1 q1 q2 q3 q4 q)
noncomputable def Vf(wi:TI)(g:TG)(tb:TS):TS:=λ D σ H=>wi σ H λ J H1=>∃W:Nat->Nat->St->Hp->Prop,(∃m,W 0 m σ H1)/\∀i m σ H,W i m σ H->
 (J.stop i H/\D.nx σ H)∨(J.go i H/\∃N:St->Hp->Prop,(∀σ' H',N σ' H'->∃m',m'<m/\W (i+1) m' σ' H')/\∀x H',J.yld i H x H'->g x σ H' λ σ2 H2=>tb {D with nx:=N,ct:=N,bk:=D.nx} σ2 H2)
noncomputable def lr(fp:List Addr)(h:Heap):List (Addr×Obj):=fp.filterMap λ b=>(h.get? b).map λ o=>(b,o)
theorem fY{fp:List Addr}{h:Heap}{b:Addr}{o:Obj}(hb:b∈fp)(e:h.get? b=some o):(b,o)∈lr fp h:=List.mem_filterMap.mpr ⟨b,hb,by rw[e];rfl⟩
theorem JS{fp:List Addr}{h:Heap}{p:Addr×Obj}(hp:p∈lr fp h):p.1∈fp/\h.get? p.1=some p.2:=by
 obtain⟨b,hb,e⟩:=List.mem_filterMap.mp hp
 cases q:h.get? b with
 | none=>rw[q]at e;cases e
 | some o=>
   rw[q]at e
   have e':(b,o)=p:=Option.some.inj e
   subst e'
   exact⟨hb,q⟩
theorem Inv.pinned{pins:List (Addr×Obj)}{σ:St}{H:Hp}{s:Shared}{fp:List Addr}(I:Inv X pins σ H s)(hf:∀b∈fp,eG X pins H b)(ho:∀b∈fp,∃o,s.heap.get? b=some o/\∀v,o.data≠.cell v):Inv X (pins++lr fp s.heap) σ H s:=
 I.pins_of λ p hp=>(List.mem_append.mp hp).elim (λ z=>I.pin p (List.mem_append_right _ z)) λ z=>by
  obtain⟨hb,e⟩:=JS z
  obtain⟨f0,f1,f2,_⟩:=hf p.1 hb
  obtain⟨o,e',d⟩:=ho p.1 hb
  rw[e]at e';cases e'
  exact⟨e,f0,f1,f2,d⟩
theorem Inv.unpinned{pins pl:List (Addr×Obj)}{σ:St}{H:Hp}{s:Shared}(I:Inv X (pins++pl) σ H s):Inv X pins σ H s:=I.pins_of λ p hp=>I.pin p (List.mem_append_right _ (List.mem_append_left _ hp))
theorem HW{iter:Expr}{body:List Stmt}{wi:TI}{g:TG}{tb:TS}{pos:Pos}(hp:PassesOwn (model X.prog X.w) X.A X.env X.xe)(hc:X.calm=true)(hi:PI X tg iter wi)(hg:PG X tg g)(hb:PSs X body tb)
 (hs:∀x,foldedSetIterable iter X.env x=pure x:=by intro _;rfl):PS X (.For tg iter body [] pos) (Vf wi g tb):=by
 intro pins s σ H D I h
 refine wpAny_For (thn (hi pins s σ H _ I h) λ v s1 h1=>thn h1 λ itv s2 h2=>?_) hs
 obtain⟨it,fp,tn,J,H2,e,I2,T,st2,f2,W,⟨m0,w0⟩,turn⟩:=h2
 subst e
 have stat:∀{H':Hp},(∀b∈fp,H' b=none)->∀b∈fp,eG X pins H' b:=λ hn b hb=>⟨hn b hb,(f2 b hb).2⟩
 refine codeAny_forLoop_any (λ n s'=>∃i σ' H',Inv X pins σ' H' s'/\tn i s'.heap/\(∀b∈fp,H' b=none)/\W i n σ' H') ?_ m0 ⟨0,σ,H2,I2,st2,λ b hb=>(f2 b hb).1,w0⟩
 rintro n s3 ⟨i,σ3,H3,I3,st3,fr3,w3⟩
 rcases turn i n σ3 H3 w3 with⟨stop,qn⟩ | ⟨go,N,hN,step⟩
 . refine wpAny_passesOwn hp (thn (T.done X rfl rfl rfl hc i pins s3 σ3 H3 X.xe I3 (stat fr3) st3 stop) λ r s4 ⟨hr,I4⟩=>?_)
   subst hr
   exact wpAny_execs_nil ⟨σ3,H3,I4,qn⟩
 . refine wpAny_passesOwn hp (thn (T.item X rfl rfl rfl hc i pins s3 σ3 H3 X.xe I3 (stat fr3) st3 go) λ r s4 ⟨u,hr,h4⟩=>?_)
   subst hr
   refine wpAny_passesOwn hp (thn h4 λ _ s5 ⟨x,H5,I5,r5,y5,st5,fr5⟩=>?_)
   have I5':=I5.pinned (stat fr5) (T.obj _ _ st5)
   refine wpAny_passesOwn hp (thn (hg _ s5 σ3 H5 x u _ I5' r5 (step x H5 y5)) λ _ s6 ⟨σ6,H6,I6,q6⟩=>?_)
   refine wpAny_passesOwn hp (thn (hb _ s6 σ6 H6 _ I6 q6) λ f s7 q7=>?_)
   have again:∀{σ7:St}{H7:Hp},Inv X (pins++lr fp s5.heap) σ7 H7 s7->N σ7 H7->∃m,m<n/\∃i σ' H',Inv X pins σ' H' s7/\tn i s7.heap/\(∀b∈fp,H' b=none)/\W i m σ' H':=λ{σ7 H7} I7 n7=>by
    obtain⟨m',hm,w7⟩:=hN σ7 H7 n7
    refine⟨m',hm,i+1,σ7,H7,I7.unpinned,T.keep _ _ _ st5 λ b hb o e=>(I7.pin (b,o) (List.mem_append_right _ (List.mem_append_right _ (fY hb e)))).1,λ b hb=>?_,w7⟩
    obtain⟨o,e,d⟩:=T.obj _ _ st5 b hb
    exact(I7.pin (b,o) (List.mem_append_right _ (List.mem_append_right _ (fY hb e)))).2.1
   cases f with
   | next=>obtain⟨σ7,H7,I7,n7⟩:=q7;exact again I7 n7
   | cont=>obtain⟨σ7,H7,I7,n7⟩:=q7;exact again I7 n7
   | brk=>obtain⟨σ7,H7,I7,q7⟩:=q7;exact⟨σ7,H7,I7.unpinned,q7⟩
   | ret v=>obtain⟨x7,σ7,H7,I7,r7,q7⟩:=q7;exact⟨x7,σ7,H7,I7.unpinned,r7,q7⟩
end
end L2
namespace L2
open PySem PySem.Spec PyProof.Rows
noncomputable abbrev R2:=V->V->Hp->VK->Prop
noncomputable def OpR(X:Cx)(f:Value->Value->Sem Value)(r:R2):Prop:=
 ∀ (pins:List (Addr×Obj))(s:Shared)(σ:St)(H:Hp)(x y:V)(v u:Value)(Q:VK),Inv X pins σ H s->RelV x v->RelV y u->r x y H Q->
   wpAny (model X.prog X.w) X.A (f v u) (EP X pins σ Q) X.xe s
noncomputable def UnR(X:Cx)(f:Value->Sem Value)(r:V->Hp->VK->Prop):Prop:=
 ∀ (pins:List (Addr×Obj))(s:Shared)(σ:St)(H:Hp)(x:V)(v:Value)(Q:VK),Inv X pins σ H s->RelV x v->r x H Q->
   wpAny (model X.prog X.w) X.A (f v) (EP X pins σ Q) X.xe s
noncomputable def eZ(X:Cx)(f:Value)(r:List V->Hp->VK->Prop):Prop:=
 ∀ (pins:List (Addr×Obj))(s:Shared)(σ:St)(H:Hp)(xs:List V)(us:List Value)(Q:VK),Inv X pins σ H s->Vals xs us->r xs H Q->
   wpAny (model X.prog X.w) X.A (call f us) (EP X pins σ Q) X.xe s
noncomputable def rI(C:Int->Int->Prop)(g:Int->Int->V):R2:=λ x y H Q=>∃i j,x=.int i/\y=.int j/\C i j/\Q (g i j) H
noncomputable def rI0(g:Int->Int->V):R2:=λ x y H Q=>∃i j,x=.int i/\y=.int j/\Q (g i j) H
noncomputable def rU(g:Int->V):V->Hp->VK->Prop:=λ x H Q=>∃i,x=.int i/\Q (g i) H
section
variable {X : Cx} {a b c : Expr} {ta tb tc : TE} {pos : Pos}
theorem opI{f:Value->Value->Sem Value}{C:Int->Int->Prop}{g:Int->Int->Int}
 (rule:∀(i j:Int)(t u:Tok)(s:Shared)(Q:Value->Shared->Prop)(E:Value->Shared->Prop),C i j->Q (.int (g i j) s.toks) {s with toks:=s.toks+1}->wpAny (model X.prog X.w) X.A (f (.int i t) (.int j u)) Q E s):
 OpR X f (rI C λ i j=>.int (g i j)):=by
 intro pins s σ H x y v u Q I rx ry h
 obtain⟨i,j,rfl,rfl,hc,q⟩:=h
 obtain⟨t,rfl⟩:=rx
 obtain⟨t',rfl⟩:=ry
 exact rule i j t t' s _ _ hc ⟨.int (g i j),H,I.tok _,⟨_,rfl⟩,q⟩
theorem Qo{f:Value->Value->Sem Value}{g:Int->Int->Int}
 (rule:∀(i j:Int)(t u:Tok)(s:Shared)(Q:Value->Shared->Prop)(E:Value->Shared->Prop),Q (.int (g i j) s.toks) {s with toks:=s.toks+1}->wpAny (model X.prog X.w) X.A (f (.int i t) (.int j u)) Q E s):
 OpR X f (rI0 λ i j=>.int (g i j)):=by
 intro pins s σ H x y v u Q I rx ry h
 obtain⟨i,j,rfl,rfl,q⟩:=h
 obtain⟨t,rfl⟩:=rx
 obtain⟨t',rfl⟩:=ry
 exact rule i j t t' s _ _ ⟨.int (g i j),H,I.tok _,⟨_,rfl⟩,q⟩
theorem Gf{f:Value->Value->Sem Value}{g:Int->Int->Bool}
 (rule:∀(i j:Int)(t u:Tok)(s:Shared)(Q:Value->Shared->Prop)(E:Value->Shared->Prop),Q (.bool (g i j)) s->wpAny (model X.prog X.w) X.A (f (.int i t) (.int j u)) Q E s):
 OpR X f (rI0 λ i j=>.bl (g i j)):=by
 intro pins s σ H x y v u Q I rx ry h
 obtain⟨i,j,rfl,rfl,q⟩:=h
 obtain⟨t,rfl⟩:=rx
 obtain⟨t',rfl⟩:=ry
 exact rule i j t t' s _ _ ⟨.bl (g i j),H,I,rfl,q⟩
noncomputable def Vm(i j:Int):Prop:=0<j/\j<1073741824
noncomputable def CPow(i j:Int):Prop:=0≤j/\j≤1000000/\i.natAbs<2 ^ 64
noncomputable def CMul(i j:Int):Prop:=(-(2 ^ 64)<i/\i<2 ^ 64)∨(-(2 ^ 64)<j/\j<2 ^ 64)
theorem CMul.ok{i j:Int}(h:CMul i j):IntMulOk i j:=by
 rcases h with⟨h1,h2⟩ | ⟨h1,h2⟩
 . exact .of_left (intBits_le_64 h1 h2)
 . exact .of_right (intBits_le_64 h1 h2)
theorem Rx:OpR X (binaryOp .Add) (rI0 λ i j=>.int (i+j)):=Qo λ _ _ _ _ _ _ _ q=>add_int q
theorem QZ:OpR X (binaryOp .Sub) (rI0 λ i j=>.int (i-j)):=Qo λ _ _ _ _ _ _ _ q=>sub_int q
theorem Rp:OpR X (binaryOp .Mult) (rI CMul λ i j=>.int (i*j)):=opI λ _ _ _ _ _ _ _ hc q=>mul_int q hc.ok
theorem Pn:OpR X (binaryOp .FloorDiv) (rI Vm λ i j=>.int (i/j)):=opI λ i j _ _ _ _ _ hc q=>by
 have h1:(0:Int)<j:=hc.1
 have h2:j<1073741824:=hc.2
 exact floordiv_int (by omega) (by rw[Int.fdiv_eq_ediv_of_nonneg i (by omega)];exact q) (.inl (PyProof.noPylong_small (by omega)))
theorem QK:OpR X (binaryOp .Mod) (rI (λ _ j=>0<j) λ i j=>.int (i % j)):=opI λ i j _ _ _ _ _ hc q=>by
 have h1:(0:Int)<j:=hc
 exact mod_int' (by omega) (by rw[Int.fmod_eq_emod_of_nonneg i (by omega)];exact q)
theorem Qy:OpR X (binaryOp .Pow) (rI CPow λ i j=>.int (i ^ j.toNat)):=opI λ _ _ _ _ _ _ _ hc q=>pow_int_small hc.1 hc.2.1 hc.2.2 q
theorem unI{f:Value->Sem Value}{g:Int->Int}
 (rule:∀(i:Int)(t:Tok)(s:Shared)(Q:Value->Shared->Prop)(E:Value->Shared->Prop),Q (.int (g i) s.toks) {s with toks:=s.toks+1}->wpAny (model X.prog X.w) X.A (f (.int i t)) Q E s):
 UnR X f (rU λ i=>.int (g i)):=by
 intro pins s σ H x v Q I rx h
 obtain⟨i,rfl,q⟩:=h
 obtain⟨t,rfl⟩:=rx
 exact rule i t s _ _ ⟨.int (g i),H,I.tok _,⟨_,rfl⟩,q⟩
theorem Qv:UnR X (unaryOp .USub) (rU λ i=>.int (-i)):=unI λ _ _ _ _ _ q=>neg_int q
end
noncomputable def R0:V->V->Bool
 | .non,.non=>true | .non,.int _=>true | .int _,.non=>true | .non,.bl _=>true | .bl _,.non=>true | .non,.str _=>true | .str _,.non=>true
 | .int _,.int _=>true | .bl _,.bl _=>true | .str _,.str _=>true | .byt _,.byt _=>true
 | .int _,.str _=>true | .str _,.int _=>true | .bl _,.str _=>true | .str _,.bl _=>true
 | _,_=>false
noncomputable def rEq:R2:=λ x y H Q=>R0 x y=true/\Q (.bl (decide (x=y))) H
noncomputable def rNe:R2:=λ x y H Q=>R0 x y=true/\Q (.bl (!decide (x=y))) H
theorem nq{i j:Int}:decide (V.int i=V.int j)=(i==j):=by
 rw[Bool.eq_iff_iff]
 simp
theorem qG{i j:Bool}:decide (V.bl i=V.bl j)=(i==j):=by
 rw[Bool.eq_iff_iff]
 simp
theorem Cz{i j:Str}:decide (V.str i=V.str j)=(i==j):=by
 rw[Bool.eq_iff_iff]
 simp
theorem Dp{i j:Array UInt8}:decide (V.byt i=V.byt j)=(i.toList==j.toList):=by
 rw[Bool.eq_iff_iff]
 cases i
 cases j
 simp
section
variable {X : Cx} {a b c : Expr} {ta tb tc : TE} {pos : Pos}
theorem aH{pins:List (Addr×Obj)}{σ:St}{H:Hp}{s:Shared}{Q:VK}{k k':Bool}(I:Inv X pins σ H s)(q:Q (.bl k) H)(e:k=k'):EP X pins σ Q (.bool k') s:=by
 subst e
 exact⟨.bl k,H,I,rfl,q⟩
theorem MT:OpR X (compareOp .Eq) rEq:=by
 intro pins s σ H x y v u Q I rx ry h
 obtain⟨hs,q⟩:=h
 cases x with
 | non=>
   cases rx
   cases y with
   | non=>cases ry;exact PySem.EqNone.eq_none_none (aH I q (by simp))
   | bl j=>cases ry;exact PySem.EqNone.eq_none_bool (aH I q (by simp))
   | int j=>obtain⟨t',rfl⟩:=ry;exact PySem.EqNone.eq_none_int (aH I q (by simp))
   | str j=>obtain⟨t',rfl⟩:=ry;exact PySem.EqNone.eq_none_str (aH I q (by simp))
   | _=>exact absurd (show false=true from hs) y6
 | bl i=>
   cases rx
   cases y with
   | non=>cases ry;exact PySem.EqNone.eq_bool_none (aH I q (by simp))
   | bl j=>cases ry;exact eq_bool (aH I q qG)
   | str j=>obtain⟨t',rfl⟩:=ry;exact PySem.EqMixed.eq_bool_str (aH I q (by simp))
   | _=>exact absurd (show false=true from hs) y6
 | int i=>
   obtain⟨t,rfl⟩:=rx
   cases y with
   | non=>cases ry;exact PySem.EqNone.eq_int_none (aH I q (by simp))
   | int j=>obtain⟨t',rfl⟩:=ry;exact eq_int (aH I q nq)
   | str j=>obtain⟨t',rfl⟩:=ry;exact PySem.EqMixed.eq_int_str (aH I q (by simp))
   | _=>exact absurd (show false=true from hs) y6
 | str i=>
   obtain⟨t,rfl⟩:=rx
   cases y with
   | non=>cases ry;exact PySem.EqNone.eq_str_none (aH I q (by simp))
   | bl j=>cases ry;exact PySem.EqMixed.eq_str_bool (aH I q (by simp))
   | int j=>obtain⟨t',rfl⟩:=ry;exact PySem.EqMixed.eq_str_int (aH I q (by simp))
   | str j=>obtain⟨t',rfl⟩:=ry;exact eq_str (aH I q Cz)
   | _=>exact absurd (show false=true from hs) y6
 | byt i=>
   obtain⟨t,rfl⟩:=rx
   cases y with
   | byt j=>obtain⟨t',rfl⟩:=ry;exact PySem.W.eq_bytes (aH I q Dp)
   | _=>exact absurd (show false=true from hs) y6
 | _=>cases y<;>exact absurd (show false=true from hs) y6
theorem Ng:OpR X (compareOp .NotEq) rNe:=by
 intro pins s σ H x y v u Q I rx ry h
 obtain⟨hs,q⟩:=h
 cases x with
 | non=>
   cases rx
   cases y with
   | non=>cases ry;exact PySem.EqNone.ne_none_none (aH I q (by simp))
   | bl j=>cases ry;exact PySem.EqNone.ne_none_bool (aH I q (by simp))
   | int j=>obtain⟨t',rfl⟩:=ry;exact PySem.EqNone.ne_none_int (aH I q (by simp))
   | str j=>obtain⟨t',rfl⟩:=ry;exact PySem.EqNone.ne_none_str (aH I q (by simp))
   | _=>exact absurd (show false=true from hs) y6
 | bl i=>
   cases rx
   cases y with
   | non=>cases ry;exact PySem.EqNone.ne_bool_none (aH I q (by simp))
   | bl j=>cases ry;exact ne_bool (aH I q (congrArg not qG))
   | str j=>obtain⟨t',rfl⟩:=ry;exact PySem.EqMixed.ne_bool_str (aH I q (by simp))
   | _=>exact absurd (show false=true from hs) y6
 | int i=>
   obtain⟨t,rfl⟩:=rx
   cases y with
   | non=>cases ry;exact PySem.EqNone.ne_int_none (aH I q (by simp))
   | int j=>obtain⟨t',rfl⟩:=ry;exact ne_int (aH I q (congrArg not nq))
   | str j=>obtain⟨t',rfl⟩:=ry;exact PySem.EqMixed.ne_int_str (aH I q (by simp))
   | _=>exact absurd (show false=true from hs) y6
 | str i=>
   obtain⟨t,rfl⟩:=rx
   cases y with
   | non=>cases ry;exact PySem.EqNone.ne_str_none (aH I q (by simp))
   | bl j=>cases ry;exact PySem.EqMixed.ne_str_bool (aH I q (by simp))
   | int j=>obtain⟨t',rfl⟩:=ry;exact PySem.EqMixed.ne_str_int (aH I q (by simp))
   | str j=>obtain⟨t',rfl⟩:=ry;exact ne_str (aH I q (congrArg not Cz))
   | _=>exact absurd (show false=true from hs) y6
 | byt i=>
   obtain⟨t,rfl⟩:=rx
   cases y with
   | byt j=>obtain⟨t',rfl⟩:=ry;exact PySem.W.ne_bytes (aH I q (congrArg not Dp))
   | _=>exact absurd (show false=true from hs) y6
 | _=>cases y<;>exact absurd (show false=true from hs) y6
theorem SN:OpR X (compareOp .Lt) (rI0 λ i j=>.bl (decide (i<j))):=Gf λ _ _ _ _ _ _ _ q=>lt_int q
theorem Tq:OpR X (compareOp .LtE) (rI0 λ i j=>.bl (decide (i≤j))):=Gf λ _ _ _ _ _ _ _ q=>le_int q
theorem SM:OpR X (compareOp .Gt) (rI0 λ i j=>.bl (decide (j<i))):=Gf λ _ _ _ _ _ _ _ q=>gt_int q
theorem Uj:OpR X (compareOp .GtE) (rI0 λ i j=>.bl (decide (j≤i))):=Gf λ _ _ _ _ _ _ _ q=>ge_int q
theorem Ri:OpR X (compareOp .Is) (λ x y H Q=>y=.non/\Q (.bl (decide (x=.non))) H):=by
 intro pins s σ H x y v u Q I rx ry h
 obtain⟨rfl,q⟩:=h
 cases ry
 refine is_none_gen (aH I q ?_)
 cases x<;>first
  | (cases rx;rfl)
  | (obtain⟨t,rfl⟩:=rx;rfl)
theorem Oq:OpR X (compareOp .IsNot) (λ x y H Q=>y=.non/\Q (.bl (!decide (x=.non))) H):=by
 intro pins s σ H x y v u Q I rx ry h
 obtain⟨rfl,q⟩:=h
 cases ry
 refine isnot_none_gen (aH I q ?_)
 cases x<;>first
  | (cases rx;rfl)
  | (obtain⟨t,rfl⟩:=rx;rfl)
theorem qy:(sizeLine:Nat)<2 ^ 63:=by rw[sizeLine_eq];decide
theorem vals1{x:V}{us:List Value}(r:Vals [x] us):∃u,us=[u]/\RelV x u:=by
 cases r with
 | cons r1 r2=>cases r2;exact⟨_,rfl,r1⟩
theorem vals2{x y:V}{us:List Value}(r:Vals [x,y] us):∃u w',us=[u,w']/\RelV x u/\RelV y w':=by
 cases r with
 | cons r1 r2=>
   cases r2 with
   | cons r3 r4=>cases r4;exact⟨_,_,rfl,r1,r3⟩
theorem Ln:eZ X (.builtin "abs") (λ xs H Q=>∃i,xs=[.int i]/\Q (.int (if i<0 then-i else i)) H):=by
 intro pins s σ H xs us Q I r h
 obtain⟨i,rfl,q⟩:=h
 obtain⟨u,rfl,t,rfl⟩:=vals1 r
 exact call_abs_int λ u tk=>⟨.int (if i<0 then-i else i),H,I.tok _,⟨_,rfl⟩,q⟩
theorem Jl(hc:X.calm=true):eZ X (.builtin "max") (λ xs H Q=>∃i j,xs=[.int i,.int j]/\Q (.int (if j>i then j else i)) H):=by
 intro pins s σ H xs us Q I r h
 obtain⟨i,j,rfl,q⟩:=h
 obtain⟨u,w',rfl,⟨t,rfl⟩,⟨t',rfl⟩⟩:=vals2 r
 refine max_two_ints (I.ok.hd hc) λ h' tk k=>⟨_,H,I.kept k,?_,q⟩
 by_cases hj:j>i
 . rw[if_pos hj,if_pos hj];exact⟨_,rfl⟩
 . rw[if_neg hj,if_neg hj];exact⟨_,rfl⟩
theorem Hu(hc:X.calm=true):eZ X (.builtin "min") (λ xs H Q=>∃i j,xs=[.int i,.int j]/\Q (.int (if j<i then j else i)) H):=by
 intro pins s σ H xs us Q I r h
 obtain⟨i,j,rfl,q⟩:=h
 obtain⟨u,w',rfl,⟨t,rfl⟩,⟨t',rfl⟩⟩:=vals2 r
 refine min_two_ints (I.ok.hd hc) λ h' tk k=>⟨_,H,I.kept k,?_,q⟩
 by_cases hj:j<i
 . rw[if_pos hj,if_pos hj];exact⟨_,rfl⟩
 . rw[if_neg hj,if_neg hj];exact⟨_,rfl⟩
theorem uM:eZ X (.type "int") (λ xs H Q=>(∃i,xs=[.int i]/\Q (.int i) H)∨∃k,xs=[.bl k]/\Q (.int (if k then 1 else 0)) H):=by
 intro pins s σ H xs us Q I r h
 rcases h with⟨i,rfl,q⟩ | ⟨k,rfl,q⟩
 . obtain⟨u,rfl,t,rfl⟩:=vals1 r
   exact call_int_int ⟨.int i,H,I,⟨_,rfl⟩,q⟩
 . obtain⟨u,rfl,r1⟩:=vals1 r
   cases r1
   exact call_int_bool ⟨.int (if k then 1 else 0),H,I.tok _,⟨_,rfl⟩,q⟩
end
end L2
namespace L2
open PySem PySem.Spec PyProof.Rows
structure Room(k:Nat)(A:Around):Prop where
 hd:A.handled=none
 dp:A.depth+3*k+5<recursionLimit
 un:A.units+16*k+200<cLine
theorem Room.mono{j k:Nat}{A:Around}(r:Room k A)(h:j≤k):Room j A:=⟨r.hd,by have:=r.dp;omega,by have:=r.un;omega⟩
theorem Room.deeper{k:Nat}{A:Around}(r:Room (k+1) A)(env:Env):Room k (A.deeper env):=
 ⟨r.hd,by have:=r.dp;show A.depth+1+3*k+5<_;omega,by have:=r.un;show A.units+3+16*k+200<_;omega⟩
theorem Room.depth{k:Nat}{A:Around}(r:Room k A):A.depth<recursionLimit:=by have:=r.dp;omega
noncomputable def Vk:TA:=λ _ H Q=>Q [] H
noncomputable def Ur(ta:TE)(tr:TA):TA:=λ σ H Q=>ta σ H λ x H1=>tr σ H1 λ xs H2=>Q (x::xs) H2
section
variable {X : Cx} {e : Expr} {es : List Expr} {te : TE} {t : TA} {pos : Pos}
theorem yE:PA X [] Vk:=λ _ _ _ _ H Q I h=>Calls.spliced_nil ⟨[],H,I,.nil,h⟩
theorem ni(ha:PE X e te)(hr:PA X es t)(hs:starEach (e::es) X.env=(false,eval e X.env)::starEach es X.env:=by rfl):PA X (e::es) (Ur te t):=by
 intro pos pins s σ H Q I h
 rw[hs]
 show wpAny _ _ (spliced ((false,eval e X.env)::backTo pos (starEach es X.env))) _ _ s
 refine Calls.spliced_cons (thn (ha pins s σ H _ I h) λ u s1 ⟨x,H1,I1,r1,q1⟩=>?_)
 exact thn (hr pos pins s1 σ H1 _ I1 q1) λ us s2 ⟨xs,H2,I2,r2,q2⟩=>⟨x::xs,H2,I2,.cons r1 r2,q2⟩
end
noncomputable abbrev Sp:=List V->Hp->VK->XK->Prop
noncomputable abbrev CXT:=List Env->Hp->Shared->XK->Value->Shared->Prop
structure Env0(P:Program)(w:World)(K:PySem.W.Frag)(mg:Str->Option Value)(base:Heap)(A:Around)(outer:List Env)(s:Shared)(H:Hp):Prop where
 frames:A.frames=some outer
 mod:Mod K mg base
 bs:∀b o,base.get? b=some o->s.heap.get? b=some o/\H b=none
 bsz:base.objs.size≤s.heap.objs.size
 funs:s.heap.FunFrames base outer
 frf:∀b∈frs outer,H b=none
 hok:HOk P w H s.heap
 bare:AllBare s.gens
noncomputable def CE(outer:List Env)(P:Program)(w:World)(H:Hp)(s:Shared)(Q:VK)(u:Value)(s':Shared):Prop:=
 ∃v H',s'.os=s.os/\AllBare s'.gens/\Un (frs outer) [] H H' s.heap s'.heap/\HOk P w H' s'.heap/\RelV v u/\Q v H'
noncomputable def CR(CX:CXT)(outer:List Env)(P:Program)(w:World)(H:Hp)(s:Shared)(Q:VK)(E:XK)(r:Result)(s':Shared):Prop:=
 match r with
 | .ok (.ret u)=>CE outer P w H s Q u s'
 | .ok _=>False
 | .error e=>CX outer H s E e s'
structure FnOk(P:Program)(w:World)(K:PySem.W.Frag)(mg:Str->Option Value)(base:Heap)(CX:CXT)(k:Nat)(f:Addr)(fd:FuncData)(ps:List Str)(sp:Sp):Prop where
 len:∀vs H Q E,sp vs H Q E->vs.length=ps.length
 run:∀(A:Around)(outer:List Env)(s:Shared)(H:Hp)(args:Args)(us:List Value)(vs:List V)(Q:VK)(E:XK),Room k A->Env0 P w K mg base A outer s H->BindsTo s fd args (ps.zip us)->Vals vs us->sp vs H Q E->
  codeAny (model P w) A (.call (.ref f) args) (CR CX outer P w H s Q E) s
section
variable {X : Cx} {pins : List (Addr × Obj)} {σ : St} {H : Hp} {s s' : Shared}
theorem Inv.env0(I:Inv X pins σ H s):Env0 X.prog X.w X.K X.mg X.base X.A X.stack s H:=
 ⟨I.ok.frames,I.ok.mod,I.bs,Nat.le_trans I.ok.bsz I.sz,I.stack,I.stkFree,I.hok,I.bare⟩
theorem Inv.after{Q:VK}{u:Value}(I:Inv X pins σ H s)(h:CE X.stack X.prog X.w H s Q u s'):EP X pins σ Q u s':=by
 obtain⟨v,H',os,bare,un,hok,r,q⟩:=h
 obtain⟨hh,g,d,t,os'⟩:=s'
 obtain rfl:os'=s.os:=os
 exact⟨v,H',I.call (h':=hh) (g':=g) (d':=d) (t':=t) (ch:=[]) un hok bare (λ b z=>absurd z (by simp)),r,q⟩
end
noncomputable def Binds(K:PySem.W.Frag)(fd:FuncData)(ps:List Str)(ds:List Value):Prop:=
 ∀(s:Shared)(us:List Value),K.In s.heap->(us++ds).length=ps.length->BindsTo s fd ⟨us,[]⟩ (ps.zip (us++ds))
theorem Binds.all{K:PySem.W.Frag}{fd:FuncData}{ps:List Str}(h:∀us:List Value,us.length=ps.length->bindArgs fd ⟨us,[]⟩=pure (ps.zip us)):Binds K fd ps []:=λ s us _ hl=>by
 rw[List.append_nil]at hl ⊢
 exact .of_eq (h us hl)
noncomputable def JQ(CX:CXT)(X:Cx)(E:XK):Prop:=∀(pins:List (Addr×Obj))(σ:St)(H:Hp)(s:Shared)(e:Value)(s':Shared),Inv X pins σ H s->CX X.stack H s E e s'->X.xe e s'
section
variable {X : Cx} {CX : CXT} {k : Nat} {f C : Addr} {fd : FuncData} {ps : List Str} {sp : Sp} {dvs : List V} {ds : List Value} {E : XK} {x m : Str} {p pos apos : Pos} {e o : Expr} {es : List Expr} {ta : TE} {t : TA}
theorem Su{pins:List (Addr×Obj)}{σ:St}{H:Hp}{s:Shared}{Q:VK}{us:List Value}{vs:List V}(F:FnOk X.prog X.w X.K X.mg X.base CX k f fd ps sp)(hr:Room k X.A)(hb:Binds X.K fd ps ds)(hd:Vals dvs ds)(hx:JQ CX X E)
 (I:Inv X pins σ H s)(r:Vals vs us)(h:sp (vs++dvs) H Q E):wpAny (model X.prog X.w) X.A (call (.ref f) us) (EP X pins σ Q) X.xe s:=by
 have r2:Vals (vs++dvs) (us++ds):=r.append hd
 have hl:(us++ds).length=ps.length:=by rw[←r2.length];exact F.len _ _ _ _ h
 refine wpAny_call (codeAny_mono (F.run X.A X.stack s H ⟨us,[]⟩ (us++ds) (vs++dvs) Q E hr I.env0 (hb s us I.kIn hl) r2 h) λ r s' hq=>?_)
 cases r with
 | error e=>exact hx pins σ H s e s' I hq
 | ok fl=>
   cases fl with
   | ret u=>exact I.after hq
   | next=>exact False.elim hq
   | brk=>exact False.elim hq
   | cont=>exact False.elim hq
end
structure FnScope(N P:List Str)(sc:Scope):Prop where
 kind:sc.kind=.function
 co:sc.isCoroutine=false
 gen:sc.isGenerator=false
 nd:N.Nodup
 pre:N.take P.length=P
 par:∀x∈P,sc.names.lookup x=some .local∨sc.names.lookup x=some .cell
 nofree:∀y∈sc.names,y.2≠.free
theorem uL{kindOf:Str->Option NameKind}{x:Str}:∀{binds:List (Str×Value)}{m:Str->Option Value},(∀v,(x,v)∉binds)->bindL kindOf binds m x=m x
 | [],_,_=>rfl
 | (n,v)::r,m,h=>by
   unfold bindL
   rw[uL λ w hw=>h w (x3 _ hw)]
   split
   . have:x≠n:=by rintro rfl;exact h v x5
     simp[this]
   . rfl
theorem uK{kindOf:Str->Option NameKind}{x:Str}:∀{binds:List (Str×Value)}{m:Str->Option Value},(∀v,(x,v)∉binds)->bindC kindOf binds m x=m x
 | [],_,_=>rfl
 | (n,v)::r,m,h=>by
   unfold bindC
   rw[uK λ w hw=>h w (x3 _ hw)]
   split
   . rfl
   . have:x≠n:=by rintro rfl;exact h v x5
     simp[this]
theorem ut{kindOf:Str->Option NameKind}{x:Str}{v:Value}:∀{P:List Str}{vs:List Value}{i:Nat}{m:Str->Option Value},P.Nodup->P[i]? =some x->vs[i]? =some v->kindOf x=some .local->
 bindL kindOf (P.zip vs) m x=some v
 | [],_,_,_,_,h,_,_=>by simp at h
 | _::_,[],_,_,_,_,h,_=>by simp at h
 | p::P,w::vs,0,m,nd,h1,h2,hk=>by
   simp at h1 h2;subst h1;subst h2
   show bindL kindOf ((p,w)::P.zip vs) m p=_
   unfold bindL
   rw[uL λ v hv=>(List.nodup_cons.mp nd).1 (List.of_mem_zip hv).1,if_pos hk]
   simp
 | p::P,w::vs,i+1,m,nd,h1,h2,hk=>by
   show bindL kindOf ((p,w)::P.zip vs) m x=_
   unfold bindL
   exact ut (i:=i) (List.nodup_cons.mp nd).2 (by simpa using h1) (by simpa using h2) hk
theorem uE{kindOf:Str->Option NameKind}{x:Str}{v:Value}:∀{P:List Str}{vs:List Value}{i:Nat}{m:Str->Option Value},P.Nodup->P[i]? =some x->vs[i]? =some v->kindOf x≠some .local->
 bindC kindOf (P.zip vs) m x=some v
 | [],_,_,_,_,h,_,_=>by simp at h
 | _::_,[],_,_,_,_,h,_=>by simp at h
 | p::P,w::vs,0,m,nd,h1,h2,hk=>by
   simp at h1 h2;subst h1;subst h2
   show bindC kindOf ((p,w)::P.zip vs) m p=_
   unfold bindC
   rw[uK λ v hv=>(List.nodup_cons.mp nd).1 (List.of_mem_zip hv).1,if_neg hk]
   simp
 | p::P,w::vs,i+1,m,nd,h1,h2,hk=>by
   show bindC kindOf ((p,w)::P.zip vs) m x=_
   unfold bindC
   exact uE (i:=i) (List.nodup_cons.mp nd).2 (by simpa using h1) (by simpa using h2) hk
noncomputable def start(N:List Str)(vs:List V):St:=vs.map some++List.replicate (N.length-vs.length) none
noncomputable def lA(CX:CXT)(P:Program)(w:World)(K:PySem.W.Frag)(mg:Str->Option Value)(base:Heap)(N:List Str)(qual:Str)(scope:Scope)(f:Addr)(cd:Value)(A:Around)(outer:List Env)(s:Shared)(H:Hp)(E:XK):Cx where
 prog:=P
 w:=w
 K:=K
 mg:=mg
 base:=base
 A:=A.deeper (envOfC qual scope s.heap.objs.size f cd)
 N:=N
 s₀:=s
 H₀:=H
 env:=envOfC qual scope s.heap.objs.size f cd
 outer:=outer
 stack:=envOfC qual scope s.heap.objs.size f cd::outer
 ex:=[]
 calm:=true
 fn:=λ _=>true
 pn:=[]
 xe:=λ e s'=>wpAny (model P w) (A.deeper (envOfC qual scope s.heap.objs.size f cd)) (leaving (envOfC qual scope s.heap.objs.size f cd) e) (λ _ s''=>CX outer H s E e s'') (λ e' s''=>CX outer H s E e' s'') s'
theorem yx{sc:Scope}{n:Nat}{x:Str}(h:sc.names.lookup x=some .cell):∃c,(cellsFrom n sc.names []).lookup x=some c:=by
 have q:=PySem.W.cellsFrom_some sc.names n [] (.inl h)
 exact Option.isSome_iff_exists.mp q
theorem JC{CX:CXT}{P:Program}{w:World}{K:PySem.W.Frag}{mg:Str->Option Value}{base:Heap}{N ps:List Str}{qual:Str}{scope:Scope}{f:Addr}{cd:Value}{A:Around}{outer:List Env}{s s1:Shared}{H:Hp}{E:XK}{us:List Value}{vs:List V}
 (S:FnScope N ps scope)(hd:A.handled=none)(e0:Env0 P w K mg base A outer s H)(hl:vs.length=ps.length)(r:Vals vs us)
 (x:InCallC s s.heap.objs.size (bindL (envOfC qual scope s.heap.objs.size f cd).kindOf (ps.zip us) λ _=>none) (cellsFrom (s.heap.objs.size+1) scope.names []) (bindC (envOfC qual scope s.heap.objs.size f cd).kindOf (ps.zip us) λ _=>none) s1):
 Inv (lA CX P w K mg base N qual scope f cd A outer s H E) [] (start N vs) H s1:=by
 have hpl:ps.length≤N.length:=by have:=congrArg List.length S.pre;rw[List.length_take]at this;omega
 obtain⟨h1,tk,rfl,hk⟩:=x.done
 have noA:∀b:Addr,b∉(lA CX P w K mg base N qual scope f cd A outer s H E).ex:=λ b z=>absurd (show b∈([]:List Addr)from z) (by simp)
 refine⟨⟨e0.mod,S.kind,rfl,rfl,y9 _,λ y z c h1 h2=>?_,λ y hy=>?_,λ y c _ h=>?_,λ _=>hd,Around.frames_deeper e0.frames,.inr ⟨rfl,rfl⟩,λ b z=>absurd z (noA b),e0.bs,e0.bsz,λ b _ _=>noA b,λ b z=>absurd z (noA b),e0.funs,e0.frf⟩,
  rfl,e0.bare,Un.kept hk,⟨_,x.toInCall.ns,λ i y v h1 h2 h3=>?_⟩,λ y c h=>⟨_,x.cell y c h⟩,e0.hok.fresh (y9 _),λ y c h=>?_,λ p hp=>absurd (show p∈([]:List (Addr×Obj))from hp) (by simp),e0.hok.kept hk,?_⟩
 . exact name_of_addr x.apart (PySem.mem_of_lookup h1) (PySem.mem_of_lookup h2)
 . have hy:scope.names.lookup y=some .cell∨scope.names.lookup y=some .free:=hy
   rcases hy with hy | hy
   . exact yx hy
   . exact absurd rfl (S.nofree _ (PySem.mem_of_lookup hy))
 . exact Nat.le_of_lt (x.above y c (PySem.mem_of_lookup h))
 . have hi:i<vs.length:=by
    unfold start at h2
    by_cases hi:i<vs.length
    . exact hi
    . rw[List.getElem?_append_right (by simpa using hi)]at h2
      rw[List.getElem?_replicate]at h2
      split at h2<;>cases h2
   have ha:vs[i]? =some v:=by
    unfold start at h2
    rw[x8 (by simpa using hi),y8]at h2
    cases e:vs[i]? with
    | none=>rw[e]at h2;cases h2
    | some a=>rw[e]at h2;cases h2;rfl
   obtain⟨u,hu,rv⟩:=r.get ha
   have hp:ps[i]? =some y:=by
    rw[←S.pre,List.getElem?_take_of_lt (by omega)];exact h1
   have ndP:ps.Nodup:=by rw[←S.pre];exact S.nd.sublist (List.take_sublist _ _)
   refine⟨u,rv,?_⟩
   rcases S.par y (y4 hp)with k | k
   . exact .inl ⟨k,ut ndP hp hu k⟩
   . obtain⟨c,e⟩:=yx (n:=s.heap.objs.size+1) k
     refine .inr ⟨.inl k,c,e,?_⟩
     have q:=x.cell y c e
     rw[uE ndP hp hu (by show scope.names.lookup y≠_;rw[k];decide)]at q
     exact q
 . exact e0.hok.fresh (Nat.le_of_lt (x.above y c (PySem.mem_of_lookup h)))
 . unfold start
   show _=N.length
   rw[x6,y7,List.length_replicate]
   omega
theorem SQ{CX:CXT}{P:Program}{w:World}{K:PySem.W.Frag}{mg:Str->Option Value}{base:Heap}{k:Nat}{f:Addr}{name qual:Str}{params:Arguments}{body:List Stmt}{scope:Scope}{dV kV doc pm cdv ct oc:Value}{an od:Option Addr}
 {osl:Array (Option Value)}{N ps:List Str}{sp:Sp}(lk:K.lookup f=some ⟨oc,od,.func (PySem.W.fnOf name qual params body scope dV kV doc pm an cdv ct),osl⟩)(hcd:PySem.W.codeIn K cdv qual=true)(S:FnScope N ps scope)
 (len:∀vs H Q E,sp vs H Q E->vs.length=ps.length)
 (hbody:∀(A:Around)(outer:List Env)(s:Shared)(H:Hp)(vs:List V)(Q:VK)(E:XK),Room k (A.deeper (envOfC qual scope s.heap.objs.size f cdv))->sp vs H Q E->
  ∃t,PSs (lA CX P w K mg base N qual scope f cdv A outer s H E) body t/\t {nx:=λ _ H'=>Q .non H',rt:=Q} (start N vs) H):
 FnOk P w K mg base CX (k+1) f (PySem.W.fnOf name qual params body scope dV kV doc pm an cdv ct) ps sp:=by
 refine⟨len,λ A outer s H args us vs Q E hr e0 hb r hsp=>?_⟩
 have hl:=len _ _ _ _ hsp
 have KX:K.In s.heap:=e0.mod.kin.keeps λ b o e=>(e0.bs b o e).1
 have lim:s.heap.NoLimit:=e0.mod.nolimit.keeps λ b o e=>(e0.bs b o e).1
 have hkind:∀y∈ps.zip us,scope.names.lookup y.1=some .local∨(scope.names.lookup y.1=some .cell/\((cellsFrom (s.heap.objs.size+1) scope.names []).lookup y.1).isSome=true):=λ⟨n,v⟩ hy=>by
  rcases S.par n (List.of_mem_zip hy).1 with q | q
  . exact .inl q
  . exact .inr ⟨q,PySem.W.cellsFrom_some _ _ _ (.inl q)⟩
 refine codeAny_call_function hr.depth (KX _ _ lk) rfl S.co S.gen rfl (PySem.W.codeRec_of KX hcd) (hb _ _ _ _ ?_)
 refine wpAny_newFunctionEnv_cells S.kind hkind λ env he s1 x=>?_
 subst he
 refine⟨lim.keeps x.toInCall.keep,codeAny_func ?_⟩
 obtain⟨t,ht,hq⟩:=hbody A outer s H vs Q E (hr.deeper _) hsp
 have I:Inv (lA CX P w K mg base N qual scope f cdv A outer s H E) [] (start N vs) H s1:=JC S hr.hd e0 hl r x
 refine wpAny_mono (ht [] s1 (start N vs) H _ I hq) (λ fl s' hs=>?_) λ e s' hs=>hs
 have fin:∀{σ':St}{H':Hp}{v:V}{u:Value},Inv (lA CX P w K mg base N qual scope f cdv A outer s H E) [] σ' H' s'->RelV v u->Q v H'->CE outer P w H s Q u s':=
  λ{σ' H' v u} J rv q=>⟨v,H',J.os,J.bare,J.base,J.hok,rv,q⟩
 cases fl with
 | ret u=>
   obtain⟨v,σ',H',J,rv,q⟩:=hs
   exact fin J rv q
 | next=>
   obtain⟨σ',H',J,q⟩:=hs
   exact fin (v:=V.non) (u:=Value.none) J rfl q
 | brk=>
   obtain⟨_,_,_,q⟩:=hs
   exact False.elim q
 | cont=>
   obtain⟨_,_,_,q⟩:=hs
   exact False.elim q
end L2
namespace L2
open PySem PySem.Spec PyProof.Rows
section
variable {X : Cx} {x : Str} {p pos : Pos} {e : Expr} {es : List Expr} {t : TA} {id T : String} {r : List V -> Hp -> VK -> Prop}
noncomputable def tCB(r:List V->Hp->VK->Prop)(t:TA):TE:=λ σ H Q=>t σ H λ vs H1=>r vs H1 Q
theorem Kg(hc:eZ X (.builtin id) r)(hg:Gl X x)(hm:X.mg x=none)(hv:bootBuiltins x=some (.builtin id))(ha:PA X (e::es) t)(hn:x≠"__name__":=by decide)(hdb:(x==("__debug__":Str))=false:=by decide)
 (he:starEach (e::es) X.env=(false,eval e X.env)::starEach es X.env:=by rfl)(hpl:(backTo pos (starEach es X.env)).any (·.1)=false:=by rfl):PE X (.Call (.Name x p) (e::es) [] pos) (tCB r t):=by
 intro pins s σ H Q I h
 refine wpAny_Call_Name_kw (bY I hg hm hv ?_ hn hdb)
 exact PyProof.Rows.callWith_builtin1 (thn (ha pos pins s σ H _ I h) λ us s1 ⟨vs,H1,I1,r1,q1⟩=>hc pins s1 σ H1 vs us Q I1 r1 q1) he hpl
end
end L2
namespace HT
open PySem PyProof.Rows
section
variable {prog : Program} {w : World} {A : Around} {E : Value -> Shared -> Prop} {s : Shared}
theorem cat_tup{t b:Addr}{vs ws:List Value}{Q:Value->Shared->Prop}(ht:IsTup s.heap t vs.toArray)(hb:IsTup s.heap b ws.toArray)(hv:vs≠[])
 (h1:ws=[]->Q (.ref t) s)(h2:ws≠[]->Q (.ref s.heap.objs.size) {s with heap:=s.heap.push {cls:=.type "tuple",data:=.seq (vs++ws).toArray}})
 (hsz:vs.length+ws.length≤sizeLine):wpAny (model prog w) A (binaryOp .Add (.ref t) (.ref b)) Q E s:=by
 obtain⟨⟨cls,dd,data,sl⟩,ho,hc,n,hd⟩:=id ht
 obtain⟨⟨cls2,dd2,data2,sl2⟩,ho2,hc2,n2,hd2⟩:=id hb
 simp only at hc hd hc2 hd2
 subst hc hd hc2 hd2
 have e:vs.toArray++ws.toArray=(vs++ws).toArray:=by simp
 by_cases hw:ws=[]
 . exact concat_meets ⟨_,ho,rfl⟩ ⟨_,ho2,rfl⟩ noFill_tuple_add seq_tuple_add PySem.F.slot_tuple_add PySem.F.entry_tuple_add (PySem.F.args_tuple_add_2 _ _)
    (tuple_addW1 t b vs.toArray ws.toArray n n2 dd dd2 sl sl2 (by simpa using hv) (by simp[hw])) ⟨ho,ho2,h1 hw⟩
 . refine concat_meets ⟨_,ho,rfl⟩ ⟨_,ho2,rfl⟩ noFill_tuple_add seq_tuple_add PySem.F.slot_tuple_add PySem.F.entry_tuple_add (PySem.F.args_tuple_add_2 _ _)
    (tuple_addW2 t b vs.toArray ws.toArray n n2 dd dd2 sl sl2 (by simpa using hv) (by simpa using hw) (by rw[x4,x4];exact hsz)) ⟨ho,ho2,?_⟩
   rw[e]
   exact h2 hw
noncomputable def sIx(n d:Nat):Option Int->Nat
 | none=>d
 | some v=>if v<0 then(v+(n:Int)).toNat else min v.toNat n
theorem sIx_none(n d:Nat):sIx n d none=d:=rfl
theorem sIx_nat(n d k:Nat):sIx n d (some (k:Int))=min k n:=by
 show(if(k:Int)<0 then((k:Int)+(n:Int)).toNat else min (k:Int).toNat n)=min k n
 rw[if_neg (by omega),Int.toNat_natCast]
theorem Rb(n d:Nat)(hd:d≤n)(o:Option Int):sIx n d o≤n:=by
 cases o with
 | none=>exact hd
 | some v=>
   show(if v<0 then(v+(n:Int)).toNat else min v.toNat n)≤n
   by_cases hv:v<0
   . rw[if_pos hv];omega
   . rw[if_neg hv];exact Nat.min_le_right _ _
theorem Cw(v:Int)(n d:Nat):(if v<0 then max (v+(n:Int)) 0 else min v (n:Int))=((sIx n d (some v):Nat):Int):=by
 show(if v<0 then max (v+(n:Int)) 0 else min v (n:Int))=(((if v<0 then(v+(n:Int)).toNat else min v.toNat n):Nat):Int)
 by_cases hv:v<0
 . simp only[if_pos hv];omega
 . simp only[if_neg hv];omega
theorem Es(lo hi:Option Int)(n:Nat):Builtin.Slice.sliceAdjust lo hi 1 (n:Int)=(((sIx n 0 lo:Nat):Int),((sIx n n hi:Nat):Int)):=by
 have h1:¬((1:Int)<0):=by omega
 unfold Builtin.Slice.sliceAdjust
 simp only[h1,if_false]
 refine Prod.ext ?_ ?_
 . cases lo with
   | none=>rfl
   | some v=>exact Cw v n 0
 . cases hi with
   | none=>rfl
   | some v=>exact Cw v n n
theorem Fb(i j:Nat):Builtin.Slice.slicePlaces (i:Int) (j:Int) 1=j-i:=by
 unfold Builtin.Slice.slicePlaces
 have h1:(1:Int)>0:=by omega
 simp only[h1,if_true,Int.ediv_one]
 split<;>omega
theorem qd{v:Value}{o:Option Int}{Q:Option Int->Shared->Prop}(p:IsPart v o)(h:Q o s):wpAny (model prog w) A (Builtin.Slice.slicePartIndex v) Q E s:=by
 cases p with
 | none=>exact slicePart_none h
 | int i t=>exact slicePart_int h
theorem sliceApplied_gen{sl:Addr}{vl vu:Value}{lo hi:Option Int}{n:Nat}{Q:Int×Int×Nat->Shared->Prop}(hs:s.heap.IsSliceOf sl vl vu .none)(pl:IsPart vl lo)(pu:IsPart vu hi)
 (h:Q (((sIx n 0 lo:Nat):Int),1,sIx n n hi-sIx n 0 lo) s):wpAny (model prog w) A (Builtin.Slice.sliceApplied (.ref sl) (pure (n:Int))) Q E s:=by
 obtain⟨os,hos,hcs,hds⟩:=id hs
 unfold Builtin.Slice.sliceApplied Builtin.Slice.sliceFields
 refine wpAny_bind (wpAny_bind (wpAny_field hos hds (x:=vl) rfl (wpAny_bind (wpAny_field hos hds (x:=vu) rfl (wpAny_bind (wpAny_field hos hds (x:=.none) rfl (wpAny_pure ?_)))))))
 refine wpAny_bind (slicePart_none ?_)
 show wpAny _ _ (if((1:Int)==0)=true then _ else _) _ _ s
 rw[if_neg (by decide)]
 refine wpAny_bind (qd pl (wpAny_bind (qd pu (wpAny_bind (wpAny_pure ?_)))))
 show wpAny _ _ (match Builtin.Slice.sliceAdjust lo hi 1 (n:Int)with | (lo,hi)=>pure (lo,(1:Int),Builtin.Slice.slicePlaces lo hi 1)) _ _ s
 rw[Es lo hi n]
 show wpAny _ _ (pure (((sIx n 0 lo:Nat):Int),(1:Int),Builtin.Slice.slicePlaces ((sIx n 0 lo:Nat):Int) ((sIx n n hi:Nat):Int) 1)) _ _ s
 rw[Fb]
 exact wpAny_pure h
theorem Lw(xs:Array Value)(i k:Nat):((List.range k).filterMap λ(m:Nat)=>xs[((i:Int)+(m:Int)*1).toNat]?).toArray=((xs.toList.drop i).take k).toArray:=by
 have e:(λ(m:Nat)=>xs[((i:Int)+(m:Int)*1).toNat]?)=λ m=>xs[i+m]?:=by
  funext m
  have:((i:Int)+(m:Int)*1).toNat=i+m:=by omega
  rw[this]
 rw[e]
 have:=pick_run xs i k
 rw[List.filterMap_map]at this
 have e2:((λ x=>xs[x]?) ∘ λ x=>i+x)=λ m=>xs[i+m]?:=rfl
 rw[e2]at this
 rw[this]
theorem getItem_tuple_cut{t sl:Addr}{items:Array Value}{vl vu:Value}{lo hi:Option Int}{Q:Value->Shared->Prop}(ht:IsTup s.heap t items)(hs:s.heap.IsSliceOf sl vl vu .none)(pl:IsPart vl lo)(pu:IsPart vu hi)
 (hw:¬(sIx items.size 0 lo=0/\sIx items.size items.size hi=items.size))
 (h:Q (.ref s.heap.objs.size) {s with heap:=s.heap.push {cls:=.type "tuple",data:=.seq ((items.toList.drop (sIx items.size 0 lo)).take (sIx items.size items.size hi-sIx items.size 0 lo)).toArray}})
 (hsz:items.size≤sizeLine):wpAny (model prog w) A (getItem (.ref t) (.ref sl)) Q E s:=by
 have htake:sizeOk (.seq ((items.toList.drop (sIx items.size 0 lo)).take (sIx items.size items.size hi-sIx items.size 0 lo)).toArray):=by
  show((items.toList.drop (sIx items.size 0 lo)).take (sIx items.size items.size hi-sIx items.size 0 lo)).toArray.size≤sizeLine
  rw[x4,List.length_take,List.length_drop,Array.length_toList]
  omega
 have hj:sIx items.size items.size hi≤items.size:=Rb _ _ (y9 _) hi
 obtain⟨os,hos,hcs,hds⟩:=id hs
 have hTs:s.TypeIs (.ref sl) "slice":=⟨os,hos,hcs⟩
 unfold getItem
 try with_reducible refine wpAny_holding ?_
 first | refine wpAny_bind (wpAny_pure ?_) | skip
 refine wpAny_bind (wpAny_sequenceKey ht.typeIs (by decide) ?_)
 refine wpAny_bind (wpAny_callSpecial?_slot (name:=Str.ofString "__getitem__") ht.typeIs PyProof.Rows.slot_tuple_getitem
  (wpAny_call_entry PyProof.Rows.slot_tuple_getitem ht.typeIs entry_tuple_getitem ?_ (args_tuple_getitem _ _)))
 show wpAny _ _ (Builtin.Tuple.tupleItemsOf (.ref t)>>=_) _ _ s
 refine wpAny_bind (tupleItemsOf_ ht ?_)
 refine wpAny_bind (wpAny_typeOf hTs ?_)
 rw[if_pos (by decide)]
 refine wpAny_bind (sliceApplied_gen hs pl pu ?_)
 have hno:¬((((sIx items.size 0 lo:Nat):Int)==0&&(1:Int)==1&&(sIx items.size items.size hi-sIx items.size 0 lo)==items.size)=true):=by
  intro q
  rw[Bool.and_eq_true,Bool.and_eq_true]at q
  have q1:((sIx items.size 0 lo:Nat):Int)=0:=eq_of_beq q.1.1
  have q2:sIx items.size items.size hi-sIx items.size 0 lo=items.size:=eq_of_beq q.2
  exact hw ⟨by omega,by omega⟩
 show wpAny _ _ (if(((sIx items.size 0 lo:Nat):Int)==0&&(1:Int)==1&&(sIx items.size items.size hi-sIx items.size 0 lo)==items.size)=true then _ else _) _ _ s
 rw[if_neg hno,Lw]
 first
  | exact wpAny_bind (m:=Builtin.Tuple.tupleExact _) (wpAny_newObj_type (wpAny_pure ⟨_,rfl,wpAny_pure h⟩) htake)
  | exact wpAny_bind (m:=Builtin.Tuple.tupleExact _) (wpAny_newObj_type (wpAny_bind (wpAny_pure (wpAny_pure ⟨_,rfl,wpAny_pure h⟩))) htake)
  | exact wpAny_bind (wpAny_bind (m:=Builtin.Tuple.tupleExact _) (wpAny_newObj_type (wpAny_pure (wpAny_pure ⟨_,rfl,wpAny_pure h⟩)) htake))
  | exact wpAny_bind (wpAny_bind (m:=Builtin.Tuple.tupleExact _) (wpAny_newObj_type (wpAny_pure ⟨_,rfl,wpAny_pure h⟩) htake))
end
end HT
namespace L2
open PySem PySem.Spec PyProof.Rows
noncomputable abbrev TO:=St->Hp->(Option Int->Hp->Prop)->Prop
theorem intsAre_of{ns:List Int}:∀{us:List Value},Vals (ns.map V.int) us->IntsAre us ns:=by
 induction ns with
 | nil=>intro us r;rw[List.map_nil]at r;cases r;exact .nil
 | cons n ns ih=>
   intro us r
   rw[List.map_cons]at r
   cases r with
   | cons r1 r2=>
     obtain⟨t,e⟩:=r1
     subst e
     exact .cons n t (ih r2)
section
variable {X : Cx} {e : Expr} {te : TE} {lo hi : Option Expr} {tl th : TO} {pos p2 : Pos}
noncomputable def SlR(X:Cx)(r:V->Option Int->Option Int->Hp->VK->Prop):Prop:=
 ∀ (pins:List (Addr×Obj))(s:Shared)(σ:St)(H:Hp)(x:V)(v vl vu:Value)(lo hi:Option Int)(sl:Addr)(Q:VK),Inv X pins σ H s->RelV x v->s.heap.IsSliceOf sl vl vu .none->IsPart vl lo->IsPart vu hi->r x lo hi H Q->
   ∃T id,typeLookup (.type T) "__getitem__"=pure (some (.builtin id))/\s.TypeIs v T/\wpAny (model X.prog X.w) X.A (getItem v (.ref sl)) (EP X pins σ Q) X.xe s
noncomputable def lu(xs:List V)(lo hi:Option Int):List V:=(xs.drop (HT.sIx xs.length 0 lo)).take (HT.sIx xs.length xs.length hi-HT.sIx xs.length 0 lo)
theorem nZ(xs:List V)(lo hi:Option Int):(lu xs lo hi).length≤xs.length:=by
 unfold lu
 rw[List.length_take,List.length_drop]
 omega
noncomputable def UJ(K:PySem.W.Frag):V->Option Int->Option Int->Hp->VK->Prop:=λ x lo hi H Q=>∃a xs,x=.ref a/\SqT K H a xs/\
 ¬(HT.sIx xs.length 0 lo=0/\HT.sIx xs.length xs.length hi=xs.length)/\∀p,H p=none->Q (.ref p) (upd H p (.tup (lu xs lo hi)))
theorem R9:SlR X (UJ X.K):=by
 intro pins s σ H x v vl vu lo hi sl Q I rx hs pl pu h
 obtain⟨a,xs,rfl,hx,hw,q⟩:=h
 cases rx
 obtain⟨its,r,ht,hz⟩:=I.tuple hx
 have hlen:its.toArray.size=xs.length:=by rw[x4];exact r.length.symm
 refine⟨"tuple",_,PyProof.Rows.slot_tuple_getitem.lookup,ht.typeIs,?_⟩
 refine HT.getItem_tuple_cut ht hs pl pu (by rw[hlen];exact hw) ?_ (by rw[hlen];exact hz)
 rw[hlen]
 refine⟨.ref s.heap.objs.size,_,I.laid (t':=s.toks) (o:=.tup (lu xs lo hi)) (λ b ob q=>Heap.get?_push_of_some _ q) (y9 _) ?_,rfl,q _ (I.hok.fresh (y9 _))⟩
 exact⟨Nat.le_trans (nZ xs lo hi) hz,_,(r.drop (HT.sIx xs.length 0 lo)).take (HT.sIx xs.length xs.length hi-HT.sIx xs.length 0 lo),IsTup.new _ _⟩
noncomputable def Tc(K:PySem.W.Frag):R2:=λ x y H Q=>∃a b xs ys,x=.ref a/\y=.ref b/\SqT K H a xs/\SqT K H b ys/\xs≠[]/\xs.length+ys.length≤sizeLine/\
 (ys=[]->Q (.ref a) H)/\(ys≠[]->∀p,H p=none->Q (.ref p) (upd H p (.tup (xs++ys))))
theorem Vals.nil_iff{xs:List V}{us:List Value}(r:Vals xs us):us=[]↔xs=[]:=by
 cases r with
 | nil=>simp
 | cons _ _=>simp
theorem Ox:OpR X (binaryOp .Add) (Tc X.K):=by
 intro pins s σ H x y v u Q I rx ry h
 obtain⟨a,b,xs,ys,rfl,rfl,ha,hb,hx,hz,q1,q2⟩:=h
 cases rx
 cases ry
 obtain⟨its,r1,p1,_⟩:=I.tuple ha
 obtain⟨its2,r2,p2,_⟩:=I.tuple hb
 refine HT.cat_tup p1 p2 (λ z=>hx (r1.nil_iff.mp z)) (λ z=>⟨.ref a,H,I,rfl,q1 (r2.nil_iff.mp z)⟩) (λ z=>?_) (by rw[←r1.length,←r2.length];exact hz)
 refine⟨.ref s.heap.objs.size,_,I.laid (t':=s.toks) (o:=.tup (xs++ys)) (λ b ob q=>Heap.get?_push_of_some _ q) (y9 _) ?_,rfl,q2 (λ w=>z (r2.nil_iff.mpr w)) _ (I.hok.fresh (y9 _))⟩
 exact⟨by rw[x6];exact hz,_,r1.append r2,IsTup.new _ _⟩
end
end L2
namespace L2
open PySem PySem.Spec PyProof.Rows
noncomputable def ixN(n:Nat)(i:Int):Option Nat:=if 0≤i then(if i<n then some i.toNat else none)else if-(n:Int)≤i then some (i+n).toNat else none
noncomputable def atI{α:Type}(xs:List α)(i:Int):Option α:=(ixN xs.length i).bind λ j=>xs[j]?
theorem Do{n:Nat}{i:Int}{j:Nat}(h:ixN n i=some j):seqIndex? i n=some j/\j<n/\ -(n:Int)≤i/\i<n:=by
 unfold ixN at h
 by_cases h0:0≤i
 . rw[if_pos h0]at h
   by_cases h1:i<n
   . rw[if_pos h1]at h
     have e:i.toNat=j:=Option.some.inj h
     exact⟨by rw[seqIndex_of h0 h1,e],by omega,by omega,h1⟩
   . rw[if_neg h1]at h;cases h
 . rw[if_neg h0]at h
   by_cases h1: -(n:Int)≤i
   . rw[if_pos h1]at h
     have e:(i+n).toNat=j:=Option.some.inj h
     exact⟨by rw[seqIndex_neg (by omega) h1,e],by omega,h1,by omega⟩
   . rw[if_neg h1]at h;cases h
theorem Ed{α:Type}{xs:List α}{i:Int}{v:α}(h:atI xs i=some v):∃j,seqIndex? i xs.length=some j/\xs[j]? =some v/\j<xs.length/\ -(xs.length:Int)≤i/\i<xs.length:=by
 unfold atI at h
 cases e:ixN xs.length i with
 | none=>rw[e]at h;cases h
 | some j=>
   rw[e]at h
   obtain⟨h1,h2,h3,h4⟩:=Do e
   exact⟨j,h1,h,h2,h3,h4⟩
theorem aP{α:Type}{xs:List α}{j:Nat}{v:α}(h:xs[j]? =some v):atI xs (j:Int)=some v:=by
 have hj:j<xs.length:=(z0.mp h).1
 have e:ixN xs.length (j:Int)=some j:=by
  unfold ixN
  rw[if_pos (by omega),if_pos (by omega)];simp
 unfold atI;rw[e];exact h
noncomputable def Dh(b:Expr):Prop:=∀o i,subscripted b false o i=operate [o,i] (getItem o i)
noncomputable def IxR(X:Cx)(r:R2):Prop:=
 ∀ (value slice:Expr)(pins:List (Addr×Obj))(s:Shared)(σ:St)(H:Hp)(x y:V)(v u:Value)(Q:VK),Inv X pins σ H s->RelV x v->RelV y u->r x y H Q->
   subscripted slice false v u=operate [v,u] (getItem v u)->wpAny (model X.prog X.w) X.A (subscriptTail value slice v u) (EP X pins σ Q) X.xe s
noncomputable def MtR(X:Cx)(id:String)(r:V->List V->Hp->VK->Prop):Prop:=
 ∀ (pins:List (Addr×Obj))(s:Shared)(σ:St)(H:Hp)(x:V)(xs:List V)(v:Value)(us:List Value)(Q:VK),Inv X pins σ H s->RelV x v->Vals xs us->r x xs H Q->
   wpAny (model X.prog X.w) X.A (call (.builtin id) (v::us)) (EP X pins σ Q) X.xe s
section
variable {X : Cx} {a b : Expr} {ta tb : TE} {pos : Pos}
noncomputable def Vg(K:PySem.W.Frag):R2:=λ x y H Q=>∃p xs i v,x=.ref p/\y=.int i/\SqL K H p xs/\atI xs i=some v/\Q v H
noncomputable def Vh(K:PySem.W.Frag):R2:=λ x y H Q=>∃p xs i v,x=.ref p/\y=.int i/\SqT K H p xs/\atI xs i=some v/\Q v H
theorem CQ:IxR X (Vg X.K):=by
 intro value slice pins s σ H x y v u Q I rx ry h hs
 obtain⟨p,xs,i,z,rfl,rfl,hq,he,q⟩:=h
 cases rx
 obtain⟨t,rfl⟩:=ry
 obtain⟨its,r,pl,hz⟩:=I.list hq
 obtain⟨j,h1,h2,h3,h4,h5⟩:=Ed he
 obtain⟨w,ew,rw'⟩:=r.get h2
 have hl:=r.length
 have hn:=qy
 have fin:EP X pins σ Q w s:=⟨z,H,I,rw',q⟩
 by_cases h0:0≤i
 . have hj:i.toNat=j:=by
    rw[seqIndex_of h0 h5]at h1
    exact Option.some.inj h1
   exact item_listR pl.isList h0 (by omega) (by rw[hj];simpa using ew) fin hs
 . have hj:(i+(its.toArray.size:Int)).toNat=j:=by
    rw[seqIndex_neg (by omega) h4]at h1
    rw[x4,←hl]
    exact Option.some.inj h1
   exact subscriptTail_builtinR (x:=w) pl.isList.typeIs slot_list_getitem.lookup
    (wpAny_getItem_list_neg (Q:=λ r s'=>r=w/\EP X pins σ Q r s') pl.isList (by omega) (by rw[x4]<;>omega) (by omega) (by rw[hj];simpa using ew) ⟨rfl,fin⟩) hs
theorem RV:IxR X (Vh X.K):=by
 intro value slice pins s σ H x y v u Q I rx ry h hs
 obtain⟨p,xs,i,z,rfl,rfl,hq,he,q⟩:=h
 cases rx
 obtain⟨t,rfl⟩:=ry
 obtain⟨its,r,pl,hz⟩:=I.tuple hq
 obtain⟨j,h1,h2,h3,h4,h5⟩:=Ed he
 obtain⟨w,ew,rw'⟩:=r.get h2
 have hl:=r.length
 have hn:=qy
 have fin:EP X pins σ Q w s:=⟨z,H,I,rw',q⟩
 exact subscriptTail_builtinR (x:=w) pl.typeIs slot_tuple_getitem.lookup
  (getItem_tuple (j:=j) (Q:=λ r s'=>r=w/\EP X pins σ Q r s') pl (by omega) (by omega) (by rw[x4,←hl];exact h1) (by simpa using ew) ⟨rfl,fin⟩) hs
theorem Gq(its:List Value)(n j:Nat)(u:Value):Obj.mapSeq (·.setIfInBounds j u) {cls:=.type "list",data:=.seq its.toArray n}={cls:=.type "list",data:=.seq (its.set j u).toArray n}:=by
 simp[Obj.mapSeq]
theorem Inv.lst{pins:List (Addr×Obj)}{σ:St}{H:Hp}{s:Shared}{p:Addr}{xs:List V}(I:Inv X pins σ H s)(h:H p=some (.lst xs)):
 ∃(its:List Value) (n:Nat),Vals xs its/\s.heap.get? p=some {cls:=.type "list",data:=.seq its.toArray n}/\xs.length≤sizeLine:=by
 obtain⟨z,its,n,r,e⟩:=I.hok p _ h
 exact⟨its,n,r,e,z⟩
theorem Inv.lstUpd{pins:List (Addr×Obj)}{σ:St}{H:Hp}{s:Shared}{p:Addr}{xs ys:List V}{its its':List Value}{n n':Nat}{f:Obj->Obj}(I:Inv X pins σ H s)(h:H p=some (.lst xs))
 (ho:s.heap.get? p=some {cls:=.type "list",data:=.seq its.toArray n})(hf:f {cls:=.type "list",data:=.seq its.toArray n}={cls:=.type "list",data:=.seq its'.toArray n'})(r:Vals ys its')(hz:ys.length≤sizeLine)(t:Nat):
 Inv X pins σ (upd H p (.lst ys)) {s with heap:=s.heap.update p f,toks:=t}:=by
 have e:(s.heap.update p f).get? p=some {cls:=.type "list",data:=.seq its'.toArray n'}:=by
  rw[Heap.get?_update_self f ho (by rw[hf]<;>rfl),hf]
 refine I.write (x:=p) (e:=p) (by rw[h];trivial) (.inl rfl) (λ b u hb q=>(Heap.get?_update_other _ _ (Ne.symm hb)).trans q) ⟨_,e⟩ ?_
 exact⟨hz,its',n',r,e⟩
noncomputable def T4:V->V->V->Hp->(Hp->Prop)->Prop:=λ o i v H Q=>∃p xs k j,o=.ref p/\i=.int k/\H p=some (.lst xs)/\ixN xs.length k=some j/\Q (upd H p (.lst (xs.set j v)))
theorem set_list:UG X T4:=by
 intro pins s σ H o i v ov iv u Q I ro ri rv h
 obtain⟨p,xs,k,j,rfl,rfl,hp,hj,q⟩:=h
 cases ro
 obtain⟨t,rfl⟩:=ri
 obtain⟨its,n,r,ho,hz⟩:=I.lst hp
 obtain⟨h1,h2,h3,h4⟩:=Do hj
 have hl:=r.length
 have hn:=qy
 have I':Inv X pins σ (upd H p (.lst (xs.set j v))) {s with heap:=s.heap.update p (Obj.mapSeq (·.setIfInBounds j u))}:=
  I.lstUpd hp ho (Gq its n j u) (r.set rv j) (by rw[List.length_set];exact hz) s.toks
 by_cases h0:0≤k
 . have hk:k.toNat=j:=by
    rw[seqIndex_of h0 h4]at h1
    exact Option.some.inj h1
   exact PySem.W.ki_setAt ho h0 (by omega) (by rw[x4,←hl];exact h4) (by rw[hk];exact⟨_,I',q⟩)
 . have hk:(k+(its.toArray.size:Int)).toNat=j:=by
    rw[seqIndex_neg (by omega) h3]at h1
    rw[x4,←hl]
    exact Option.some.inj h1
   exact PySem.W.ki_setBack ho (by omega) (by rw[x4,←hl];exact h3) (by omega) (by rw[hk];exact⟨_,I',q⟩)
theorem yS(lo hi:Option Int)(n:Nat):(sliceBounds lo hi none n).1=((HT.sIx n 0 lo:Nat):Int)/\(sliceBounds lo hi none n).2.1=((HT.sIx n n hi:Nat):Int)/\(sliceBounds lo hi none n).2.2=1:=by
 refine⟨?_,?_,rfl⟩
 . cases lo with
   | none=>simp[sliceBounds,HT.sIx]
   | some i=>
     simp only[sliceBounds,HT.sIx,Option.getD_none,show(1:Int)>0 by decide,if_true]
     by_cases h:i<0
     . simp only[h,if_true]<;>omega
     . simp only[h,if_false]<;>omega
 . cases hi with
   | none=>simp[sliceBounds,HT.sIx]
   | some i=>
     simp only[sliceBounds,HT.sIx,Option.getD_none,show(1:Int)>0 by decide,if_true]
     by_cases h:i<0
     . simp only[h,if_true]<;>omega
     . simp only[h,if_false]<;>omega
theorem vz(its:List Value)(lo hi:Option Int):slicePick its.toArray lo hi none=((its.drop (HT.sIx its.length 0 lo)).take (HT.sIx its.length its.length hi-HT.sIx its.length 0 lo)).toArray:=by
 obtain⟨h1,h2,h3⟩:=yS lo hi its.toArray.size
 unfold slicePick
 rw[h1,h2,h3]
 simp only[sliceRange_one,pick_run,x4]<;>rfl
noncomputable def Vl(K:PySem.W.Frag):V->Option Int->Option Int->Hp->VK->Prop:=λ x lo hi H Q=>∃a xs,x=.ref a/\SqL K H a xs/\∀p,H p=none->Q (.ref p) (upd H p (.lst (lu xs lo hi)))
theorem Eg:SlR X (Vl X.K):=by
 intro pins s σ H x v vl vu lo hi sl Q I rx hs pl pu h
 obtain⟨a,xs,rfl,hx,q⟩:=h
 cases rx
 obtain⟨its,r,ht,hz⟩:=I.list hx
 have hlen:=r.length
 refine⟨"list",_,slot_list_getitem.lookup,ht.isList.typeIs,?_⟩
 refine wpAny_getItem_list_slice ht.isList hs pl pu .none (by simp) ?_ (by rw[x4]<;>omega)
 rw[vz,←hlen]
 refine⟨.ref s.heap.objs.size,_,I.laid (t':=s.toks) (o:=.lst (lu xs lo hi)) (λ b ob q=>Heap.get?_push_of_some _ q) (y9 _) ?_,rfl,q _ (I.hok.fresh (y9 _))⟩
 exact⟨Nat.le_trans (nZ xs lo hi) hz,_,0,(r.drop (HT.sIx xs.length 0 lo)).take (HT.sIx xs.length xs.length hi-HT.sIx xs.length 0 lo),Heap.get?_push_size _ rfl⟩
theorem gU:eZ X (.builtin "len") (λ xs H Q=>∃p ys,xs=[.ref p]/\(SqL X.K H p ys∨SqT X.K H p ys)/\Q (.int ys.length) H):=by
 intro pins s σ H xs us Q I r h
 obtain⟨p,ys,rfl,hq,q⟩:=h
 obtain⟨u,rfl,rx⟩:=vals1 r
 cases rx
 have hn:=qy
 rcases hq with hq | hq
 . obtain⟨its,r',pl,hz⟩:=I.list hq
   have hlen:=r'.length
   exact Calls.call_len_list pl.isList (by simp only[x4]<;>omega) ⟨.int ys.length,H,I.tok _,⟨s.toks+1,by rw[x4,hlen]⟩,q⟩
 . obtain⟨its,r',pl,hz⟩:=I.tuple hq
   have hlen:=r'.length
   exact len_tuple pl (by simp only[x4]<;>omega) ⟨.int ys.length,H,I.tok _,⟨s.toks+1,by rw[x4,hlen]⟩,q⟩
theorem mC:eZ X (.type "list") (λ xs H Q=>∃p ys,xs=[.ref p]/\(SqL X.K H p ys∨SqT X.K H p ys)/\∀l,H l=none->Q (.ref l) (upd H l (.lst ys))):=by
 intro pins s σ H xs us Q I r h
 obtain⟨p,ys,rfl,hq,q⟩:=h
 obtain⟨u,rfl,rx⟩:=vals1 r
 cases rx
 have fin:∀(its:List Value),Vals ys its->ys.length≤sizeLine->∀(h':Heap)(c':Nat),(∀b o',s.heap.get? b=some o'->h'.get? b=some o')->
  h'.get? s.heap.objs.size=some {cls:=.type "list",dict:=none,data:=.seq its.toArray c',slots:=#[]}->EP X pins σ Q (.ref s.heap.objs.size) {s with heap:=h'}:=λ its r' hz h' c' kp e=>
  ⟨.ref s.heap.objs.size,_,I.laid (t':=s.toks) kp (y9 _) (show aX X.prog X.w _ h' _ (.lst ys)from⟨hz,its,c',r',e⟩),rfl,q _ (I.hok.fresh (y9 _))⟩
 rcases hq with hq | hq
 . obtain⟨its,r',pl,hz⟩:=I.list hq
   have hlen:=r'.length
   obtain⟨o,ho,hc,n,hd⟩:=pl.isList
   exact call_list_seq p (.inl rfl) ho hc hd (λ h' c' kp e=>fin its r' hz h' c' kp e) (by simp only[x4]<;>omega)
 . obtain⟨its,r',pl,hz⟩:=I.tuple hq
   have hlen:=r'.length
   obtain⟨o,ho,hc,n,hd⟩:=pl
   exact call_list_seq p (.inr rfl) ho hc hd (λ h' c' kp e=>fin its r' hz h' c' kp e) (by simp only[x4]<;>omega)
theorem j4:eZ X (.type "tuple") (λ xs H Q=>∃p ys,xs=[.ref p]/\((SqL X.K H p ys/\∀l,H l=none->Q (.ref l) (upd H l (.tup ys)))∨(SqT X.K H p ys/\Q (.ref p) H))):=by
 intro pins s σ H xs us Q I r h
 obtain⟨p,ys,rfl,h⟩:=h
 obtain⟨u,rfl,rx⟩:=vals1 r
 cases rx
 rcases h with⟨hq,q⟩ | ⟨hq,q⟩
 . obtain⟨its,r',pl,hz⟩:=I.list hq
   have hlen:=r'.length
   refine call_tuple_list pl.isList (λ h' kp=>?_) (by simp only[x4]<;>omega)
   have I1:Inv X pins σ H {s with heap:=h'}:=I.kept (t':=s.toks) kp
   have I2:Inv X pins σ (upd H h'.objs.size (.tup ys)) {s with heap:=h'.push {cls:=.type "tuple",data:=.seq its.toArray}}:=
    I1.laid (t':=s.toks) (λ b o e=>Heap.get?_push_of_some _ e) (y9 _) (show aX X.prog X.w _ _ _ (.tup ys)from⟨hz,its,r',IsTup.new _ _⟩)
   exact⟨.ref h'.objs.size,_,I2,rfl,q _ (I1.hok.fresh (y9 _))⟩
 . obtain⟨its,r',pl,hz⟩:=I.tuple hq
   exact call_tuple_same pl ⟨.ref p,H,I,rfl,q⟩
noncomputable def tyV(K:PySem.W.Frag)(T:String)(x:V)(H:Hp):Prop:=match x with
 | .str _=>T="str"
 | .int _=>T="int"
 | .ref p=>(T="list"/\∃xs,SqL K H p xs)∨(T="tuple"/\∃o,K.lookup p=some o/\o.cls=.type "tuple"/\o.dict=none)∨
  (T="dict"/\((∃kvs,H p=some (.dK kvs))∨∃kvs,H p=some (.dT kvs)))∨(T="set"/\∃S n,H p=some (.set S n))
 | _=>False
theorem QL{pins:List (Addr×Obj)}{σ:St}{H:Hp}{s:Shared}{T:String}{x:V}{v:Value}(I:Inv X pins σ H s)(r:RelV x v)(ty:tyV X.K T x H):
 s.TypeIs v T/\∀a,v=.ref a->∃ob,s.heap.get? a=some ob/\ob.dict=none:=by
 cases x with
 | str z=>
   obtain⟨t,rfl⟩:=r
   cases (show T="str" from ty)
   exact⟨typeIs_str s z t,λ _ e=>nomatch e⟩
 | int i=>
   obtain⟨t,rfl⟩:=r
   cases (show T="int" from ty)
   exact⟨typeIs_int s i t,λ _ e=>nomatch e⟩
 | ref p=>
   cases r
   rcases ty with⟨rfl,xs,hq⟩ | ⟨rfl,o,hk,hc,hd⟩ | ⟨rfl,hk⟩ | ⟨rfl,S,n,hk⟩
   . obtain⟨its,_,pl,_⟩:=I.list hq
     refine⟨pl.isList.typeIs,λ a e=>?_⟩
     cases e
     obtain⟨o,n,e,c,hd,_⟩:=pl
     exact⟨o,e,hd⟩
   . refine⟨⟨o,I.kIn p o hk,hc⟩,λ a e=>?_⟩
     cases e
     exact⟨o,I.kIn _ o hk,hd⟩
   . have z:∃o,s.heap.get? p=some o/\o.ExactDict:=by
      rcases hk with⟨kvs,hk⟩ | ⟨kvs,hk⟩
      . obtain⟨_,_,_,_,o,_,_,e,ex,_⟩:=I.hok p _ hk
        exact⟨o,e,ex⟩
      . obtain⟨_,_,_,_,o,_,_,e,ex,_⟩:=I.hok p _ hk
        exact⟨o,e,ex⟩
     obtain⟨o,e,ex⟩:=z
     refine⟨⟨o,e,ex.1⟩,λ a e2=>?_⟩
     cases e2
     exact⟨o,e,ex.2.1⟩
   . obtain⟨o,_,_,_,e,ex,_⟩:=I.hok p _ hk
     refine⟨⟨o,e,ex.1⟩,λ a e2=>?_⟩
     cases e2
     exact⟨o,e,ex.2.1⟩
 | _=>exact False.elim ty
noncomputable def tBM(K:PySem.W.Frag)(T:String)(r:V->List V->Hp->VK->Prop)(to:TE)(t:TA):TE:=λ σ H Q=>to σ H λ x H1=>tyV K T x H1/\t σ H1 λ xs H2=>r x xs H2 Q
variable {o e : Expr} {es : List Expr} {to : TE} {t : TA} {name : Str} {apos cpos : Pos} {T id : String} {r : V -> List V -> Hp -> VK -> Prop}
theorem FZ(pa:PlainAttrs T)(slot:Slot T name id)(hty:typeOf (.builtin id)=pure (.type "method_descriptor"))(hm:MtR X id r)(ho:PE X o to)(ha:PA X (e::es) t)
 (hbase:attributeBase o name X.env (eval o X.env)=eval o X.env:=by rfl)
 (hfew:((backTo cpos (starEach (e::es) X.env)).all (λ x=>!x.1)&&(backToKw cpos (keywordEach [] X.env)).all (λ x=>x.1.isSome)
  &&decide ((e::es).length+([]:List Keyword).length+(if([]:List Keyword).isEmpty then 0 else 1)<30))=true:=by rfl)
 (hline:(apos.endLine==cpos.line)=true:=by rfl)(hs:starEach (e::es) X.env=(false,eval e X.env)::starEach es X.env:=by rfl)(hplain:(backTo cpos (starEach es X.env)).any (·.1)=false:=by rfl):
 PE X (.Call (.Attribute o name apos) (e::es) [] cpos) (tBM X.K T r to t):=by
 intro pins s σ H Q I h
 refine wpAny_Call_method_late hbase hfew hline rfl (thn (ho pins s σ H _ I h) λ v s1 ⟨x,H1,I1,r1,ty,q1⟩=>?_)
 obtain⟨h1,h2⟩:=QL I1 r1 ty
 refine⟨T,id,pa,slot,hty,h1,h2,?_⟩
 have hA:=ha cpos pins s1 σ H1 _ I1 q1
 rw[hs]at hA ⊢
 refine Calls.callWith_builtin (by show(false||(backTo cpos (starEach es X.env)).any (·.1))=false;rw[hplain]<;>rfl) (Calls.evalArgs_plain ?_)
 exact thn hA λ us s2 ⟨vs,H2,I2,r2,q2⟩=>hm pins s2 σ H2 x vs v us Q I2 r1 r2 q2
end
end L2
namespace L2
open PySem PySem.Spec PyProof.Rows
noncomputable def MtM(X:Cx)(id:String)(r:V->List V->Hp->VK->Prop):Prop:=
 ∀ (pins:List (Addr×Obj))(s:Shared)(σ:St)(H:Hp)(x:V)(xs:List V)(v:Value)(us:List Value)(Q:VK),Inv X pins σ H s->RelV x v->Vals xs us->r x xs H Q->
   wpAny (model X.prog X.w) X.A (call (.builtin id) (v::us)) (EP X pins σ Q) X.xe s
theorem Vals.one:∀{x:V}{us:List Value},Vals [x] us->∃u,us=[u]/\RelV x u
 | _,_,.cons r .nil=>⟨_,rfl,r⟩
theorem Vals.eraseIdx:∀{xs:List V}{us:List Value}(i:Nat),Vals xs us->Vals (xs.eraseIdx i) (us.eraseIdx i)
 | _,_,_,.nil=>.nil
 | _,_,0,.cons _ t=>t
 | _,_,i+1,.cons r t=>.cons r (Vals.eraseIdx i t)
theorem Vals.reverse{xs:List V}{us:List Value}(h:Vals xs us):Vals xs.reverse us.reverse:=by
 induction h with
 | nil=>exact .nil
 | cons r t ih=>rw[List.reverse_cons,List.reverse_cons];exact Vals.append ih (.cons r .nil)
theorem Vals.rep{xs:List V}{us:List Value}(h:Vals xs us):∀k:Nat,Vals (List.replicate k xs).flatten (List.replicate k us).flatten
 | 0=>.nil
 | k+1=>by
   rw[List.replicate_succ,List.replicate_succ,List.flatten_cons,List.flatten_cons]
   exact Vals.append h (Vals.rep h k)
theorem uI{α:Type}:∀(l:List α)(i:Nat),(l.eraseIdx i).length≤l.length
 | [],_=>y9 _
 | _::_,0=>Nat.le_succ _
 | _::r,i+1=>Nat.succ_le_succ (uI r i)
theorem foldl_rep(its:List Value):∀(k:Nat)(acc:List Value),
 List.foldl (λ x1 x2=>x1++x2) acc.toArray (List.replicate k its.toArray)=(acc++(List.replicate k its).flatten).toArray
 | 0,acc=>by simp
 | k+1,acc=>by
   have e:acc.toArray++its.toArray=(acc++its).toArray:=by simp
   have e2:(acc++its)++(List.replicate k its).flatten=acc++(List.replicate (k+1) its).flatten:=by
    rw[List.replicate_succ,List.flatten_cons,List.append_assoc]
   rw[←e2,←foldl_rep its k (acc++its),←e,List.replicate_succ,List.foldl_cons]
section
variable {X : Cx} {pins : List (Addr × Obj)} {σ : St} {H : Hp} {s : Shared} {l b : Addr} {xs ys zs : List V}
theorem Inv.lset{its its':List Value}{n:Nat}{f:Array Value->Array Value}{t':Nat}(I:Inv X pins σ H s)(hH:H l=some (.lst xs))
 (e:s.heap.get? l=some {cls:=.type "list",data:=.seq its.toArray n})(hf:f its.toArray=its'.toArray)(hv:Vals ys its')(hz:ys.length≤sizeLine):
 Inv X pins σ (upd H l (.lst ys)) {s with heap:=s.heap.update l (Obj.mapSeq f),toks:=t'}:=by
 have q:=PySem.IsL.update e f
 rw[hf]at q
 refine I.write (x:=l) (e:=l) (by rw[hH];exact trivial) (.inl rfl) (λ b' u hb hu=>(Heap.get?_update_other s.heap (Obj.mapSeq f) (Ne.symm hb)).trans hu) ⟨_,q⟩ ?_
 exact⟨hz,its',_,hv,q⟩
theorem Inv.lnew{its:List Value}{t':Nat}(I:Inv X pins σ H s)(hv:Vals ys its)(hz:ys.length≤sizeLine):
 Inv X pins σ (upd H s.heap.objs.size (.lst ys)) {s with heap:=s.heap.push {cls:=.type "list",data:=.seq its.toArray},toks:=t'}:=
 I.laid (λ _ _ q=>Heap.get?_push_of_some _ q) (y9 _) ⟨hz,its,0,hv,Heap.get?_push_size _ rfl⟩
theorem Inv.fresh(I:Inv X pins σ H s):H s.heap.objs.size=none:=I.hok.fresh (y9 _)
theorem Inv.lstM(I:Inv X pins σ H s)(hH:H l=some (.lst xs)):xs.length≤sizeLine/\∃(its:List Value) (n:Nat),Vals xs its/\xs.length=its.length/\s.heap.get? l=some {cls:=.type "list",data:=.seq its.toArray n}:=by
 obtain⟨z,its,n,r,e⟩:=I.hok l _ hH
 exact⟨z,its,n,r,r.length,e⟩
end
section
variable {X : Cx}
noncomputable def Qk:V->List V->Hp->VK->Prop:=λ x vs H Q=>∃l xs y,x=.ref l/\vs=[y]/\H l=some (.lst xs)/\xs.length<sizeLine/\Q .non (upd H l (.lst (xs++[y])))
theorem uH:MtM X "list.append" Qk:=by
 intro pins s σ H x vs v us Q I rx rv h
 obtain⟨l,xs,y,rfl,rfl,hH,hz,q⟩:=h
 cases rx
 obtain⟨u,rfl,ru⟩:=rv.one
 obtain⟨z,its,n,r,hl,e⟩:=I.lstM hH
 refine call_meets F.slot_list_append ⟨_,e,rfl⟩ F.entry_list_append (F.args_list_append_2 _ _) (PySem.list_append l its.toArray n u (by rw[x4];omega)) ⟨e,?_⟩
 refine⟨.non,_,I.lset (its':=its++[u]) hH e (by simp) (r.append (.cons ru .nil)) ?_,rfl,q⟩
 rw[x6,List.length_singleton]
 omega
noncomputable def yJ:V->List V->Hp->VK->Prop:=λ x vs H Q=>∃l xs i k y,x=.ref l/\vs=[.int i]/\H l=some (.lst xs)/\ -(2 ^ 63)≤i/\i<2 ^ 63/\seqIndex? i xs.length=some k/\xs[k]? =some y/\Q y (upd H l (.lst (xs.eraseIdx k)))
theorem K3:MtM X "list.pop" yJ:=by
 intro pins s σ H x vs v us Q I rx rv h
 obtain⟨l,xs,i,k,y,rfl,rfl,hH,h1,h2,hk,hy,q⟩:=h
 cases rx
 obtain⟨u,rfl,ru⟩:=rv.one
 obtain⟨t,rfl⟩:=ru
 obtain⟨z,its,n,r,hl,e⟩:=I.lstM hH
 obtain⟨w,hw,rw'⟩:=r.get hy
 refine call_meets F.slot_list_pop ⟨_,e,rfl⟩ F.entry_list_pop (F.args_list_pop_2 _ _)
  (MeetsSeq.list_pop_at l its.toArray n i t k w (fitsIndex_both h1 h2) (by rw[x4,←hl];exact hk) (by rw[←Array.getElem?_toList];exact hw) (by rw[x4];omega)) ⟨e,?_⟩
 refine⟨y,_,I.lset (its':=its.eraseIdx k) hH e ?_ (r.eraseIdx k) ?_,rw',q⟩
 . show its.toArray.eraseIdxIfInBounds k=(its.eraseIdx k).toArray
   rw[List.eraseIdxIfInBounds_toArray]
 . have:=uI xs k
   omega
theorem len_rep{α:Type}(xs:List α)(k:Nat):(List.replicate k xs).flatten.length=k*xs.length:=by
 induction k with
 | zero=>simp
 | succ k ih=>rw[List.replicate_succ,List.flatten_cons,x6,ih,Nat.succ_mul,Nat.add_comm]
end
end L2
namespace Att
open PySem PySem.W PySem.Calls PyProof.Rows
theorem qH{P:Params}{h:Heap}:∀(ns:List Int)(vs:List Value),WellAll P h vs (ns.map WData.int)->IntsAre vs ns:=by
 intro ns
 induction ns with
 | nil=>
   intro vs w
   rw[List.map_nil]at w
   cases w
   exact .nil
 | cons n ns ih=>
   intro vs w
   rw[List.map_cons]at w
   cases w with
   | cons a b=>
     cases a
     exact .cons _ _ (ih _ b)
theorem Js{l:OpenLaw}{n:Nat}(hn:l.most=some n){P:Params}{h:Heap}{args:List WData}{vals:List Value}
 (hpre:l.row.toRowW.claim.pre args=true)(hwl:WellAll P h vals args):
 ∃a vs ns,vals=[Value.ref a]/\args=[WData.list (ns.map WData.int)]/\h.get? a=some {cls:=.type "list",data:=.seq vs.toArray}/\IntsAre vs ns/\ns.length≤n:=by
 have hsh:WShape.hasAll [] args [.list .int]=true:=(pre_splitW hpre).1
 have hc:l.pre.holds [] {args:=args}=true:=(pre_splitW hpre).2
 obtain⟨d,r,rfl,h1,h2⟩:=hasAllW_cons hsh
 obtain rfl:=hasAllW_nil h2
 obtain⟨xs,rfl,h3⟩:=hasW_list h1
 obtain⟨ns,rfl⟩:=items_int h3
 have hlen:ns.length≤n:=by
  unfold OpenLaw.pre at hc
  have h4:(WTm.not (.lt (.lit (.int (n:Int))) (.len (.arg 0)))).holds [] {args:=[.list (ns.map .int)]}=true:=by
   have h4:=(holds_andW hc).1
   rw[hn]at h4
   exact h4
  have h5:=condW_of h4 (w_not (w_lt w_lit (w_len_list (w_arg rfl))))
  rw[y7]at h5
  refine Nat.le_of_not_lt λ q=>?_
  have q':(n:Int)<((ns.length:Nat):Int):=by omega
  first
   | (rw[decide_eq_true q']at h5;exact absurd h5 (by decide))
   | (simp at h5;omega)
 cases hwl with
 | cons w1 w2=>
   cases w2
   cases w1 with
   | list ho hall=>exact⟨_,_,ns,rfl,rfl,ho,qH ns _ hall,hlen⟩
theorem HJ(l:OpenLaw)(args:List WData):l.row.toRowW.claim.post args (.bool true) args=true:=
 postW_of (r:=l.row.toRowW) (X:=(true==true))
  (show WShape.has [] (.bool true) .bool=true by first | rfl | decide | simp[WShape.has,WShape.arms,WShape.armsAll])
  (show(WTm.eq .res (.lit (.bool true))).value [] {args:=args,res:=some (.bool true),after:=args}=some (.bool (true==true))from w_eq_bool (w_res rfl) w_lit) rfl
theorem attach_call{l:OpenLaw}{n:Nat}{q:Program}{loose:List Str}{XP:(Str->Option Value)->Heap->Prop}{YP:World->Heap->Prop}{d:DefRec}
 (hn:l.most=some n)(hdf:d.params.defaults=[])
 (call:∀(w:World)(s₀ s₁:Shared)(mg mb:Str->Option Value)(fa:Addr)(o:Obj)(pm cd doc:Value)(a:Addr)(vs:List Value)(ns:List Int),
  Ground q loose [] XP w s₀ mg mb s₁.heap->YP w s₁.heap->
  s₁.heap.get? fa=some o->o.data=.func (docDef d.name d.params d.body d.scope pm cd doc)->s₁.heap.CodeRec cd d.name->mg d.name=some (.ref fa)->
  s₁.heap.get? a=some {cls:=.type "list",data:=.seq vs.toArray}->IntsAre vs ns->ns.length≤n->s₁.gens=#[]->
  codeAny (model l.prog w) callerA (.call (.ref fa) ⟨[.ref a],[]⟩) (λ r s'=>r=.ok (.ret (.bool true))/\OldK s₁.heap s'.heap/\s'.os=s₁.os/\AllBare s'.gens) s₁):
 WalkO q loose XP YP l.row.toRowW d [] (λ f vs=>PySem.call f vs):=by
 intro w s₀ s₁ mg mb G Y fa o pm cd doc dV kV ho hd hcd hD hmg hg args vals as hpre hlay hrd hwl hlo
 obtain rfl:dV=.none:=Dflts.none hD hdf
 obtain rfl:kV=.none:=Dflts.noKw hD
 obtain⟨a,vs,ns,rfl,rfl,hobj,hints,hlen⟩:=Js hn hpre hwl
 refine enter_call (codeAny_mono (call w s₀ s₁ mg mb fa o pm cd doc a vs ns G Y ho (fd_plain hd) hcd hmg hobj hints hlen hg) λ r s' hq=>?_)
 obtain⟨rfl,h2,h3,h4⟩:=hq
 exact⟨.inl ⟨.bool true,.bool true,[],rfl,λ _=>rfl,.bool true,HJ l _,λ _=>⟨List.Pairwise.nil,λ _ hm=>(nomatch hm)⟩⟩,h2,h3,h4⟩
end Att
namespace L2
open PySem PySem.Spec PyProof.Rows
theorem fC:∀{vs:List Value}{ns:List Int},IntsAre vs ns->Vals (ns.map V.int) vs
 | _,_,.nil=>.nil
 | _,_,.cons n t h=>.cons ⟨t,rfl⟩ (fC h)
noncomputable def Only(H:Hp):Prop:=∀b,H b=none∨∃o xs,H b=some (.frz o (.lst xs))
theorem Ld{P:Program}{w:World}{K:PySem.W.Frag}{mg mb:Str->Option Value}{CX:CXT}{k:Nat}{fa a:Addr}{fd:FuncData}{x:Str}{sp:Sp}{s₁:Shared}{vs:List Value}{ns:List Int}
 (KX:K.In s₁.heap)(hns:s₁.heap.Ns mainGlobals mg)(hb:s₁.heap.Ns builtinsNs mb)(hbb:∀x:Str,x≠"__name__"->mb x=bootBuiltins x)(hlim:s₁.heap.NoLimit)(hg:s₁.gens=#[])
 (ha:s₁.heap.get? a=some {cls:=.type "list",data:=.seq vs.toArray})(hi:IntsAre vs ns)(hl:ns.length≤sizeLine)(hr:Room k callerA)
 (F:∀base:Heap,K.In base->base.Ns mainGlobals mg->FnOk P w K mg base CX k fa fd [x] sp)(hbind:∀(s:Shared)(u:Value),BindsTo s fd ⟨[u],[]⟩ [(x,u)])
 (hsp:∀H:Hp,Only H->SqL K H a (ns.map V.int)->sp [.ref a] H (λ v _=>v=.bl true) λ _ _ _=>False)
 (hCX:∀H e s',CX [] H s₁ (λ _ _ _=>False) e s'->False):
 codeAny (model P w) callerA (.call (.ref fa) ⟨[.ref a],[]⟩) (λ r s'=>r=.ok (.ret (.bool true))/\OldK s₁.heap s'.heap/\s'.os=s₁.os/\AllBare s'.gens) s₁:=by
 have rv:=fC hi
 have lenV:=hi.length
 have core:∀H:Hp,Only H->SqL K H a (ns.map V.int)->HOk P w H s₁.heap->(∀b,H b≠none->b=a)->(H a≠none->K.lookup a=none)->
  codeAny (model P w) callerA (.call (.ref fa) ⟨[.ref a],[]⟩) (λ r s'=>r=.ok (.ret (.bool true))/\OldK s₁.heap s'.heap/\s'.os=s₁.os/\AllBare s'.gens) s₁:=by
  intro H hO hS hok hA hK
  have base_of:∀{b:Addr}{o:Obj},s₁.heap.get? b=some o->H b=none->(jR s₁.heap H).get? b=some o:=λ e n=>KN e n
  have noA:∀{b:Addr}{o:Obj}{es:Array DictEntry}{ep:Nat},s₁.heap.get? b=some o->o.data=.dict es ep->H b=none:=λ{b o es ep} e d=>by
   cases q:H b with
   | none=>rfl
   | some u=>
     have e':b=a:=hA b (by rw[q];simp)
     subst e'
     rw[ha]at e;cases e
     have d':Data.seq vs.toArray _=Data.dict es ep:=d
     cases d'
  have nsK:∀{b:Addr}{m:Str->Option Value},s₁.heap.Ns b m->(jR s₁.heap H).Ns b m:=λ{b m} ⟨o,es,ep,e,d,r⟩=>⟨o,es,ep,base_of e (noA e d),d,r⟩
  have hKb:K.In (jR s₁.heap H):=λ b o e=>base_of (KX b o e) (by
   cases q:H b with
   | none=>rfl
   | some u=>
     have e':b=a:=hA b (by rw[q];simp)
     subst e'
     rw[hK (by rw[q];simp)]at e;cases e)
  have hM:Mod K mg (jR s₁.heap H):=⟨hKb,nsK hns,⟨mb,nsK hb,hbb⟩,let ⟨mc,h1,h2⟩:=hlim;⟨mc,nsK h1,h2⟩⟩
  have e0:Env0 P w K mg (jR s₁.heap H) callerA [] s₁ H:=⟨rfl,hM,λ b o e=>Py e,Nat.le_of_eq (HR _ _),trivial,λ b hb=>absurd (show b∈([]:List Addr)from hb) (by simp),hok,.of_eq hg⟩
  refine codeAny_mono ((F _ hKb (nsK hns)).run callerA [] s₁ H ⟨[.ref a],[]⟩ [.ref a] [.ref a] _ _ hr e0 (hbind s₁ (.ref a)) (.cons rfl .nil) (hsp H hO hS)) λ r s' h=>?_
  cases r with
  | error e=>exact(hCX H e s' h).elim
  | ok fl =>
    cases fl with
    | next=>exact False.elim h
    | brk=>exact False.elim h
    | cont=>exact False.elim h
    | ret u=>
      obtain⟨v,H',os,bare,un,hok',r',q⟩:=h
      have q':v=.bl true:=q
      subst q'
      obtain rfl:u=Value.bool true:=r'
      refine⟨rfl,OldK.of_keep λ b o e=>?_,os,bare⟩
      cases q:H b with
      | none=>exact un.keep b o e q (by intro z;exact absurd (show b∈([]:List Addr)from z) (by simp)) (by simp)
      | some u=>
        rcases hO b with z | ⟨ob,xs,z⟩
        . rw[q]at z;cases z
        . have z2:=un.frzs b ob _ z
          obtain⟨e1,_⟩:=hok b _ z
          obtain⟨e2,_⟩:=hok' b _ z2
          rw[e]at e1;cases e1
          exact e2
 cases hk:K.lookup a with
 | some o=>
   have e:=KX a o hk
   rw[ha]at e
   cases e
   refine core (λ _=>none) (λ _=>.inl rfl) (.inr ⟨_,vs.toArray,_,hk,rfl,rfl,rfl,by rw[x4,lenV];exact hl,by simpa using rv⟩) (λ b u z=>by have z':(none:Option HO)=some u:=z;cases z') (λ b z=>absurd rfl z) λ z=>absurd rfl z
 | none=>
   refine core (λ b=>if b=a then some (.frz {cls:=.type "list",data:=.seq vs.toArray} (.lst (ns.map V.int)))else none) (λ b=>?_) (.inl (.inr ⟨{cls:=.type "list",data:=.seq vs.toArray},if_pos rfl⟩)) (λ b u z=>?_) (λ b z=>?_) λ _=>hk
   . by_cases hb:b=a
     . exact .inr ⟨_,_,if_pos hb⟩
     . exact .inl (if_neg hb)
   . by_cases hb:b=a
     . have z':=(if_pos hb).symm.trans z
       cases z'
       subst hb
       exact⟨ha,by rw[y7];exact hl,vs,_,rv,ha⟩
     . have z':=(if_neg hb).symm.trans z
       cases z'
   . by_cases hb:b=a
     . exact hb
     . exact absurd (if_neg hb) z
end L2
namespace L2
open PySem PySem.Spec PyProof.Rows
noncomputable abbrev KOf{K:PySem.W.Frag}{h:Heap}(_:K.In h):PySem.W.Frag:=K
theorem walk_of{l:PySem.W.OpenLaw}{n k:Nat}{q:Program}{loose:List Str}{XP:(Str->Option Value)->Heap->Prop}{YP:World->Heap->Prop}{d:DefRec}{K:Params->PySem.W.Frag}{CX:World->CXT}{sp:World->Sp}{x:Str}
 (hn:l.most=some n)(hn2:n≤sizeLine)(hdf:d.params.defaults=[])(hr:Room k callerA)
 (hY:∀(w:World)(h:Heap),YP w h->(K w.params).In h)
 (F :∀(w:World)(mg:Str->Option Value)(fa:Addr)(h:Heap),(K w.params).In h->h.Ns mainGlobals mg->mg d.name=some (.ref fa)->
  ∃ fd:FuncData,(∀(s:Shared)(u:Value),BindsTo s fd ⟨[u],[]⟩ [(x,u)])/\
    ∀base:Heap,(K w.params).In base->base.Ns mainGlobals mg->FnOk l.prog w (K w.params) mg base (CX w) k fa fd [x] (sp w))
 (hsp:∀(w:World)(H:Hp)(a:Addr)(ns:List Int),ns.length≤n->Only H->SqL (K w.params) H a (ns.map V.int)->sp w [.ref a] H (λ v _=>v=.bl true) λ _ _ _=>False)
 (hCX:∀(w:World)(H:Hp)(s:Shared)(e:Value)(s':Shared),CX w [] H s (λ _ _ _=>False) e s'->False):
 PySem.W.WalkO q loose XP YP l.row.toRowW d [] (λ f vs=>PySem.call f vs):=by
 refine Att.attach_call hn hdf λ w s₀ s₁ mg mb fa o pm cd doc a vs ns G Y ho hd hcd hmg hobj hints hlen hg=>?_
 have KX:=hY w _ Y
 obtain⟨fd,hb,hF⟩:=F w mg fa _ KX G.T.g hmg
 exact Ld KX G.T.g G.T.b G.T.builtins G.T.nolimit hg hobj hints (Nat.le_trans hlen hn2) hr hF hb (λ H hO hS=>hsp w H a ns hlen hO hS) λ H e s'=>hCX w H s₁ e s'
end L2
namespace L2
open PySem PySem.Spec PyProof.Rows
noncomputable def eY(s:Stmt):Arguments:=match s with
 | .FunctionDef _ a _ _ _ _ _ _ _ _=>a
 | _=>{posonlyargs:=[],args:=[],vararg:=none,kwonlyargs:=[],kw_defaults:=[],kwarg:=none,defaults:=[]}
noncomputable def cj(s:Stmt):List Stmt:=match s with
 | .FunctionDef _ _ b _ _ _ _ _ _ _=>b
 | _=>[]
noncomputable def aL(s:Stmt):Scope:=match s with
 | .FunctionDef _ _ _ _ _ _ sc _ _ _=>sc
 | _=>{kind:=.function,names:=[],isGenerator:=false,isCoroutine:=false}
noncomputable abbrev CX0:CXT:=λ _ _ _ _ _ _=>False
noncomputable abbrev E0:XK:=λ _ _ _=>False
theorem Ug{X:Cx}:JQ CX0 X E0:=λ _ _ _ _ _ _ _ h=>h.elim
structure Fun(K:PySem.W.Frag)(x qual:Str)(st:Stmt)(f:Addr)(fd:FuncData):Prop where
 ex:∃(oc:Value) (od:Option Addr) (kV doc pm:Value) (an:Option Addr) (cdv ct:Value) (osl:Array (Option Value)),
  fd=PySem.W.fnOf x qual (eY st) (cj st) (aL st) .none kV doc pm an cdv ct/\K.lookup f=some ⟨oc,od,.func fd,osl⟩/\PySem.W.codeIn K cdv qual=true
 kp:PySem.W.keepIn K (.ref f)=true
section
variable {P : Program} {w : World} {K : PySem.W.Frag} {mg : Str -> Option Value} {base : Heap}
theorem Fun.ok{x qual:Str}{st:Stmt}{f:Addr}{fd:FuncData}{N ps:List Str}{k:Nat}{sp:Sp}(F:Fun K x qual st f fd)(S:FnScope N ps (aL st))(len:∀vs H Q E,sp vs H Q E->vs.length=ps.length)
 (hbody:∀(cdv:Value)(A:Around)(outer:List Env)(s:Shared)(H:Hp)(vs:List V)(Q:VK)(E:XK),Room k (A.deeper (envOfC qual (aL st) s.heap.objs.size f cdv))->sp vs H Q E->
  ∃t,PSs (lA CX0 P w K mg base N qual (aL st) f cdv A outer s H E).nox (cj st) t/\t {nx:=λ _ H'=>Q .non H',rt:=Q} (start N vs) H):FnOk P w K mg base CX0 (k+1) f fd ps sp:=by
 obtain⟨oc,od,kV,doc,pm,an,cdv,ct,osl,rfl,lk,hcd⟩:=F.ex
 refine SQ lk hcd S len λ A outer s H vs Q E hr hsp=>?_
 obtain⟨t,h,q⟩:=hbody cdv A outer s H vs Q E hr hsp
 exact⟨t,h.nox,q⟩
theorem Fun.binds{x qual:Str}{st:Stmt}{f:Addr}{fd:FuncData}{ps:List Str}(F:Fun K x qual st f fd)
 (h:∀(kV doc pm:Value)(an:Option Addr)(cdv ct:Value)(us:List Value),us.length=ps.length->bindArgs (PySem.W.fnOf x qual (eY st) (cj st) (aL st) .none kV doc pm an cdv ct) ⟨us,[]⟩=pure (ps.zip us)):Binds K fd ps []:=by
 obtain⟨oc,od,kV,doc,pm,an,cdv,ct,osl,rfl,lk,hcd⟩:=F.ex
 exact .all (h kV doc pm an cdv ct)
theorem GX{x qual:Str}{st:Stmt}{f:Addr}{oc:Value}{od an:Option Addr}{osl:Array (Option Value)}{kV doc pm cdv ct:Value}(l:K.lookup f=some ⟨oc,od,.func (PySem.W.fnOf x qual (eY st) (cj st) (aL st) .none kV doc pm an cdv ct),osl⟩)
 (c:PySem.W.codeIn K cdv qual=true)(k:PySem.W.keepIn K (.ref f)=true):Fun K x qual st f (PySem.W.fnOf x qual (eY st) (cj st) (aL st) .none kV doc pm an cdv ct):=⟨⟨oc,od,kV,doc,pm,an,cdv,ct,osl,rfl,l,c⟩,k⟩
end
noncomputable def dD(H H':Hp):Prop:=∀b o,H b=some o->H' b=some o
theorem dD.refl(H:Hp):dD H H:=λ _ _ h=>h
end L2
namespace L2
open PySem PySem.Spec PyProof.Rows
section
variable {κ : Type} [DecidableEq κ]
noncomputable def dW(kvs:List (κ×V))(k:κ):Option V:=(kvs.find? λ kv=>decide (kv.1=k)).map (·.2)
noncomputable def putK(kvs:List (κ×V))(k:κ)(v:V):List (κ×V):=
 if(kvs.any λ kv=>decide (kv.1=k))=true then kvs.map (λ kv=>if kv.1=k then(kv.1,v)else kv)else kvs++[(k,v)]
theorem jB{p:κ×V}{r:List (κ×V)}{k:κ}(e:p.1=k):dW (p::r) k=some p.2:=by simp[dW,List.find?_cons,e]
theorem jV{p:κ×V}{r:List (κ×V)}{k:κ}(e:¬p.1=k):dW (p::r) k=dW r k:=by simp[dW,List.find?_cons,e]
theorem zf(k:κ):∀kvs:List (κ×V),(kvs.any λ kv=>decide (kv.1=k))=(dW kvs k).isSome
 | []=>rfl
 | p::r=>by
   rw[List.any_cons]
   by_cases e:p.1=k
   . simp only[jB e,decide_eq_true e,Bool.true_or,Option.isSome_some]
   . rw[jV e,decide_eq_false e,Bool.false_or];exact zf k r
theorem ou(kvs:List (κ×V))(k:κ)(v:V):(putK kvs k v).length≤kvs.length+1:=by
 unfold putK
 split
 . rw[y7];omega
 . rw[x6,List.length_cons,List.length_nil];omega
theorem tD.isSome_eq{o:Option V}{u:Option Value}(r:tD o u):o.isSome=u.isSome:=by
 cases o with
 | none=>cases u with
   | none=>rfl
   | some _=>exact(show False from r).elim
 | some _=>cases u with
   | none=>exact(show False from r).elim
   | some _=>rfl
theorem KV.val{kvs:List (κ×V)}{vs:List (κ×Value)}(r:KV kvs vs)(k:κ):tD (dW kvs k) (valueAt vs k):=by
 unfold KV at r
 induction r with
 | nil=>exact True.intro
 | @cons p q ps qs h t ih=>
   obtain⟨h1,h2⟩:=h
   by_cases e:p.1=k
   . have e':q.1=k:=h1.symm.trans e
     have b:valueAt (q::qs) k=some q.2:=by simp[valueAt,List.find?_cons,e']
     rw[jB e,b];exact h2
   . have e':¬q.1=k:=λ z=>e (h1.trans z)
     have b:valueAt (q::qs) k=valueAt qs k:=by simp[valueAt,List.find?_cons,e']
     rw[jV e,b];exact ih
theorem KV.any{kvs:List (κ×V)}{vs:List (κ×Value)}(r:KV kvs vs)(k:κ):(kvs.any λ kv=>decide (kv.1=k))=vs.any λ kv=>decide (kv.1=k):=by
 unfold KV at r
 induction r with
 | nil=>rfl
 | cons h t ih=>rw[List.any_cons,List.any_cons,ih,h.1]
theorem KV.repl{kvs:List (κ×V)}{vs:List (κ×Value)}(r:KV kvs vs)(k:κ){y:V}{u:Value}(ry:RelV y u):
 KV (kvs.map λ kv=>if kv.1=k then(kv.1,y)else kv) (vs.map λ kv=>if kv.1=k then(kv.1,u)else kv):=by
 unfold KV at r ⊢
 induction r with
 | nil=>exact .nil
 | @cons p q ps qs h t ih=>
   rw[List.map_cons,List.map_cons]
   refine .cons ?_ ih
   obtain⟨h1,h2⟩:=h
   by_cases e:p.1=k
   . rw[if_pos e,if_pos (h1.symm.trans e)];exact⟨h1,ry⟩
   . rw[if_neg e,if_neg (λ z=>e (h1.trans z))];exact⟨h1,h2⟩
theorem KV.put{kvs:List (κ×V)}{vs:List (κ×Value)}(r:KV kvs vs)(k:κ){y:V}{u:Value}(ry:RelV y u):KV (putK kvs k y) (stored vs k u):=by
 unfold putK stored
 rw[r.any k]
 by_cases e:(vs.any λ kv=>decide (kv.1=k))=true
 . rw[if_pos e,if_pos e];exact r.repl k ry
 . rw[if_neg e,if_neg e];exact Paired.snoc r ⟨rfl,ry⟩
theorem KV.length{kvs:List (κ×V)}{vs:List (κ×Value)}(r:KV kvs vs):kvs.length=vs.length:=Paired.length r
end
theorem v7{P:Program}{w:World}{k:Key}{u:Value}(r:RelV (kV k) u):(aY P w).is k u=true:=by
 cases k with
 | inl i=>obtain⟨t,e⟩:=(show ∃t,u=Value.int i t from r);subst e;exact Bq P w i t
 | inr x=>obtain⟨t,e⟩:=(show ∃t,u=Value.str x t from r);subst e;exact Ba P w x t
theorem um{P:Program}{w:World}:∀{ks:List Key}{us:List Value},Vals (ks.map kV) us->ItemsAre (aY P w) ks us
 | [],_,r=>by rw[List.map_nil]at r;cases r;exact .nil
 | k::ks,_,r=>by
   rw[List.map_cons]at r
   cases r with
   | cons h t=>exact .cons (v7 h) (um t)
noncomputable abbrev KT(H:Hp):List (List Key×V)->List (List Key×Addr×Value)->Prop:=Paired λ p q=>p.1=q.1/\H q.2.1=some (.tup (p.1.map kV))/\RelV p.2 q.2.2
theorem KT.val{H:Hp}{kvs:List (List Key×V)}{xs:List (List Key×Addr×Value)}(r:KT H kvs xs)(k:List Key):tD (dW kvs k) ((atKey xs k).map (·.2)):=by
 induction r with
 | nil=>exact True.intro
 | @cons p q ps qs h t ih=>
   obtain⟨h1,_,h2⟩:=h
   by_cases e:p.1=k
   . have e':q.1=k:=h1.symm.trans e
     have b:atKey (q::qs) k=some q.2:=by simp[atKey,List.find?_cons,e']
     rw[jB e,b];exact h2
   . have e':¬q.1=k:=λ z=>e (h1.trans z)
     have b:atKey (q::qs) k=atKey qs k:=by simp[atKey,List.find?_cons,e']
     rw[jV e,b];exact ih
theorem KT.repl{H:Hp}{kvs:List (List Key×V)}{xs:List (List Key×Addr×Value)}(r:KT H kvs xs)(k:List Key){y:V}{u:Value}(ry:RelV y u):
 KT H (kvs.map λ kv=>if kv.1=k then(kv.1,y)else kv) (xs.map (putAt k u)):=by
 induction r with
 | nil=>exact .nil
 | @cons p q ps qs h t ih=>
   rw[List.map_cons,List.map_cons]
   refine .cons ?_ ih
   obtain⟨h1,h2,h3⟩:=h
   unfold putAt
   by_cases e:p.1=k
   . rw[if_pos e,if_pos (h1.symm.trans e)];exact⟨h1,h2,ry⟩
   . rw[if_neg e,if_neg (λ z=>e (h1.trans z))];exact⟨h1,h2,h3⟩
theorem KT.put{H:Hp}{kvs:List (List Key×V)}{xs:List (List Key×Addr×Value)}(r:KT H kvs xs)(k:List Key){b:Addr}{y:V}{u:Value}(hb:H b=some (.tup (k.map kV)))(ry:RelV y u):
 KT H (putK kvs k y) (storedH xs k b u):=by
 have e:(kvs.any λ kv=>decide (kv.1=k))=(atKey xs k).isSome:=by
  rw[zf,(r.val k).isSome_eq,Option.isSome_map]
 unfold putK storedH
 rw[e]
 by_cases q:(atKey xs k).isSome=true
 . rw[if_pos q,if_pos q];exact r.repl k ry
 . rw[if_neg q,if_neg q];exact Paired.snoc r ⟨rfl,hb,ry⟩
theorem KT.keeps{H H':Hp}{kvs:List (List Key×V)}{xs:List (List Key×Addr×Value)}(r:KT H kvs xs)(ht:∀b ys,H b=some (.tup ys)->H' b=some (.tup ys)):KT H' kvs xs:=
 Paired.mapP r λ _ _ z=>⟨z.1,ht _ _ z.2.1,z.2.2⟩
section
variable {P : Program} {w : World} {H : Hp} {h : Heap} {a : Addr}
theorem Np{u:HO}(ok:HOk P w H h)(e:Rd H a u):aX P w H h a u:=e.ok ok
theorem Gs{kvs:List (Key×V)}(ok:HOk P w H h)(e:Rd H a (.dK kvs)):kvs.length≤sizeLine/\(a==sysModules)=false/\∃vs,KV kvs vs/\h.DictOf (aY P w) a vs:=
 show aX P w H h a (.dK kvs)from Np ok e
theorem TX{kvs:List (Key×V)}(ok:HOk P w H h)(e:H a=some (.dK kvs)):kvs.length≤sizeLine/\(a==sysModules)=false/\∃vs,KV kvs vs/\h.DictOf (aY P w) a vs:=Gs ok (.inl e)
theorem qI{ks:List Key}(ok:HOk P w H h)(e:H a=some (.tup (ks.map kV))):(tupleKind (aY P w)).is h ks a:=by
 obtain⟨_,its,r,o,h1,h2,n,h3⟩:=(show aX P w H h a (.tup (ks.map kV))from ok a _ e)
 exact⟨o,its.toArray,n,h1,h2,h3,by simpa using um r⟩
theorem Em{kvs:List (List Key×V)}(ok:HOk P w H h)(e:Rd H a (.dT kvs)):kvs.length≤sizeLine/\(a==sysModules)=false/\
 ∃xs,KT H kvs xs/\h.DictOfH (tupleKind (aY P w)) a xs:=by
 obtain⟨z,y,xs,r,o,es,ep,h1,h2,h3,h4,h5⟩:=(show aX P w H h a (.dT kvs)from Np ok e)
 refine⟨z,y,xs,r,o,es,ep,h1,h2,h3,h4,λ x hx=>?_,h5⟩
 have all:∀{l:List (List Key×V)}{m:List (List Key×Addr×Value)},KT H l m->∀x∈m,(tupleKind (aY P w)).is h x.1 x.2.1:=by
  intro l m q
  induction q with
  | nil=>intro x hx;exact nomatch hx
  | @cons p q ps qs hq t ih=>
    intro x hx
    rcases List.mem_cons.mp hx with e | hx
    . subst e
      exact qI ok (by rw[←hq.1];exact hq.2.1)
    . exact ih x hx
 exact all r x hx
theorem SJ{kvs:List (List Key×V)}(ok:HOk P w H h)(e:H a=some (.dT kvs)):kvs.length≤sizeLine/\(a==sysModules)=false/\
 ∃xs,KT H kvs xs/\h.DictOfH (tupleKind (aY P w)) a xs:=Em ok (.inl e)
end
noncomputable def rP(H:Hp)(a:Addr)(y:V)(r:Option V):Prop:=
 (∃kvs k,Rd H a (.dK kvs)/\y=kV k/\r=dW kvs k)∨∃kvs k b,Rd H a (.dT kvs)/\y=.ref b/\H b=some (.tup (k.map kV))/\r=dW kvs k
noncomputable def yF(H:Hp)(a:Addr)(y v:V)(H':Hp):Prop:=
 (∃kvs k,H a=some (.dK kvs)/\y=kV k/\kvs.length<sizeLine/\H'=upd H a (.dK (putK kvs k v)))∨
 ∃kvs k b,H a=some (.dT kvs)/\y=.ref b/\H b=some (.tup (k.map kV))/\kvs.length<sizeLine/\H'=upd H a (.dT (putK kvs k v))
theorem rP.t{H:Hp}{a b:Addr}{kvs:List (List Key×V)}{k:List Key}(e:H a=some (.dT kvs))(eb:H b=some (.tup (k.map kV))):rP H a (.ref b) (dW kvs k):=.inr ⟨kvs,k,b,.inl e,rfl,eb,rfl⟩
theorem yF.t{H:Hp}{a b:Addr}{kvs:List (List Key×V)}{k:List Key}{v:V}(e:H a=some (.dT kvs))(eb:H b=some (.tup (k.map kV)))(hl:kvs.length<sizeLine):
 yF H a (.ref b) v (upd H a (.dT (putK kvs k v))):=.inr ⟨kvs,k,b,e,rfl,eb,hl,rfl⟩
section
variable {X : Cx} {pins : List (Addr × Obj)} {σ : St} {H : Hp} {s : Shared} {a : Addr} {y v : V} {u r : Value} {o : Option V} {A : Around} {E : Value -> Shared -> Prop}
theorem Inv.big(I:Inv X pins σ H s):sysModules<s.heap.objs.size:=by
 have h:mainGlobals<s.heap.objs.size:=(I.mod.glob.keeps I.bk).lt
 exact Nat.lt_trans (by decide) h
theorem UL{Q:Value->Shared->Prop}(hu:A.units+1<cLine)(I:Inv X pins σ H s)(g:rP H a y o)(ry:RelV y u)(h:∀s',Inv X pins σ H s'->Q (.bool o.isSome) s'):
 wpAny (model X.prog X.w) A (compareOp .In u (.ref a)) Q E s:=by
 rcases g with⟨kvs,k,e,ey,l⟩ | ⟨kvs,k,b,e,ey,eb,l⟩
 . subst ey
   obtain⟨z,hd,vs,rel,dd⟩:=Gs I.hok e
   refine wpAny_in_of (v7 ry) hd dd.mapOf ?_
   rw[←(rel.val k).isSome_eq,←l]
   exact h _ (I.tok _)
 . subst ey
   cases (show u=Value.ref b from ry)
   obtain⟨z,hd,xs,rel,dd⟩:=Em I.hok e
   refine wpAny_in_heap (tupleKind_room_in1 hu) (qI I.hok eb) hd dd ?_
   have q:=(rel.val k).isSome_eq
   rw[Option.isSome_map]at q
   rw[←q,←l]
   exact h _ (I.tok _)
theorem Oo{Q:Value->Shared->Prop}(hu:A.units+1<cLine)(I:Inv X pins σ H s)(g:rP H a y o)(ry:RelV y u)(h:∀s',Inv X pins σ H s'->Q (.bool (!o.isSome)) s'):
 wpAny (model X.prog X.w) A (compareOp .NotIn u (.ref a)) Q E s:=by
 rcases g with⟨kvs,k,e,ey,l⟩ | ⟨kvs,k,b,e,ey,eb,l⟩
 . subst ey
   obtain⟨z,hd,vs,rel,dd⟩:=Gs I.hok e
   refine wpAny_notIn_of (v7 ry) hd dd.mapOf ?_
   rw[←(rel.val k).isSome_eq,←l]
   exact h _ (I.tok _)
 . subst ey
   cases (show u=Value.ref b from ry)
   obtain⟨z,hd,xs,rel,dd⟩:=Em I.hok e
   refine wpAny_notIn_heap (tupleKind_room_in1 hu) (qI I.hok eb) hd dd ?_
   have q:=(rel.val k).isSome_eq
   rw[Option.isSome_map]at q
   rw[←q,←l]
   exact h _ (I.tok _)
theorem Cu{h':Heap}{t':Nat}{ob:HO}(I:Inv X pins σ H s)(mu:Mut (H a))(hs:Heap.SameBut a s.heap h')(he:∃q,h'.get? a=some q)(new:aX X.prog X.w (upd H a ob) h' a ob):
 Inv X pins σ (upd H a ob) {s with heap:=h',toks:=t'}:=
 I.write (x:=a) (e:=a) mu (.inl rfl) (λ b q hb z=>(hs.2 b hb).trans z) he new
theorem RK{P:Program}{w:World}{H':Hp}{h':Heap}{kvs:List (Key×V)}{vs:List (Key×Value)}(z:kvs.length≤sizeLine)(hd:(a==sysModules)=false)(rel:KV kvs vs)(dd:h'.DictOf (aY P w) a vs):
 aX P w H' h' a (.dK kvs):=⟨z,hd,vs,rel,dd⟩
theorem JD{H':Hp}{Q:Unit->Shared->Prop}(hu:A.units+1<cLine)(I:Inv X pins σ H s)(g:yF H a y v H')(ry:RelV y u)(rv:RelV v r)(h:∀s',Inv X pins σ H' s'->Q () s'):
 wpAny (model X.prog X.w) A (setItem (.ref a) u r) Q E s:=by
 rcases g with⟨kvs,k,e,ey,l,eH⟩ | ⟨kvs,k,b,e,ey,eb,l,eH⟩
 . subst ey eH
   obtain⟨z,hd,vs,rel,dd⟩:=TX I.hok e
   have hz:vs.length≤sizeLine:=by rw[←rel.length];exact z
   have hl:(putK kvs k v).length≤sizeLine:=by have:=ou kvs k v;omega
   refine wpAny_setItem_pairs (hsz:=hz) (v7 ry) dd λ h' dd' hs=>h _ ?_
   have he:∃q,h'.get? a=some q:=let ⟨q,_,_,hq,_⟩:=dd';⟨q,hq⟩
   exact Cu I (by rw[e];exact True.intro) hs he (RK hl hd (rel.put k rv) dd')
 . subst ey eH
   cases (show u=Value.ref b from ry)
   obtain⟨z,hd,xs,rel,dd⟩:=SJ I.hok e
   have hz:xs.length≤sizeLine:=by rw[←Paired.length rel];exact z
   have hl:(putK kvs k v).length≤sizeLine:=by have:=ou kvs k v;omega
   refine wpAny_setItem_heap (hsz:=hz) (tupleKind_room_in1 hu) (qI I.hok eb) dd λ h' dd' hs=>h _ ?_
   obtain⟨q,es,ep,hq,h2,h3,h4,_,h5⟩:=dd'
   refine Cu I (by rw[e];exact True.intro) hs ⟨q,hq⟩ ⟨hl,hd,_,(rel.put k eb rv).keeps λ c ys ec=>?_,q,es,ep,hq,h2,h3,h4,h5⟩
   rw[aq (Ut ec e (λ z=>nomatch z))]
   exact ec
end
noncomputable def Uz(td ty tv:TE):TS:=λ D σ H=>tv σ H λ v H1=>td σ H1 λ x H2=>ty σ H2 λ y H3=>∃a H4,x=.ref a/\yF H3 a y v H4/\D.nx σ H4
section
variable {X : Cx} {o i e value : Expr} {pos pos' tpos : Pos} {td ty tv : TE}
theorem NT(hu:X.A.units+1<cLine)(ho:PE X o td)(hi:PE X i ty)(hv:PE X value tv)(hs:swapsWith value (some (.Subscript o i pos')) pos.line X.env=pure false):
 PS X (.Assign [.Subscript o i pos'] value pos) (Uz td ty tv):=by
 intro pins s σ H D I h
 refine wpAny_Assign_Subscript (thn (hv pins s σ H _ I h) λ r s1 ⟨v,H1,I1,rv,q1⟩=>thn (ho pins s1 σ H1 _ I1 q1) λ u s2 ⟨x,H2,I2,rx,q2⟩=>thn (hi pins s2 σ H2 _ I2 q2) λ iv s3 ⟨y,H3,I3,ry,a,H4,ex,g,q3⟩=>?_) hs
 subst ex
 obtain rfl:u=Value.ref a:=rx
 exact JD hu I3 g ry rv λ s4 I4=>⟨σ,H4,I4,q3⟩
end
theorem Lq{P:Program}{w:World}{H:Hp}(h:Heap)(hb:sysModules<h.objs.size):aX P w H (h.push {cls:=.type "dict",data:=.dict #[]}) h.objs.size (.dT []):=
 ⟨Nat.zero_le _,beq_eq_false_iff_ne.mpr (Ne.symm (w9 hb)),[],.nil,_,#[],0,Heap.get?_push_size _ rfl,⟨rfl,rfl,rfl⟩,rfl,rfl,List.nodup_nil⟩
noncomputable def Qm:TE:=λ _ H Q=>∀p,H p=none->Q (.ref p) (upd H p (.dT []))
section
variable {X : Cx} {pos : Pos}
theorem Mj:PE X (.Dict [] [] pos) Qm:=λ pins s σ H Q I h=>
 wpAny_Dict_empty ⟨.ref s.heap.objs.size,_,I.laid (a:=s.heap.objs.size) (o:=.dT []) (t':=s.toks) (λ _ _ q=>Heap.get?_push_of_some _ q) (y9 _) (Lq s.heap I.big),rfl,h _ (I.hok.fresh (y9 _))⟩
end
end L2
set_option maxHeartbeats 4000000
namespace DL
open PySem PySem.Spec L2
open PyProof.Rows
variable {a p : Addr} {K : PySem.W.Frag} {O O' : Own} {H H' : Hp} {xs : List V} {S : Store}
noncomputable abbrev St:=L2.St
inductive D where
 | non | bl(b:Bool) | int(i:Int) | str(x:Str) | tup(ds:List D) | lst(ds:List D) | loc(k:Nat) | dic | dlo(k:Nat)
noncomputable abbrev Store:=List (List D)
noncomputable abbrev Gam:=List (Option D)
structure Own where
 A:List (Addr×Bool)
 B:List Addr
noncomputable abbrev adr(A:List (Addr×Bool)):List Addr:=A.map Prod.fst
theorem bH{A:List (Addr×Bool)}{k:Nat}{q:Bool}(h:A[k]? =some (a,q)):a∈adr A:=List.mem_map.mpr ⟨_,y4 h,rfl⟩
theorem bN(A N:List (Addr×Bool)):adr (A++N)=adr A++adr N:=v3
noncomputable abbrev Own.has(O:Own)(a:Addr):Prop:=a∈adr O.A∨a∈O.B
noncomputable def Tp(K:PySem.W.Frag)(O:Own)(H:Hp)(a:Addr)(xs:List V):Prop:=¬O.has a/\H a=some (.tup xs)
noncomputable def Ls(K:PySem.W.Frag)(O:Own)(H:Hp)(a:Addr)(xs:List V):Prop:=(¬O.has a/\Rd H a (.lst xs))∨SqL K (λ _=>none) a xs
theorem Tp.sq(h:Tp K O H a xs):SqT K H a xs:=.inl (.inl h.2)
theorem Ls.sq(h:Ls K O H a xs):SqL K H a xs:=by
 rcases h with⟨_,h⟩ | (h | h)
 . exact .inl h
 . rcases h with h | ⟨_,h⟩<;>cases h
 . exact .inr h
mutual
inductive Rep(K:PySem.W.Frag)(O:Own)(H:Hp):V->D->Prop
 | non:Rep K O H .non .non
 | bl(b:Bool):Rep K O H (.bl b) (.bl b)
 | int(i:Int):Rep K O H (.int i) (.int i)
 | str(x:Str):Rep K O H (.str x) (.str x)
 | tup{a:Addr}{xs:List V}{ds:List D}(h:Tp K O H a xs)(r:Reps K O H xs ds):Rep K O H (.ref a) (.tup ds)
 | lst{a:Addr}{xs:List V}{ds:List D}(h:Ls K O H a xs)(r:Reps K O H xs ds):Rep K O H (.ref a) (.lst ds)
 | loc{a:Addr}{k:Nat}(h:O.A[k]? =some (a,false)):Rep K O H (.ref a) (.loc k)
 | dlo{a:Addr}{k:Nat}(h:O.A[k]? =some (a,true)):Rep K O H (.ref a) (.dlo k)
 | dic{a:Addr}(h:¬O.has a)(e:H a=some (.dK [])):Rep K O H (.ref a) .dic
inductive Reps(K:PySem.W.Frag)(O:Own)(H:Hp):List V->List D->Prop
 | nil:Reps K O H [] []
 | cons{v:V}{d:D}{vs:List V}{ds:List D}(r:Rep K O H v d)(t:Reps K O H vs ds):Reps K O H (v::vs) (d::ds)
end
structure Step(O O':Own)(H H':Hp):Prop where
 kept:∀b o,b∉adr O.A->H b=some o->H' b=some o
 dom:∀b,H b≠none->H' b≠none
 ext:∃N,O'.A=O.A++N/\∀b∈adr N,H b=none
 hid:O'.B=O.B
theorem Step.refl(O:Own)(H:Hp):Step O O H H:=⟨λ _ _ _ h=>h,λ _ h=>h,⟨[],by simp,λ _ h=>nomatch h⟩,rfl⟩
theorem Step.trans{O1 O2:Own}{H1 H2:Hp}(a:Step O O1 H H1)(b:Step O1 O2 H1 H2):Step O O2 H H2:=by
 obtain⟨N1,e1,f1⟩:=a.ext
 obtain⟨N2,e2,f2⟩:=b.ext
 refine⟨λ c o hc h=>b.kept c o (λ z=>?_) (a.kept c o hc h),λ c h=>b.dom c (a.dom c h),⟨N1++N2,by rw[e2,e1,List.append_assoc],λ c hc=>?_⟩,b.hid.trans a.hid⟩
 . rw[e1,bN]at z
   rcases List.mem_append.mp z with z | z
   . exact hc z
   . rw[f1 c z]at h;cases h
 . rw[bN]at hc
   rcases List.mem_append.mp hc with z | z
   . exact f1 c z
   . cases q:H c with
     | none=>rfl
     | some o=>exact absurd (f2 c z) (a.dom c (by rw[q];simp))
theorem Step.nothas(s:Step O O' H H'){a:Addr}(h:¬O.has a)(t:H a≠none):¬O'.has a:=by
 obtain⟨N,e,f⟩:=s.ext
 rintro(z | z)
 . rw[e,bN]at z
   rcases List.mem_append.mp z with z | z
   . exact h (.inl z)
   . exact t (f a z)
 . rw[s.hid]at z;exact h (.inr z)
structure Conv(O O':Own)(H H':Hp):Prop where
 tr:∀a u,¬O.has a->H a=some u->¬O'.has a/\H' a=some u
 lc:∀(k:Nat)(a:Addr×Bool),O.A[k]? =some a->O'.A[k]? =some a
theorem Step.conv(s:Step O O' H H'):Conv O O' H H':=
 ⟨λ a u h t=>⟨s.nothas h (by rw[t];simp),s.kept a u (λ z=>h (.inl z)) t⟩,λ k a h=>by
  obtain⟨N,e,_⟩:=s.ext
  rw[e,x8 (z0.mp h).1];exact h⟩
theorem Rd.conv(s:Conv O O' H H'){a:Addr}{u:HO}(h:¬O.has a)(r:Rd H a u):¬O'.has a/\Rd H' a u:=by
 rcases r with r | ⟨o,r⟩
 . obtain⟨x,y⟩:=s.tr a _ h r
   exact⟨x,.inl y⟩
 . obtain⟨x,y⟩:=s.tr a _ h r
   exact⟨x,.inr ⟨o,y⟩⟩
theorem Tp.conv(h:Tp K O H a xs)(s:Conv O O' H H'):Tp K O' H' a xs:=s.tr a _ h.1 h.2
theorem Ls.conv(h:Ls K O H a xs)(s:Conv O O' H H'):Ls K O' H' a xs:=by
 rcases h with⟨n,r⟩ | h
 . exact .inl (Rd.conv s n r)
 . exact .inr h
mutual
theorem Rep.conv{K:PySem.W.Frag}{O O':Own}{H H':Hp}(s:Conv O O' H H'):∀{v:V}{d:D},Rep K O H v d->Rep K O' H' v d
 | _,_,.non=>.non
 | _,_,.bl b=>.bl b
 | _,_,.int i=>.int i
 | _,_,.str x=>.str x
 | _,_,.tup h r=>.tup (h.conv s) (Reps.conv s r)
 | _,_,.lst h r=>.lst (h.conv s) (Reps.conv s r)
 | _,_,.loc h=>.loc (s.lc _ _ h)
 | _,_,.dlo h=>.dlo (s.lc _ _ h)
 | _,_,.dic h e=>.dic (s.tr _ _ h e).1 (s.tr _ _ h e).2
theorem Reps.conv{K:PySem.W.Frag}{O O':Own}{H H':Hp}(s:Conv O O' H H'):∀{vs:List V}{ds:List D},Reps K O H vs ds->Reps K O' H' vs ds
 | _,_,.nil=>.nil
 | _,_,.cons r t=>.cons (Rep.conv s r) (Reps.conv s t)
end
theorem Rep.mono{v:V}{d:D}(h:Rep K O H v d)(s:Step O O' H H'):Rep K O' H' v d:=h.conv s.conv
theorem Reps.mono{v:List V}{d:List D}(h:Reps K O H v d)(s:Step O O' H H'):Reps K O' H' v d:=h.conv s.conv
noncomputable abbrev Own.hide(O:Own)(p:Addr):Own:=⟨O.A,p::O.B⟩
theorem Conv.hide(h:H p=none)(o:HO):Conv O (O.hide p) H (upd H p o):=
 ⟨λ a u n t=>by
  have ne:a≠p:=aD t h
  refine⟨λ z=>?_,by rw[aq ne];exact t⟩
  rcases z with z | z
  . exact n (.inl z)
  . rcases List.mem_cons.mp z with z | z
    . exact ne z
    . exact n (.inr z),λ _ _ h=>h⟩
theorem Conv.unhide{A:List (Addr×Bool)}{B:List Addr}:Conv ⟨A,p::B⟩ ⟨A,B⟩ H H:=
 ⟨λ a u n t=>⟨λ z=>n (z.elim .inl λ z=>.inr (x3 _ z)),t⟩,λ _ _ h=>h⟩
theorem Conv.updHid(h:p∈O.B)(o:HO):Conv O O H (upd H p o):=
 ⟨λ a u n t=>⟨n,by rw[aq (λ e=>n (.inr (by rw[e];exact h)))];exact t⟩,λ _ _ h=>h⟩
theorem Reps.length{K:PySem.W.Frag}{O:Own}{H:Hp}:∀{vs:List V}{ds:List D},Reps K O H vs ds->vs.length=ds.length
 | _,_,.nil=>rfl
 | _,_,.cons _ t=>by simp[Reps.length t]
theorem Reps.get{K:PySem.W.Frag}{O:Own}{H:Hp}:∀{vs:List V}{ds:List D}{i:Nat}{d:D},Reps K O H vs ds->ds[i]? =some d->∃v,vs[i]? =some v/\Rep K O H v d
 | _,_,_,_,.nil,e=>by simp at e
 | _,_,0,_,.cons r _,e=>by simp at e;subst e;exact⟨_,rfl,r⟩
 | _,_,i+1,d,.cons _ t,e=>by
   obtain⟨v,h1,h2⟩:=Reps.get (i:=i) (d:=d) t (by simpa using e)
   exact⟨v,by simpa using h1,h2⟩
theorem Reps.append{K:PySem.W.Frag}{O:Own}{H:Hp}:∀{vs ws:List V}{ds es:List D},Reps K O H vs ds->Reps K O H ws es->Reps K O H (vs++ws) (ds++es)
 | _,_,_,_,.nil,s=>s
 | _,_,_,_,.cons r t,s=>.cons r (Reps.append t s)
theorem Reps.take{K:PySem.W.Frag}{O:Own}{H:Hp}:∀{vs:List V}{ds:List D}(n:Nat),Reps K O H vs ds->Reps K O H (vs.take n) (ds.take n)
 | _,_,0,_=>.nil
 | _,_,_+1,.nil=>.nil
 | _,_,n+1,.cons r t=>.cons r (Reps.take n t)
theorem Reps.drop{K:PySem.W.Frag}{O:Own}{H:Hp}:∀{vs:List V}{ds:List D}(n:Nat),Reps K O H vs ds->Reps K O H (vs.drop n) (ds.drop n)
 | _,_,0,r=>r
 | _,_,_+1,.nil=>.nil
 | _,_,n+1,.cons _ t=>Reps.drop n t
theorem Reps.set{K:PySem.W.Frag}{O:Own}{H:Hp}{v:V}{d:D}(r:Rep K O H v d):∀{vs:List V}{ds:List D}(i:Nat),Reps K O H vs ds->Reps K O H (vs.set i v) (ds.set i d)
 | _,_,_,.nil=>.nil
 | _,_,0,.cons _ t=>.cons r t
 | _,_,i+1,.cons q t=>.cons q (Reps.set r i t)
theorem Reps.ints{K:PySem.W.Frag}{O:Own}{H:Hp}:∀{vs:List V}{ns:List Int},Reps K O H vs (ns.map D.int)->vs=ns.map V.int
 | _,[],.nil=>rfl
 | _,_::_,.cons r t=>by cases r;simp[Reps.ints t]
theorem Reps.of_ints{K:PySem.W.Frag}{O:Own}{H:Hp}:∀ns:List Int,Reps K O H (ns.map V.int) (ns.map D.int)
 | []=>.nil
 | n::ns=>.cons (.int n) (Reps.of_ints ns)
theorem Reps.bools{K:PySem.W.Frag}{O:Own}{H:Hp}:∀{vs:List V}{ns:List Bool},Reps K O H vs (ns.map D.bl)->vs=ns.map V.bl
 | _,[],.nil=>rfl
 | _,_::_,.cons r t=>by cases r;simp[Reps.bools t]
noncomputable def eV(ns:List Int):List Key:=ns.map Sum.inl
inductive Kps(K:PySem.W.Frag)(O:Own)(H:Hp):List (List Key×V)->List D->Prop
 | nil:Kps K O H [] []
 | cons{ns:List Int}{v:V}{d:D}{kvs:List (List Key×V)}{ds:List D}(r:Rep K O H v d)(t:Kps K O H kvs ds):Kps K O H ((eV ns,v)::kvs) (.tup [.tup (ns.map .int),d]::ds)
theorem Kps.conv{K:PySem.W.Frag}{O O':Own}{H H':Hp}(s:Conv O O' H H'):∀{kvs:List (List Key×V)}{ds:List D},Kps K O H kvs ds->Kps K O' H' kvs ds
 | _,_,.nil=>.nil
 | _,_,.cons r t=>.cons (r.conv s) (Kps.conv s t)
noncomputable def hC0(c:Int×List Int):Int:=reduceHash (Builtin.Tuple.tupleHashOf [hashInt c.1,reduceHash (Builtin.Tuple.tupleHashOf (c.2.map hashInt))])
noncomputable abbrev Cy:=List ((Int×List Int)×Addr×Value)
noncomputable def RX(a:Addr)(ys:Cy)(h:Heap):Prop:=ys.length≤sizeLine/\(a==sysModules)=false/\(ys.map (·.1)).Nodup/\
 ∃o es ep,h.get? a=some o/\o.ExactDict/\o.data=.dict es ep/\es.toList=ys.map λ y=>(⟨hC0 y.1,.ref y.2.1,y.2.2⟩:DictEntry)
inductive Kcs(K:PySem.W.Frag)(O:Own)(H:Hp):Cy->List D->Prop
 | nil:Kcs K O H [] []
 | cons{c:Int×List Int}{b:Addr}{u:Value}{v:V}{k d:D}{ys:Cy}{ds:List D}(e:k=.tup [.int c.1,.tup (c.2.map .int)])(rk:Rep K O H (.ref b) k)(rv:RelV v u)(r:Rep K O H v d)(t:Kcs K O H ys ds):Kcs K O H ((c,b,u)::ys) (.tup [k,d]::ds)
theorem Kcs.conv{K:PySem.W.Frag}{O O':Own}{H H':Hp}(s:Conv O O' H H'):∀{ys:Cy}{ds:List D},Kcs K O H ys ds->Kcs K O' H' ys ds
 | _,_,.nil=>.nil
 | _,_,.cons e rk rv r t=>.cons e (rk.conv s) rv (r.conv s) (Kcs.conv s t)
noncomputable def isO:Option Int->Value->Bool
 | some i,.int j _=>decide (i=j)
 | none,.none=>true
 | _,_=>false
noncomputable def hO0:Option Int->Int
 | some i=>hashInt i
 | none=>4238894112
noncomputable abbrev Oy:=List (Option Int×Value)
inductive OEs:List DictEntry->Oy->Prop
 | nil:OEs [] []
 | cons{e:DictEntry}{k:Option Int}{v:Value}{es:List DictEntry}{ys:Oy}(i:isO k e.key=true)(h:e.hash=hO0 k)(q:e.val=v)(t:OEs es ys):OEs (e::es) ((k,v)::ys)
noncomputable def RC(a:Addr)(ys:Oy)(h:Heap):Prop:=ys.length≤sizeLine/\(a==sysModules)=false/\(ys.map (·.1)).Nodup/\
 ∃o es ep,h.get? a=some o/\o.ExactDict/\o.data=.dict es ep/\OEs es.toList ys
noncomputable def oD:Option Int->D
 | some i=>.int i
 | none=>.non
inductive Kos(K:PySem.W.Frag)(O:Own)(H:Hp):Oy->List D->Prop
 | nil:Kos K O H [] []
 | cons{c:Option Int}{u:Value}{v:V}{k d:D}{ys:Oy}{ds:List D}(e:k=oD c)(rv:RelV v u)(r:Rep K O H v d)(t:Kos K O H ys ds):Kos K O H ((c,u)::ys) (.tup [k,d]::ds)
theorem Kos.conv{K:PySem.W.Frag}{O O':Own}{H H':Hp}(s:Conv O O' H H'):∀{ys:Oy}{ds:List D},Kos K O H ys ds->Kos K O' H' ys ds
 | _,_,.nil=>.nil
 | _,_,.cons e rv r t=>.cons e rv (r.conv s) (Kos.conv s t)
inductive DOb(K:PySem.W.Frag)(O:Own)(H:Hp)(a:Addr)(ds:List D):Prop
 | t(kvs:List (List Key×V))(e:H a=some (.dT kvs))(r:Kps K O H kvs ds):DOb K O H a ds
 | c(ys:Cy)(n:ys≠[])(e:H a=some (.ext (RX a ys)))(r:Kcs K O H ys ds):DOb K O H a ds
 | o(ys:Oy)(n:ys≠[])(e:H a=some (.ext (RC a ys)))(r:Kos K O H ys ds):DOb K O H a ds
theorem DOb.move{ds:List D}(s:Conv O O' H H')(b:DOb K O H a ds)(h:∀o,H a=some o->H' a=some o):DOb K O' H' a ds:=by
 cases b with
 | t kvs e r=>exact .t kvs (h _ e) (r.conv s)
 | c ys n e r=>exact .c ys n (h _ e) (r.conv s)
 | o ys n e r=>exact .o ys n (h _ e) (r.conv s)
theorem DOb.there{ds:List D}(b:DOb K O H a ds):H a≠none:=by
 cases b with
 | t kvs e r=>rw[e];simp
 | c ys n e r=>rw[e];simp
 | o ys n e r=>rw[e];simp
structure StOk(K:PySem.W.Frag)(O:Own)(H:Hp)(S:Store):Prop where
 nd:(adr O.A).Nodup
 len:O.A.length=S.length
 obj:∀(k:Nat)(a:Addr)(ds:List D),O.A[k]? =some (a,false)->S[k]? =some ds->∃xs,H a=some (.lst xs)/\Reps K O H xs ds
 dob:∀(k:Nat)(a:Addr)(ds:List D),O.A[k]? =some (a,true)->S[k]? =some ds->DOb K O H a ds
 apart:∀a∈adr O.A,a∉O.B
 hidden:∀b∈O.B,H b≠none
structure EnvOk(K:PySem.W.Frag)(O:Own)(H:Hp)(σ:St)(Γ:Gam):Prop where
 len:σ.length=Γ.length
 at_:∀(i:Nat)(d:D),Γ[i]? =some (some d)->∃v,σ[i]? =some (some v)/\Rep K O H v d
theorem EnvOk.mono{σ:St}{Γ:Gam}(e:EnvOk K O H σ Γ)(s:Step O O' H H'):EnvOk K O' H' σ Γ:=
 ⟨e.len,λ i d h=>let ⟨v,a,b⟩:=e.at_ i d h;⟨v,a,b.mono s⟩⟩
theorem EnvOk.set{σ:St}{Γ:Gam}(e:EnvOk K O H σ Γ){v:V}{d:D}(r:Rep K O H v d)(i:Nat):EnvOk K O H (σ.set i (some v)) (Γ.set i (some d)):=by
 refine⟨by simp[e.len],λ j c h=>?_⟩
 by_cases hj:i=j
 . subst hj
   have hl:i<Γ.length:=by
    have:=(z0.mp h).1
    simpa using this
   rw[List.getElem?_set_self hl]at h
   cases h
   exact⟨v,List.getElem?_set_self (by rw[e.len];exact hl),r⟩
 . rw[List.getElem?_set_ne hj]at h
   rw[List.getElem?_set_ne hj]
   exact e.at_ j c h
theorem StOk.tracked(s:StOk K O H S){a:Addr}(h:O.has a):H a≠none:=by
 rcases h with h | h
 . obtain⟨⟨a',c⟩,hm,rfl⟩:=List.mem_map.mp h
   obtain⟨k,hk⟩:=List.getElem?_of_mem hm
   have hl:k<S.length:=by rw[←s.len];exact(z0.mp hk).1
   cases c with
   | false=>
     obtain⟨xs,q,_⟩:=s.obj k a' S[k] hk (y3 hl)
     rw[show(a',false).1=a' from rfl,q];simp
   | true=>
     exact(s.dob k a' S[k] hk (y3 hl)).there
 . exact s.hidden a h
theorem Step.fresh(h:H p=none)(o:HO):Step O O H (upd H p o):=
 ⟨λ b u _ q=>by rw[aq (aD q h)];exact q,λ b q=>by
  by_cases e:b=p
  . subst e;rw[aQ];simp
  . rw[aq e];exact q,⟨[],by simp,λ _ z=>nomatch z⟩,rfl⟩
theorem Step.same(h:dD H H'):Step O O H H':=
 ⟨λ b o _ q=>h b o q,λ b q=>by
  cases e:H b with
  | none=>exact absurd e q
  | some o=>rw[h b o e];simp,⟨[],by simp,λ _ z=>nomatch z⟩,rfl⟩
theorem dD.fresh(h:H p=none)(o:HO):dD H (upd H p o):=λ b u q=>by rw[aq (aD q h)];exact q
theorem StOk.same(s:StOk K O H S)(h:dD H H'):StOk K O H' S:=
 ⟨s.nd,s.len,λ k a ds e1 e2=>let ⟨xs,q,r⟩:=s.obj k a ds e1 e2;⟨xs,h _ _ q,r.mono (Step.same h)⟩,λ k a ds e1 e2=>(s.dob k a ds e1 e2).move (Step.same h).conv λ o q=>h _ _ q,s.apart,λ b hb=>(Step.same (O:=O) h).dom b (s.hidden b hb)⟩
theorem StOk.fresh_not(s:StOk K O H S){p:Addr}(h:H p=none):¬O.has p:=λ z=>s.tracked z h
theorem StOk.fresh(s:StOk K O H S){p:Addr}(h:H p=none)(o:HO):StOk K O (upd H p o) S:=s.same (dD.fresh h o)
noncomputable abbrev Own.more(O:Own)(p:Addr)(q:Bool:=false):Own:=⟨O.A++[(p,q)],O.B⟩
theorem Step.own(h:H p=none)(o:HO)(q:Bool:=false):Step O (O.more p q) H (upd H p o):=
 ⟨(Step.fresh (O:=O) h o).kept,(Step.fresh (O:=O) h o).dom,⟨[(p,q)],rfl,λ b z=>by rw[List.mem_singleton.mp z];exact h⟩,rfl⟩
theorem iZ{A:List (Addr×Bool)}{p:Addr×Bool}{k:Nat}{x:Addr×Bool}(h:(A++[p])[k]? =some x):A[k]? =some x∨(k=A.length/\x=p):=by
 by_cases hk:k<A.length
 . rw[x8 hk]at h;exact .inl h
 . rw[List.getElem?_append_right (by omega)]at h
   have hk0:k-A.length=0:=by
    have:=(z0.mp h).1
    simp at this;omega
   rw[hk0]at h
   exact .inr ⟨by omega,(Option.some.inj h).symm⟩
theorem zU{A:List (Addr×Bool)}{q:Bool}(h:(adr A).Nodup)(n:p∉adr A):(adr (A++[(p,q)])).Nodup:=by
 rw[bN]
 refine List.nodup_append.mpr ⟨h,by simp,λ a ha b hb e=>?_⟩
 rw[List.mem_singleton.mp hb]at e;rw[e]at ha;exact n ha
theorem StOk.own(s:StOk K O H S){p:Addr}(h:H p=none){xs:List V}{ds:List D}(r:Reps K O H xs ds):
 StOk K (O.more p) (upd H p (.lst xs)) (S++[ds]):=by
 have st:=Step.own (O:=O) h (.lst xs)
 have np:=s.fresh_not h
 refine⟨zU s.nd λ z=>np (.inl z),by simp[s.len],λ k a es e1 e2=>?_,λ k a es e1 e2=>?_,λ a ha=>?_,λ b hb=>st.dom b (s.hidden b hb)⟩
 . rcases iZ e1 with e1 | ⟨rfl,e⟩
   . have hk:=(z0.mp e1).1
     rw[x8 (by rw[←s.len];exact hk)]at e2
     obtain⟨ys,q,r'⟩:=s.obj k a es e1 e2
     exact⟨ys,by rw[aq (aD q h)];exact q,r'.mono st⟩
   . cases e
     rw[List.getElem?_append_right (by rw[s.len];exact y9 _),s.len,Nat.sub_self]at e2
     cases e2
     exact⟨xs,aQ,r.mono st⟩
 . rcases iZ e1 with e1 | ⟨rfl,e⟩
   . have hk:=(z0.mp e1).1
     rw[x8 (by rw[←s.len];exact hk)]at e2
     exact(s.dob k a es e1 e2).move st.conv λ o q=>by rw[aq (aD q h)];exact q
   . cases e
 . rw[bN]at ha
   rcases List.mem_append.mp ha with z | z
   . exact s.apart a z
   . rw[List.mem_singleton.mp z];exact λ q=>np (.inr q)
theorem StOk.ownD(s:StOk K O H S){p:Addr}(h:H p=none){kvs:List (List Key×V)}{ds:List D}(r:Kps K O H kvs ds):
 StOk K (O.more p true) (upd H p (.dT kvs)) (S++[ds]):=by
 have st:=Step.own (O:=O) h (.dT kvs) true
 have np:=s.fresh_not h
 refine⟨zU s.nd λ z=>np (.inl z),by simp[s.len],λ k a es e1 e2=>?_,λ k a es e1 e2=>?_,λ a ha=>?_,λ b hb=>st.dom b (s.hidden b hb)⟩
 . rcases iZ e1 with e1 | ⟨rfl,e⟩
   . have hk:=(z0.mp e1).1
     rw[x8 (by rw[←s.len];exact hk)]at e2
     obtain⟨ys,q,r'⟩:=s.obj k a es e1 e2
     exact⟨ys,by rw[aq (aD q h)];exact q,r'.mono st⟩
   . cases e
 . rcases iZ e1 with e1 | ⟨rfl,e⟩
   . have hk:=(z0.mp e1).1
     rw[x8 (by rw[←s.len];exact hk)]at e2
     exact(s.dob k a es e1 e2).move st.conv λ o q=>by rw[aq (aD q h)];exact q
   . cases e
     rw[List.getElem?_append_right (by rw[s.len];exact y9 _),s.len,Nat.sub_self]at e2
     cases e2
     exact .t kvs aQ (r.conv st.conv)
 . rw[bN]at ha
   rcases List.mem_append.mp ha with z | z
   . exact s.apart a z
   . rw[List.mem_singleton.mp z];exact λ q=>np (.inr q)
theorem Step.put(h:a∈adr O.A)(o:HO):Step O O H (upd H a o):=
 ⟨λ b u hb q=>by rw[aq (λ e=>hb (by rw[e];exact h))];exact q,λ b q=>by
  by_cases e:b=a
  . subst e;rw[aQ];simp
  . rw[aq e];exact q,⟨[],by simp,λ _ z=>nomatch z⟩,rfl⟩
theorem qP{A:List (Addr×Bool)}(nd:(adr A).Nodup){k j:Nat}{a b:Addr}{p q:Bool}(h:A[k]? =some (a,p))(h2:A[j]? =some (b,q))(hj:k≠j):b≠a:=λ e=>hj (by
 have g1:(adr A)[k]? =some a:=by rw[y8,h];rfl
 have g2:(adr A)[j]? =some b:=by rw[y8,h2];rfl
 obtain⟨h1,e1'⟩:=z0.mp g1
 obtain⟨h2,e2'⟩:=z0.mp g2
 exact(List.getElem_inj nd).mp (e1'.trans (e.symm.trans e2'.symm)))
theorem StOk.put(s:StOk K O H S){k:Nat}{a:Addr}(h:O.A[k]? =some (a,false)){xs:List V}{ds:List D}(r:Reps K O H xs ds):
 StOk K O (upd H a (.lst xs)) (S.set k ds):=by
 have st:=Step.put (O:=O) (H:=H) (bH h) (.lst xs)
 refine⟨s.nd,by simp[s.len],λ j b es e1 e2=>?_,λ j b es e1 e2=>?_,s.apart,λ b hb=>st.dom b (s.hidden b hb)⟩
 . by_cases hj:k=j
   . subst hj
     rw[h]at e1;cases e1
     have hl:=(z0.mp e2).1
     rw[List.getElem?_set_self (by simpa using hl)]at e2
     cases e2
     exact⟨xs,aQ,r.mono st⟩
   . rw[List.getElem?_set_ne hj]at e2
     obtain⟨ys,q,r'⟩:=s.obj j b es e1 e2
     exact⟨ys,by rw[aq (qP s.nd h e1 hj)];exact q,r'.mono st⟩
 . have hj:k≠j:=λ e=>by subst e;rw[h]at e1;cases e1
   rw[List.getElem?_set_ne hj]at e2
   exact(s.dob j b es e1 e2).move st.conv λ o q=>by rw[aq (qP s.nd h e1 hj)];exact q
theorem StOk.putO(s:StOk K O H S){k:Nat}{a:Addr}(h:O.A[k]? =some (a,true)){o:HO}{ds:List D}(r:DOb K O (upd H a o) a ds):
 StOk K O (upd H a o) (S.set k ds):=by
 have st:=Step.put (O:=O) (H:=H) (bH h) o
 refine⟨s.nd,by simp[s.len],λ j b es e1 e2=>?_,λ j b es e1 e2=>?_,s.apart,λ b hb=>st.dom b (s.hidden b hb)⟩
 . have hj:k≠j:=λ e=>by subst e;rw[h]at e1;cases e1
   rw[List.getElem?_set_ne hj]at e2
   obtain⟨ys,q,r'⟩:=s.obj j b es e1 e2
   exact⟨ys,by rw[aq (qP s.nd h e1 hj)];exact q,r'.mono st⟩
 . by_cases hj:k=j
   . subst hj
     rw[h]at e1;cases e1
     have hl:=(z0.mp e2).1
     rw[List.getElem?_set_self (by simpa using hl)]at e2
     cases e2
     exact r
   . rw[List.getElem?_set_ne hj]at e2
     exact(s.dob j b es e1 e2).move st.conv λ o q=>by rw[aq (qP s.nd h e1 hj)];exact q
theorem StOk.putD(s:StOk K O H S){k:Nat}{a:Addr}(h:O.A[k]? =some (a,true)){kvs:List (List Key×V)}{ds:List D}(r:Kps K O H kvs ds):
 StOk K O (upd H a (.dT kvs)) (S.set k ds):=s.putO h (.t kvs aQ (r.conv (Step.put (O:=O) (H:=H) (bH h) (.dT kvs)).conv))
theorem StOk.hide(s:StOk K O H S){p:Addr}(h:H p=none)(o:HO):StOk K (O.hide p) (upd H p o) S:=by
 have st:=Step.fresh (O:=O) h o
 refine⟨s.nd,s.len,λ k a ds e1 e2=>?_,λ k a ds e1 e2=>?_,λ a ha z=>?_,λ b hb=>?_⟩
 . obtain⟨xs,q,r⟩:=s.obj k a ds e1 e2
   exact⟨xs,by rw[aq (aD q h)];exact q,r.conv (Conv.hide h o)⟩
 . exact(s.dob k a ds e1 e2).move (Conv.hide h o) λ o q=>by rw[aq (aD q h)];exact q
 . rcases List.mem_cons.mp z with z | z
   . exact s.tracked (.inl ha) (z▸h)
   . exact s.apart a ha z
 . rcases List.mem_cons.mp hb with z | z
   . subst z;rw[aQ];simp
   . exact st.dom b (s.hidden b z)
theorem StOk.unhide{A:List (Addr×Bool)}{B:List Addr}(s:StOk K ⟨A,p::B⟩ H S):StOk K ⟨A,B⟩ H S:=
 ⟨s.nd,s.len,λ k a ds e1 e2=>let ⟨xs,q,r⟩:=s.obj k a ds e1 e2;⟨xs,q,r.conv Conv.unhide⟩,λ k a ds e1 e2=>(s.dob k a ds e1 e2).move Conv.unhide λ _ q=>q,λ a ha z=>s.apart a ha (x3 _ z),λ b hb=>s.hidden b (x3 _ hb)⟩
theorem StOk.updHid(s:StOk K O H S){p:Addr}(h:p∈O.B)(o:HO):StOk K O (upd H p o) S:=
 ⟨s.nd,s.len,λ k a ds e1 e2=>by
  obtain⟨xs,q,r⟩:=s.obj k a ds e1 e2
  have ne:a≠p:=λ e=>s.apart a (bH e1) (e▸h)
  exact⟨xs,by rw[aq ne];exact q,r.conv (Conv.updHid h o)⟩,λ k a ds e1 e2=>by
  have ne:a≠p:=λ e=>s.apart a (bH e1) (e▸h)
  exact(s.dob k a ds e1 e2).move (Conv.updHid h o) λ _ q=>by rw[aq ne];exact q,s.apart,λ b hb=>by
  by_cases e:b=p
  . subst e;rw[aQ];simp
  . rw[aq e];exact s.hidden b hb⟩
theorem Step.adopt{A:List (Addr×Bool)}(s:Step O ⟨A,O.B⟩ H H')(h:H p=none):Step O ⟨A++[(p,false)],O.B⟩ H H':=by
 obtain⟨N,e,f⟩:=s.ext
 refine⟨s.kept,s.dom,⟨N++[(p,false)],?_,λ b hb=>?_⟩,rfl⟩
 . show A++[(p,false)]=_
   rw[show A=O.A++N from e,List.append_assoc]
 . rw[bN]at hb
   rcases List.mem_append.mp hb with z | z
   . exact f b z
   . rw[List.mem_singleton.mp z];exact h
theorem Conv.adopt{A:List (Addr×Bool)}{B:List Addr}:Conv ⟨A,p::B⟩ ⟨A++[(p,false)],B⟩ H H:=
 ⟨λ a u n t=>⟨λ z=>n (z.elim (λ z=>(List.mem_append.mp (by rw[←bN];exact z)).elim .inl λ z=>.inr (by rw[List.mem_singleton.mp z];exact x5)) λ z=>.inr (x3 _ z)),t⟩,
  λ k a h=>by
   show(A++[(p,false)])[k]? =some a
   rw[x8 (z0.mp h).1];exact h⟩
theorem StOk.adopt{A:List (Addr×Bool)}{B:List Addr}{ds:List D}(s:StOk K ⟨A,p::B⟩ H S)(hp:p∉B)(h:H p=some (.lst xs))(r:Reps K ⟨A,p::B⟩ H xs ds):StOk K ⟨A++[(p,false)],B⟩ H (S++[ds]):=by
 have np:p∉adr A:=λ z=>s.apart p z x5
 have sl:A.length=S.length:=s.len
 refine⟨zU s.nd np,by simp[sl],λ k a es e1 e2=>?_,λ k a es e1 e2=>?_,λ a ha=>?_,λ b hb=>s.hidden b (x3 _ hb)⟩
 . rcases iZ e1 with e1 | ⟨rfl,e⟩
   . have hk:=(z0.mp e1).1
     rw[x8 (by omega)]at e2
     obtain⟨ys,q,r'⟩:=s.obj k a es e1 e2
     exact⟨ys,q,r'.conv Conv.adopt⟩
   . cases e
     rw[List.getElem?_append_right (by omega),sl,Nat.sub_self]at e2
     cases e2
     exact⟨xs,h,r.conv Conv.adopt⟩
 . rcases iZ e1 with e1 | ⟨rfl,e⟩
   . have hk:=(z0.mp e1).1
     rw[x8 (by omega)]at e2
     exact(s.dob k a es e1 e2).move Conv.adopt λ _ q=>q
   . cases e
 . have ha:a∈adr (A++[(p,false)]):=ha
   rw[bN]at ha
   rcases List.mem_append.mp ha with z | z
   . exact λ q=>s.apart a z (x3 _ q)
   . rw[List.mem_singleton.mp z];exact hp
theorem Step.inner{A1 A2:List (Addr×Bool)}{B:List Addr}{H1 H2:Hp}(a:Step O ⟨A1,B⟩ H H1)(b:Step ⟨A1,p::B⟩ ⟨A2,p::B⟩ H1 H2)(h:H p=none)(o:HO):Step O ⟨A2,B⟩ H (upd H2 p o):=by
 have b':Step ⟨A1,B⟩ ⟨A2,B⟩ H1 H2:=⟨b.kept,b.dom,b.ext,rfl⟩
 have c:=a.trans b'
 refine⟨λ x u hx t=>?_,λ x t=>?_,c.ext,c.hid⟩
 . rw[aq (aD t h)];exact c.kept x u hx t
 . by_cases e:x=p
   . subst e;rw[aQ];simp
   . rw[aq e];exact c.dom x t
end DL
namespace DL
open PySem PySem.Spec L2
open PyProof.Rows
variable {K : PySem.W.Frag} {O : Own} {H : Hp} {x : D} {ds : List D} {i j : Int} {p : Addr} {xs : List V}
noncomputable abbrev Pins:=List (Addr×Obj)
noncomputable abbrev WD:=D->Store->Prop
noncomputable def QG(K:PySem.W.Frag)(O:Own)(H:Hp)(W:WD):VK:=λ v H'=>∃O' d S',W d S'/\Step O O' H H'/\StOk K O' H' S'/\Rep K O' H' v d
noncomputable def QA(K:PySem.W.Frag)(O:Own)(H:Hp)(W:List D->Store->Prop):List V->Hp->Prop:=λ vs H'=>∃O' ds S',W ds S'/\Step O O' H H'/\StOk K O' H' S'/\Reps K O' H' vs ds
noncomputable def QT(K:PySem.W.Frag)(O:Own)(H:Hp)(W:Bool->Store->Prop):Bool->Hp->Prop:=λ b H'=>∃O' S',W b S'/\Step O O' H H'/\StOk K O' H' S'
noncomputable def Ev(X:Cx)(Γ:Gam)(S:Store)(e:Expr)(W:WD):Prop:=
 ∀ (pins:Pins)(s:Shared)(σ:St)(H:Hp)(O:Own),Inv X pins σ H s->EnvOk X.K O H σ Γ->StOk X.K O H S->
   wpAny (model X.prog X.w) X.A (eval e X.env) (EP X pins σ (QG X.K O H W)) X.xe s
noncomputable def EvA(X:Cx)(Γ:Gam)(S:Store)(es:List Expr)(W:List D->Store->Prop):Prop:=
 ∀ (pos:Pos)(pins:Pins)(s:Shared)(σ:St)(H:Hp)(O:Own),Inv X pins σ H s->EnvOk X.K O H σ Γ->StOk X.K O H S->
   wpAny (model X.prog X.w) X.A (spliced (backTo pos (starEach es X.env))) (AP X pins σ (QA X.K O H W)) X.xe s
noncomputable def TsW(X:Cx)(Γ:Gam)(S:Store)(e:Expr)(W:Bool->Store->Prop):Prop:=
 ∀ (whole:Sem Value)(pins:Pins)(s:Shared)(σ:St)(H:Hp)(O:Own),Inv X pins σ H s->EnvOk X.K O H σ Γ->StOk X.K O H S->
   wpAny (model X.prog X.w) X.A (isTrue e X.env whole) (TP X pins σ (QT X.K O H W)) X.xe s
noncomputable def Ts(X:Cx)(Γ:Gam)(S:Store)(e:Expr)(W:Bool->Store->Prop):Prop:=
 ∀ (pins:Pins)(s:Shared)(σ:St)(H:Hp)(O:Own),Inv X pins σ H s->EnvOk X.K O H σ Γ->StOk X.K O H S->
   wpAny (model X.prog X.w) X.A (isTrue e X.env (eval e X.env)) (TP X pins σ (QT X.K O H W)) X.xe s
noncomputable def OpW(X:Cx)(f:Value->Value->Sem Value)(x y:D)(S:Store)(W:WD):Prop:=
 ∀ (pins:Pins)(s:Shared)(σ:St)(H:Hp)(O:Own)(v w:V)(u u':Value),Inv X pins σ H s->StOk X.K O H S->Rep X.K O H v x->Rep X.K O H w y->RelV v u->RelV w u'->
   wpAny (model X.prog X.w) X.A (f u u') (EP X pins σ (QG X.K O H W)) X.xe s
noncomputable def dm(X:Cx)(f:Value)(ds:List D)(S:Store)(W:WD):Prop:=
 ∀ (pins:Pins)(s:Shared)(σ:St)(H:Hp)(O:Own)(vs:List V)(us:List Value),Inv X pins σ H s->StOk X.K O H S->Reps X.K O H vs ds->Vals vs us->
   wpAny (model X.prog X.w) X.A (call f us) (EP X pins σ (QG X.K O H W)) X.xe s
noncomputable abbrev dg(X:Cx)(op:Operator):=OpW X (binaryOp op)
noncomputable abbrev bh(X:Cx)(op:CmpOp):=OpW X (compareOp op)
section
variable {X : Cx} {Γ : Gam} {S S1 : Store} {W : WD} {a b e : Expr} {es rest : List Expr} {pos : Pos}
theorem QG.pre{O1:Own}{H1:Hp}(st:Step O O1 H H1){v:V}{H':Hp}(q:QG K O1 H1 W v H'):QG K O H W v H':=by
 obtain⟨O',d,S',w,s',ok,r⟩:=q
 exact⟨O',d,S',w,st.trans s',ok,r⟩
theorem cZ{pins:Pins}{σ:St}{O1:Own}{H1:Hp}(st:Step O O1 H H1){u:Value}{s':Shared}(q:EP X pins σ (QG X.K O1 H1 W) u s'):EP X pins σ (QG X.K O H W) u s':=by
 obtain⟨v,H',I,r,q⟩:=q
 exact⟨v,H',I,r,q.pre st⟩
theorem Nk{pins:Pins}{σ:St}{O1:Own}{H1:Hp}(st:Step O O1 H H1){W:Bool->Store->Prop}{u:Bool}{s':Shared}(q:TP X pins σ (QT X.K O1 H1 W) u s'):TP X pins σ (QT X.K O H W) u s':=by
 obtain⟨H',I,O',S',w,s2,ok⟩:=q
 exact⟨H',I,O',S',w,st.trans s2,ok⟩
theorem Ev.mono{W':WD}(h:Ev X Γ S e W)(k:∀d S',W d S'->W' d S'):Ev X Γ S e W':=λ pins s σ H O I env st=>
 thn (h pins s σ H O I env st) λ _ _ ⟨v,H',I',r,O',d,S',w,q⟩=>⟨v,H',I',r,O',d,S',k d S' w,q⟩
theorem OpW.mono{f:Value->Value->Sem Value}{y:D}{W':WD}(h:OpW X f x y S W)(k:∀d S',W d S'->W' d S'):OpW X f x y S W':=λ pins s σ H O v w u u' I st r1 r2 r3 r4=>
 thn (h pins s σ H O v w u u' I st r1 r2 r3 r4) λ _ _ ⟨v,H',I',r,O',d,S',w,q⟩=>⟨v,H',I',r,O',d,S',k d S' w,q⟩
theorem dZ{f:Value->Value->Sem Value}{r:R2}{y:D}(ho:OpR X f r)(h:∀O H v w,StOk X.K O H S->Rep X.K O H v x->Rep X.K O H w y->r v w H (QG X.K O H W)):OpW X f x y S W:=
 λ pins s σ H O v w u u' I st r1 r2 r3 r4=>ho pins s σ H v w u u' _ I r3 r4 (h O H v w st r1 r2)
theorem bV{f:Value}{r:List V->Hp->VK->Prop}(hc:eZ X f r)(h:∀O H vs,StOk X.K O H S->Reps X.K O H vs ds->r vs H (QG X.K O H W)):dm X f ds S W:=
 λ pins s σ H O vs us I st r1 r2=>hc pins s σ H vs us _ I r2 (h O H vs st r1)
theorem QG.here{v:V}{d:D}(w:W d S)(st:StOk K O H S)(r:Rep K O H v d):QG K O H W v H:=⟨O,d,S,w,Step.refl O H,st,r⟩
theorem QQ(i:Nat){x:Str}{d:D}(hΓ:Γ[i]? =some (some d))(w:W d S)(hN:X.N[i]? =some x:=by rfl)
 (hv:Vis X.env.scope x:=by first | exact Or.inl rfl | exact Or.inr (Or.inl rfl) | exact Or.inr (Or.inr rfl))(hd:(x==("__debug__":Str))=false:=by decide)(hcd:(x==("__classdict__":Str))=false:=by decide):
 Ev X Γ S (.Name x pos) W:=by
 intro pins s σ H O I env st
 obtain⟨v,e,r⟩:=env.at_ i d hΓ
 exact QH hN hv hd hcd pins s σ H _ I ⟨v,e,QG.here w st r⟩
theorem J0{j}(w:W (.int i) S):Ev X Γ S (.Constant (.int i) j pos) W:=λ pins s σ H O I _ st=>R4 pins s σ H _ I (QG.here w st (.int i))
theorem Tz{i:Bool}{j}(w:W (.bl i) S):Ev X Γ S (.Constant (.bool i) j pos) W:=λ pins s σ H O I _ st=>Uy pins s σ H _ I (QG.here w st (.bl i))
theorem Qp{j}(w:W .non S):Ev X Γ S (.Constant .none j pos) W:=λ pins s σ H O I _ st=>QM pins s σ H _ I (QG.here w st .non)
theorem Lr{x:Str}{t:Tok}(hm:X.mg x=some (.int i t))(w:W (.int i) S)(hg:Gl X x:=by rfl)(hd:(x==("__debug__":Str))=false:=by decide):Ev X Γ S (.Name x pos) W:=
 λ pins s σ H O I _ st=>Nq hg hm (v:=.int i) ⟨t,rfl⟩ hd pins s σ H _ I (QG.here w st (.int i))
theorem xW{op:Operator}(h:Ev X Γ S a λ x S1=>Ev X Γ S1 b λ y S2=>dg X op x y S2 W):Ev X Γ S (.BinOp a op b pos) W:=by
 intro pins s σ H O I env st
 refine wpAny_BinOp (thn (h pins s σ H O I env st) λ u s1 hq_=>?_)
 obtain⟨v,H1,I1,r1,O1,x,S1,hb,st1,ok1,rep1⟩:=hq_
 refine thn (hb pins s1 σ H1 O1 I1 (env.mono st1) ok1) λ u' s2 hq_=>?_
 obtain⟨w,H2,I2,r2,O2,y,S2,hw,st2,ok2,rep2⟩:=hq_
 exact thn (hw pins s2 σ H2 O2 v w u u' I2 ok2 (rep1.mono st2) rep2 r1 r2) λ _ _ q=>cZ (st1.trans st2) q
theorem Rt{op:CmpOp}(h:Ev X Γ S a λ x S1=>Ev X Γ S1 b λ y S2=>bh X op x y S2 W)(hm:behindInMarks op b=false:=by first | exact nomark _ | (with_unfolding_all rfl)):Ev X Γ S (.Compare a [op] [b] pos) W:=by
 intro pins s σ H O I env st
 refine wpAny_Compare1 (thn (h pins s σ H O I env st) λ u s1 hq_=>?_) hm
 obtain⟨v,H1,I1,r1,O1,x,S1,hb,st1,ok1,rep1⟩:=hq_
 refine thn (hb pins s1 σ H1 O1 I1 (env.mono st1) ok1) λ u' s2 hq_=>?_
 obtain⟨w,H2,I2,r2,O2,y,S2,hw,st2,ok2,rep2⟩:=hq_
 exact thn (hw pins s2 σ H2 O2 v w u u' I2 ok2 (rep1.mono st2) rep2 r1 r2) λ _ _ q=>cZ (st1.trans st2) q
noncomputable abbrev asB(W:Bool->Store->Prop):WD:=λ d S=>∃c,d=.bl c/\W c S
theorem zz{op:CmpOp}{W:Bool->Store->Prop}(h:Ev X Γ S a λ x S1=>Ev X Γ S1 b λ y S2=>bh X op x y S2 (asB W))(hm:behindInMarks op b=false:=by first | exact nomark _ | (with_unfolding_all rfl)):Ts X Γ S (.Compare a [op] [b] pos) W:=by
 intro pins s σ H O I env st
 refine wpAny_isTrue_Compare1 (thn (h pins s σ H O I env st) λ u s1 hq_=>?_) hm
 obtain⟨v,H1,I1,r1,O1,x,S1,hb,st1,ok1,rep1⟩:=hq_
 refine thn (hb pins s1 σ H1 O1 I1 (env.mono st1) ok1) λ u' s2 hq_=>?_
 obtain⟨w,H2,I2,r2,O2,y,S2,hw,st2,ok2,rep2⟩:=hq_
 refine thn (hw pins s2 σ H2 O2 v w u u' I2 ok2 (rep1.mono st2) rep2 r1 r2) λ _ _ hq_=>?_
 obtain⟨z,H3,I3,r3,O3,d,S3,⟨c,hd,wc⟩,st3,ok3,rep3⟩:=hq_
 subst hd
 cases rep3
 cases r3
 exact wpAny_truthy_bool ⟨H3,I3,O3,S3,wc,(st1.trans st2).trans st3,ok3⟩
theorem RZ{W:Bool->Store->Prop}(h:Ev X Γ S e (asB W))(he:∀whole,isTrue e X.env whole=(do let v ←whole;standAt e.pos;holding [v] (truthy v)):=by intro _;rfl):Ts X Γ S e W:=by
 intro pins s σ H O I env st
 refine isTrue_plain (thn (h pins s σ H O I env st) λ _ _ hq_=>?_) (he _)
 obtain⟨z,H3,I3,r3,O3,d,S3,⟨c,hd,wc⟩,st3,ok3,rep3⟩:=hq_
 subst hd
 cases rep3
 cases r3
 exact wpAny_truthy_bool ⟨H3,I3,O3,S3,wc,st3,ok3⟩
theorem TsW.ts{W:Bool->Store->Prop}(h:TsW X Γ S e W):Ts X Γ S e W:=λ pins s σ H O I env st=>h _ pins s σ H O I env st
theorem tw_and1{W:Bool->Store->Prop}(h:Ts X Γ S a W):TsW X Γ S (.BoolOp .And [a] pos) W:=by
 intro wh pins s σ H O I env st
 refine isTrue_and (thn (h pins s σ H O I env st) λ c s1 e=>?_)
 cases c with
 | true=>exact isTrue_and_nil e
 | false=>exact e
theorem tw_or1{W:Bool->Store->Prop}(h:Ts X Γ S a W):TsW X Γ S (.BoolOp .Or [a] pos) W:=by
 intro wh pins s σ H O I env st
 refine isTrue_or (thn (h pins s σ H O I env st) λ c s1 e=>?_)
 cases c with
 | false=>exact isTrue_or_nil e
 | true=>exact e
theorem tw_and{W:Bool->Store->Prop}(h:Ts X Γ S a λ c S1=>(c=true->TsW X Γ S1 (.BoolOp .And (b::rest) pos) W)/\(c=false->W false S1)):TsW X Γ S (.BoolOp .And (a::b::rest) pos) W:=by
 intro wh pins s σ H O I env st
 refine isTrue_and (thn (h pins s σ H O I env st) λ c s1 hq_=>?_)
 obtain⟨H1,I1,O1,S1,w1,st1,ok1⟩:=hq_
 cases c with
 | true=>exact thn (w1.1 rfl wh pins s1 σ H1 O1 I1 (env.mono st1) ok1) λ _ _ q=>Nk st1 q
 | false=>exact⟨H1,I1,O1,S1,w1.2 rfl,st1,ok1⟩
theorem tw_or{W:Bool->Store->Prop}(h:Ts X Γ S a λ c S1=>(c=true->W true S1)/\(c=false->TsW X Γ S1 (.BoolOp .Or (b::rest) pos) W)):TsW X Γ S (.BoolOp .Or (a::b::rest) pos) W:=by
 intro wh pins s σ H O I env st
 refine isTrue_or (thn (h pins s σ H O I env st) λ c s1 hq_=>?_)
 obtain⟨H1,I1,O1,S1,w1,st1,ok1⟩:=hq_
 cases c with
 | false=>exact thn (w1.2 rfl wh pins s1 σ H1 O1 I1 (env.mono st1) ok1) λ _ _ q=>Nk st1 q
 | true=>exact⟨H1,I1,O1,S1,w1.1 rfl,st1,ok1⟩
theorem R3{W:Bool->Store->Prop}(h:Ts X Γ S a λ c S1=>W (!c) S1):Ts X Γ S (.UnaryOp .Not a pos) W:=by
 intro pins s σ H O I env st
 exact isTrue_not (thn (h pins s σ H O I env st) λ c s1 ⟨H1,I1,O1,S1,w1,st1,ok1⟩=>⟨H1,I1,O1,S1,w1,st1,ok1⟩)
theorem JK{op}(h:Ev X Γ S a W):Ev X Γ S (.BoolOp op [a] pos) W:=λ pins s σ H O I env st=>BoolOp_one (h pins s σ H O I env st)
theorem Rm(h:Ev X Γ S a λ x S1=>∃c,x=.bl c/\(c=true->Ev X Γ S1 (.BoolOp .And (b::rest) pos) W)/\(c=false->W (.bl false) S1)):Ev X Γ S (.BoolOp .And (a::b::rest) pos) W:=by
 intro pins s σ H O I env st
 refine BoolOp_and (thn (h pins s σ H O I env st) λ u s1 hq_=>?_)
 obtain⟨v,H1,I1,r1,O1,x,S1,⟨c,hx,h1,h2⟩,st1,ok1,rep1⟩:=hq_
 subst hx
 cases rep1
 cases r1
 refine wpAny_truthy_bool ?_
 cases c with
 | true=>exact thn (h1 rfl pins s1 σ H1 O1 I1 (env.mono st1) ok1) λ _ _ q=>cZ st1 q
 | false=>exact⟨.bl false,H1,I1,rfl,O1,.bl false,S1,h2 rfl,st1,ok1,.bl false⟩
theorem TY(h:Ev X Γ S a λ x S1=>∃c,x=.bl c/\(c=true->W (.bl true) S1)/\(c=false->Ev X Γ S1 (.BoolOp .Or (b::rest) pos) W)):Ev X Γ S (.BoolOp .Or (a::b::rest) pos) W:=by
 intro pins s σ H O I env st
 refine BoolOp_or (thn (h pins s σ H O I env st) λ u s1 hq_=>?_)
 obtain⟨v,H1,I1,r1,O1,x,S1,⟨c,hx,h1,h2⟩,st1,ok1,rep1⟩:=hq_
 subst hx
 cases rep1
 cases r1
 refine wpAny_truthy_bool ?_
 cases c with
 | false=>exact thn (h2 rfl pins s1 σ H1 O1 I1 (env.mono st1) ok1) λ _ _ q=>cZ st1 q
 | true=>exact⟨.bl true,H1,I1,rfl,O1,.bl true,S1,h1 rfl,st1,ok1,.bl true⟩
theorem RJ(h:Ev X Γ S a λ x S1=>∃c,x=.bl c/\W (.bl (!c)) S1):Ev X Γ S (.UnaryOp .Not a pos) W:=by
 intro pins s σ H O I env st
 refine UnaryOp_ (thn (h pins s σ H O I env st) λ u s1 hq_=>?_)
 obtain⟨v,H1,I1,r1,O1,x,S1,⟨c,hx,h1⟩,st1,ok1,rep1⟩:=hq_
 subst hx
 cases rep1
 cases r1
 exact not_of (wpAny_truthy_bool ⟨.bl (!c),H1,I1,rfl,O1,.bl (!c),S1,h1,st1,ok1,.bl (!c)⟩)
theorem Hz(h:Ev X Γ S a λ x S1=>∃i,x=.int i/\W (.int (-i)) S1):Ev X Γ S (.UnaryOp .USub a pos) W:=by
 intro pins s σ H O I env st
 refine UnaryOp_ (thn (h pins s σ H O I env st) λ u s1 hq_=>?_)
 obtain⟨v,H1,I1,r1,O1,x,S1,⟨c,hx,h1⟩,st1,ok1,rep1⟩:=hq_
 subst hx
 cases rep1
 exact Qv pins s1 σ H1 _ _ _ I1 r1 ⟨c,rfl,O1,.int (-c),S1,h1,st1,ok1,.int (-c)⟩
theorem Ks{c:Expr}{op op':CmpOp}(h:Ev X Γ S a λ x S1=>Ev X Γ S1 b λ y S2=>bh X op x y S2 λ z S3=>∃k,z=.bl k/\(k=false->W (.bl false) S3)/\(k=true->Ev X Γ S3 c λ t S4=>bh X op' y t S4 W))
 (hm:lastMarks [op,op'] [b,c]=false:=by with_unfolding_all rfl):Ev X Γ S (.Compare a [op,op'] [b,c] pos) W:=by
 intro pins s σ H O I env st
 refine Compare_chain (thn (h pins s σ H O I env st) λ u s1 ⟨v,H1,I1,r1,O1,x,S1,hb,st1,ok1,rep1⟩=>chain_link (thn (hb pins s1 σ H1 O1 I1 (env.mono st1) ok1) λ u' s2 hq_=>?_)) hm
 obtain⟨w,H2,I2,r2,O2,y,S2,hw,st2,ok2,rep2⟩:=hq_
 refine thn (hw pins s2 σ H2 O2 v w u u' I2 ok2 (rep1.mono st2) rep2 r1 r2) λ _ s3 hq_=>?_
 obtain⟨z,H3,I3,r3,O3,d,S3,⟨k,hd,k1,k2⟩,st3,ok3,rep3⟩:=hq_
 subst hd
 cases rep3
 cases r3
 refine wpAny_truthy_bool ?_
 cases k with
 | false=>exact ite_ff ⟨.bl false,H3,I3,rfl,O3,.bl false,S3,k1 rfl,(st1.trans st2).trans st3,ok3,.bl false⟩
 | true=>
   refine ite_tt (chain_last (thn (k2 rfl pins s3 σ H3 O3 I3 (((env.mono st1).mono st2).mono st3) ok3) λ u4 s4 hq_=>?_))
   obtain⟨w4,H4,I4,r4,O4,t,S4,h4,st4,ok4,rep4⟩:=hq_
   exact thn (h4 pins s4 σ H4 O4 w w4 u' u4 I4 ok4 ((rep2.mono st3).mono st4) rep4 r2 r4) λ _ _ q=>cZ (((st1.trans st2).trans st3).trans st4) q
theorem gh{W:List D->Store->Prop}(w:W [] S):EvA X Γ S [] W:=λ _ pins s σ H O I _ st=>Calls.spliced_nil ⟨[],H,I,.nil,O,[],S,w,Step.refl O H,st,.nil⟩
theorem cC{W:List D->Store->Prop}(h:Ev X Γ S e λ d S1=>EvA X Γ S1 es λ ds S2=>W (d::ds) S2)(hs:starEach (e::es) X.env=(false,eval e X.env)::starEach es X.env:=by rfl):EvA X Γ S (e::es) W:=by
 intro pos pins s σ H O I env st
 rw[hs]
 show wpAny _ _ (spliced ((false,eval e X.env)::backTo pos (starEach es X.env))) _ _ s
 refine Calls.spliced_cons (thn (h pins s σ H O I env st) λ u s1 hq_=>?_)
 obtain⟨v,H1,I1,r1,O1,x,S1,hb,st1,ok1,rep1⟩:=hq_
 exact thn (hb pos pins s1 σ H1 O1 I1 (env.mono st1) ok1) λ us s2 ⟨xs,H2,I2,r2,O2,ds,S2,w,st2,ok2,rep2⟩=>⟨v::xs,H2,I2,.cons r1 r2,O2,x::ds,S2,w,st1.trans st2,ok2,.cons (rep1.mono st2) rep2⟩
theorem small{n:Nat}(h:n≤1000000):n≤sizeLine:=Nat.le_trans h (by decide)
theorem RN(st:StOk K O H S)(h:H p=none):Tp K O (upd H p (.tup xs)) p xs:=⟨st.fresh_not h,aQ⟩
theorem Rc(st:StOk K O H S)(h:H p=none):Ls K O (upd H p (.lst xs)) p xs:=.inl ⟨st.fresh_not h,.inl aQ⟩
theorem gw(w:W (.tup ds) S)(st:StOk K O H S)(h:H p=none)(r:Reps K O H xs ds):QG K O H W (.ref p) (upd H p (.tup xs)):=
 ⟨O,.tup ds,S,w,Step.fresh h _,st.fresh h _,.tup (RN st h) (r.mono (Step.fresh h _))⟩
theorem dO(w:W (.lst ds) S)(st:StOk K O H S)(h:H p=none)(r:Reps K O H xs ds):QG K O H W (.ref p) (upd H p (.lst xs)):=
 ⟨O,.lst ds,S,w,Step.fresh h _,st.fresh h _,.lst (Rc st h) (r.mono (Step.fresh h _))⟩
theorem qj(w:W (.loc S.length) (S++[ds]))(st:StOk K O H S)(h:H p=none)(r:Reps K O H xs ds):QG K O H W (.ref p) (upd H p (.lst xs)):=
 ⟨O.more p,.loc S.length,S++[ds],w,Step.own h _,st.own h r,.loc (by show(O.A++[(p,false)])[S.length]? =some (p,false);rw[←st.len];simp)⟩
theorem QJ{x1}(h:EvA X Γ S es λ ds S1=>ds.length≤1000000/\W (.tup ds) S1):Ev X Γ S (.Tuple es x1 pos) W:=by
 intro pins s σ H O I env st
 refine wpAny_Tuple_spliced (thn (h pos pins s σ H O I env st) λ us s1 ⟨xs,H1,I1,r,O1,ds,S1,⟨z,w⟩,st1,ok1,rep⟩=>⟨by rw[←r.length,rep.length];exact small z,?_⟩)
 have hf:H1 s1.heap.objs.size=none:=I1.hok.fresh (y9 _)
 refine⟨.ref s1.heap.objs.size,upd H1 s1.heap.objs.size (.tup xs),I1.laid (t':=s1.toks) (λ b u e=>Heap.get?_push_of_some _ e) (y9 _) ?_,rfl,(gw w ok1 hf rep).pre st1⟩
 exact⟨by rw[rep.length];exact small z,us,r,⟨_,Heap.get?_push_size _ rfl,rfl,_,rfl⟩⟩
theorem Q8(h:EvA X Γ S es λ ds S1=>ds.length≤1000000/\W (.lst ds) S1):Ev X Γ S (.List es pos) W:=by
 intro pins s σ H O I env st
 refine wpAny_List_spliced (thn (h pos pins s σ H O I env st) λ us s1 ⟨xs,H1,I1,r,O1,ds,S1,⟨z,w⟩,st1,ok1,rep⟩=>⟨by rw[←r.length,rep.length];exact small z,?_⟩)
 have hf:H1 s1.heap.objs.size=none:=I1.hok.fresh (y9 _)
 refine⟨.ref s1.heap.objs.size,upd H1 s1.heap.objs.size (.lst xs),I1.laid (t':=s1.toks) (λ b u e=>Heap.get?_push_of_some _ e) (y9 _) ?_,rfl,(dO w ok1 hf rep).pre st1⟩
 exact⟨by rw[rep.length];exact small z,us,0,r,Heap.get?_push_size _ rfl⟩
theorem Ol(h:EvA X Γ S es λ ds S1=>ds.length≤1000000/\W (.loc S1.length) (S1++[ds])):Ev X Γ S (.List es pos) W:=by
 intro pins s σ H O I env st
 refine wpAny_List_spliced (thn (h pos pins s σ H O I env st) λ us s1 ⟨xs,H1,I1,r,O1,ds,S1,⟨z,w⟩,st1,ok1,rep⟩=>⟨by rw[←r.length,rep.length];exact small z,?_⟩)
 have hf:H1 s1.heap.objs.size=none:=I1.hok.fresh (y9 _)
 refine⟨.ref s1.heap.objs.size,upd H1 s1.heap.objs.size (.lst xs),I1.laid (t':=s1.toks) (λ b u e=>Heap.get?_push_of_some _ e) (y9 _) ?_,rfl,(qj w ok1 hf rep).pre st1⟩
 exact⟨by rw[rep.length];exact small z,us,0,r,Heap.get?_push_size _ rfl⟩
theorem jb{op:Operator}{C:Int->Int->Prop}{g:Int->Int->Int}(ho:OpR X (binaryOp op) (rI C λ i j=>.int (g i j))){i j:Int}(c:C i j)(w:W (.int (g i j)) S):dg X op (.int i) (.int j) S W:=
 dZ ho λ O H v w' st r1 r2=>by cases r1;cases r2;exact⟨i,j,rfl,rfl,c,QG.here w st (.int _)⟩
theorem yK{op:Operator}{g:Int->Int->Int}(ho:OpR X (binaryOp op) (rI0 λ i j=>.int (g i j))){i j:Int}(w:W (.int (g i j)) S):dg X op (.int i) (.int j) S W:=
 dZ ho λ O H v w' st r1 r2=>by cases r1;cases r2;exact⟨i,j,rfl,rfl,QG.here w st (.int _)⟩
theorem Ti(w:W (.int (i+j)) S):dg X .Add (.int i) (.int j) S W:=yK Rx w
theorem Tw(w:W (.int (i-j)) S):dg X .Sub (.int i) (.int j) S W:=yK QZ w
theorem Up(c:CMul i j)(w:W (.int (i*j)) S):dg X .Mult (.int i) (.int j) S W:=jb Rp c w
theorem TJ(c:0<j)(w:W (.int (i % j)) S):dg X .Mod (.int i) (.int j) S W:=jb QK c w
theorem Qu(c:0<j/\j<1073741824)(w:W (.int (i/j)) S):dg X .FloorDiv (.int i) (.int j) S W:=jb Pn c w
theorem Ue(c:CPow i j)(w:W (.int (i ^ j.toNat)) S):dg X .Pow (.int i) (.int j) S W:=jb Qy c w
theorem m7{op:CmpOp}{g:Int->Int->Bool}(ho:OpR X (compareOp op) (rI0 λ i j=>.bl (g i j))){i j:Int}(w:W (.bl (g i j)) S):bh X op (.int i) (.int j) S W:=
 dZ ho λ O H v w' st r1 r2=>by cases r1;cases r2;exact⟨i,j,rfl,rfl,QG.here w st (.bl _)⟩
theorem U9(w:W (.bl (decide (i<j))) S):bh X .Lt (.int i) (.int j) S W:=m7 SN w
theorem Vi(w:W (.bl (decide (i≤j))) S):bh X .LtE (.int i) (.int j) S W:=m7 Tq w
theorem Va(w:W (.bl (decide (j<i))) S):bh X .Gt (.int i) (.int j) S W:=m7 SM w
theorem UV(w:W (.bl (decide (j≤i))) S):bh X .GtE (.int i) (.int j) S W:=m7 Uj w
theorem Tt(w:W (.bl (decide (i=j))) S):bh X .Eq (.int i) (.int j) S W:=
 dZ MT λ O H v w' st r1 r2=>by
  cases r1;cases r2
  have e:decide (V.int i=V.int j)=decide (i=j):=by rw[nq];exact(Bool.beq_eq_decide_eq i j)
  exact⟨rfl,by rw[e];exact QG.here w st (.bl _)⟩
theorem Uh(w:W (.bl (!decide (i=j))) S):bh X .NotEq (.int i) (.int j) S W:=
 dZ Ng λ O H v w' st r1 r2=>by
  cases r1;cases r2
  have e:decide (V.int i=V.int j)=decide (i=j):=by rw[nq];exact(Bool.beq_eq_decide_eq i j)
  exact⟨rfl,by rw[e];exact QG.here w st (.bl _)⟩
theorem Uo{i j:Bool}(w:W (.bl (i==j)) S):bh X .Eq (.bl i) (.bl j) S W:=
 dZ MT λ O H v w' st r1 r2=>by
  cases r1;cases r2
  exact⟨rfl,by rw[qG];exact QG.here w st (.bl _)⟩
theorem Ux{i j:Bool}(w:W (.bl (!(i==j))) S):bh X .NotEq (.bl i) (.bl j) S W:=
 dZ Ng λ O H v w' st r1 r2=>by
  cases r1;cases r2
  exact⟨rfl,by rw[qG];exact QG.here w st (.bl _)⟩
theorem Us(w:W (.bl (match x with | .non=>true | _=>false)) S):bh X .Is x .non S W:=
 dZ Ri λ O H v w' st r1 r2=>by
  cases r2
  refine⟨rfl,?_⟩
  cases r1<;>exact QG.here w st (.bl _)
theorem OD(w:W (.bl (match x with | .non=>false | _=>true)) S):bh X .IsNot x .non S W:=
 dZ Oq λ O H v w' st r1 r2=>by
  cases r2
  refine⟨rfl,?_⟩
  cases r1<;>exact QG.here w st (.bl _)
theorem QD{es:List D}(hz:ds.length+es.length≤1000000)(w:W (.tup (ds++es)) S):dg X .Add (.tup ds) (.tup es) S W:=by
 intro pins s σ H O v w' u u' I st r1 r2 r3 r4
 cases r1 with
 | @tup a xs _ h1 q1=>
   cases r2 with
   | @tup b ys _ h2 q2=>
     by_cases hx:xs=[]
     . subst hx
       have e:ds=[]:=by have:=q1.length;simpa using this.symm
       subst e
       cases r3
       cases r4
       obtain⟨its,v1,p1,_⟩:=I.tuple h1.sq
       obtain⟨its2,v2,p2,_⟩:=I.tuple h2.sq
       cases v1
       obtain⟨⟨cls,dd,data,sl⟩,ho,hc,n,hd⟩:=id p1
       obtain⟨⟨cls2,dd2,data2,sl2⟩,ho2,hc2,n2,hd2⟩:=id p2
       simp only at hc hd hc2 hd2
       subst hc hd hc2 hd2
       exact concat_meets ⟨_,ho,rfl⟩ ⟨_,ho2,rfl⟩ noFill_tuple_add seq_tuple_add PySem.F.slot_tuple_add PySem.F.entry_tuple_add (PySem.F.args_tuple_add_2 _ _)
        (tuple_addW0 a b ([]:List Value).toArray its2.toArray n n2 dd dd2 sl sl2 rfl) ⟨ho,ho2,⟨.ref b,H,I,rfl,QG.here w st (.tup h2 q2)⟩⟩
     . refine Ox pins s σ H _ _ u u' _ I r3 r4 ⟨a,b,xs,ys,rfl,rfl,h1.sq,h2.sq,hx,by rw[q1.length,q2.length];exact small hz,λ e=>?_,λ _ p hp=>gw w st hp (q1.append q2)⟩
       subst e
       have e:es=[]:=by have:=q2.length;simpa using this.symm
       subst e
       rw[List.append_nil]at w
       exact QG.here w st (.tup h1 q1)
theorem Rf{es:List D}(hz:ds.length+es.length≤1000000)(w:W (.lst (ds++es)) S):dg X .Add (.lst ds) (.lst es) S W:=by
 intro pins s σ H O v w' u u' I st r1 r2 r3 r4
 cases r1 with
 | @lst a xs _ h1 q1=>
   cases r2 with
   | @lst b ys _ h2 q2=>
     cases r3
     cases r4
     obtain⟨its,v1,p1,_⟩:=I.list h1.sq
     obtain⟨its2,v2,p2,_⟩:=I.list h2.sq
     obtain⟨⟨cls,dd,data,sl⟩,n,ho,hc,hdd,hd⟩:=id p1
     obtain⟨⟨cls2,dd2,data2,sl2⟩,n2,ho2,hc2,hdd2,hd2⟩:=id p2
     simp only at hc hd hc2 hd2
     subst hc hd hc2 hd2
     have z:its.length+its2.length≤sizeLine:=by rw[←v1.length,←v2.length,q1.length,q2.length];exact small hz
     refine concat_meets ⟨_,ho,rfl⟩ ⟨_,ho2,rfl⟩ noFill_list_add seq_list_add PySem.F.slot_list_add PySem.F.entry_list_add (PySem.F.args_list_add_2 _ _)
      (list_addW a b its.toArray its2.toArray n n2 dd dd2 sl sl2 (by simpa using z)) ⟨ho,ho2,?_⟩
     have ea:its.toArray++its2.toArray=(its++its2).toArray:=by simp
     rw[ea]
     refine⟨.ref s.heap.objs.size,_,I.lnew (t':=s.toks) (v1.append v2) (by rw[x6,q1.length,q2.length];exact small hz),rfl,dO w st I.fresh (q1.append q2)⟩
end
end DL
namespace DL
open PySem PySem.Spec L2
open PyProof.Rows
variable {K : PySem.W.Frag} {O : Own} {H : Hp} {xs : List V} {ds : List D} {i : Int} {d : D} {k : Nat} {x : Str} {p : Pos}
section
variable {X : Cx} {Γ : Gam} {S : Store} {W : WD} {a b e : Expr} {es : List Expr} {pos : Pos}
noncomputable def IxW(X:Cx)(a b:Expr)(x y:D)(S:Store)(W:WD):Prop:=
 ∀ (pins:Pins)(s:Shared)(σ:St)(H:Hp)(O:Own)(v w:V)(u u':Value),Inv X pins σ H s->StOk X.K O H S->Rep X.K O H v x->Rep X.K O H w y->RelV v u->RelV w u'->
   subscripted b false u u'=operate [u,u'] (getItem u u')->wpAny (model X.prog X.w) X.A (subscriptTail a b u u') (EP X pins σ (QG X.K O H W)) X.xe s
theorem Sv(h:Ev X Γ S a λ x S1=>Ev X Γ S1 b λ y S2=>IxW X a b x y S2 W)(hs:Dh b:=by intro _ _;rfl):Ev X Γ S (.Subscript a b pos) W:=by
 intro pins s σ H O I env st
 refine Subscript_ (thn (h pins s σ H O I env st) λ u s1 hq_=>?_)
 obtain⟨v,H1,I1,r1,O1,x,S1,hb,st1,ok1,rep1⟩:=hq_
 refine thn (hb pins s1 σ H1 O1 I1 (env.mono st1) ok1) λ u' s2 hq_=>?_
 obtain⟨w,H2,I2,r2,O2,y,S2,hw,st2,ok2,rep2⟩:=hq_
 exact thn (hw pins s2 σ H2 O2 v w u u' I2 ok2 (rep1.mono st2) rep2 r1 r2 (hs _ _)) λ _ _ q=>cZ (st1.trans st2) q
theorem sO(r:Reps K O H xs ds)(h:atI ds i=some d):∃v,atI xs i=some v/\Rep K O H v d:=by
 unfold atI at h ⊢
 rw[r.length]
 cases e:ixN ds.length i with
 | none=>rw[e]at h;cases h
 | some j=>
   rw[e]at h
   exact r.get (i:=j) h
theorem Ud(h:atI ds i=some d)(w:W d S):IxW X a b (.tup ds) (.int i) S W:=by
 intro pins s σ H O v w' u u' I st r1 r2 r3 r4 hs
 cases r2
 cases r1 with
 | @tup p xs _ h1 q1=>
   obtain⟨z,hz,rz⟩:=sO q1 h
   exact RV a b pins s σ H _ _ u u' _ I r3 r4 ⟨p,xs,i,z,rfl,rfl,h1.sq,hz,QG.here w st rz⟩ hs
theorem Uu(h:atI ds i=some d)(w:W d S):IxW X a b (.lst ds) (.int i) S W:=by
 intro pins s σ H O v w' u u' I st r1 r2 r3 r4 hs
 cases r2
 cases r1 with
 | @lst p xs _ h1 q1=>
   obtain⟨z,hz,rz⟩:=sO q1 h
   exact CQ a b pins s σ H _ _ u u' _ I r3 r4 ⟨p,xs,i,z,rfl,rfl,h1.sq,hz,QG.here w st rz⟩ hs
theorem TF(hk:S[k]? =some ds)(h:atI ds i=some d)(w:W d S):IxW X a b (.loc k) (.int i) S W:=by
 intro pins s σ H O v w' u u' I st r1 r2 r3 r4 hs
 cases r2
 cases r1 with
 | @loc p _ h1=>
   obtain⟨xs,hx,q1⟩:=st.obj k p ds h1 hk
   obtain⟨z,hz,rz⟩:=sO q1 h
   exact CQ a b pins s σ H _ _ u u' _ I r3 r4 ⟨p,xs,i,z,rfl,rfl,SqL.of hx,hz,QG.here w st rz⟩ hs
noncomputable def PoD(X:Cx)(Γ:Gam)(S:Store)(o:Option Expr)(W:Option Int->Store->Prop):Prop:=match o with
 | none=>W none S
 | some e=>Ev X Γ S e λ d S1=>∃i,d=.int i/\W (some i) S1
noncomputable def SlW(X:Cx)(x:D)(lo hi:Option Int)(S:Store)(W:WD):Prop:=
 ∀ (pins:Pins)(s:Shared)(σ:St)(H:Hp)(O:Own)(v:V)(u vl vu:Value)(sl:Addr),Inv X pins σ H s->StOk X.K O H S->Rep X.K O H v x->RelV v u->s.heap.IsSliceOf sl vl vu .none->IsPart vl lo->IsPart vu hi->
   ∃T id,typeLookup (.type T) "__getitem__"=pure (some (.builtin id))/\s.TypeIs u T/\wpAny (model X.prog X.w) X.A (getItem u (.ref sl)) (EP X pins σ (QG X.K O H W)) X.xe s
theorem Io{W:Option Int->Store->Prop}{o:Option Expr}(h:PoD X Γ S o W){pins:Pins}{s:Shared}{σ:St}{H:Hp}{O:Own}(I:Inv X pins σ H s)(env:EnvOk X.K O H σ Γ)(st:StOk X.K O H S):
 wpAny (model X.prog X.w) X.A (evalPart o X.env) (λ u s'=>∃p H' O' S',Inv X pins σ H' s'/\IsPart u p/\W p S'/\Step O O' H H'/\StOk X.K O' H' S') X.xe s:=by
 cases o with
 | none=>
   rw[evalPart_none]
   exact wpAny_pure ⟨none,H,O,S,I,.none,h,Step.refl O H,st⟩
 | some e=>
   rw[evalPart_some]
   refine thn (h pins s σ H O I env st) λ u s1 hq_=>?_
   obtain⟨v,H1,I1,r1,O1,x,S1,⟨i,hx,w⟩,st1,ok1,rep1⟩:=hq_
   subst hx
   cases rep1
   obtain⟨t,rfl⟩:=r1
   exact⟨some i,H1,O1,S1,I1,.int i t,w,st1,ok1⟩
theorem KC{lo hi:Option Expr}{p2:Pos}(h:Ev X Γ S e λ x S1=>PoD X Γ S1 lo λ l S2=>PoD X Γ S2 hi λ r S3=>SlW X x l r S3 W):Ev X Γ S (.Subscript e (.Slice lo hi none p2) pos) W:=by
 intro pins s σ H O I env st
 refine Subscript_ (thn (h pins s σ H O I env st) λ v s1 hq_=>?_)
 obtain⟨y,H1,I1,r1,O1,x,S1,hb,st1,ok1,rep1⟩:=hq_
 refine wpAny_Slice (thn (Io hb I1 (env.mono st1) ok1) λ vl s2 ⟨l,H2,O2,S2,I2,pl,hc,st2,ok2⟩=>thn (Io hc I2 ((env.mono st1).mono st2) ok2) λ vu s3 hq_=>?_)
 obtain⟨r,H3,O3,S3,I3,pu,hd,st3,ok3⟩:=hq_
 rw[evalPart_none]
 refine wpAny_pure ?_
 have I4:Inv X pins σ H3 {s3 with heap:=s3.heap.push {cls:=.type "slice",data:=.fields #[vl,vu,.none]}}:=I3.kept (t':=s3.toks) λ b ob q=>Heap.get?_push_of_some _ q
 obtain⟨T,id,hT,ht,hg⟩:=hd pins {s3 with heap:=s3.heap.push {cls:=.type "slice",data:=.fields #[vl,vu,.none]}} σ H3 O3 y v vl vu s3.heap.objs.size I4 ok3 ((rep1.mono st2).mono st3) r1 (Heap.IsSliceOf.new ..) pl pu
 show wpAny (model X.prog X.w) X.A (subscriptTail e (.Slice lo hi none p2) v (.ref s3.heap.objs.size)) _ X.xe {s3 with heap:=s3.heap.push {cls:=.type "slice",data:=.fields #[vl,vu,.none]}}
 exact tail_any (ops:=[.ref s3.heap.objs.size,v]) ht hT (thn hg λ _ _ q=>cZ ((st1.trans st2).trans st3) q) (by with_unfolding_all rfl)
noncomputable def cutD(ds:List D)(lo hi:Option Int):List D:=(ds.drop (HT.sIx ds.length 0 lo)).take (HT.sIx ds.length ds.length hi-HT.sIx ds.length 0 lo)
theorem tY(r:Reps K O H xs ds)(lo hi:Option Int):Reps K O H (lu xs lo hi) (cutD ds lo hi):=by
 unfold lu cutD
 rw[r.length]
 exact(r.drop _).take _
theorem Ao{prog:Program}{w:World}{A:Around}{E:Value->Shared->Prop}{s:Shared}{t sl:Addr}{items:Array Value}{vl vu:Value}{lo hi:Option Int}{Q:Value->Shared->Prop}(ht:IsTup s.heap t items)(hs:s.heap.IsSliceOf sl vl vu .none)(pl:IsPart vl lo)(pu:IsPart vu hi)
 (h0:HT.sIx items.size 0 lo=0)(h1:HT.sIx items.size items.size hi=items.size)(h:Q (.ref t) s):wpAny (model prog w) A (getItem (.ref t) (.ref sl)) Q E s:=by
 obtain⟨os,hos,hcs,hds⟩:=id hs
 have isS:s.TypeIs (.ref sl) "slice":=⟨os,hos,hcs⟩
 unfold getItem
 try with_reducible refine wpAny_holding ?_
 first | refine wpAny_bind (wpAny_pure ?_) | skip
 refine wpAny_bind (wpAny_sequenceKey ht.typeIs (by decide) ?_)
 refine wpAny_bind (wpAny_callSpecial?_slot (name:=Str.ofString "__getitem__") ht.typeIs PyProof.Rows.slot_tuple_getitem
  (wpAny_call_entry PyProof.Rows.slot_tuple_getitem ht.typeIs entry_tuple_getitem ?_ (args_tuple_getitem _ _)))
 show wpAny _ _ (Builtin.Tuple.tupleItemsOf (.ref t)>>=_) _ _ s
 refine wpAny_bind (tupleItemsOf_ ht (wpAny_bind (wpAny_typeOf isS ?_)))
 rw[if_pos (by decide)]
 refine wpAny_bind (HT.sliceApplied_gen hs pl pu ?_)
 rw[h0,h1]
 show wpAny _ _ (if(((0:Nat):Int)==0&&(1:Int)==1&&(items.size-0)==items.size)=true then _ else _) _ _ s
 rw[if_pos (by simp)]
 unfold Builtin.Tuple.tupleIsExact
 first
  | exact wpAny_bind (wpAny_bind (wpAny_typeOf ht.typeIs (wpAny_pure (by rw[if_pos (by decide)];exact wpAny_bind (wpAny_rule (wpAny_pure ⟨_,rfl,wpAny_pure h⟩))))))
  | (refine wpAny_bind (wpAny_bind (wpAny_typeOf ht.typeIs (wpAny_pure ?_)))
     simp only[beq_self_eq_true,if_true]
     exact wpAny_bind (wpAny_rule (wpAny_pure ⟨_,rfl,wpAny_pure h⟩)))
theorem Uk{lo hi:Option Int}(w:W (.tup (cutD ds lo hi)) S):SlW X (.tup ds) lo hi S W:=by
 intro pins s σ H O v u vl vu sl I st r1 r3 hs pl pu
 cases r1 with
 | @tup p xs _ h1 q1=>
   by_cases hw:HT.sIx xs.length 0 lo=0/\HT.sIx xs.length xs.length hi=xs.length
   . cases r3
     obtain⟨its,r,ht,hz⟩:=I.tuple h1.sq
     have hlen:its.toArray.size=xs.length:=by rw[x4];exact r.length.symm
     refine⟨"tuple",_,PyProof.Rows.slot_tuple_getitem.lookup,ht.typeIs,Ao ht hs pl pu (by rw[hlen];exact hw.1) (by rw[hlen];exact hw.2) ⟨.ref p,H,I,rfl,?_⟩⟩
     have e:cutD ds lo hi=ds:=by
      unfold cutD
      rw[←q1.length,hw.1,hw.2,List.drop_zero,List.take_of_length_le (by rw[←q1.length];omega)]
     rw[e]at w
     exact QG.here w st (.tup h1 q1)
   . exact R9 pins s σ H _ u vl vu lo hi sl _ I r3 hs pl pu ⟨p,xs,rfl,h1.sq,hw,λ p' hp=>gw w st hp (tY q1 lo hi)⟩
theorem Ul{lo hi:Option Int}(w:W (.lst (cutD ds lo hi)) S):SlW X (.lst ds) lo hi S W:=by
 intro pins s σ H O v u vl vu sl I st r1 r3 hs pl pu
 cases r1 with
 | @lst p xs _ h1 q1=>exact Eg pins s σ H _ u vl vu lo hi sl _ I r3 hs pl pu ⟨p,xs,rfl,h1.sq,λ p' hp=>dO w st hp (tY q1 lo hi)⟩
theorem MK{id:String}(h:EvA X Γ S (e::es) λ ds S1=>dm X (.builtin id) ds S1 W)(hm:X.mg x=none)(hv:bootBuiltins x=some (.builtin id))(hg:Gl X x:=by rfl)(hn:x≠"__name__":=by decide)(hdb:(x==("__debug__":Str))=false:=by decide)
 (he:starEach (e::es) X.env=(false,eval e X.env)::starEach es X.env:=by rfl)(hpl:(backTo pos (starEach es X.env)).any (·.1)=false:=by rfl):Ev X Γ S (.Call (.Name x p) (e::es) [] pos) W:=by
 intro pins s σ H O I env st
 refine wpAny_Call_Name_kw (bY I hg hm hv ?_ hn hdb)
 exact PyProof.Rows.callWith_builtin1 (thn (h pos pins s σ H O I env st) λ us s1 ⟨vs,H1,I1,r1,O1,ds,S1,w,st1,ok1,rep⟩=>thn (w pins s1 σ H1 O1 vs us I1 ok1 rep r1) λ _ _ q=>cZ st1 q) he hpl
theorem Lg{T:String}(h:EvA X Γ S (e::es) λ ds S1=>dm X (.type T) ds S1 W)(hm:X.mg x=none)(hv:bootBuiltins x=some (.type T))(hg:Gl X x:=by rfl)(hn:x≠"__name__":=by decide)(hdb:(x==("__debug__":Str))=false:=by decide)
 (he:starEach (e::es) X.env=(false,eval e X.env)::starEach es X.env:=by rfl)(hpl:(backTo pos (starEach es X.env)).any (·.1)=false:=by rfl):Ev X Γ S (.Call (.Name x p) (e::es) [] pos) W:=by
 intro pins s σ H O I env st
 refine wpAny_Call_Name_kw (bY I hg hm hv ?_ hn hdb)
 exact PyProof.Rows.callWith_type1 (thn (h pos pins s σ H O I env st) λ us s1 ⟨vs,H1,I1,r1,O1,ds,S1,w,st1,ok1,rep⟩=>thn (w pins s1 σ H1 O1 vs us I1 ok1 rep r1) λ _ _ q=>cZ st1 q) he hpl
theorem cR{vs:List V}(r:Reps K O H vs [d]):∃v,vs=[v]/\Rep K O H v d:=by
 cases r with
 | cons a t=>cases t;exact⟨_,rfl,a⟩
theorem RP(w:W (.int ds.length) S):dm X (.builtin "len") [.tup ds] S W:=bV gU λ O H vs st r=>by
 obtain⟨v,rfl,r'⟩:=cR r
 cases r' with
 | @tup p xs _ h1 q1=>exact⟨p,xs,rfl,.inr h1.sq,by rw[q1.length];exact QG.here w st (.int _)⟩
theorem R7(w:W (.int ds.length) S):dm X (.builtin "len") [.lst ds] S W:=bV gU λ O H vs st r=>by
 obtain⟨v,rfl,r'⟩:=cR r
 cases r' with
 | @lst p xs _ h1 q1=>exact⟨p,xs,rfl,.inl h1.sq,by rw[q1.length];exact QG.here w st (.int _)⟩
theorem Qx(hk:S[k]? =some ds)(w:W (.int ds.length) S):dm X (.builtin "len") [.loc k] S W:=bV gU λ O H vs st r=>by
 obtain⟨v,rfl,r'⟩:=cR r
 cases r' with
 | @loc p _ h1=>
   obtain⟨xs,hx,q1⟩:=st.obj k p ds h1 hk
   exact⟨p,xs,rfl,.inl (SqL.of hx),by rw[q1.length];exact QG.here w st (.int _)⟩
theorem Q0(w:W (.tup ds) S):dm X (.type "tuple") [.lst ds] S W:=bV j4 λ O H vs st r=>by
 obtain⟨v,rfl,r'⟩:=cR r
 cases r' with
 | @lst p xs _ h1 q1=>exact⟨p,xs,rfl,.inl ⟨h1.sq,λ l hl=>gw w st hl q1⟩⟩
theorem Qt(hk:S[k]? =some ds)(w:W (.tup ds) S):dm X (.type "tuple") [.loc k] S W:=bV j4 λ O H vs st r=>by
 obtain⟨v,rfl,r'⟩:=cR r
 cases r' with
 | @loc p _ h1=>
   obtain⟨xs,hx,q1⟩:=st.obj k p ds h1 hk
   exact⟨p,xs,rfl,.inl ⟨SqL.of hx,λ l hl=>gw w st hl q1⟩⟩
theorem R8(w:W (.lst ds) S):dm X (.type "list") [.tup ds] S W:=bV mC λ O H vs st r=>by
 obtain⟨v,rfl,r'⟩:=cR r
 cases r' with
 | @tup p xs _ h1 q1=>exact⟨p,xs,rfl,.inr h1.sq,λ l hl=>dO w st hl q1⟩
theorem Q3(w:W (.lst ds) S):dm X (.type "list") [.lst ds] S W:=bV mC λ O H vs st r=>by
 obtain⟨v,rfl,r'⟩:=cR r
 cases r' with
 | @lst p xs _ h1 q1=>exact⟨p,xs,rfl,.inl h1.sq,λ l hl=>dO w st hl q1⟩
noncomputable abbrev Ct:=List D->Store->WD->Prop
noncomputable def spC(K:PySem.W.Frag)(n:Nat)(F:Ct):Sp:=λ vs H Q _=>∃O ds S W,ds.length=n/\Reps K O H vs ds/\StOk K O H S/\F ds S W/\∀v H',QG K O H W v H'->Q v H'
structure Callee(P:Program)(w:World)(K:PySem.W.Frag)(mg:Str->Option Value)(base:Heap)(x:Str)(k n:Nat)(F:Ct):Prop where
 ex:∃f fd ps,FnOk P w K mg base CX0 k f fd ps (spC K n F)/\mg x=some (.ref f)/\PySem.W.keepIn K (.ref f)=true/\Binds K fd ps []
theorem PT{n:Nat}{F:Ct}(C:Callee X.prog X.w X.K X.mg X.base x k n F)(hr:Room k X.A)(h:EvA X Γ S (e::es) λ ds S1=>ds.length=n/\F ds S1 W)(hg:Gl X x:=by rfl)(hdb:(x==("__debug__":Str))=false:=by decide)
 (he:starEach (e::es) X.env=(false,eval e X.env)::starEach es X.env:=by rfl)(hpl:(backTo pos (starEach es X.env)).any (·.1)=false:=by rfl):Ev X Γ S (.Call (.Name x p) (e::es) [] pos) W:=by
 intro pins s σ H O I env st
 obtain⟨f,fd,ps,hF,hm,hk,hb⟩:=C.ex
 refine wpAny_Call_Name_kw (DX I hg hm ?_ hdb)
 refine PySem.W.callWith_K (h₀:=X.base) I.ok.mod.kin hk (thn (h pos pins s σ H O I env st) λ us s1 ⟨vs,H1,I1,r1,O1,ds,S1,⟨hl,w⟩,st1,ok1,rep⟩=>⟨I1.kIn,?_⟩) he hpl
 refine Su hF hr hb .nil Ug I1 r1 ?_
 rw[List.append_nil]
 exact⟨O1,ds,S1,W,hl,rep,ok1,w,λ v H' q=>q.pre st1⟩
structure Fin where
 nx:Gam->Store->Prop
 rt:WD
 bk:Gam->Store->Prop:=λ _ _=>False
 ct:Gam->Store->Prop:=λ _ _=>False
noncomputable def QN(K:PySem.W.Frag)(O:Own)(H:Hp)(W:Gam->Store->Prop):St->Hp->Prop:=λ σ' H'=>∃O' Γ' S',W Γ' S'/\Step O O' H H'/\StOk K O' H' S'/\EnvOk K O' H' σ' Γ'
noncomputable def ends(K:PySem.W.Frag)(O:Own)(H:Hp)(W:Fin):Ends:={nx:=QN K O H W.nx,rt:=QG K O H W.rt,bk:=QN K O H W.bk,ct:=QN K O H W.ct}
noncomputable def Rn(X:Cx)(Γ:Gam)(S:Store)(st:Stmt)(W:Fin):Prop:=
 ∀ (pins:Pins)(s:Shared)(σ:St)(H:Hp)(O:Own),Inv X pins σ H s->EnvOk X.K O H σ Γ->StOk X.K O H S->
   wpAny (model X.prog X.w) X.A (exec st X.env) (SP X pins (ends X.K O H W)) X.xe s
noncomputable def Rns(X:Cx)(Γ:Gam)(S:Store)(sts:List Stmt)(W:Fin):Prop:=
 ∀ (pins:Pins)(s:Shared)(σ:St)(H:Hp)(O:Own),Inv X pins σ H s->EnvOk X.K O H σ Γ->StOk X.K O H S->
   wpAny (model X.prog X.w) X.A (execs sts X.env) (SP X pins (ends X.K O H W)) X.xe s
theorem QN.pre{O1:Own}{H1:Hp}(st:Step O O1 H H1){W:Gam->Store->Prop}{v:St}{H':Hp}(q:QN K O1 H1 W v H'):QN K O H W v H':=by
 obtain⟨O',d,S',w,s',ok,r⟩:=q
 exact⟨O',d,S',w,st.trans s',ok,r⟩
theorem FW{pins:Pins}{O1:Own}{H1:Hp}{W:Fin}(st:Step O O1 H H1){f:Flow}{s':Shared}(q:SP X pins (ends X.K O1 H1 W) f s'):SP X pins (ends X.K O H W) f s':=by
 cases f with
 | next=>obtain⟨σ,H',I,q⟩:=q;exact⟨σ,H',I,QN.pre st q⟩
 | brk=>obtain⟨σ,H',I,q⟩:=q;exact⟨σ,H',I,QN.pre st q⟩
 | cont=>obtain⟨σ,H',I,q⟩:=q;exact⟨σ,H',I,QN.pre st q⟩
 | ret u=>obtain⟨v,σ,H',I,r,q⟩:=q;exact⟨v,σ,H',I,r,QG.pre st q⟩
variable {W : Fin} {st : Stmt} {sts : List Stmt}
theorem Q5(w:W.nx Γ S):Rns X Γ S [] W:=λ pins s σ H O I env st=>wpAny_execs_nil ⟨σ,H,I,O,Γ,S,w,Step.refl O H,st,env⟩
theorem PP(h:Rn X Γ S st {W with nx:=λ Γ1 S1=>Rns X Γ1 S1 sts W}):Rns X Γ S (st::sts) W:=by
 intro pins s σ H O I env ok
 refine wpAny_execs_cons (thn (h pins s σ H O I env ok) λ f s1 q=>?_)
 cases f with
 | next=>
   obtain⟨σ',H',I',O1,Γ1,S1,w,st1,ok1,env1⟩:=q
   exact thn (w pins s1 σ' H' O1 I' env1 ok1) λ _ _ q=>FW st1 q
 | ret v=>exact q
 | brk=>exact q
 | cont=>exact q
theorem Uc(h:Ev X Γ S e W.rt):Rn X Γ S (.Return (some e) pos) W:=by
 intro pins s σ H O I env ok
 exact wpAny_Return_some (thn (h pins s σ H O I env ok) λ v s1 ⟨x,H1,I1,r1,q1⟩=>⟨x,σ,H1,I1,r1,q1⟩)
theorem Vd{c:Expr}{xs ys:List Stmt}(h:Ts X Γ S c λ k S1=>(k=true->Rns X Γ S1 xs W)/\(k=false->Rns X Γ S1 ys W)):Rn X Γ S (.If c xs ys pos) W:=by
 intro pins s σ H O I env ok
 refine wpAny_If (thn (h pins s σ H O I env ok) λ d s1 hq_=>?_)
 obtain⟨H1,I1,O1,S1,w,st1,ok1⟩:=hq_
 cases d with
 | true=>exact thn (w.1 rfl pins s1 σ H1 O1 I1 (env.mono st1) ok1) λ _ _ q=>FW st1 q
 | false=>exact thn (w.2 rfl pins s1 σ H1 O1 I1 (env.mono st1) ok1) λ _ _ q=>FW st1 q
theorem Ni(i:Nat){x:Str}{pos':Pos}(h:Ev X Γ S e λ d S1=>W.nx (Γ.set i (some d)) S1)(hN:X.N.Nodup)(hi:X.N[i]? =some x:=by rfl)(hx:Loc X.env.scope x:=by first | exact Or.inl rfl | exact Or.inr rfl)
 (hs:swapsWith e (some (.Name x pos')) pos.line X.env=pure false:=by rfl)(hf:X.fn x=true∨X.env.scope.names.lookup x=some .local:=by first | exact .inl rfl | exact .inr rfl):Rn X Γ S (.Assign [.Name x pos'] e pos) W:=by
 intro pins s σ H O I env ok
 refine wpAny_Assign_Name (thn (h pins s σ H O I env ok) λ v s1 hq_=>?_) hs
 obtain⟨y,H1,I1,r1,O1,d,S1,w,st1,ok1,rep1⟩:=hq_
 exact zc I1 hN hi hx r1 (λ s2 I2=>⟨_,H1,I2,O1,_,S1,w,st1,ok1,(env.mono st1).set rep1 i⟩) hf
theorem Rj(h:Ev X Γ S e λ d S1=>W.nx Γ S1)(hs:swapsWith e none pos.line X.env=pure false:=by rfl):Rn X Γ S (.Expr e pos) W:=by
 intro pins s σ H O I env ok
 exact wpAny_Expr_any (thn (h pins s σ H O I env ok) λ v s1 ⟨x,H1,I1,r1,O1,d,S1,w,st1,ok1,rep1⟩=>⟨σ,H1,I1,O1,Γ,S1,w,st1,ok1,env.mono st1⟩) I.quiet hs
noncomputable def tE(K:PySem.W.Frag)(Γ:Gam)(S:Store)(W:WD):TE:=λ σ H Q=>∃O,EnvOk K O H σ Γ/\StOk K O H S/\∀v H',QG K O H W v H'->Q v H'
theorem Hs{pins:Pins}{σ:St}{Q Q':VK}{u:Value}{s':Shared}(q:EP X pins σ Q u s')(k:∀v H',Q v H'->Q' v H'):EP X pins σ Q' u s':=by
 obtain⟨v,H',I,r,q⟩:=q
 exact⟨v,H',I,r,k v H' q⟩
theorem Ev.pe{W:WD}(h:Ev X Γ S e W):PE X e (tE X.K Γ S W):=λ pins s σ H Q I ⟨O,env,st,k⟩=>thn (h pins s σ H O I env st) λ _ _ q=>Hs q k
noncomputable def tEA(K:PySem.W.Frag)(Γ:Gam)(S:Store)(W:List D->Store->Prop):TA:=λ σ H Q=>∃O,EnvOk K O H σ Γ/\StOk K O H S/\∀v H',QA K O H W v H'->Q v H'
theorem EvA.pa{W:List D->Store->Prop}(h:EvA X Γ S es W):PA X es (tEA X.K Γ S W):=λ pos pins s σ H Q I ⟨O,env,st,k⟩=>thn (h pos pins s σ H O I env st) λ _ _ ⟨v,H',I',r,q⟩=>⟨v,H',I',r,k v H' q⟩
theorem Px{o i:Expr}{tpos:Pos}(h:Ev X Γ S e λ d S1=>Ev X Γ S1 o λ x S2=>Ev X Γ S2 i λ y S3=>∃k n ds j,x=.loc k/\y=.int n/\S3[k]? =some ds/\ixN ds.length n=some j/\W.nx Γ (S3.set k (ds.set j d)))
 (ha:∀v,assign (.Subscript o i tpos) X.env v=(do
  let ov ←holding [v] (eval o X.env)
  let iv ←holding [v,ov] (eval i X.env)
  standAt tpos
  holding [v,ov,iv] (setItem ov iv v)
  release [v,ov,iv] []):=by intro _;rfl)(hs:swapsWithSole [.Subscript o i tpos] e pos.line X.env=pure false:=by rfl)(hw:swappedStores [.Subscript o i tpos] e X.env=pure none:=by rfl)
 (h1:(assignEach [.Subscript o i tpos] X.env).map (·.2)=[assign (.Subscript o i tpos) X.env]:=by rfl):Rn X Γ S (.Assign [.Subscript o i tpos] e pos) W:=by
 intro pins s σ H O I env ok
 refine wpAny_Assign_stores (thn (h pins s σ H O I env ok) λ u s1 hq_=>?_) hs hw
 obtain⟨v,H1,I1,r1,O1,d,S1,w1,st1,ok1,rep1⟩:=hq_
 rw[h1]
 show wpAny _ _ (assign (.Subscript o i tpos) X.env u) _ _ _
 rw[ha]
 refine wpAny_bind (wpAny_holding (thn (w1 pins s1 σ H1 O1 I1 (env.mono st1) ok1) λ ov s2 hq_=>?_))
 obtain⟨x,H2,I2,r2,O2,dx,S2,w2,st2,ok2,rep2⟩:=hq_
 refine wpAny_bind (wpAny_holding (thn (w2 pins s2 σ H2 O2 I2 ((env.mono st1).mono st2) ok2) λ iv s3 hq_=>?_))
 obtain⟨y,H3,I3,r3,O3,dy,S3,⟨k,n,ds,j,ex,ey,hk,hj,w⟩,st3,ok3,rep3⟩:=hq_
 subst ex
 subst ey
 have rx:=rep2.mono st3
 cases rx with
 | @loc p _ hp=>
   cases rep3
   obtain⟨xs,hx,q⟩:=ok3.obj k p ds hp hk
   have rd:=(rep1.mono st2).mono st3
   refine wpAny_bind (wpAny_standAt (wpAny_bind (wpAny_holding (thn (set_list pins s3 σ H3 _ _ v ov iv u (λ H'=>H'=upd H3 p (.lst (xs.set j v))) I3 r2 r3 r1 ⟨p,xs,n,j,rfl,rfl,hx,by rw[q.length];exact hj,rfl⟩) λ _ s4 hq_=>?_))))
   obtain⟨H4,I4,e4⟩:=hq_
   subst e4
   refine wpAny_release ⟨σ,_,I4,O3,Γ,_,w,((st1.trans st2).trans st3).trans (Step.put (bH hp) _),ok3.put hp (q.set rd j),(((env.mono st1).mono st2).mono st3).mono (Step.put (bH hp) _)⟩
noncomputable def BdW(X:Cx)(tg:Expr)(d:D)(Γ:Gam)(S:Store)(W:Gam->Store->Prop):Prop:=
 ∀ (pins:Pins)(s:Shared)(σ:St)(H:Hp)(O:Own)(v:V)(u:Value),Inv X pins σ H s->EnvOk X.K O H σ Γ->StOk X.K O H S->Rep X.K O H v d->RelV v u->
   wpAny (model X.prog X.w) X.A (assign tg X.env u) (λ _ s'=>∃σ' H',Inv X pins σ' H' s'/\QN X.K O H W σ' H') X.xe s
noncomputable def xF(X:Cx)(ts:List Expr)(ds:List D)(Γ:Gam)(S:Store)(W:Gam->Store->Prop):Prop:=
 ∀ (pins:Pins)(s:Shared)(σ:St)(H:Hp)(O:Own)(vs:List V)(us:List Value),Inv X pins σ H s->EnvOk X.K O H σ Γ->StOk X.K O H S->Reps X.K O H vs ds->Vals vs us->
   wpAny (model X.prog X.w) X.A (assignInOrder ((assignEach ts X.env).map (·.2)) us) (λ _ s'=>∃σ' H',Inv X pins σ' H' s'/\QN X.K O H W σ' H') X.xe s
theorem Oz(i:Nat){x:Str}{d:D}{W:Gam->Store->Prop}(w:W (Γ.set i (some d)) S)(hN:X.N.Nodup)(hi:X.N[i]? =some x:=by rfl)(hx:Loc X.env.scope x:=by first | exact Or.inl rfl | exact Or.inr rfl)
 (hf:X.fn x=true∨X.env.scope.names.lookup x=some .local:=by first | exact .inl rfl | exact .inr rfl):BdW X (.Name x pos) d Γ S W:=λ pins s σ H O v u I env st r ru=>
 wpAny_assign_Name (zc I hN hi hx ru (λ s' I'=>⟨_,H,I',O,_,S,w,Step.refl O H,st,env.set r i⟩) hf)
theorem Oj{W:Gam->Store->Prop}(w:W Γ S):xF X [] [] Γ S W:=λ pins s σ H O vs us I env st r ru=>by
 cases r
 cases ru
 exact assignInOrder_nil ⟨σ,H,I,O,Γ,S,w,Step.refl O H,st,env⟩
theorem Kp{t:Expr}{ts:List Expr}{W:Gam->Store->Prop}(h:BdW X t d Γ S λ Γ1 S1=>xF X ts ds Γ1 S1 W)
 (hs:(assignEach (t::ts) X.env).map (·.2)=assign t X.env::(assignEach ts X.env).map (·.2):=by rfl):xF X (t::ts) (d::ds) Γ S W:=λ pins s σ H O vs us I env st r ru=>by
 cases r with
 | cons r rr=>
   cases ru with
   | cons ru rru=>
     rw[hs]
     refine assignInOrder_cons (thn (h pins s σ H O _ _ I env st r ru) λ _ s1 hq_=>?_)
     obtain⟨σ1,H1,I1,O1,Γ1,S1,w,st1,ok1,env1⟩:=hq_
     refine thn (w pins s1 σ1 H1 O1 _ _ I1 env1 ok1 (rr.mono st1) rru) λ _ s2 ⟨σ2,H2,I2,q⟩=>⟨σ2,H2,I2,QN.pre st1 q⟩
theorem Sh{ts:List Expr}{W:Gam->Store->Prop}(h:xF X ts ds Γ S W)(hc:X.calm=true:=by rfl)(hn:(assignEach ts X.env).length=ds.length:=by rfl)(hst:(assignEach ts X.env).findIdx? (·.1)=none:=by rfl):BdW X (.Tuple ts k pos) (.tup ds) Γ S W:=λ pins s σ H O v u I env st r ru=>by
 cases r with
 | @tup p xs _ h1 q1=>
   cases ru
   obtain⟨its,rv,ht,hz⟩:=I.tuple h1.sq
   refine assign_Tuple_tuple (I.ok.hd hc) ht (by simp[hn,←q1.length,rv.length]) hst λ h' hx=>?_
   have I1:Inv X pins σ H {s with heap:=h'}:=I.kept (t':=s.toks) λ b o e=>hx b o (w9 (Heap.lt_size e)) e
   exact h pins _ σ H O xs _ I1 env st q1 (by simpa using rv)
noncomputable def gQ(K:PySem.W.Frag)(J:It)(O:Own)(H:Hp)(ds:List D):Prop:=
 ∀(O':Own)(H':Hp),Conv O O' H H'->(∀a,O'.has a->H' a≠none)->∀i:Nat,(∀d,ds[i]? =some d->J.go i H'/\∀x H'',J.yld i H' x H''->dD H' H''/\Rep K O' H'' x d)/\(i=ds.length->J.stop i H')
noncomputable def QI(K:PySem.W.Frag)(O:Own)(H:Hp)(W:List D->Store->Prop):It->Hp->Prop:=λ J H'=>∃O' ds S',W ds S'/\Step O O' H H'/\StOk K O' H' S'/\gQ K J O' H' ds
noncomputable def ItW(X:Cx)(Γ:Gam)(S:Store)(tg iter:Expr)(W:List D->Store->Prop):Prop:=
 ∀ (pins:Pins)(s:Shared)(σ:St)(H:Hp)(O:Own),Inv X pins σ H s->EnvOk X.K O H σ Γ->StOk X.K O H S->
   wpAny (model X.prog X.w) X.A (eval iter X.env) (λ v s1=>wpAny (model X.prog X.w) X.A (pyIter v) (PIE X pins σ tg (QI X.K O H W)) X.xe s1) X.xe s
theorem oJ{a:Addr}(h:Ls K O H a xs)(r:Reps K O H xs ds):gQ K (Itl K a) O H ds:=by
 intro O' H' st _ i
 have hq:=(h.conv st).sq
 refine⟨λ d hd=>?_,λ hi=>⟨xs,hq,by rw[r.length];exact Nat.le_of_eq hi.symm⟩⟩
 obtain⟨v,hv,rv⟩:=r.get hd
 refine⟨⟨xs,v,hq,hv⟩,λ x H'' y=>?_⟩
 obtain⟨e,y⟩:=y
 subst e
 have e:=y xs hq
 rw[hv]at e
 cases e
 exact⟨dD.refl _,rv.conv st⟩
theorem ql{a:Addr}(h:Tp K O H a xs)(r:Reps K O H xs ds):gQ K (Itt K a) O H ds:=by
 intro O' H' st _ i
 have hq:=(h.conv st).sq
 refine⟨λ d hd=>?_,λ hi=>⟨xs,hq,by rw[r.length];exact Nat.le_of_eq hi.symm⟩⟩
 obtain⟨v,hv,rv⟩:=r.get hd
 refine⟨⟨xs,v,hq,hv⟩,λ x H'' y=>?_⟩
 obtain⟨e,y⟩:=y
 subst e
 have e:=y xs hq
 rw[hv]at e
 cases e
 exact⟨dD.refl _,rv.conv st⟩
noncomputable def upTo(lo:Int)(n:Nat):List D:=(List.range n).map λ(k:Nat)=>D.int (lo+(k:Int))
theorem au(lo:Int)(n:Nat):(upTo lo n).length=n:=by simp[upTo]
theorem bC{lo:Int}{n i:Nat}(h:(upTo lo n)[i]? =some d):i<n/\d=.int (lo+i):=by
 unfold upTo at h
 rw[y8]at h
 cases e:(List.range n)[i]? with
 | none=>rw[e]at h;cases h
 | some k=>
   rw[e]at h
   obtain⟨hl,hk⟩:=z0.mp e
   simp at hl hk
   subst hk
   cases h
   exact⟨hl,rfl⟩
theorem lE(lo:Int)(n:Nat):gQ K (Itr lo n) O H (upTo lo n):=by
 intro O' H' st _ i
 refine⟨λ d hd=>?_,λ hi=>by rw[au]at hi;exact Nat.le_of_eq hi.symm⟩
 obtain⟨hi,ed⟩:=bC hd
 subst ed
 refine⟨hi,λ x H'' y=>?_⟩
 obtain⟨e,ex⟩:=y
 subst e
 subst ex
 exact⟨dD.refl _,.int _⟩
theorem Iz{tg a:Expr}{W:List D->Store->Prop}(h:Ev X Γ S a λ d S1=>∃j:Int,d=.int j/\ -(2 ^ 62)≤j/\j<2 ^ 62/\W (upTo 0 j.toNat) S1)(hm:X.mg "range"=none)(hg:Gl X "range":=by rfl)(hs:starEach [a] X.env=[(false,eval a X.env)]:=by rfl):
 ItW X Γ S tg (.Call (.Name "range" p) [a] [] pos) W:=by
 intro pins s σ H O I env st
 refine Iv hg hm (ni h.pe yE hs) hs pins s σ H _ I ⟨O,env,st,λ v H' q=>?_⟩
 obtain⟨O',d,S',⟨j,ed,h1,h2,w⟩,st1,ok1,rep⟩:=q
 subst ed
 cases rep
 exact⟨j,rfl,h1,h2,O',_,S',w,st1,ok1,lE 0 _⟩
theorem Hx{tg a b:Expr}{W:List D->Store->Prop}(h:Ev X Γ S a λ d S1=>Ev X Γ S1 b λ d' S2=>∃i j:Int,d=.int i/\d'=.int j/\(-(2 ^ 62)≤i/\i<2 ^ 62/\ -(2 ^ 62)≤j/\j<2 ^ 62)/\W (upTo i (j-i).toNat) S2)(hm:X.mg "range"=none)(hg:Gl X "range":=by rfl)
 (hs:starEach [a,b] X.env=[(false,eval a X.env),(false,eval b X.env)]:=by rfl)(hs2:starEach [b] X.env=[(false,eval b X.env)]:=by rfl):
 ItW X Γ S tg (.Call (.Name "range" p) [a,b] [] pos) W:=by
 intro pins s σ H O I env st
 have hA:EvA X Γ S [a,b] λ ds S2=>∃i j:Int,ds=[.int i,.int j]/\(-(2 ^ 62)≤i/\i<2 ^ 62/\ -(2 ^ 62)≤j/\j<2 ^ 62)/\W (upTo i (j-i).toNat) S2:=
  cC (h.mono λ d S1 h1=>cC (h1.mono λ d' S2 ⟨i,j,e1,e2,hb,w⟩=>gh ⟨i,j,by rw[e1,e2],hb,w⟩) hs2) (by rw[hs,hs2])
 refine Ji hg hm hA.pa hs hs2 pins s σ H _ I ⟨O,env,st,λ v H' q=>?_⟩
 obtain⟨O',ds,S',⟨i,j,ed,hb,w⟩,st1,ok1,rep⟩:=q
 subst ed
 cases rep with
 | cons r1 r2=>
   cases r2 with
   | cons r2 r3=>
     cases r3
     cases r1
     cases r2
     exact⟨i,j,rfl,hb,O',_,S',w,st1,ok1,lE i _⟩
theorem Ub{tg iter:Expr}{body:List Stmt}(h:ItW X Γ S tg iter λ ds S1=>∃Pv:Nat->Gam->Store->Prop,Pv 0 Γ S1/\
 (∀i d Γ' S',ds[i]? =some d->Pv i Γ' S'->BdW X tg d Γ' S' λ Γ2 S2=>Rns X Γ2 S2 body {W with nx:=Pv (i+1),ct:=Pv (i+1),bk:=W.nx})/\(∀Γ' S',Pv ds.length Γ' S'->W.nx Γ' S'))
 (hp:PassesOwn (model X.prog X.w) X.A X.env X.xe:=by exact PassesOwn.never)(hc:X.calm=true:=by rfl)(hs:∀x,foldedSetIterable iter X.env x=pure x:=by intro _;rfl):Rn X Γ S (.For tg iter body [] pos) W:=by
 intro pins s σ H O I env ok
 let WI:List D->Store->Prop:=λ ds S1=>∃Pv:Nat->Gam->Store->Prop,Pv 0 Γ S1/\
     (∀i d Γ' S',ds[i]? =some d->Pv i Γ' S'->BdW X tg d Γ' S' λ Γ2 S2=>Rns X Γ2 S2 body {W with nx:=Pv (i+1),ct:=Pv (i+1),bk:=W.nx})/\(∀Γ' S',Pv ds.length Γ' S'->W.nx Γ' S')
 have hI:PI X tg iter (λ σ H R=>∃O,EnvOk X.K O H σ Γ/\StOk X.K O H S/\∀J H',QI X.K O H WI J H'->R J H'):=λ pins s σ H R I hh=>by
  obtain⟨O,env,st,k⟩:=hh
  refine thn (h pins s σ H O I env st) λ _ _ q=>thn q λ _ _ q2=>?_
  obtain⟨it,fp,tn,J,H',e1,e2,e3,e4,e5,e6⟩:=q2
  exact⟨it,fp,tn,J,H',e1,e2,e3,e4,e5,k J H' e6⟩
 have hG:PG X tg (λ v σ H Q=>∃O d Γ S W',EnvOk X.K O H σ Γ/\StOk X.K O H S/\Rep X.K O H v d/\BdW X tg d Γ S W'/\∀σ' H',QN X.K O H W' σ' H'->Q σ' H'):=λ pins s σ H v u Q I ru hh=>by
  obtain⟨O,d,Γ,S,W',env,st,r,b,k⟩:=hh
  refine thn (b pins s σ H O v u I env st r ru) λ _ _ q2=>?_
  obtain⟨σ',H',I',q⟩:=q2
  exact⟨σ',H',I',k σ' H' q⟩
 have hB:PSs X body (λ D σ H=>∃O Γ S W',EnvOk X.K O H σ Γ/\StOk X.K O H S/\Rns X Γ S body W'/\(∀σ' H',QN X.K O H W'.nx σ' H'->D.nx σ' H')/\(∀v H',QG X.K O H W'.rt v H'->D.rt v H')/\(∀σ' H',QN X.K O H W'.bk σ' H'->D.bk σ' H')/\∀σ' H',QN X.K O H W'.ct σ' H'->D.ct σ' H'):=
  λ pins s σ H D I hh=>by
   obtain⟨O,Γ,S,W',env,st,b,k1,k2,k3,k4⟩:=hh
   refine thn (b pins s σ H O I env st) λ f s' q=>?_
   cases f with
   | next=>obtain⟨σ',H',I',q⟩:=q;exact⟨σ',H',I',k1 σ' H' q⟩
   | brk=>obtain⟨σ',H',I',q⟩:=q;exact⟨σ',H',I',k3 σ' H' q⟩
   | cont=>obtain⟨σ',H',I',q⟩:=q;exact⟨σ',H',I',k4 σ' H' q⟩
   | ret u=>obtain⟨v,σ',H',I',r,q⟩:=q;exact⟨v,σ',H',I',r,k2 v H' q⟩
 refine HW hp hc hI hG hB hs pins s σ H _ I ⟨O,env,ok,λ J H1 q=>?_⟩
 obtain⟨O1,ds,S1,⟨Pv,p0,pt,pe⟩,st1,ok1,yl⟩:=q
 refine⟨λ i m σ' H'=>m=ds.length-i/\i≤ds.length/\∃O' Γ' S',Pv i Γ' S'/\Step O1 O' H1 H'/\StOk X.K O' H' S'/\EnvOk X.K O' H' σ' Γ',⟨ds.length,by simp,Nat.zero_le _,O1,Γ,S1,p0,Step.refl _ _,ok1,env.mono st1⟩,?_⟩
 rintro i m σ2 H2 ⟨rfl,hi,O2,Γ2,S2,p2,st2,ok2,env2⟩
 obtain⟨y1,y2⟩:=yl O2 H2 st2.conv (λ a ha=>ok2.tracked ha) i
 by_cases hlt:i<ds.length
 . obtain⟨go,yy⟩:=y1 ds[i] (y3 hlt)
   refine .inr ⟨go,λ σ' H'=>i+1≤ds.length/\∃O' Γ' S',Pv (i+1) Γ' S'/\Step O1 O' H1 H'/\StOk X.K O' H' S'/\EnvOk X.K O' H' σ' Γ',λ σ' H' q=>⟨ds.length-(i+1),by omega,rfl,q.1,q.2⟩,λ x H3 y=>?_⟩
   obtain⟨sm,rx⟩:=yy x H3 y
   have st3:=Step.same (O:=O2) sm
   refine⟨O2,ds[i],Γ2,S2,_,env2.mono st3,ok2.same sm,rx,pt i ds[i] Γ2 S2 (y3 hlt) p2,λ σ4 H4 q4=>?_⟩
   obtain⟨O4,Γ4,S4,w4,st4,ok4,env4⟩:=q4
   have stA:=(st2.trans st3).trans st4
   refine⟨O4,Γ4,S4,_,env4,ok4,w4,?_,?_,?_,?_⟩
   . rintro σ5 H5 ⟨O5,Γ5,S5,w5,st5,ok5,env5⟩
     exact⟨hlt,O5,Γ5,S5,w5,stA.trans st5,ok5,env5⟩
   . exact λ v H' q=>QG.pre (st1.trans stA) q
   . exact λ σ' H' q=>QN.pre (st1.trans stA) q
   . rintro σ5 H5 ⟨O5,Γ5,S5,w5,st5,ok5,env5⟩
     exact⟨hlt,O5,Γ5,S5,w5,stA.trans st5,ok5,env5⟩
 . have e:i=ds.length:=by omega
   subst e
   exact .inl ⟨y2 rfl,O2,Γ2,S2,pe Γ2 S2 p2,st1.trans st2,ok2,env2⟩
theorem Tf {P:Program}{w:World}{mg:Str->Option Value}{base:Heap}{qual:Str}{sm:Stmt}{f:Addr}{fd:FuncData}{N ps:List Str}{F:Ct}(FF:Fun K x qual sm f fd)(SC:FnScope N ps (aL sm))
 (body:∀(cdv:Value)(A:Around)(outer:List Env)(s:Shared)(H:Hp)(E:XK)(ds:List D)(S:Store)(W:WD),Room k (A.deeper (envOfC qual (aL sm) s.heap.objs.size f cdv))->ds.length=ps.length->F ds S W->
  Rns (lA CX0 P w K mg base N qual (aL sm) f cdv A outer s H E).nox (ds.map some++List.replicate (N.length-ds.length) none) S (cj sm) {nx:=λ _ S1=>W .non S1,rt:=W}):FnOk P w K mg base CX0 (k+1) f fd ps (spC K ps.length F):=by
 refine FF.ok SC (λ vs H Q E h=>?_) (λ cdv A outer s H vs Q E hr h=>?_)
 . obtain⟨O,ds,S,W,hl,r,_⟩:=h
   rw[r.length,hl]
 . obtain ⟨O,ds,S,W,hl,r,st,hF,q⟩:=h
   have hB:=body cdv A outer s H E ds S W hr hl hF
   refine⟨λ D σ H'=>∃O Γ S W',EnvOk K O H' σ Γ/\StOk K O H' S/\Rns (lA CX0 P w K mg base N qual (aL sm) f cdv A outer s H E).nox Γ S (cj sm) W'/\(∀σ' H2,QN K O H' W'.nx σ' H2->D.nx σ' H2)/\(∀v H2,QG K O H' W'.rt v H2->D.rt v H2)/\(∀σ' H2,QN K O H' W'.bk σ' H2->D.bk σ' H2)/\∀σ' H2,QN K O H' W'.ct σ' H2->D.ct σ' H2,?_,?_⟩
   . intro pins s σ H' D I ⟨O,Γ,S,W',env,st,b,k1,k2,k3,k4⟩
     refine thn (b pins s σ H' O I env st) λ f s' q=>?_
     cases f with
     | next=>obtain⟨σ',H',I',q⟩:=q;exact⟨σ',H',I',k1 σ' H' q⟩
     | brk=>obtain⟨σ',H',I',q⟩:=q;exact⟨σ',H',I',k3 σ' H' q⟩
     | cont=>obtain⟨σ',H',I',q⟩:=q;exact⟨σ',H',I',k4 σ' H' q⟩
     | ret u=>obtain⟨v,σ',H',I',r,q⟩:=q;exact⟨v,σ',H',I',r,k2 v H' q⟩
   . refine⟨O,_,S,_,?_,st,hB,?_,?_,?_,?_⟩
     . have hv:vs.length=ds.length:=r.length
       refine⟨by simp[L2.start,hv],λ i d h=>?_⟩
       by_cases hi:i<ds.length
       . rw[x8 (by simpa using hi),y8]at h
         cases e:ds[i]? with
         | none=>rw[e]at h;cases h
         | some d'=>
           rw[e]at h
           cases h
           obtain⟨v,hv',rv⟩:=r.get e
           refine⟨v,?_,rv⟩
           unfold L2.start
           rw[x8 (by rw[y7,hv];exact hi),y8,hv']
           rfl
       . rw[List.getElem?_append_right (by simpa using hi),List.getElem?_replicate]at h
         split at h<;>cases h
     . rintro σ' H2 ⟨O',Γ',S',w,st',ok',_⟩
       exact q _ _ ⟨O',.non,S',w,st',ok',.non⟩
     . exact λ v H2 z=>q v H2 z
     . rintro σ' H2 ⟨_,_,_,w,_⟩
       exact w.elim
     . rintro σ' H2 ⟨_,_,_,w,_⟩
       exact w.elim
end
end DL
namespace DL
open PySem PySem.Spec L2
open PyProof.Rows
variable {K : PySem.W.Frag} {O : Own} {H : Hp} {s : Shared}
noncomputable def rk(env:Env)(n:Str)(k:NameKind):NameKind:=if(k==NameKind.free&&env.scope.kind==.function&&env.kindOf n==some .cell)=true then .cell else k
theorem jq(sc:Scope)(env:Env):(relabel sc env).names=sc.names.map λ p=>(p.1,rk env p.1 p.2):=by
 show sc.names.map _=_
 congr 1
 funext p
 obtain⟨n,k⟩:=p
 unfold rk
 by_cases h:(k==NameKind.free&&env.scope.kind==.function&&env.kindOf n==some .cell)=true
 . simp only[h,if_true]
 . simp only[h,if_false,Bool.false_eq_true]
theorem dI(g:Str->NameKind->NameKind)(x:Str):∀names:List (Str×NameKind),(names.map λ p=>(p.1,g p.1 p.2)).lookup x=(names.lookup x).map (g x)
 | []=>rfl
 | (n,k)::r=>by
   have ih:=dI g x r
   rw[List.map_cons,List.lookup_cons,List.lookup_cons]
   cases hx:x==n with
   | true=>rw[eq_of_beq hx];rfl
   | false=>exact ih
theorem pG(env:Env)(n:Str)(k:NameKind):rk env n k=k∨(k=.free/\rk env n k=.cell):=by
 unfold rk
 by_cases h:(k==NameKind.free&&env.scope.kind==.function&&env.kindOf n==some .cell)=true
 . rw[if_pos h]
   rw[Bool.and_eq_true,Bool.and_eq_true]at h
   exact .inr ⟨eq_of_beq h.1.1,rfl⟩
 . rw[if_neg h];exact .inl rfl
theorem jo{env:Env}{sc:Scope}{x:Str}{k:NameKind}(h:(relabel sc env).names.lookup x=some k):∃k0,sc.names.lookup x=some k0/\(k=k0∨(k0=.free/\k=.cell)):=by
 rw[jq,dI]at h
 cases e:sc.names.lookup x with
 | none=>rw[e]at h;cases h
 | some k0=>
   rw[e]at h
   have h':rk env x k0=k:=Option.some.inj h
   refine⟨k0,rfl,?_⟩
   rcases pG env x k0 with q | ⟨q1,q2⟩
   . exact .inl (h'.symm.trans q)
   . exact .inr ⟨q1,h'.symm.trans q2⟩
theorem xJ{env:Env}{sc:Scope}{x:Str}(h:sc.names.lookup x=some .free):(relabel sc env).names.lookup x=some .cell∨(relabel sc env).names.lookup x=some .free:=by
 rw[jq,dI,h]
 rcases pG env x .free with q | ⟨_,q⟩
 . exact .inr (congrArg some q)
 . exact .inl (congrArg some q)
noncomputable def closes(env:Env):List (Str×NameKind)->List (Str×Addr)->List (Str×Addr)
 | [],cs=>cs
 | (n,k)::r,cs=>closes env r (if k==.free then(n,(env.cells.lookup n).getD 0)::cs else cs)
theorem oF{env:Env}:∀(names:List (Str×NameKind))(cs:List (Str×Addr)),(∀y∈names,y.2=.free->∃c,env.cells.lookup y.1=some c)->
 (forIn (m:=Sem) names cs λ x r=>if(x.2==.free)=true then do let a ←cellOf env x.1;pure (ForInStep.yield ((x.1,a)::r))else pure (ForInStep.yield r))=pure (closes env names cs)
 | [],cs,_=>by rw[List.forIn_nil];rfl
 | (n,k)::r,cs,h=>by
   rw[List.forIn_cons]
   have ih:=λ cs=>oF (env:=env) r cs λ y hy=>h y (x3 _ hy)
   by_cases hk:(k==NameKind.free)=true
   . obtain⟨c,hc⟩:=h (n,k) x5 (eq_of_beq hk)
     have hc':env.cells.lookup n=some c:=hc
     have e:cellOf env n=pure c:=by unfold cellOf;rw[hc']
     have q:=ih ((n,c)::cs)
     simp only[hk,if_true,e,pure_bind]
     rw[q]
     simp[closes,hk,hc']
   . have q:=ih cs
     simp only[hk,if_false,pure_bind,Bool.false_eq_true]
     rw[q]
     simp[closes,hk]
theorem jZ{env:Env}{sc:Scope}(h:∀y∈sc.names,y.2=.free->∃c,env.cells.lookup y.1=some c):closureFor sc env=pure (closes env sc.names []):=by
 have q:=oF (env:=env) sc.names [] h
 unfold closureFor
 first
  | (simp only[bind_pure];exact q)
  | (rw[show(forIn sc.names ([]:List (Str×Addr)) _:Sem _)=_ from q];rfl)
  | (refine Eq.trans (congrArg (λ t=>t>>=pure) q) ?_;simp)
theorem nW{env:Env}{x:Str}{c:Addr}:∀(names:List (Str×NameKind))(cs:List (Str×Addr)),(∀y∈names,y.2=.free->∃c,env.cells.lookup y.1=some c)->(∀c,cs.lookup x=some c->env.cells.lookup x=some c)->(closes env names cs).lookup x=some c->env.cells.lookup x=some c
 | [],cs,_,hc,h=>hc c h
 | (n, k)::r,cs,hf,hc,h=>by
   refine nW r _ (λ y hy=>hf y (x3 _ hy)) ?_ h
   intro c' h'
   by_cases hk:(k==NameKind.free)=true
   . rw[if_pos hk]at h'
     obtain⟨c2,h2⟩:=hf (n,k) x5 (eq_of_beq hk)
     have h2:env.cells.lookup n=some c2:=h2
     rw[List.lookup_cons]at h'
     cases hx:x==n with
     | true=>
       rw[hx,h2]at h'
       have e:x=n:=eq_of_beq hx
       subst e
       simp only[Option.getD_some]at h'
       cases h'
       exact h2
     | false=>rw[hx]at h';exact hc c' h'
   . rw[if_neg hk]at h'
     exact hc c' h'
theorem fZ{env:Env}{x:Str}:∀(names:List (Str×NameKind))(cs:List (Str×Addr)),((∃c,cs.lookup x=some c)∨names.lookup x=some .free)->∃c,(closes env names cs).lookup x=some c
 | [],cs,h=>by
   rcases h with h | h
   . exact h
   . simp at h
 | (n, k)::r,cs,h=>by
   refine fZ r _ ?_
   rcases h with⟨c,h⟩ | h
   . refine .inl ?_
     by_cases hk:(k==NameKind.free)=true
     . rw[if_pos hk,List.lookup_cons]
       cases hx:x==n with
       | true=>exact⟨_,rfl⟩
       | false=>exact⟨c,h⟩
     . rw[if_neg hk];exact⟨c,h⟩
   . rw[List.lookup_cons]at h
     cases hx:x==n with
     | true=>
       rw[hx]at h
       simp only at h
       cases h
       refine .inl ⟨(env.cells.lookup n).getD 0,?_⟩
       simp[List.lookup_cons,hx]
     | false=>rw[hx]at h;exact .inr h
noncomputable def fc(X:Cx)(sc:Scope)(N:List Str)(C:Addr)(s:Shared)(H:Hp)(ex:List Addr)(cl:List (Str×Addr)):Cx:=
 {X with N:=N,s₀:=s,H₀:=H,env:=compEnvC sc cl C X.env,outer:=X.stack,stack:=X.stack,ex:=ex,fn:=λ x=>sc.names.lookup x==some .cell,pn:=[]}
noncomputable def capt{α:Type}(cap:List (Option Nat))(xs:List (Option α)):List (Option α):=cap.map λ o=>o.bind λ j=>(xs[j]?).join
noncomputable def bc(N:List Str)(names:List (Str×NameKind))(N':List Str)(names':List (Str×NameKind)):List (Option Nat)->List Str->Bool
 | [],[]=>true
 | none::r,_::t=>bc N names N' names' r t
 | some j::r,x::t=>(N[j]? ==some x)&&(names.lookup x==some .cell||names.lookup x==some .free)&&(names'.lookup x==some .free)&&bc N names N' names' r t
 | _,_=>false
theorem mq{N:List Str}{names:List (Str×NameKind)}{N':List Str}{names':List (Str×NameKind)}:∀{cap:List (Option Nat)}{t:List Str},bc N names N' names' cap t=true->cap.length=t.length
 | [],[],_=>rfl
 | [],_::_,h=>by simp[bc]at h
 | _::_,[],h=>by
   rename_i o r
   cases o<;>simp[bc]at h
 | none::r,_::t,h=>by simp only[bc]at h;simp[mq h]
 | some j::r,x::t,h=>by
   simp only[bc,Bool.and_eq_true]at h
   simp[mq h.2]
theorem oW{N:List Str}{names:List (Str×NameKind)}{N':List Str}{names':List (Str×NameKind)}:∀{cap:List (Option Nat)}{t:List Str}{i j:Nat},bc N names N' names' cap t=true->cap[i]? =some (some j)->
 ∃x,t[i]? =some x/\N[j]? =some x/\(names.lookup x=some .cell∨names.lookup x=some .free)/\names'.lookup x=some .free
 | [],_,_,_,_,h=>by simp at h
 | none::r,[],_,_,h,_=>by simp[bc]at h
 | some _::r,[],_,_,h,_=>by simp[bc]at h
 | none::r,x::t,0,j,_,h=>by simp at h
 | none::r,x::t,i+1,j,h,e=>by
   simp only[bc]at h
   obtain⟨y,a,b⟩:=oW (i:=i) h (by simpa using e)
   exact⟨y,by simpa using a,b⟩
 | some k::r,x::t,0,j,h,e=>by
   simp only[bc,Bool.and_eq_true,Bool.or_eq_true,beq_iff_eq]at h
   simp at e
   subst e
   exact⟨x,rfl,h.1.1.1,h.1.1.2,h.1.2⟩
 | some k::r,x::t,i+1,j,h,e=>by
   simp only[bc,Bool.and_eq_true]at h
   obtain⟨y,a,b⟩:=oW (i:=i) h.2 (by simpa using e)
   exact⟨y,by simpa using a,b⟩
theorem DN{α:Type}{cap:List (Option Nat)}{xs:List (Option α)}{i:Nat}{d:α}(h:(capt cap xs)[i]? =some (some d)):∃j,cap[i]? =some (some j)/\xs[j]? =some (some d):=by
 unfold capt at h
 rw[y8]at h
 cases e:cap[i]? with
 | none=>rw[e]at h;cases h
 | some o=>
   rw[e]at h
   cases o with
   | none=>simp at h
   | some j=>
     simp at h
     refine⟨j,rfl,?_⟩
     cases q:xs[j]? with
     | none=>rw[q]at h;cases h
     | some z=>rw[q]at h;simp at h;rw[h]
theorem EnvOk.capt{σ:St}{Γ:Gam}(e:EnvOk K O H σ Γ)(cap:List (Option Nat)):EnvOk K O H (capt cap σ) (capt cap Γ):=by
 refine⟨by simp[DL.capt],λ i d h=>?_⟩
 obtain⟨j,hj,hd⟩:=DN h
 obtain⟨v,hv,r⟩:=e.at_ j d hd
 refine⟨v,?_,r⟩
 unfold DL.capt
 rw[y8,hj]
 simp[hv]
noncomputable def Sub(Γ Γ':Gam):Prop:=Γ.length=Γ'.length/\∀(i:Nat)(d:D),Γ[i]? =some (some d)->Γ'[i]? =some (some d)
theorem Sub.refl(Γ:Gam):Sub Γ Γ:=⟨rfl,λ _ _ h=>h⟩
theorem Sub.set{Γ Γ':Gam}(s:Sub Γ Γ')(i:Nat)(d:Option D)(h:Γ[i]? =some none:=by rfl):Sub Γ (Γ'.set i d):=⟨by rw[List.length_set];exact s.1,λ j c hj=>by
 have ne:i≠j:=λ e=>by subst e;rw[h]at hj;cases hj
 rw[List.getElem?_set_ne ne];exact s.2 j c hj⟩
theorem EnvOk.sub{σ:St}{Γ Γ':Gam}(e:EnvOk K O H σ Γ')(s:Sub Γ Γ'):EnvOk K O H σ Γ:=⟨e.len.trans s.1.symm,λ i d h=>e.at_ i d (s.2 i d h)⟩
theorem EnvOk.conv{O':Own}{H':Hp}{σ:St}{Γ:Gam}(e:EnvOk K O H σ Γ)(s:Conv O O' H H'):EnvOk K O' H' σ Γ:=
 ⟨e.len,λ i d h=>let ⟨v,a,b⟩:=e.at_ i d h;⟨v,a,b.conv s⟩⟩
noncomputable def freeOk(names names':List (Str×NameKind)):Bool:=names'.all λ y=>!(y.2==.free)||(names.lookup y.1==some .cell||names.lookup y.1==some .free)
theorem my{names names':List (Str×NameKind)}(h:freeOk names names'=true):∀y∈names',y.2=.free->names.lookup y.1=some .cell∨names.lookup y.1=some .free:=λ y hy e=>by
 have q:=List.all_eq_true.mp h y hy
 simp only[e,beq_self_eq_true,Bool.not_true,Bool.false_or,Bool.or_eq_true,beq_iff_eq]at q
 exact q
noncomputable def za(names:List (Str×NameKind)):Bool:=match names.filter (λ y=>y.2==.cell)with
 | []=>true
 | [y]=>names.lookup y.1==some .cell
 | _=>false
theorem xr{names:List (Str×NameKind)}(h:names.filter (λ y=>y.2==.cell)=[])(n:Nat)(acc:List (Str×Addr))(hp:Heap):cellsFrom n names acc=acc/\pushCells hp names=hp:=by
 induction names with
 | nil=>exact⟨rfl,rfl⟩
 | cons y r ih=>
   obtain⟨x,k⟩:=y
   rw[List.filter_cons]at h
   by_cases hk:(k==NameKind.cell)=true
   . rw[if_pos hk]at h;cases h
   . rw[if_neg hk]at h
     obtain⟨i1,i2⟩:=ih h
     unfold cellsFrom pushCells
     rw[if_neg hk,if_neg hk]
     exact⟨i1,i2⟩
theorem uN{names:List (Str×NameKind)}{t:Str×NameKind}(h:names.filter (λ y=>y.2==.cell)=[t])(n:Nat)(acc:List (Str×Addr))(hp:Heap):cellsFrom n names acc=(t.1,n)::acc/\pushCells hp names=hp.push {cls:=.type "cell",data:=.cell none}:=by
 induction names with
 | nil=>cases h
 | cons y r ih=>
   obtain⟨x,k⟩:=y
   rw[List.filter_cons]at h
   by_cases hk:(k==NameKind.cell)=true
   . rw[if_pos hk]at h
     have e:=List.cons.inj h
     obtain⟨i1,i2⟩:=xr e.2 (n+1) ((x,n)::acc) (hp.push {cls:=.type "cell",data:=.cell none})
     unfold cellsFrom pushCells
     rw[if_pos hk,if_pos hk,i1,i2,←e.1]
     exact⟨rfl,rfl⟩
   . rw[if_neg hk]at h
     obtain⟨i1,i2⟩:=ih h
     unfold cellsFrom pushCells
     rw[if_neg hk,if_neg hk]
     exact⟨i1,i2⟩
theorem NP{M:Model}{A:Around}{E:Value->Shared->Prop}{scope:Scope}{globals:Addr}{closure:List (Str×Addr)}{qual:Str}{outer:Env}{Q:Env->Shared->Prop}
 (hQ:Q (newEnv scope s.heap.objs.size globals (cellsFrom (s.heap.objs.size+1) scope.names closure) qual none .none (some outer) builtinsNs) {s with heap:=pushCells (s.heap.push {cls:=.type "dict",data:=.dict #[]}) scope.names}):
 wpAny M A (newFunctionEnv scope globals closure [] qual none .none (some outer)) Q E s:=by
 simp only[newFunctionEnv,Option.isSome_some,if_true]
 refine wpAny_bind (wpAny_alloc ?_)
 refine wpAny_bind (wpAny_layCells _ (λ name kind cells=>by cases hkc:kind==NameKind.cell<;>simp[hkc]) _ _ _ _ ?_)
 rw[show({s with heap:=s.heap.push {cls:=.type "dict",data:=.dict #[]}}:Shared).heap.objs.size=s.heap.objs.size+1 from Heap.size_push ..]
 rw[List.forIn_nil]
 exact wpAny_bind (wpAny_pure (wpAny_pure hQ))
structure CelsB(X:Cx)(sc:Scope)(cl:List (Str×Addr))(z:Nat)(h1:Heap):Prop where
 lk:∀x c,cl.lookup x=some c->X.env.cells.lookup x=some c∨(c=z/\sc.names.lookup x=some .cell/\h1.IsCell c none/\∀y,cl.lookup y=some c->y=x)
 has:∀x,sc.names.lookup x=some .cell∨sc.names.lookup x=some .free->∃c,cl.lookup x=some c
 cp:∀x c,sc.names.lookup x=some .free->X.env.cells.lookup x=some c->cl.lookup x=some c
 ow:∀x c,sc.names.lookup x=some .cell->cl.lookup x=some c->z≤c
section
variable {X : Cx}
theorem Od{pins:Pins}{σ:St}{sc:Scope}{N':List Str}{cap:List (Option Nat)}{fp:List Addr}{h1:Heap}{t:Nat}(I:Inv X pins σ H s)(hfp:∀b∈fp,eG X pins H b)(hob:∀b∈fp,∃o,s.heap.get? b=some o)
 {cl:List (Str×Addr)}(hkind:sc.kind=.function)(hcl:CelsB X sc cl (s.heap.objs.size+2) h1)(hfree:∀y∈sc.names,y.2=.free->X.env.kindOf y.1=some .cell∨X.env.kindOf y.1=some .free)(hcap:bc X.N X.env.scope.names N' sc.names cap N'=true)
 (k:∀b u,s.heap.get? b=some u->h1.get? b=some u)(hD:h1.get? s.heap.objs.size=some {cls:=.type "list",data:=.seq #[] 0})(hC:∃m,h1.Ns (s.heap.objs.size+1) m):
 Inv (fc X sc N' (s.heap.objs.size+1) s H fp cl) [] (capt cap σ) (upd H s.heap.objs.size (.lst [])) {s with heap:=h1,toks:=t}:=by
 have fr0:H s.heap.objs.size=none:=I.hok.fresh (y9 _)
 have fr1:H (s.heap.objs.size+1)=none:=I.hok.fresh (Nat.le_succ _)
 have fr2:H (s.heap.objs.size+2)=none:=I.hok.fresh (by omega)
 have lt:∀b∈fp,b<s.heap.objs.size:=λ b hb=>let ⟨o,e⟩:=hob b hb;Heap.lt_size e
 have clt:∀{x c},X.env.cells.lookup x=some c->c<s.heap.objs.size:=λ{x c} h=>by
  obtain⟨v,q⟩:=I.cell x c h
  exact q.lt
 refine⟨⟨I.ok.mod,hkind,I.ok.glob,I.ok.blt,Nat.le_succ _,λ x y c a b=>?_,λ x hx=>?_,λ x c z e=>?_,I.ok.hd,I.ok.frames,.inl rfl,λ b hb=>⟨w9 (Nat.lt_succ_of_lt (lt b hb)),λ x c h=>?_⟩,
  I.bs,Nat.le_trans I.ok.bsz I.sz,λ b o e hb=>?_,λ b hb z=>?_,I.stack,I.stkFree⟩,rfl,I.bare,Un.laid k (y9 _) fr0,?_,λ x c h=>?_,?_,λ x c h=>?_,λ p hp=>absurd (show p∈([]:Pins)from hp) (by simp),I.hok.laid k (y9 _) ⟨Nat.zero_le _,[],0,.nil,hD⟩,?_⟩
 . rcases hcl.lk x c a with q | ⟨_,_,_,q⟩
   . rcases hcl.lk y c b with q' | ⟨_,_,_,q'⟩
     . exact I.ok.inj x y c q q'
     . exact q' x a
   . exact(q y b).symm
 . have hx':(relabel sc X.env).names.lookup x=some .cell∨(relabel sc X.env).names.lookup x=some .free:=hx
   have z:sc.names.lookup x=some .cell∨sc.names.lookup x=some .free:=by
    rcases hx' with q | q
    . obtain⟨k0,e,r⟩:=jo q
      rcases r with r | r
      . exact .inl (by rw[e,r])
      . exact .inr (by rw[e,r.1])
    . obtain⟨k0,e,r⟩:=jo q
      rcases r with r | r
      . exact .inr (by rw[e,r])
      . exact absurd r.2 (by decide)
   exact hcl.has x z
 . have z':sc.names.lookup x=some .cell:=eq_of_beq z
   have:=hcl.ow x c z' e
   show s.heap.objs.size≤c
   omega
 . rcases hcl.lk x c h with q | ⟨q,_⟩
   . exact(hfp b hb).2.2.2.2.1 x c q
   . exact λ e=>Nat.lt_irrefl _ (x9 (lt b hb) (by rw[←e,q];exact Nat.le_add_right _ _))
 . rcases(hfp b hb).2.2.2.1 with z | z
   . exact I.ok.noex b o e z
   . exact absurd (x9 (Heap.lt_size e) (Nat.le_trans I.ok.bsz z)) (Nat.lt_irrefl _)
 . rcases List.mem_cons.mp (I.stkSub b z)with q | q
   . exact(hfp b hb).2.1 q
   . exact(hfp b hb).2.2.1 q
 . obtain⟨m,hm⟩:=hC
   refine⟨m,hm,λ i x v e1 e2 e3=>?_⟩
   obtain⟨j,hj,hv⟩:=DN e2
   obtain⟨y,a,b,c,d⟩:=oW hcap hj
   have e1':N'[i]? =some x:=e1
   rw[a]at e1'
   cases e1'
   obtain⟨m0,hn0,hl⟩:=I.loc
   have vis:Vis X.env.scope x:=by
    rcases c with c | c
    . exact .inr (.inl c)
    . exact .inr (.inr c)
   obtain⟨u,r,l⟩:=hl j x v b hv vis
   refine⟨u,r,?_⟩
   rcases l with⟨q,_⟩ | ⟨q,cc,hc,hcell'⟩
   . exfalso
     have q':X.env.scope.names.lookup x=some .local:=q
     rcases c with c | c<;>· rw[c]at q';cases q'
   . have h2:=hcl.cp x cc d hc
     obtain⟨o,ho,hd⟩:=hcell'
     refine .inr ⟨?_,cc,h2,⟨o,k _ _ ho,hd⟩⟩
     exact xJ d
 . rcases hcl.lk x c h with q | ⟨_,_,q,_⟩
   . obtain⟨v,o,ho,hd⟩:=I.cell x c q
     exact⟨v,o,k _ _ ho,hd⟩
   . exact⟨_,q⟩
 . show upd H s.heap.objs.size (.lst []) (s.heap.objs.size+1)=none
   rw[aq (Nat.succ_ne_self _)];exact fr1
 . rcases hcl.lk x c h with q | ⟨q,_⟩
   . rw[aq (w9 (clt q))];exact I.freeC x c q
   . subst q
     rw[aq (Nat.ne_of_gt (Nat.lt_add_of_pos_right (by decide)))];exact fr2
 . show(capt cap σ).length=N'.length
   rw[←mq hcap]
   simp[capt]
theorem rN{α:Type}{t:Sem α}{Q:α->Shared->Prop}{M:Model}{A:Around}{E E':Value->Shared->Prop}(hx:E=λ _ _=>False)(h:wpAny M A t Q E s):wpAny M A t Q E' s:=wpAny_mono h (λ _ _ q=>q) λ _ _ z=>by rw[hx]at z;exact z.elim
noncomputable def TsA(X:Cx)(Γ:Gam)(S:Store):List Expr->(Bool->Store->Prop)->Prop
 | [],W=>W true S
 | [c],W=>Ts X Γ S c W
 | _,_=>False
theorem N5{X:Cx}{Γ:Gam}{S:Store}{ifs:List Expr}{W:Bool->Store->Prop}(h:TsA X Γ S ifs W){pins:Pins}{s:Shared}{σ:St}{H:Hp}{O:Own}(I:Inv X pins σ H s)(env:EnvOk X.K O H σ Γ)(st:StOk X.K O H S):
 wpAny (model X.prog X.w) X.A (forIn ifs true λ c r=>if r=true then do let ok ←isTrue c X.env (eval c X.env);pure (ForInStep.yield ok)else pure (ForInStep.yield r)) (TP X pins σ (QT X.K O H W)) X.xe s:=by
 match ifs,h with
 | [],h=>exact wpAny_tests_nil ⟨H,I,O,S,h,Step.refl O H,st⟩
 | [c],h=>exact wpAny_tests_one (h pins s σ H O I env st)
 | _::_::_,h=>exact h.elim
noncomputable def tU(K:PySem.W.Frag)(J:It)(O:Own)(H:Hp)(C:Store->Prop)(ds:List D):Prop:=
 ∀(O':Own)(H':Hp)(S':Store),Conv O O' H H'->StOk K O' H' S'->C S'->∀i:Nat,(∀d,ds[i]? =some d->J.go i H'/\∀x H'',J.yld i H' x H''->dD H' H''/\Rep K O' H'' x d)/\(i=ds.length->J.stop i H')
noncomputable def QIc(K:PySem.W.Frag)(O:Own)(H:Hp)(W:List D->(Store->Prop)->Store->Prop):It->Hp->Prop:=λ J H'=>∃O' ds C S',W ds C S'/\Step O O' H H'/\StOk K O' H' S'/\tU K J O' H' C ds
noncomputable def ItC(X:Cx)(Γ:Gam)(S:Store)(tg iter:Expr)(W:List D->(Store->Prop)->Store->Prop):Prop:=
 ∀ (pins:Pins)(s:Shared)(σ:St)(H:Hp)(O:Own),Inv X pins σ H s->EnvOk X.K O H σ Γ->StOk X.K O H S->
   wpAny (model X.prog X.w) X.A (eval iter X.env) (λ v s1=>wpAny (model X.prog X.w) X.A (pyIter v) (PIE X pins σ tg (QIc X.K O H W)) X.xe s1) X.xe s
theorem oN{J:It}{ds:List D}(y:gQ K J O H ds):tU K J O H (λ _=>True) ds:=λ O' H' S' st ok _ i=>y O' H' st (λ a ha=>ok.tracked ha) i
theorem ItW.toC{X:Cx}{Γ:Gam}{S:Store}{tg iter:Expr}{W:List D->(Store->Prop)->Store->Prop}(h:ItW X Γ S tg iter λ ds S1=>W ds (λ _=>True) S1):ItC X Γ S tg iter W:=λ pins s σ H O I env st=>
 thn (h pins s σ H O I env st) λ _ _ q=>thn q λ _ _ hq_=>by
  obtain⟨it,fp,tn,J,H',e1,e2,e3,e4,e5,O',ds,S',w,z1,z2,z3⟩:=hq_
  exact⟨it,fp,tn,J,H',e1,e2,e3,e4,e5,O',ds,_,S',w,z1,z2,oN z3⟩
noncomputable abbrev ww(X:Cx)(sc:Scope)(N':List Str)(cap:List (Option Nat))(Γ:Gam)(elt tg:Expr)(ifs:List Expr)(W:WD):List D->(Store->Prop)->Store->Prop:=λ ds C0 S1=>
 ds.length≤1000000/\∃Pv:Nat->List D->Store->Prop,Pv 0 [] S1/\(∀i acc S',Pv i acc S'->C0 S')/\
  (∀i d acc S',ds[i]? =some d->Pv i acc S'->∀(C:Addr)(s:Shared)(H:Hp)(ex:List Addr)(cl:List (Str×Addr)),BdW (fc X sc N' C s H ex cl) tg d (capt cap Γ) S' λ Γ2 S2=>Sub (capt cap Γ) Γ2/\
   TsA (fc X sc N' C s H ex cl) Γ2 S2 ifs λ ok S3=>(ok=true->Ev (fc X sc N' C s H ex cl) Γ2 S3 elt λ y S4=>Pv (i+1) (acc++[y]) S4)/\(ok=false->Pv (i+1) acc S3))/\
  ∀acc S',Pv ds.length acc S'->W (.lst acc) S'∨W (.loc S'.length) (S'++[acc])
theorem uG{Γ:Gam}{S:Store}{elt tg iter:Expr}{ifs:List Expr}{sc:Scope}{cpos:Pos}{N':List Str}{cap:List (Option Nat)}{W:WD}{E:Value->Shared->Prop}{pins:Pins}{σ:St}
 {RR:Value->Addr->Result->Shared->Prop}
 (hx:X.xe=λ _ _=>False)(hc:X.calm=true)(hkind:sc.kind=.function)(hcell:za sc.names=true)(hfree:∀y∈sc.names,y.2=.free->X.env.kindOf y.1=some .cell∨X.env.kindOf y.1=some .free)
 (hcap:bc X.N X.env.scope.names N' sc.names cap N'=true)(h:ItC X Γ S tg iter (ww X sc N' cap Γ elt tg ifs W))(I:Inv X pins σ H s)(env:EnvOk X.K O H σ Γ)(st:StOk X.K O H S)
 (fin:∀(s':Shared)(Hc:Hp)(D0 C:Addr)(m:Str->Option Value),Inv X pins σ Hc s'->s'.heap.Ns C m->eG X pins Hc C->D0≠C->QG X.K O H W (.ref D0) Hc->RR (.ref D0) C (.ok .next) s'):
 wpAny (model X.prog X.w) X.A (eval iter X.env) (λ x s₁=>wpAny (model X.prog X.w) X.A (pyIter x) (λ it s₂=>wpAny (model X.prog X.w) X.A (newList []) (λ acc s₃=>
  wpAny (model X.prog X.w) X.A (newFunctionEnv sc X.env.globals (closes X.env sc.names []) [] X.env.qual none .none (some X.env)) (λ cenv s₄=>
   codeAny (model X.prog X.w) X.A (.compStart (.ListComp elt [⟨tg,iter,ifs,0⟩] sc cpos) 0 it acc {cenv with scope:=relabel sc X.env}) (RR acc cenv.locals) s₄) E s₃) E s₂) E s₁) E s:=by
 refine thn (rN hx (h pins s σ H O I env st)) λ xv s1 h1=>thn (rN hx h1) λ itv s2 h2=>?_
 obtain⟨it,fp,tn,J,H2,e,I2,T,st2,f2,O2,ds,C0,S2,⟨hz,Pv,p0,pC,pt,pe⟩,stp,ok2,yl⟩:=h2
 subst e
 refine wpAny_newObj_type (NP ?_)
 dsimp only
 have hD0:H2 s2.heap.objs.size=none:=I2.hok.fresh (y9 _)
 have hsz:(s2.heap.push {cls:=.type "list",dict:=none,data:=.seq ([]:List Value).toArray}).objs.size=s2.heap.objs.size+1:=Heap.size_push ..
 rw[hsz]
 have ns0:=Heap.Ns.new (s2.heap.push {cls:=.type "list",dict:=none,data:=.seq ([]:List Value).toArray}) (.type "dict")
 rw[hsz]at ns0
 obtain⟨cl,hcleq⟩:∃cl,cellsFrom (s2.heap.objs.size+1+1) sc.names (closes X.env sc.names [])=cl:=⟨_,rfl⟩
 obtain⟨h₁,hh1⟩:∃h₁,pushCells ((s2.heap.push {cls:=.type "list",dict:=none,data:=.seq ([]:List Value).toArray}).push {cls:=.type "dict",data:=.dict #[]}) sc.names=h₁:=⟨_,rfl⟩
 have hns₁:h₁.Ns (s2.heap.objs.size+1) (λ _=>none):=by rw[←hh1];exact ns0.keeps (pushCells_keeps _ _)
 have kp0:∀b u,(s2.heap.push {cls:=.type "list",dict:=none,data:=.seq ([]:List Value).toArray}).get? b=some u->h₁.get? b=some u:=λ b u e=>by rw[←hh1];exact pushCells_keeps _ _ b u (Heap.get?_push_of_some _ e)
 have kp:∀b u,s2.heap.get? b=some u->h₁.get? b=some u:=λ b u e=>kp0 b u (Heap.get?_push_of_some _ e)
 have hD1:h₁.get? s2.heap.objs.size=some {cls:=.type "list",data:=.seq #[] 0}:=kp0 _ _ (Heap.get?_push_size _ rfl)
 have hf:∀y∈sc.names,y.2=.free->∃c,X.env.cells.lookup y.1=some c:=λ y hy e=>I.ok.has y.1 (hfree y hy e)
 have hcl :CelsB X sc cl (s2.heap.objs.size+2) h₁:=by
  have look:∀{x c},(closes X.env sc.names []).lookup x=some c->X.env.cells.lookup x=some c:=λ{x c} h=>nW sc.names [] hf (λ c h=>by simp at h) h
  have cpy:∀x c,sc.names.lookup x=some .free->X.env.cells.lookup x=some c->(closes X.env sc.names []).lookup x=some c:=λ x c d hc=>by
   obtain⟨c2,h2⟩:=fZ (env:=X.env) sc.names [] (.inr d)
   have e:=look h2
   rw[hc]at e
   cases e
   exact h2
  unfold za at hcell
  split at hcell
  . rename_i hfl
    have e1:=(xr hfl (s2.heap.objs.size+1+1) (closes X.env sc.names []) s2.heap).1
    rw[hcleq]at e1
    have no:∀x,sc.names.lookup x≠some .cell:=λ x z=>by
     have:(x,NameKind.cell)∈sc.names.filter (λ y=>y.2==.cell):=List.mem_filter.mpr ⟨PySem.mem_of_lookup z,rfl⟩
     rw[hfl]at this
     cases this
    rw[e1]
    exact⟨λ x c h=>.inl (look h),λ x hx=>hx.elim (λ z=>absurd z (no x)) λ z=>fZ sc.names [] (.inr z),cpy,λ x c z=>absurd z (no x)⟩
  . rename_i y hfl
    have hy:sc.names.lookup y.1=some .cell:=eq_of_beq hcell
    obtain⟨e1,_⟩:=uN hfl (s2.heap.objs.size+1+1) (closes X.env sc.names []) s2.heap
    rw[hcleq]at e1
    have e2:=(uN hfl 0 [] ((s2.heap.push {cls:=.type "list",dict:=none,data:=.seq ([]:List Value).toArray}).push {cls:=.type "dict",data:=.dict #[]})).2
    rw[hh1]at e2
    have e3:((s2.heap.push {cls:=.type "list",dict:=none,data:=.seq ([]:List Value).toArray}).push {cls:=.type "dict",data:=.dict #[]}).objs.size=s2.heap.objs.size+2:=by rw[Heap.size_push,hsz]
    have cel:h₁.IsCell (s2.heap.objs.size+2) none:=by
     rw[e2,←e3]
     exact⟨_,Heap.get?_push_size _ rfl,rfl⟩
    have only:∀x,sc.names.lookup x=some .cell->x=y.1:=λ x z=>by
     have:(x,NameKind.cell)∈sc.names.filter (λ y=>y.2==.cell):=List.mem_filter.mpr ⟨PySem.mem_of_lookup z,rfl⟩
     rw[hfl]at this
     have:=List.mem_singleton.mp this
     rw[←this]
    have lt0:∀{x c},(closes X.env sc.names []).lookup x=some c->c<s2.heap.objs.size:=λ{x c} h=>by
     obtain⟨v,q⟩:=I2.cell x c (look h)
     exact q.lt
    have lk2:∀x,cl.lookup x=if x=y.1 then some (s2.heap.objs.size+1+1)else(closes X.env sc.names []).lookup x:=λ x=>by
     rw[e1,List.lookup_cons]
     by_cases z:x=y.1
     . subst z;simp
     . rw[if_neg z,beq_eq_false_iff_ne.mpr z]
    refine⟨λ x c h=>?_,λ x hx=>?_,λ x c d hc=>?_,λ x c z h=>?_⟩
    . rw [lk2]at h
      by_cases z:x=y.1
      . rw[if_pos z]at h
        cases h
        refine .inr ⟨rfl,by rw[z];exact hy,cel,λ u hu=>?_⟩
        rw[lk2]at hu
        by_cases z2:u=y.1
        . rw[z2,z]
        . rw[if_neg z2]at hu
          exact(Nat.lt_irrefl _ (Nat.lt_of_le_of_lt (Nat.le_add_right _ 2) (lt0 hu))).elim
      . rw[if_neg z]at h
        exact .inl (look h)
    . rw[lk2]
      by_cases z:x=y.1
      . exact⟨_,if_pos z⟩
      . rw[if_neg z]
        exact hx.elim (λ q=>absurd (only x q) z) λ q=>fZ sc.names [] (.inr q)
    . rw[lk2,if_neg (λ z=>by rw[z,hy]at d;cases d)]
      exact cpy x c d hc
    . rw[lk2,if_pos (only x z)]at h
      cases h
      exact y9 _
  . cases hcell
 rw[hcleq,hh1]
 have hob:∀b∈fp,∃o,s2.heap.get? b=some o:=λ b hb=>let ⟨o,e,_⟩:=T.obj _ _ st2 b hb;⟨o,e⟩
 have I4:=Od (t:=s2.toks) (h1:=h₁) I2 f2 hob hkind hcl hfree hcap kp hD1 ⟨_,hns₁⟩
 generalize hX':fc X sc N' (s2.heap.objs.size+1) s2 H2 fp cl=X' at I4
 have pt':=λ i d acc S' a b=>pt i d acc S' a b (s2.heap.objs.size+1) s2 H2 fp cl
 rw[hX']at pt'
 have eP:X'.prog=X.prog:=by rw[←hX'];rfl
 have ew:X'.w=X.w:=by rw[←hX'];rfl
 have eK:X'.K=X.K:=by rw[←hX'];rfl
 have eA:X'.A=X.A:=by rw[←hX'];rfl
 have ec:X'.calm=true:=by rw[←hX'];exact hc
 have ex':X'.xe=λ _ _=>False:=by rw[←hX'];exact hx
 have eenv:X'.env=compEnvC sc cl (s2.heap.objs.size+1) X.env:=by rw[←hX'];rfl
 have eex:X'.ex=fp:=by rw[←hX'];rfl
 have eout:X'.outer=X.stack:=by rw[←hX'];rfl
 have es0:X'.s₀=s2:=by rw[←hX'];rfl
 have eH0:X'.H₀=H2:=by rw[←hX'];rfl
 have epn:X'.pn=[]:=by rw[←hX'];rfl
 have stat:∀{H':Hp},(∀b∈fp,H' b=none)->∀b∈fp,eG X' [] H' b:=λ hn b hb=>by
  refine⟨hn b hb,(I4.ok.exf b (by rw[eex];exact hb)).1,I4.ok.exfs b (by rw[eex];exact hb),.inl (by rw[eex];exact hb),(I4.ok.exf b (by rw[eex];exact hb)).2,λ p hp=>?_⟩
  rw[epn]at hp
  exact absurd hp (by simp)
 have loop:∀s₃:Shared,s₃={s2 with heap:=h₁}->
  codeAny (model X.prog X.w) X.A (.compLoop (.ListComp elt [⟨tg,iter,ifs,0⟩] sc cpos) 0 (.ref it) (.ref s2.heap.objs.size) (compEnvC sc cl (s2.heap.objs.size+1) X.env))
   (RR (.ref s2.heap.objs.size) (s2.heap.objs.size+1)) s₃:=by
  intro s₃ es
  rw[←eenv]
  refine codeAny_loop rfl (λ n s'=>∃i acc xs Hc Ac Sc σc,n=ds.length-i/\i≤ds.length/\Inv X' [] σc Hc s'/\tn i s'.heap/\(∀b∈fp,Hc b=none)/\Pv i acc Sc/\Hc s2.heap.objs.size=some (.lst xs)/\xs.length≤i/\
   Reps X.K ⟨Ac,s2.heap.objs.size::O2.B⟩ Hc xs acc/\Step O2 ⟨Ac,O2.B⟩ H2 Hc/\StOk X.K ⟨Ac,s2.heap.objs.size::O2.B⟩ Hc Sc/\EnvOk X.K ⟨Ac,s2.heap.objs.size::O2.B⟩ Hc σc (capt cap Γ)) ?_ ds.length ?_
  . rintro n s' ⟨i,acc,xs,Hc,Ac,Sc,σc,rfl,hi,Ic,stc,frc,pc,hxs,hxl,rc,sc',okc,envc⟩
    show wpAny _ _ ((compTurn (.ListComp elt [⟨tg,iter,ifs,0⟩] sc cpos) 0 (.ref it) (.ref s2.heap.objs.size) X'.env).onRaise (λ x=>do noteFrame x X'.env;theTreesLotGoes x)) _ _ s'
    refine wpAny_noted ?_
    rw[compTurn_list]
    refine wpAny_bind (wpAny_standAt (wpAny_bind ?_))
    have cv:Conv O2 ⟨Ac,s2.heap.objs.size::O2.B⟩ H2 Hc:=by
     refine⟨λ a u n t=>?_,sc'.conv.lc⟩
     obtain⟨x1,x2⟩:=sc'.conv.tr a u n t
     refine⟨λ z=>?_,x2⟩
     rcases z with z | z
     . exact x1 (.inl z)
     . rcases List.mem_cons.mp z with z | z
       . subst z;rw[hD0]at t;cases t
       . exact x1 (.inr z)
    obtain⟨y1,y2⟩:=yl _ _ _ cv okc (pC _ _ _ pc) i
    by_cases hlt:i<ds.length
    . obtain⟨go,yy⟩:=y1 ds[i] (y3 hlt)
      have it1:=T.item X' eP ew eK ec i [] s' σc Hc (λ _ _=>False) Ic (stat frc) stc go
      rw[eA]at it1
      refine wpAny_mono it1 (λ r s3 hq_=>?_) λ _ _ z=>z.elim
      obtain⟨u,hr,h3⟩:=hq_
      subst hr
      refine wpAny_bind (wpAny_mono h3 (λ _ s5 hq_=>?_) λ _ _ z=>z.elim)
      obtain⟨x,H5,I5,r5,y5,st5,fr5⟩:=hq_
      obtain⟨sm,rx⟩:=yy x H5 y5
      have I5':=I5.pinned (stat fr5) (T.obj _ _ st5)
      have st35:=Step.same (O:=⟨Ac,s2.heap.objs.size::O2.B⟩) sm
      have bd:=pt' i ds[i] acc Sc (y3 hlt) pc _ s5 σc H5 ⟨Ac,s2.heap.objs.size::O2.B⟩ x u I5' (by rw[eK];exact envc.mono st35) (by rw[eK];exact okc.same sm) (by rw[eK];exact rx) r5
      rw[eP,ew,eA]at bd
      refine wpAny_bind (wpAny_mono (rN (E':=λ _ _=>False) ex' bd) (λ _ s6 hq_=>?_) λ _ _ z=>z.elim)
      obtain⟨σ6,H6,I6,O6,Γ6,S6,⟨sub6,w6⟩,st6,ok6,env6⟩:=hq_
      have tst:=N5 w6 I6 env6 ok6
      rw[eP,ew,eA]at tst
      refine wpAny_bind (wpAny_mono (rN (E':=λ _ _=>False) ex' tst) (λ ok s7 hq_=>?_) λ _ _ z=>z.elim)
      obtain⟨H7,I7,O7,S7,w7,st7,ok7⟩:=hq_
      have st57:Step ⟨Ac,s2.heap.objs.size::O2.B⟩ O7 Hc H7:=st35.trans (st6.trans st7)
      have eB7:O7.B=s2.heap.objs.size::O2.B:=st57.hid
      have next:∀(s9:Shared)(H8:Hp)(O8:Own)(S8:Store)(ys:List V)(acc':List D),Step ⟨Ac,s2.heap.objs.size::O2.B⟩ O8 Hc H8->
       StOk X.K O8 H8 S8->EnvOk X.K O8 H8 σ6 (capt cap Γ)->Pv (i+1) acc' S8->Inv X' ([]++lr fp s5.heap) σ6 (upd H8 s2.heap.objs.size (.lst ys)) s9->Reps X.K O8 H8 ys acc'->ys.length≤i+1->
       ∃ m,m<ds.length-i/\∃i acc xs Hc Ac Sc σc,m=ds.length-i/\i≤ds.length/\Inv X' [] σc Hc s9/\tn i s9.heap/\(∀b∈fp,Hc b=none)/\Pv i acc Sc/\Hc s2.heap.objs.size=some (.lst xs)/\xs.length≤i/\
         Reps X.K ⟨Ac,s2.heap.objs.size::O2.B⟩ Hc xs acc/\Step O2 ⟨Ac,O2.B⟩ H2 Hc/\StOk X.K ⟨Ac,s2.heap.objs.size::O2.B⟩ Hc Sc/\EnvOk X.K ⟨Ac,s2.heap.objs.size::O2.B⟩ Hc σc (capt cap Γ):=by
       intro s9 H8 O8 S8 ys acc' st8 ok8 env8 p8 I8 r8 hl8
       have eB:O8.B=s2.heap.objs.size::O2.B:=st8.hid
       obtain⟨A8,B8⟩:=O8
       have eB':B8=s2.heap.objs.size::O2.B:=eB
       subst eB'
       have mem:s2.heap.objs.size∈(⟨A8,s2.heap.objs.size::O2.B⟩:Own).B:=x5
       refine⟨ds.length-(i+1),by omega,i+1,acc',ys,_,A8,S8,σ6,rfl,hlt,I8.unpinned,T.keep _ _ _ st5 λ b hb o e=>(I8.pin (b,o) (List.mem_append_right _ (List.mem_append_right _ (fY hb e)))).1,λ b hb=>?_,p8,aQ,hl8,
        r8.conv (Conv.updHid mem _),sc'.inner st8 hD0 _,ok8.updHid mem _,env8.conv (Conv.updHid mem _)⟩
       obtain⟨o,e,d⟩:=T.obj _ _ st5 b hb
       exact(I8.pin (b,o) (List.mem_append_right _ (List.mem_append_right _ (fY hb e)))).2.1
      rw[eK]at ok7 env6 ok6
      have hid:∀{O':Own}{H':Hp}{S':Store},Step ⟨Ac,s2.heap.objs.size::O2.B⟩ O' Hc H'->H' s2.heap.objs.size=some (.lst xs):=λ st'=>
       st'.kept _ _ (λ z=>okc.apart _ z x5) hxs
      cases ok with
      | false=>
        refine wpAny_pure ⟨rfl,?_⟩
        have hx7:=hid (S':=S7) st57
        have eq7:upd H7 s2.heap.objs.size (.lst xs)=H7:=by
         funext b
         by_cases hb:b=s2.heap.objs.size
         . subst hb;rw[aQ];exact hx7.symm
         . exact aq hb
        exact next s7 H7 O7 S7 xs acc st57 ok7 ((env6.mono st7).sub sub6) (w7.2 rfl) (by rw[eq7];exact I7) (rc.mono st57) (Nat.le_succ_of_le hxl)
      | true=>
        have el:=w7.1 rfl _ s7 σ6 H7 O7 I7 (by rw[eK];exact env6.mono st7) (by rw[eK];exact ok7)
        rw[eP,ew,eA]at el
        refine wpAny_bind (wpAny_bind (wpAny_mono (rN (E':=λ _ _=>False) ex' el) (λ xe s8 hq_=>?_) λ _ _ z=>z.elim))
        obtain⟨v8,H8,I8,r8,O8,y,S8,w8,st8,ok8,rep8⟩:=hq_
        rw[eK]at ok8 rep8
        have st58:=st57.trans st8
        have hx8:=hid (S':=S8) st58
        have ap:=uH (X:=X') _ s8 σ6 H8 (.ref s2.heap.objs.size) [v8] (.ref s2.heap.objs.size) [xe] (λ v H'=>H'=upd H8 s2.heap.objs.size (.lst (xs++[v8]))) I8 rfl (.cons r8 .nil)
         ⟨s2.heap.objs.size,xs,v8,rfl,rfl,hx8,Nat.lt_of_le_of_lt (Nat.le_trans hxl (Nat.le_trans hi hz)) (by decide),rfl⟩
        rw[eP,ew,eA]at ap
        refine wpAny_bind (wpAny_mono (rN (E':=λ _ _=>False) ex' ap) (λ _ s9 hq_=>wpAny_pure (wpAny_pure ⟨rfl,?_⟩)) λ _ _ z=>z.elim)
        obtain⟨_,H9,I9,_,e9⟩:=hq_
        subst e9
        exact next s9 H8 O8 S8 (xs++[v8]) (acc++[y]) st58 ok8 (((env6.mono st7).mono st8).sub sub6) w8 I9 ((rc.mono st58).append (.cons rep8 .nil)) (by rw[x6,List.length_singleton];omega)
    . have e:i=ds.length:=by omega
      subst e
      have dn:=T.done X' eP ew eK ec ds.length [] s' σc Hc (λ _ _=>False) Ic (stat frc) stc (y2 rfl)
      rw[eA]at dn
      refine wpAny_mono dn (λ r s3 hq_=>?_) λ _ _ z=>z.elim
      obtain⟨hr,I3⟩:=hq_
      subst hr
      refine wpAny_pure ?_
      obtain⟨m,hm,_⟩:=I3.loc
      have un:Un (frs X.stack) fp H2 Hc s2.heap s3.heap:=by
       have:=I3.base
       rw[eex,eH0,es0]at this
       show Un (frs X.stack) fp H2 Hc s2.heap s3.heap
       rw[←eout]
       exact this
      have os:s3.os=s2.os:=by
       have:=I3.os
       rw[es0]at this
       exact this
      have hok3:HOk X.prog X.w Hc s3.heap:=by
       have:=I3.hok
       rw[eP,ew]at this
       exact this
      have IX:Inv X pins σ Hc s3:=I2.call' os un hok3 I3.bare (λ b hb=>⟨(f2 b hb).2.2.2.1,(f2 b hb).2.1,(f2 b hb).2.2.2.2.1,(f2 b hb).2.2.2.2.2⟩)
      have hCn:Hc (s2.heap.objs.size+1)=none:=by
       have:=I3.free
       rw[eenv]at this
       exact this
      refine fin s3 Hc _ _ m IX (by rw[eenv]at hm;exact hm) (I2.fpOk (Nat.le_succ _) hCn) (w9 (Nat.lt_succ_self _)) ?_
      rcases pe acc Sc pc with w | w
      . refine⟨⟨Ac,O2.B⟩,.lst acc,Sc,w,stp.trans sc',okc.unhide,.lst (.inl ⟨λ z=>?_,.inl hxs⟩) (rc.conv Conv.unhide)⟩
        rcases z with z | z
        . exact okc.apart _ z x5
        . exact ok2.hidden _ z hD0
      . refine⟨⟨Ac++[(s2.heap.objs.size,false)],O2.B⟩,.loc Sc.length,Sc++[acc],w,stp.trans (sc'.adopt hD0),okc.adopt (λ z=>ok2.hidden _ z hD0) hxs rc,.loc ?_⟩
        have el:Ac.length=Sc.length:=okc.len
        show(Ac++[(s2.heap.objs.size,false)])[Sc.length]? =some _
        rw[←el];simp
  . refine⟨0,[],[],upd H2 s2.heap.objs.size (.lst []),O2.A,S2,capt cap σ,rfl,Nat.zero_le _,by rw[es];exact I4,by rw[es];exact T.keep 0 s2.heap h₁ st2 λ b hb o e=>kp b o e,λ b hb=>?_,p0,aQ,y9 0,.nil,Step.fresh hD0 _,ok2.hide hD0 _,((env.mono stp).capt cap).conv (Conv.hide hD0 _)⟩
    obtain⟨o,e⟩:=hob b hb
    rw[aq (w9 (Heap.lt_size e))]
    exact(f2 b hb).1
 exact codeAny_compStart_list (loop _ rfl) (T.self _ 0 _ _ _ (T.keep 0 s2.heap h₁ st2 λ b hb o e=>kp b o e) (loop _ rfl))
variable {Γ : Gam} {S : Store} {elt tg iter : Expr} {ifs : List Expr} {sc : Scope} {pos : Pos} {N' : List Str} {cap : List (Option Nat)}
theorem O9(N':List Str)(cap:List (Option Nat)){W:WD}(h:ItC X Γ S tg iter (ww X sc N' cap Γ elt tg ifs W))(hx:X.xe=λ _ _=>False:=by rfl)(hc:X.calm=true:=by rfl)(hkind:sc.kind=.function:=by rfl)
 (hcell:za sc.names=true:=by rfl)(hfr:freeOk X.env.scope.names sc.names=true:=by rfl)
 (hnames:∀y∈sc.names,y.2=.local->sc.names.lookup y.1=some .local:=by decide+kernel)(hcap:bc X.N X.env.scope.names N' sc.names cap N'=true:=by rfl)(hs:∀x,foldedSetIterable iter X.env x=pure x:=by intro _;rfl):
 Ev X Γ S (.ListComp elt [⟨tg,iter,ifs,0⟩] sc pos) W:=by
 intro pins s σ H O I env st
 have hfree:∀y∈sc.names,y.2=.free->X.env.kindOf y.1=some .cell∨X.env.kindOf y.1=some .free:=my hfr
 have hf:∀y∈sc.names,y.2=.free->∃c,X.env.cells.lookup y.1=some c:=λ y hy e=>I.ok.has y.1 (hfree y hy e)
 rw[eval_ListComp]
 refine wpAny_comprehension_free (use:=none) (g:=⟨tg,iter,ifs,0⟩) (gs:=[]) rfl hs (jZ hf) hkind hnames ?_
 refine uG (RR:=λ acc C=>compPost (model X.prog X.w) X.A X.xe none (EP X pins σ (QG X.K O H W)) acc C) hx hc hkind hcell hfree hcap h I env st ?_
 intro s' Hc D0 C m I' hm fp ne q
 refine⟨m,hm,λ h' sb=>⟨.ref D0,Hc,?_,rfl,q⟩⟩
 obtain⟨f0,f1,f2,f3,f4,f5⟩:=fp
 exact I'.turned (t':=s'.toks) (λ b o hb e=>(sb.2 b hb).trans e) f0 f1 f3 f4 f5
theorem Ij(i:Nat){x:Str}{pos' spos:Pos}{W:Fin}(N':List Str)(cap:List (Option Nat))(h:ItC X Γ S tg iter (ww X sc N' cap Γ elt tg ifs λ d S1=>W.nx (Γ.set i (some d)) S1))(hN:X.N.Nodup)(hi:X.N[i]? =some x:=by rfl)
 (hl:Loc X.env.scope x:=by first | exact Or.inl rfl | exact Or.inr rfl)(hsw:swapsWith (.ListComp elt [⟨tg,iter,ifs,0⟩] sc pos) (some (.Name x pos')) spos.line X.env=pure true:=by rfl)
 (hfn:X.fn x=true∨X.env.scope.names.lookup x=some .local:=by first | exact .inl rfl | exact .inr rfl)(hx:X.xe=λ _ _=>False:=by rfl)(hc:X.calm=true:=by rfl)(hkind:sc.kind=.function:=by rfl)
 (hcell:za sc.names=true:=by rfl)(hfr:freeOk X.env.scope.names sc.names=true:=by rfl)
 (hnames:∀y∈sc.names,y.2=.local->sc.names.lookup y.1=some .local:=by decide+kernel)(hcap:bc X.N X.env.scope.names N' sc.names cap N'=true:=by rfl)(hs:∀x,foldedSetIterable iter X.env x=pure x:=by intro _;rfl):
 Rn X Γ S (.Assign [.Name x pos'] (.ListComp elt [⟨tg,iter,ifs,0⟩] sc pos) spos) W:=by
 intro pins s σ H O I env st
 have hfree:∀y∈sc.names,y.2=.free->X.env.kindOf y.1=some .cell∨X.env.kindOf y.1=some .free:=my hfr
 have hf:∀y∈sc.names,y.2=.free->∃c,X.env.cells.lookup y.1=some c:=λ y hy e=>I.ok.has y.1 (hfree y hy e)
 rw[exec_Assign_Name_used _ _ _ _ hsw]
 refine wpAny_bind (wpAny_standAt (wpAny_bind ?_))
 show wpAny _ X.A (do let _ ←comprehension (.ListComp elt [⟨tg,iter,ifs,0⟩] sc pos) sc X.env _ (newList []) false (eval iter X.env) (some (assign (.Name x pos') X.env))) _ _ s
 refine wpAny_bind (wpAny_mono (wpAny_comprehension_free (use:=some (assign (.Name x pos') X.env)) (g:=⟨tg,iter,ifs,0⟩) (gs:=[]) (Q:=λ _ s'=>SP X pins (ends X.K O H W) .next s') rfl hs (jZ hf) hkind hnames ?_) (λ _ s' hq=>wpAny_pure (wpAny_pure hq)) λ _ _ e=>e)
 refine uG (RR:=λ acc C=>compPost (model X.prog X.w) X.A X.xe (some (assign (.Name x pos') X.env)) (λ _ s'=>SP X pins (ends X.K O H W) .next s') acc C) hx hc hkind hcell hfree hcap h I env st ?_
 intro s' Hc D0 C m I' hm fp ne q
 show wpAny _ X.A (assign (.Name x pos') X.env (.ref D0)) _ _ _
 refine wpAny_assign_Name (ur I' hN hi hl (show RelV (.ref D0) (.ref D0)from rfl) (λ s2 I2 hq_=>?_) hfn)
 obtain⟨a,sa,ha⟩:=hq_
 obtain⟨f0,f1,f2,f3,f4,f5⟩:=fp
 have neC:C≠a:=by
  rcases ha with z | z
  . rw[z];exact f1
  . exact(f4 x a z).symm
 refine⟨m,hm.sameBut sa neC,λ h' sb=>?_⟩
 obtain⟨O',d,S',w,stp,okp,rep⟩:=q
 exact⟨_,Hc,I2.turned (t':=s2.toks) (λ b o hb e=>(sb.2 b hb).trans e) f0 f1 f3 f4 f5,O',_,S',w,stp,okp,(env.mono stp).set rep i⟩
end
end DL
namespace DL
open PySem PySem.Spec L2
open PyProof.Rows
noncomputable def tyD:D->String
 | .non=>"NoneType" | .bl _=>"bool" | .int _=>"int" | .str _=>"str" | .tup _=>"tuple" | .lst _=>"list" | .loc _=>"list" | .dic=>"dict" | .dlo _=>"dict"
noncomputable def isi(t c:String):Bool:=t==c||(t=="bool"&&c=="int")
noncomputable def isT(c:String):Bool:=c=="int"||c=="bool"||c=="tuple"||c=="list"
theorem kit_at(K:PySem.W.Frag)(d:D){c:String}(hc:isT c=true):PySem.W.kitOne K (.type (tyD d)) (.type c)=some (isi (tyD d) c):=by
 have h:c="int"∨c="bool"∨c="tuple"∨c="list":=by
  simp only[isT,Bool.or_eq_true,beq_iff_eq]at hc
  rcases hc with((h | h) | h) | h
  . exact .inl h
  . exact .inr (.inl h)
  . exact .inr (.inr (.inl h))
  . exact .inr (.inr (.inr h))
 rcases h with h | h | h | h<;>subst h<;>cases d<;>kernel_rfl
section
variable {X : Cx} {Γ : Gam} {S : Store} {W : WD} {a b e : Expr} {es : List Expr} {pos : Pos}
theorem Pj{pins:Pins}{s:Shared}{σ:St}{H:Hp}{O:Own}{v:V}{u c:Value}{d:D}{A:Around}{E:Value->Shared->Prop}{Q:Value->Shared->Prop}(I:Inv X pins σ H s)(st:StOk X.K O H S)(r:Rep X.K O H v d)(ru:RelV v u)
 (go:∀{x t:Value}{Hh:Heap->Prop},PySem.W.KitX X.K x t Hh->t=.type (tyD d)->Hh s.heap->x≠.builtin "__main__.__loader__#opaque"->wpAny (model X.prog X.w) A (call (.builtin "isinstance") [x,c]) Q E s):
 wpAny (model X.prog X.w) A (call (.builtin "isinstance") [u,c]) Q E s:=by
 cases r with
 | non=>cases ru;exact go PySem.W.kitx_none rfl True.intro (λ z=>nomatch z)
 | bl y=>cases ru;exact go PySem.W.kitx_bool rfl True.intro (λ z=>nomatch z)
 | int y=>obtain⟨t,rfl⟩:=ru;exact go PySem.W.kitx_int rfl True.intro (λ z=>nomatch z)
 | str y=>obtain⟨t,rfl⟩:=ru;exact go PySem.W.kitx_str rfl True.intro (λ z=>nomatch z)
 | tup h1 q1=>
   cases ru
   obtain⟨its,_,⟨o,h2,h3,_⟩,_⟩:=I.tuple h1.sq
   exact go PySem.W.kitx_tuple rfl ⟨o,h2,h3⟩ (λ z=>nomatch z)
 | lst h1 q1=>
   cases ru
   obtain⟨its,_,pl,_⟩:=I.list h1.sq
   obtain⟨o,h2,h3,_⟩:=pl.isList
   exact go PySem.W.kitx_list rfl ⟨o,h2,h3⟩ (λ z=>nomatch z)
 | @loc p k hk=>
   cases ru
   have hl:k<S.length:=by rw[←st.len];exact(z0.mp hk).1
   obtain⟨xs,hx,_⟩:=st.obj k p S[k] hk (y3 hl)
   obtain⟨its,_,pl,_⟩:=I.list (SqL.of hx)
   obtain⟨o,h2,h3,_⟩:=pl.isList
   exact go PySem.W.kitx_list rfl ⟨o,h2,h3⟩ (λ z=>nomatch z)
 | @dic p h1 h2=>
   cases ru
   obtain⟨_,_,vs,_,o,es,ep,h3,h4,_⟩:=(show aX X.prog X.w H s.heap p (.dK [])from I.hok p _ h2)
   exact go PySem.W.kitx_dict rfl ⟨o,h3,h4.1⟩ (λ z=>nomatch z)
 | @dlo p k hk=>
   cases ru
   have hl:k<S.length:=by rw[←st.len];exact(z0.mp hk).1
   cases st.dob k p S[k] hk (y3 hl)with
   | t kvs hx _=>
     obtain⟨_,_,xs,_,o,es,ep,h3,h4,_⟩:=(show aX X.prog X.w H s.heap p (.dT kvs)from I.hok p _ hx)
     exact go PySem.W.kitx_dict rfl ⟨o,h3,h4.1⟩ (λ z=>nomatch z)
   | c ys _ hx _=>
     obtain⟨⟨_,_,_,o,es,ep,h3,h4,_⟩,_,_⟩:=(show aX X.prog X.w H s.heap p (.ext (RX p ys))from I.hok p _ hx)
     exact go PySem.W.kitx_dict rfl ⟨o,h3,h4.1⟩ (λ z=>nomatch z)
   | o ys _ hx _=>
     obtain⟨⟨_,_,_,o,es,ep,h3,h4,_⟩,_,_⟩:=(show aX X.prog X.w H s.heap p (.ext (RC p ys))from I.hok p _ hx)
     exact go PySem.W.kitx_dict rfl ⟨o,h3,h4.1⟩ (λ z=>nomatch z)
theorem Qw{T:Str}{Tn:String}{p q:Pos}(h:Ev X Γ S a λ x S1=>W (.bl (isi (tyD x) Tn)) S1)(hT:isT Tn=true)(hb:bootBuiltins T=some (.type Tn))(hm1:X.mg "isinstance"=none)(hm:X.mg T=none)(hg1:Gl X "isinstance":=by rfl)(hg:Gl X T:=by rfl)
 (hn:T≠"__name__":=by decide)(hdb:(T==("__debug__":Str))=false:=by decide)(hs1:starEach [a,.Name T q] X.env=(false,eval a X.env)::starEach [.Name T q] X.env:=by rfl)(hs2:starEach [.Name T q] X.env=[(false,eval (.Name T q) X.env)]:=by rfl):
 Ev X Γ S (.Call (.Name "isinstance" p) [a,.Name T q] [] pos) W:=by
 intro pins s σ H O I env st
 have hc:eZ X (.builtin "isinstance") (λ xs H' Q=>∃v,xs=[v,.ty Tn]/\∃O' d S',StOk X.K O' H' S'/\Rep X.K O' H' v d/\Q (.bl (isi (tyD d) Tn)) H'):=by
  intro pins s σ H xs us Q I r h
  obtain⟨v,rfl,O',d,S',st',rep,q⟩:=h
  obtain⟨u,u2,rfl,r1,r2⟩:=vals2 r
  cases r2
  refine Pj I st' rep r1 λ Z e p ne=>?_
  subst e
  exact PySem.W.kia_one Z I.kIn p (kit_at X.K d hT) ne λ tk=>⟨.bl _,H,I.tok tk,rfl,q⟩
 refine Kg hc hg1 hm1 PyProof.Rows.boot_isinstance (ni h.pe (ni (Nx hg hm hb (v:=.ty Tn) rfl hn hdb) yE hs2) hs1) (by decide) (by decide) hs1 (by rw[hs2];rfl) pins s σ H _ I ⟨O,env,st,λ v H' q=>?_⟩
 obtain⟨O',d,S',w,st1,ok1,rep⟩:=q
 exact⟨v,rfl,O',d,S',ok1,rep,O',_,S',w,st1,ok1,.bl _⟩
theorem range_all{α:Type}(f:α->Bool)(d:α):∀(bs:List α)(k:Nat),((List.range' k bs.length).all λ i=>f ((List.replicate k d++bs).getD i d))=bs.all f
 | [],_=>by simp
 | b ::bs,k=>by
   have ih:=range_all f d bs (k+1)
   rw[List.length_cons,List.range'_succ,List.all_cons,List.all_cons]
   congr 1
   . simp[List.getD]
   . rw[←ih]
     have e:List.replicate k d++b::bs=(List.replicate k d++[b])++bs:=by simp
     rw[List.all_eq,List.all_eq]
     congr 1
     apply propext
     constructor
     . intro h i hi
       have:=h i hi
       rw[List.mem_range']at hi
       obtain⟨j,hj,rfl⟩:=hi
       simp only[List.getD,List.getElem?_append,List.length_replicate]at this ⊢
       have g1:¬(k+1+1*j<k):=by omega
       have g2:¬(k+1+1*j<k+1):=by omega
       rw[if_neg g1]at this
       rw[if_neg g2]
       have e1:k+1+1*j-k=(k+1+1*j-(k+1))+1:=by omega
       rw[e1,List.getElem?_cons_succ]at this
       exact this
     . intro h i hi
       have:=h i hi
       rw[List.mem_range']at hi
       obtain⟨j,hj,rfl⟩:=hi
       simp only[List.getD,List.getElem?_append,List.length_replicate]at this ⊢
       have g1:¬(k+1+1*j<k):=by omega
       have g2:¬(k+1+1*j<k+1):=by omega
       rw[if_neg g2]at this
       rw[if_neg g1]
       have e1:k+1+1*j-k=(k+1+1*j-(k+1))+1:=by omega
       rw[e1,List.getElem?_cons_succ]
       exact this
theorem Gx(bs:List Bool):((List.range bs.length).all λ i=>bs.getD i false)=bs.all id:=by
 have:=range_all id false bs 0
 simpa[List.range_eq_range']using this
theorem k_all{bs:List Bool}(w:W (.bl (bs.all id)) S)(hc:X.calm=true:=by rfl):dm X (.builtin "all") [.lst (bs.map .bl)] S W:=by
 intro pins s σ H O vs us I st r ru
 obtain⟨v,rfl,r'⟩:=cR r
 obtain⟨u,rfl,ru'⟩:=vals1 ru
 cases r' with
 | @lst a xs _ h1 q1=>
   cases ru'
   obtain⟨its,rv,pl,hz⟩:=I.list h1.sq
   have ex:=q1.bools
   subst ex
   have hlen:its.length=bs.length:=by rw[←rv.length];simp
   refine call_all_walk (wpAny_pyIter_list pl.isList ?_)
   have ne:a≠s.heap.objs.size:=by
    obtain⟨o,e,_⟩:=pl.isList
    exact w9 (Heap.lt_size e)
   refine⟨_,_,_,_,_,_,λ i=>bs.getD i false,rfl,Walks.list (A:=X.A.in1) (I.ok.hd hc) _ a ne its.toArray,⟨⟨_,Heap.get?_push_size _ rfl,rfl,rfl⟩,pl.isList.push _⟩,λ i v s' Q' E' hv hq=>?_,λ h' tk hk=>?_⟩
   . have hv:its[i]? =some v:=by simpa using hv
     have hi:i<bs.length:=by rw[←hlen];exact(z0.mp hv).1
     obtain⟨z,hz',rz⟩:=rv.get (i:=i) (x:=V.bl bs[i]) (by rw[y8,y3 hi];rfl)
     rw[hv]at hz'
     cases hz'
     cases rz
     have e:bs.getD i false=bs[i]:=by simp[List.getD,hi]
     have hq':Q' (bs.getD i false) s':=hq
     rw[e]at hq'
     exact wpAny_truthy_bool hq'
   . have e:(List.range its.toArray.size).all (λ i=>bs.getD i false)=bs.all id:=by rw[x4,hlen];exact Gx bs
     rw[e]
     refine⟨.bl _,H,I.kept (λ b o q=>hk b o (λ z=>?_) (Heap.get?_push_of_some _ q)),rfl,QG.here w st (.bl _)⟩
     have z':b=s.heap.objs.size:=by simpa using z
     exact absurd (Heap.lt_size q) (by rw[z'];exact Nat.lt_irrefl _)
theorem Uw{ns:List Int}(w:W (.int ns.sum) S)(hc:X.calm=true:=by rfl):dm X (.builtin "sum") [.lst (ns.map .int)] S W:=by
 intro pins s σ H O vs us I st r ru
 obtain⟨v,rfl,r'⟩:=cR r
 obtain⟨u,rfl,ru'⟩:=vals1 ru
 cases r' with
 | @lst a xs _ h1 q1=>
   cases ru'
   obtain⟨its,rv,pl,hz⟩:=I.list h1.sq
   have ex:=q1.ints
   subst ex
   have hi:IntsAre its ns:=intsAre_of rv
   obtain⟨zs,ez⟩:=hi.allInts.items
   have hL:=pl.isList
   rw[ez]at hL
   refine sum_intListG (I.ok.hd hc) hL λ h' tk t' hk=>?_
   have e:preSum (numAt zs) zs.size=ns.sum:=by
    rw[preSum_eq,List.take_of_length_le (by simp),←nums_intItems,←ez]
    exact congrArg List.sum hi.numsOf
   rw[e]
   exact⟨.int _,H,I.kept hk,⟨_,rfl⟩,QG.here w st (.int _)⟩
mutual
noncomputable def deep:D->Nat
 | .tup ds=>aV ds+1
 | .lst ds=>aV ds+1
 | .dic=>1
 | _=>0
noncomputable def aV:List D->Nat
 | []=>0
 | d::ds=>max (deep d) (aV ds)
end
mutual
noncomputable def ao:D->Bool
 | .tup ds=>ak ds
 | .lst ds=>ak ds
 | .loc _=>false
 | .dlo _=>false
 | _=>true
noncomputable def ak:List D->Bool
 | []=>true
 | d::ds=>ao d&&ak ds
end
theorem cV{d:D}:∀{ds:List D}{i:Nat},ds[i]? =some d->deep d≤aV ds
 | [],_,h=>by simp at h
 | c::ds,0,h=>by simp at h;subst h;simp[aV];omega
 | c::ds,i+1,h=>by
   have:=cV (ds:=ds) (i:=i) (by simpa using h)
   simp[aV];omega
theorem fK{d:D}:∀{ds:List D}{i:Nat},ak ds=true->ds[i]? =some d->ao d=true
 | [],_,_,h=>by simp at h
 | c::ds,0,n,h=>by simp at h;subst h;simp[ak]at n;exact n.1
 | c::ds,i+1,n,h=>by
   simp[ak]at n
   exact fK (ds:=ds) (i:=i) n.2 (by simpa using h)
theorem jF{pins:Pins}{s:Shared}{σ:St}{H:Hp}{a:Addr}(I:Inv X pins σ H s)(h:H a=some (.dK [])):(a==sysModules)=false/\s.heap.DictOf (aY X.prog X.w) a []:=by
 obtain⟨_,h2,vs,h3,h4⟩:=(show aX X.prog X.w H s.heap a (.dK [])from I.hok a _ h)
 cases h3
 exact⟨h2,h4⟩
theorem M5{P P':Program}{w w':World}{h:Heap}{a:Addr}(d:h.DictOf (aY P w) a []):h.DictOf (aY P' w') a []:=by
 obtain⟨o,es,ep,h1,h2,h3,h4,h5,h6⟩:=d
 have e:es=#[]:=by
  have q0:∀l,Pairs (aY P w) l ([]:List (Key×Value))->l=[]:=by
   intro l hl
   cases hl
   rfl
  have q:es.toList=[]:=q0 _ h5
  exact Array.toList_eq_nil_iff.mp q
 subst e
 exact⟨o,#[],ep,h1,h2,h3,λ _ he=>by simp at he,Pairs.nil,List.nodup_nil⟩
theorem Jk (n:Nat):∀(x:D),deep x≤n->ao x=true->∀{pins:Pins}{s:Shared}{σ:St}{H:Hp}{O:Own}{v w:V}{u u':Value}{A:Around},Inv X pins σ H s->Rep X.K O H v x->Rep X.K O H w x->RelV v u->RelV w u'->A.units+n<cLine->SeqAt.EqAt A s u u' true:=by
 induction n with
 | zero=>
   intro x hx hn pins s σ H O v w u u' A I r1 r2 ru ru' hu
   cases r1 with
   | non=>cases r2;cases ru;cases ru';exact SeqAt.EqAt.same _
   | bl b=>cases r2;cases ru;cases ru';exact SeqAt.EqAt.same _
   | int i=>
     cases r2;obtain⟨t,rfl⟩:=ru;obtain⟨t',rfl⟩:=ru'
     have:=SeqAt.EqAt.int_int (A:=A) (s:=s) i t i t'
     rw[beq_self_eq_true]at this
     exact this
   | str i=>
     cases r2;obtain⟨t,rfl⟩:=ru;obtain⟨t',rfl⟩:=ru'
     have:=SeqAt.EqAt.str_str (A:=A) (s:=s) i t i t'
     rw[beq_self_eq_true]at this
     exact this
   | tup _ _=>simp[deep]at hx
   | lst _ _=>simp[deep]at hx
   | loc _=>simp[ao]at hn
   | dlo _=>simp[ao]at hn
   | dic _ _=>simp[deep]at hx
 | succ n ih=>
   intro x hx hn pins s σ H O v w u u' A I r1 r2 ru ru' hu
   cases r1 with
   | non=>cases r2;cases ru;cases ru';exact SeqAt.EqAt.same _
   | bl b=>cases r2;cases ru;cases ru';exact SeqAt.EqAt.same _
   | int i=>
     cases r2;obtain⟨t,rfl⟩:=ru;obtain⟨t',rfl⟩:=ru'
     have:=SeqAt.EqAt.int_int (A:=A) (s:=s) i t i t'
     rw[beq_self_eq_true]at this
     exact this
   | str i=>
     cases r2;obtain⟨t,rfl⟩:=ru;obtain⟨t',rfl⟩:=ru'
     have:=SeqAt.EqAt.str_str (A:=A) (s:=s) i t i t'
     rw[beq_self_eq_true]at this
     exact this
   | @tup a xs ds h1 q1=>
     cases r2 with
     | @tup b ys _ h2 q2=>
       cases ru;cases ru'
       by_cases e:a=b
       . subst e;exact SeqAt.EqAt.same _
       . obtain⟨its,v1,p1,_⟩:=I.tuple h1.sq
         obtain⟨its2,v2,p2,_⟩:=I.tuple h2.sq
         have l1:its.length=ds.length:=by rw[←v1.length,q1.length]
         have l2:its2.length=ds.length:=by rw[←v2.length,q2.length]
         have rc:=SeqAt.RcAt.tuples (A:=A) (e:=λ _=>true) (show s.heap.IsTuple a its.toArray from p1) (show s.heap.IsTuple b its2.toArray from p2) (by omega) (λ j j1 j2=>?_)
         . have e2:((List.range (min its.toArray.size its2.toArray.size)).all (λ _=>true)&&its.toArray.size==its2.toArray.size)=true:=by simp[l1,l2]
           rw[e2]at rc
           exact SeqAt.EqAt.of_refs e rc
         . have hj:j<ds.length:=by simpa[l1]using j1
           obtain⟨z1,a1,b1⟩:=q1.get (y3 hj)
           obtain⟨z2,a2,b2⟩:=q2.get (y3 hj)
           obtain⟨u1,c1,d1⟩:=v1.get a1
           obtain⟨u2,c2,d2⟩:=v2.get a2
           have e1:its.toArray[j]=u1:=by have:=(z0.mp c1).2;simpa using this
           have e2:its2.toArray[j]=u2:=by have:=(z0.mp c2).2;simpa using this
           rw[e1,e2]
           have hd:=cV (y3 hj)
           exact ih ds[j] (by simp[deep]at hx;omega) (fK (by simpa[ao]using hn) (y3 hj)) I b1 b2 d1 d2 (by show A.units+1+n<cLine;omega)
   | @lst a xs ds h1 q1=>
     cases r2 with
     | @lst b ys _ h2 q2=>
       cases ru;cases ru'
       by_cases e:a=b
       . subst e;exact SeqAt.EqAt.same _
       . obtain⟨its,v1,p1,_⟩:=I.list h1.sq
         obtain⟨its2,v2,p2,_⟩:=I.list h2.sq
         have l1:its.length=ds.length:=by rw[←v1.length,q1.length]
         have l2:its2.length=ds.length:=by rw[←v2.length,q2.length]
         have rc:=SeqAt.RcAt.lists (A:=A) (e:=λ _=>true) p1.isList p2.isList (by simp[l1,l2]) (by omega) (λ j j1 j2=>?_)
         . have e2:(List.range its.toArray.size).all (λ _=>true)=true:=by simp
           rw[e2]at rc
           exact SeqAt.EqAt.of_refs e rc
         . have hj:j<ds.length:=by simpa[l1]using j1
           obtain⟨z1,a1,b1⟩:=q1.get (y3 hj)
           obtain⟨z2,a2,b2⟩:=q2.get (y3 hj)
           obtain⟨u1,c1,d1⟩:=v1.get a1
           obtain⟨u2,c2,d2⟩:=v2.get a2
           have e1:its.toArray[j]=u1:=by have:=(z0.mp c1).2;simpa using this
           have e2:its2.toArray[j]=u2:=by have:=(z0.mp c2).2;simpa using this
           rw[e1,e2]
           have hd:=cV (y3 hj)
           exact ih ds[j] (by simp[deep]at hx;omega) (fK (by simpa[ao]using hn) (y3 hj)) I b1 b2 d1 d2 (by show A.units+1+n<cLine;omega)
   | loc _=>simp[ao]at hn
   | dlo _=>simp[ao]at hn
   | @dic a h1 e1=>
     cases r2 with
     | @dic b h2 e2=>
       cases ru;cases ru'
       by_cases e:a=b
       . subst e;exact SeqAt.EqAt.same _
       . obtain⟨z1,d1⟩:=jF I e1
         obtain⟨z2,d2⟩:=jF I e2
         refine SeqAt.EqAt.of_refs e λ prog w' E Q hq=>?_
         exact PySem.W.keq_eq (knd:=aY prog w') z1 z2 (M5 d1) (M5 d2) (by omega) (λ _=>.nil) (by simpa using hq)
end
end DL
namespace DL
open PySem PySem.Spec L2
open PyProof.Rows
variable {pins : Pins} {H : Hp} {s : Shared}
section
variable {X : Cx} {Γ : Gam} {S : Store} {W : WD} {a b e : Expr} {es : List Expr} {pos : Pos}
theorem Lj{x:D}(hu:X.A.units+60<cLine)(hn:ao x=true)(hd:deep x≤50)(w:W (.bl false) S):bh X .NotEq x x S W:=by
 intro pins s σ H O v w' u u' I st r1 r2 r3 r4
 have fin:∀{k:Bool},SeqAt.RcNeAt X.A s u u' k->k=false->wpAny (model X.prog X.w) X.A (compareOp .NotEq u u') (EP X pins σ (QG X.K O H W)) X.xe s:=λ h e=>by
  subst e
  exact h _ _ _ _ ⟨.bl false,H,I,rfl,QG.here w st (.bl false)⟩
 cases r1 with
 | non=>cases r2;cases r3;cases r4;exact fin SeqAt.RcNeAt.none_none rfl
 | bl y=>cases r2;cases r3;cases r4;exact fin (SeqAt.RcNeAt.bool_bool y y) (by simp)
 | int y=>cases r2;obtain⟨t,rfl⟩:=r3;obtain⟨t',rfl⟩:=r4;exact fin (SeqAt.RcNeAt.int_int y t y t') (by simp)
 | str y=>cases r2;obtain⟨t,rfl⟩:=r3;obtain⟨t',rfl⟩:=r4;exact fin (SeqAt.RcNeAt.str_str y t y t') (by simp)
 | @tup a xs ds h1 q1=>
   cases r2 with
   | @tup b ys _ h2 q2=>
     cases r3;cases r4
     obtain⟨its,v1,p1,_⟩:=I.tuple h1.sq
     obtain⟨its2,v2,p2,_⟩:=I.tuple h2.sq
     have l1:its.length=ds.length:=by rw[←v1.length,q1.length]
     have l2:its2.length=ds.length:=by rw[←v2.length,q2.length]
     refine fin (SeqAt.RcNeAt.tuples (e:=λ _=>true) (show s.heap.IsTuple a its.toArray from p1) (show s.heap.IsTuple b its2.toArray from p2) (by omega) (λ j j1 j2=>?_)) (by simp[l1,l2])
     have hj:j<ds.length:=by simpa[l1]using j1
     obtain⟨z1,a1,b1⟩:=q1.get (y3 hj)
     obtain⟨z2,a2,b2⟩:=q2.get (y3 hj)
     obtain⟨u1,c1,d1⟩:=v1.get a1
     obtain⟨u2,c2,d2⟩:=v2.get a2
     have e1:its.toArray[j]=u1:=by have:=(z0.mp c1).2;simpa using this
     have e2:its2.toArray[j]=u2:=by have:=(z0.mp c2).2;simpa using this
     rw[e1,e2]
     have hd':=cV (y3 hj)
     exact Jk 49 ds[j] (by simp[deep]at hd;omega) (fK (by simpa[ao]using hn) (y3 hj)) I b1 b2 d1 d2 (by show X.A.units+1+49<cLine;omega)
 | @lst a xs ds h1 q1=>
   cases r2 with
   | @lst b ys _ h2 q2=>
     cases r3;cases r4
     obtain⟨its,v1,p1,_⟩:=I.list h1.sq
     obtain⟨its2,v2,p2,_⟩:=I.list h2.sq
     have l1:its.length=ds.length:=by rw[←v1.length,q1.length]
     have l2:its2.length=ds.length:=by rw[←v2.length,q2.length]
     refine fin (SeqAt.RcNeAt.lists (e:=λ _=>true) p1.isList p2.isList (by simp[l1,l2]) (by omega) (λ j j1 j2=>?_)) (by simp)
     have hj:j<ds.length:=by simpa[l1]using j1
     obtain⟨z1,a1,b1⟩:=q1.get (y3 hj)
     obtain⟨z2,a2,b2⟩:=q2.get (y3 hj)
     obtain⟨u1,c1,d1⟩:=v1.get a1
     obtain⟨u2,c2,d2⟩:=v2.get a2
     have e1:its.toArray[j]=u1:=by have:=(z0.mp c1).2;simpa using this
     have e2:its2.toArray[j]=u2:=by have:=(z0.mp c2).2;simpa using this
     rw[e1,e2]
     have hd':=cV (y3 hj)
     exact Jk 49 ds[j] (by simp[deep]at hd;omega) (fK (by simpa[ao]using hn) (y3 hj)) I b1 b2 d1 d2 (by show X.A.units+1+49<cLine;omega)
 | loc _=>simp[ao]at hn
 | dlo _=>simp[ao]at hn
 | @dic a h1 e1=>
   cases r2 with
   | @dic b h2 e2=>
     cases r3;cases r4
     obtain⟨z1,d1⟩:=jF I e1
     obtain⟨z2,d2⟩:=jF I e2
     exact PySem.W.keq_ne (knd:=aY X.prog X.w) z1 z2 d1 d2 (by omega) (λ _=>.nil) ⟨.bl false,H,I,rfl,QG.here w st (.bl false)⟩
end
structure SqKind(P:Program)(w:World)(K:PySem.W.Frag) where
 Sq:Hp->Addr->List V->Prop
 It:Heap->Addr->Addr->Nat->Prop
 Ob:Heap->Addr->Array Value->Prop
 itObj:∀{h it a i},It h it a i->∃o vs,h.get? it=some o/\o.data=.fields vs
 itAt:∀{h h' it a i},It h it a i->(∀o,h.get? it=some o->h'.get? it=some o)->It h' it a i
 obObj:∀{h a its},Ob h a its->∃o n,h.get? a=some o/\o.data=.seq its n
 draws:∀(A:Around),A.handled=none->∀(it a:Addr),a≠it->∀items:Array Value,Draws P w A it [it,a] items.size (λ i v=>items[i]? =some v) (λ i h=>It h it a i/\Ob h a items)
 get:∀{X:Cx}{pins:Pins}{σ:St}{H:Hp}{s:Shared}{a:Addr}{xs:List V},X.prog=P->X.w=w->X.K=K->Inv X pins σ H s->Sq H a xs->∃its:List Value,Vals xs its/\Ob s.heap a its.toArray
 inj:∀{X:Cx}{pins:Pins}{σ:St}{H:Hp}{s:Shared}{a:Addr}{xs ys:List V},X.prog=P->X.w=w->X.K=K->Inv X pins σ H s->Sq H a xs->Sq H a ys->xs=ys
 far:∀{X:Cx}{pins:Pins}{σ:St}{H:Hp}{s:Shared}{a b:Addr}{xs:List V},X.K=K->Inv X pins σ H s->Sq H a xs->eG X pins H b->a≠b
section
variable {P : Program} {w : World} {K : PySem.W.Frag}
theorem SqKind.ne(q:SqKind P w K){h:Heap}{it a:Addr}{i:Nat}{its:Array Value}(x:q.It h it a i)(y:q.Ob h a its):a≠it:=λ e=>by
 obtain⟨o,vs,h1,h2⟩:=q.itObj x
 obtain⟨o',n,h3,h4⟩:=q.obObj y
 rw[e,h1]at h3
 cases h3
 rw[h2]at h4
 cases h4
theorem Rh{X:Cx}{σ:St}{a b:Addr}{o:Obj}(I:Inv X pins σ H s)(h:X.K.lookup a=some o)(f:eG X pins H b):a≠b:=λ z=>by
 have e:=I.ok.mod.kin a o h
 rw[z]at e
 rcases f.2.2.2.1 with q | q
 . exact I.ok.noex b o e q
 . exact absurd (x9 (Heap.lt_size e) (Nat.le_trans I.ok.bsz q)) (Nat.lt_irrefl _)
noncomputable def Uv(P:Program)(w:World)(K:PySem.W.Frag):SqKind P w K where
 Sq:=SqL K
 It:=λ h it a i=>h.IsListIter it a i
 Ob:=λ h a its=>h.IsList a its
 itObj:=λ x=>let ⟨o,e,_,d⟩:=x;⟨o,_,e,d⟩
 itAt:=λ x k=>x.at k
 obObj:=λ x=>let ⟨o,e,_,n,d⟩:=x;⟨o,n,e,d⟩
 draws:=λ A hh it a ne items=>Draws.list hh it a ne items
 get:=λ hP hw hK I h=>by
  subst hP hw hK
  obtain⟨its,rv,p,_⟩:=I.list h
  exact⟨its,rv,p.isList⟩
 inj:=λ hP hw hK I h h'=>by
  subst hP hw hK
  exact I.list_inj h h'
 far:=λ hK I h f=>by
  subst hK
  rcases h with(h | ⟨_,h⟩) | ⟨o,_,_,h,_⟩
  . exact aD h f.1
  . exact aD h f.1
  . exact Rh I h f
theorem R5{prog:Program}{w:World}{A:Around}{E:Value->Shared->Prop}{it t:Addr}{i:Nat}{items:Array Value}{x:Value}{Q:Value->Shared->Prop}(hi:s.heap.IsTupleIter it t i)(ht:s.heap.IsTuple t items)(hx:items[i]? =some x)
 (hQ:∀h',h'.IsTupleIter it t (i+1)->Heap.SameBut it s.heap h'->Q x {s with heap:=h'}):wpAny (model prog w) A (Builtin.SmallTypes.nextOf (.ref it)) Q E s:=by
 obtain⟨o,ho,hc,hd⟩:=id hi
 obtain⟨o2,ho2,_,n2,hd2⟩:=ht
 unfold Builtin.SmallTypes.nextOf
 refine wpAny_bind (wpAny_callSpecial?_slot (name:=Str.ofString "__next__") hi.typeIs F.slot_tuple_iterator_next (wpAny_call_entry F.slot_tuple_iterator_next hi.typeIs F.entry_tuple_iterator_next ?_ (F.args_tuple_iterator_next_1 _)))
 refine wpAny_bind (m:=field (.ref it) 0) (wpAny_field ho hd (x:=.ref t) rfl ?_)
 rw[if_neg (show ¬((Value.ref t==Value.none)=true)from y6)]
 refine wpAny_bind (m:=field (.ref it) 1) (wpAny_field ho hd (x:=.int i 0) rfl ?_)
 refine wpAny_bind (m:=seqItems? (.ref t)) (wpAny_seqItems ho2 hd2 ?_)
 simp only[Int.toNat_natCast,hx]
 refine wpAny_bind (wpAny_setField ho hd (by simp) (wpAny_pure ⟨x,rfl,wpAny_pure (hQ _ ⟨_,Heap.get?_update_self _ ho (Obj.isFreed_of_fields (Obj.data_mapFields hd _)),(Obj.cls_mapFields ..).trans hc,by rw[Obj.data_mapFields hd];simp[rawInt]⟩ (Heap.SameBut.update ..))⟩))
theorem Ii{prog:Program}{w:World}{A:Around}{E:Value->Shared->Prop}{it t:Addr}{i:Nat}{items:Array Value}{Q:Value->Shared->Prop}(hh:A.handled=none)(hi:s.heap.IsTupleIter it t i)(ht:s.heap.IsTuple t items)(hx:items[i]? =none)
 (hE:∀h' e,Heap.ExtBut it s.heap h'->(∃o,h'.get? e=some o/\o.cls=.type "StopIteration")->E (.ref e) {s with heap:=h'}):wpAny (model prog w) A (Builtin.SmallTypes.nextOf (.ref it)) Q E s:=by
 obtain⟨o,ho,hc,hd⟩:=id hi
 obtain⟨o2,ho2,_,n2,hd2⟩:=ht
 unfold Builtin.SmallTypes.nextOf
 refine wpAny_bind (wpAny_callSpecial?_slot (name:=Str.ofString "__next__") hi.typeIs F.slot_tuple_iterator_next (wpAny_call_entry F.slot_tuple_iterator_next hi.typeIs F.entry_tuple_iterator_next ?_ (F.args_tuple_iterator_next_1 _)))
 refine wpAny_bind (m:=field (.ref it) 0) (wpAny_field ho hd (x:=.ref t) rfl ?_)
 rw[if_neg (show ¬((Value.ref t==Value.none)=true)from y6)]
 refine wpAny_bind (m:=field (.ref it) 1) (wpAny_field ho hd (x:=.int i 0) rfl ?_)
 refine wpAny_bind (m:=seqItems? (.ref t)) (wpAny_seqItems ho2 hd2 ?_)
 simp only[Int.toNat_natCast,hx]
 refine wpAny_bind (wpAny_rule (wpAny_bind (wpAny_setField ho hd (by simp) (wpAny_bind (m:=newExc (.type "StopIteration") []) ?_))))
 simp only[newExc,newTuple]
 refine wpAny_bind (wpAny_newObj_type (wpAny_bind (m:=firstArgMember _ _) (wpAny_of_eq (a:=Value.none) (by first | rfl | (simp only[firstArgMember];rfl)) (wpAny_newObj_type ?_ (by size_fits)))) (by size_fits))
 simp only[raiseNew]
 refine wpAny_bind (wpAny_handled ?_)
 first | rw[show A.in1.handled=none from hh] | rw[hh]
 exact wpAny_bind (wpAny_pure (wpAny_throw (hE _ _ (((Heap.SameBut.update ..).extBut.push _).push _) ⟨_,Heap.get?_push_size _ rfl,rfl⟩)))
theorem LK{prog:Program}{w:World}{A:Around}(hh:A.handled=none)(it t:Addr)(ne:t≠it)(items:Array Value):
 Draws prog w A it [it,t] items.size (λ i v=>items[i]? =some v) (λ i h=>h.IsTupleIter it t i/\h.IsTuple t items) where
 live:=λ i h x=>let ⟨o,e,_⟩:=x.1;⟨o,e⟩
 frame:=λ i h h' x k=>by
  obtain⟨⟨o,e,r⟩,⟨o2,e2,r2⟩⟩:=x
  exact⟨⟨o,k it (by simp) o e,r⟩,⟨o2,k t (by simp) o2 e2,r2⟩⟩
 item:=λ i s Q E hi x hQ=>R5 x.1 x.2 (x:=items[i]) (by simp[hi]) λ h' y sb=>hQ _ h' s.toks (by simp[hi]) ⟨y,x.2.extBut sb.extBut ne⟩ sb
 done:=λ s Q E x hE=>Ii hh x.1 x.2 (by simp) hE
noncomputable def KZ(P:Program)(w:World)(K:PySem.W.Frag):SqKind P w K where
 Sq:=SqT K
 It:=λ h it a i=>h.IsTupleIter it a i
 Ob:=λ h a its=>h.IsTuple a its
 itObj:=λ x=>let ⟨o,e,_,d⟩:=x;⟨o,_,e,d⟩
 itAt:=λ x k=>let ⟨o,e,r⟩:=x;⟨o,k o e,r⟩
 obObj:=λ x=>let ⟨o,e,_,n,d⟩:=x;⟨o,n,e,d⟩
 draws:=λ A hh it a ne items=>LK hh it a ne items
 get:=λ hP hw hK I h=>by
  subst hP hw hK
  obtain⟨its,rv,p,_⟩:=I.tuple h
  exact⟨its,rv,p⟩
 inj:=λ hP hw hK I h h'=>by
  subst hP hw hK
  exact I.tuple_inj h h'
 far:=λ hK I h f=>by
  subst hK
  rcases h with(h | ⟨_,h⟩) | ⟨o,_,_,h,_⟩
  . exact aD h f.1
  . exact aD h f.1
  . exact Rh I h f
theorem sS{X:Cx}{σ:St}{h':Heap}{t:Nat}{ch:List Addr}(I:Inv X pins σ H s)(hf:∀b∈ch,eG X pins H b)(k:∀b o,b∉ch->s.heap.get? b=some o->h'.get? b=some o):Inv X pins σ H {s with heap:=h',toks:=t}:=by
 have nch:∀b u,H b=some u->b∉ch:=λ b u e z=>by rw[(hf b z).1]at e;cases e
 refine I.step (g':=s.gens) (d':=s.drawn) (ch:=ch) (λ b hb=>⟨(hf b hb).2.2.2.1,(hf b hb).2.1,(hf b hb).2.2.2.2.1,(hf b hb).2.2.2.2.2⟩) (λ b o _ _ hc e _=>k b o hc e) (λ b o _ _ hc e _=>⟨o.slots,k b o hc e⟩) (λ _ _ _ _ n=>n) (λ b o hc e=>⟨o,k b o hc e⟩)
  (λ _ _ e=>e) (λ _ _ _ e=>e) (λ b ps e=>⟨#[],by rw[e];simp⟩) (λ m hm=>?_) (λ b u e=>?_) I.bare
 . obtain⟨o,es,ep,ho,r⟩:=hm
   exact⟨o,es,ep,k _ o (λ z=>(hf _ z).2.1 rfl) ho,r⟩
 . refine(I.hok b u e).stay (λ c v hc q=>k c v ?_ q) (λ _ q=>q) λ _ _ q=>q
   rcases hc with z | z
   . rw[z];exact nch b u e
   . exact nch c _ z
theorem yq{X:Cx}{σ:St}{s':Shared}{p:Addr}{o:HO}(I:Inv X pins σ H s)(I':Inv X pins σ H s')(hp:s.heap.objs.size≤p)(ob:aX X.prog X.w (upd H p o) s'.heap p o):Inv X pins σ (upd H p o) s':=by
 have hn:H p=none:=I.hok.fresh hp
 have nt:∀b u,H b=some u->b≠p:=λ b u e=>aD e hn
 refine⟨I'.ok,I'.os,I'.bare,⟨I'.base.keep,I'.base.slot,λ b ob e n hx=>?_,I'.base.there,λ b xs e=>?_,λ b ob u e=>?_,λ b ps e=>?_⟩,I'.loc,I'.cell,?_,λ x c e=>?_,λ q hq=>?_,λ b u e=>?_,I'.len⟩
 . have lt:b<s.heap.objs.size:=x9 (Heap.lt_size e) I.sz
   rw[aq (w9 (x9 lt hp))]
   exact I'.base.free b ob e n hx
 . have:=I'.base.tups b xs e
   rw[aq (nt b _ this)];exact this
 . have:=I'.base.frzs b ob u e
   rw[aq (nt b _ this)];exact this
 . obtain⟨m,e'⟩:=I'.base.tbls b ps e
   exact⟨m,by rw[aq (nt b _ e')];exact e'⟩
 . rw[aq (w9 (x9 I.lt hp))];exact I'.free
 . obtain⟨v,z⟩:=I.cell x c e
   rw[aq (w9 (x9 z.lt hp))];exact I'.freeC x c e
 . obtain⟨e1,_⟩:=I.pin q hq
   obtain⟨a1,a2,a3⟩:=I'.pin q hq
   exact⟨a1,by rw[aq (w9 (x9 (Heap.lt_size e1) hp))];exact a2,a3⟩
 . by_cases hb:b=p
   . subst hb;rw[aQ]at e;cases e;exact ob
   . rw[aq hb]at e
     exact(I'.hok b u e).stay (λ c v _ q=>q) (λ c q=>by rw[aq (nt c _ q)];exact q) λ c xs q=>by rw[aq (nt c _ q)];exact q
noncomputable def Ite(q:SqKind P w K)(a:Addr):It:=
 ⟨λ i H=>∃xs x,q.Sq H a xs/\xs[i]? =some x,λ i H x H'=>∃p y,H p=none/\H'=upd H p (.tup [.int i,y])/\x=.ref p/\∀xs,q.Sq H a xs->xs[i]? =some y,λ i H=>∃xs,q.Sq H a xs/\i=xs.length⟩
theorem G3(q:SqKind P w K){elts:List Expr}{k:Nat}{pos:Pos}(a e it:Addr)(hne:e≠it):Turn P w K (.Tuple elts k pos) (Ite q a) [e,it] e (λ i h=>(∃old,IsEnum h e it i old)/\q.It h it a i) where
 mem:=by simp
 obj:=λ i h st b hb=>by
  obtain⟨⟨old,he⟩,hi⟩:=st
  rcases List.mem_cons.mp hb with rfl | hb
  . exact⟨_,he,λ v z=>nomatch z⟩
  . rw[List.mem_singleton.mp hb]
    obtain⟨o,vs,h1,h2⟩:=q.itObj hi
    exact⟨o,h1,λ v z=>by rw[h2]at z;cases z⟩
 keep:=λ i h h' st k=>⟨let ⟨old,he⟩:=st.1;⟨old,k e (by simp) _ he⟩,q.itAt st.2 λ o e=>k it (by simp) o e⟩
 item :=by
  intro X hP hw hK hc i pins s σ H E I hf st hg
  obtain⟨xs,x,hq,hx⟩:=hg
  obtain⟨its,rv,ob⟩:=q.get hP hw hK I hq
  obtain⟨u,hu,ru⟩:=rv.get hx
  obtain⟨⟨old,he⟩,hi⟩:=st
  have ne:=q.ne hi ob
  have hea:e≠a:=λ z=>by
   obtain⟨o,n,h1,h2⟩:=q.obObj ob
   rw[←z,he]at h1
   cases h1
   cases h2
  have hlt:i<its.toArray.size:=by simpa using(z0.mp hu).1
  have uq:∀ys,q.Sq H a ys->ys[i]? =some x:=λ ys hy=>by rw[q.inj hP hw hK I hy hq];exact hx
  subst hP hw
  refine wpAny_pyNext_enum_itemD (q.draws X.A.in1 (I.ok.hd hc) it a ne its.toArray) he ⟨hi,ob⟩ hlt hne (by simp[hne,hea]) λ x' h' tk hPx ho hs' hT hsz hk=>?_
  have ex:x'=u:=by
   have:its.toArray[i]? =some u:=by simpa using hu
   rw[this]at hPx
   exact(Option.some.inj hPx).symm
  subst ex
  refine⟨_,rfl,wpAny_letOwnedTupleGo_enum ho λ h2 he2 sb=>?_⟩
  have I1:Inv X pins σ H {s with heap:=h2,toks:=tk+1}:=sS (ch:=[e,it]) I hf λ b o hb q'=>(sb.2 b (λ z=>hb (by simp[z]))).trans (hk b o (λ z=>hb (by simp[z])) (λ z=>hb (by simp[z])) q')
  have hp:H s.heap.objs.size=none:=I.hok.fresh (y9 _)
  have elt:e<s.heap.objs.size:=Heap.lt_size he
  have hT2:h2.get? s.heap.objs.size=some {cls:=.type "tuple",data:=.seq #[.int i tk,x']}:=(sb.2 _ (Nat.ne_of_gt elt)).trans hT
  have I2:Inv X pins σ (upd H s.heap.objs.size (.tup [.int i,x])) {s with heap:=h2,toks:=tk+1}:=yq I I1 (y9 _) ⟨by show 2≤sizeLine;decide,[.int i tk,x'],.cons ⟨tk,rfl⟩ (.cons ru .nil),_,hT2,rfl,_,rfl⟩
  refine⟨.ref s.heap.objs.size,_,I2,rfl,⟨_,x,hp,rfl,rfl,uq⟩,⟨⟨_,by simpa using he2⟩,q.itAt hs'.1 λ o q'=>(sb.2 it hne.symm).trans q'⟩,λ b hb=>?_⟩
  rw[aq (w9 ?_)]
  . exact(hf b hb).1
  . rcases List.mem_cons.mp hb with rfl | hb
    . exact elt
    . rw[List.mem_singleton.mp hb]
      obtain⟨o,vs,h1,_⟩:=q.itObj hi
      exact Heap.lt_size h1
 done:=by
  intro X hP hw hK hc i pins s σ H E I hf st hg
  obtain⟨xs,hq,hx⟩:=hg
  obtain⟨its,rv,ob⟩:=q.get hP hw hK I hq
  obtain⟨⟨old,he⟩,hi⟩:=st
  have ne:=q.ne hi ob
  subst hP hw
  obtain⟨f0,f1,f2,f3,f4,f5⟩:=hf it (by simp)
  have hn:i=its.toArray.size:=by rw[hx,rv.length];simp
  have st':q.It s.heap it a its.toArray.size/\q.Ob s.heap a its.toArray:=⟨hn▸hi,ob⟩
  exact wpAny_pyNext_enum_endD (q.draws X.A.in1 (I.ok.hd hc) it a ne its.toArray) he st' λ h' ext=>⟨rfl,I.turned (t':=s.toks) (λ b o hb e=>ext b o hb e) f0 f1 f3 f4 f5⟩
 self:=λ _ _ _ _ _ st h=>let ⟨old,he⟩:=st.1;wpAny_pyIter_enum he h
theorem oh(q:SqKind P w K){O:Own}{H:Hp}{a:Addr}{ds:List D}(h:∀O' H',Conv O O' H H'->∃xs,q.Sq H' a xs/\Reps K O' H' xs ds):gQ K (Ite q a) O H (ds.mapIdx λ i d=>.tup [.int i,d]):=by
 intro O' H' cv tr i
 obtain⟨xs,hq,r⟩:=h O' H' cv
 refine⟨λ d hd=>?_,λ hi=>⟨xs,hq,by rw[hi,r.length];simp⟩⟩
 rw[List.getElem?_mapIdx]at hd
 cases e:ds[i]? with
 | none=>rw[e]at hd;cases hd
 | some d0=>
   rw[e]at hd
   cases hd
   obtain⟨v,hv,rv⟩:=r.get e
   refine⟨⟨xs,v,hq,hv⟩,λ x H'' y=>?_⟩
   obtain⟨p,y,hp,rfl,rfl,hy⟩:=y
   have ey:=hy xs hq
   rw[hv]at ey
   cases ey
   have np:¬O'.has p:=λ z=>tr p z hp
   exact⟨dD.fresh hp _,.tup ⟨np,aQ⟩ (.cons (.int _) (.cons (rv.mono (Step.fresh hp _)) .nil))⟩
section
variable {X : Cx} {Γ : Gam} {S : Store} {e : Expr} {pos : Pos}
theorem DR{σ:St}{elts:List Expr}{k:Nat}{tp:Pos}{R:It->Hp->Prop}{E:Value->Shared->Prop}{h':Heap}(q:SqKind X.prog X.w X.K){a:Addr}(I:Inv X pins σ H s)(he:IsEnum h' (s.heap.objs.size+1) s.heap.objs.size 0 .none)(hi:q.It h' s.heap.objs.size a 0)
 (kp:∀b o,s.heap.get? b=some o->h'.get? b=some o)(r:R (Ite q a) H):wpAny (model X.prog X.w) X.A (pyIter (.ref (s.heap.objs.size+1))) (PIE X pins σ (.Tuple elts k tp) R) E {s with heap:=h'}:=by
 refine wpAny_pyIter_enum he ?_
 refine⟨s.heap.objs.size+1,[s.heap.objs.size+1,s.heap.objs.size],_,_,H,rfl,I.kept (t':=s.toks) kp,G3 q a (s.heap.objs.size+1) s.heap.objs.size (Nat.succ_ne_self _),⟨⟨_,he⟩,hi⟩,λ b hb=>?_,r⟩
 rcases List.mem_cons.mp hb with rfl | hb
 . exact I.fpOk (Nat.le_succ _) (I.hok.fresh (Nat.le_succ _))
 . rw[List.mem_singleton.mp hb]
   exact I.fpOk (y9 _) (I.hok.fresh (y9 _))
theorem HY(l:Addr)(items:Array Value)(n:Nat)(dct:Option Addr)(sl:Array (Option Value)):
 Meets (Builtin.«enumerate.__new__» ⟨[.type "enumerate",.ref l],[]⟩) (λ _ R s=>s.heap.get? l=some {cls:=.type "tuple",dict:=dct,data:=.seq items n,slots:=sl}/\
  R (.ok (.ret (.ref (s.heap.push {cls:=.type "tuple_iterator",data:=.fields #[.ref l,.int 0 0]}).objs.size)))
    {s with heap:=(s.heap.push {cls:=.type "tuple_iterator",data:=.fields #[.ref l,.int 0 0]}).push {cls:=.type "enumerate",data:=.fields #[.none,.bool false,.ref s.heap.objs.size,rawInt 0,.none,.none]}}):=
 .of_wp λ prog w A R s h=>by
  obtain⟨hp,g,d,tk,os⟩:=s;obtain⟨hl,h⟩:=h
  have hsub:=sub_enumerate
  have hT:Heap.IsTuple (Shared.heap ⟨hp,g,d,tk,os⟩) l items:=⟨_,hl,rfl,n,rfl⟩
  wp_walk using AutoSeq1.wpAny_loadPart' hl
  refine wpAny_stack_any λ st=>wpAny_pure ?_
  split
  . rename_i c _ _ _ _ _
    cases (c==Value.type "enumerate")<;>(wp_walk using AutoSeq1.wpAny_loadPart' hl,wpAny_pyIter_tuple hT;exact⟨_,rfl,h⟩)
  . wp_walk using AutoSeq1.wpAny_loadPart' hl,wpAny_pyIter_tuple hT
    exact⟨_,rfl,h⟩
end
end
end DL
namespace DL
open PySem PySem.Spec L2
open PyProof.Rows
structure Zd(z TI TO i1 i2:Addr)(f1 f2:List Addr):Prop where
 a:TI≠z
 b:TO≠z
 c:TI≠TO
 d:TI≠i1
 e:TI≠i2
 f:TO≠i1
 g:TO≠i2
 h:i1≠z
 i:i2≠z
 j:z∉f1
 k:z∉f2
 l:TO∉f1
 m:TO∉f2
 n:i1∉f2
 o:i2∉f1
section
variable {prog : Program} {w : World} {A : Around} {E : Value -> Shared -> Prop} {s : Shared} {z TI TO i1 i2 : Addr} {f1 f2 : List Addr} {n1 n2 k : Nat} {P1 P2 : Nat -> Value -> Prop} {T1 T2 : Nat -> Heap -> Prop} {va vb : Value}
theorem QX{Q:Value->Shared->Prop}(D1:Draws prog w A i1 f1 n1 P1 T1)(D2:Draws prog w A i2 f2 n2 P2 T2)(Z:Zd z TI TO i1 i2 f1 f2)(hz:IsZip s.heap z TI TO .none)(hTI:IsPair s.heap TI (.ref i1) (.ref i2))(hTO:IsPair s.heap TO va vb)(t1:T1 k s.heap)(t2:T2 k s.heap)(k1:k<n1)(k2:k<n2)
 (hQ:∀x y h' tk,P1 k x->P2 k y->IsZip h' z TI TO (rawInt s.heap.objs.size)->IsPair h' TO x y->T1 (k+1) h'->T2 (k+1) h'->IsPair h' s.heap.objs.size x y->
  (∀c o,c≠z->c≠TO->c≠i1->c≠i2->s.heap.get? c=some o->h'.get? c=some o)->Q (.ref s.heap.objs.size) {s with heap:=h',toks:=tk}):
 wpAny (model prog w) A (Builtin.«zip.__next__» ⟨[.ref z],[]⟩) (λ fin s'=>∃v,fin=.done (.ret v)/\Q v s') E s:=by
 obtain⟨hp,g,d,tk0,os⟩:=s
 refine wpAny_bind (m:=field (.ref z) 2) (wpAny_field hz rfl (x:=.bool false) rfl (wpAny_bind (m:=field (.ref z) 3) (wpAny_field hz rfl (x:=.ref TI) rfl (wpAny_bind (wpAny_seqItems hTI rfl ?_)))))
 refine wpAny_bind (m:=Builtin.SmallTypes.ownedTupleIsFree (.ref z)) ?_
 unfold Builtin.SmallTypes.ownedTupleIsFree
 refine wpAny_bind (wpAny_field hz rfl (x:=.none) rfl (wpAny_pure ?_))
 simp only[if_true]
 refine wpAny_bind (wpAny_rule (wpAny_bind (wpAny_field hz rfl (x:=.ref TO) rfl (wpAny_bind (wpAny_setField_rec hz (by simp) λ h1 hz1 s1=>?_)))))
 replace hz1:IsZip h1 z TI TO .ellipsis:=hz1
 refine wpAny_bind ?_
 simp only[List.zipIdx_cons,List.zipIdx_nil,List.forIn_cons,List.forIn_nil]
 refine wpAny_bind (wpAny_bind (wpAny_onRaise (wpAny_bind (m:=Builtin.SmallTypes.nextOf (.ref i1)) ?_)))
 refine D1.item k _ _ _ k1 (D1.frame _ _ _ t1 λ b hb o e=>s1.extBut b o (λ q=>Z.j (q▸hb)) e) λ x h2 tk1 p1 t1' s2=>wpAny_pure ?_
 replace s2:Heap.SameBut i1 h1 h2:=s2
 have o2:IsPair h2 TO va vb:=s2.extBut _ _ Z.f (s1.extBut _ _ Z.b hTO)
 refine wpAny_bind (wpAny_seqItems o2 rfl (wpAny_bind (wpAny_updateSeq_pair o2 λ h3 o3 s3=>wpAny_bind (wpAny_letGo (wpAny_pure ?_)))))
 replace o3:IsPair h3 TO x vb:=o3
 refine wpAny_bind (wpAny_bind (wpAny_onRaise (wpAny_bind (m:=Builtin.SmallTypes.nextOf (.ref i2)) ?_)))
 have t2':T2 k h3:=D2.frame _ _ _ t2 λ b hb o e=>s3.extBut b o (λ q=>Z.m (q▸hb)) (s2.extBut b o (λ q=>Z.n (q▸hb)) (s1.extBut b o (λ q=>Z.k (q▸hb)) e))
 refine D2.item k _ _ _ k2 t2' λ y h4 tk2 p2 t2'' s4=>wpAny_pure ?_
 replace s4:Heap.SameBut i2 h3 h4:=s4
 have o4:IsPair h4 TO x vb:=s4.extBut _ _ Z.g o3
 refine wpAny_bind (wpAny_seqItems o4 rfl (wpAny_bind (wpAny_updateSeq_pair o4 λ h5 o5 s5=>wpAny_bind (wpAny_letGo (wpAny_pure (wpAny_pure ?_))))))
 replace o5:IsPair h5 TO x y:=o5
 refine wpAny_bind (wpAny_seqItems o5 rfl (wpAny_bind (wpAny_newTuple ?_)))
 have sz:h5.objs.size=hp.objs.size:=by rw[s5.1,s4.1,s3.1,s2.1,s1.1]
 have hz5:IsZip h5 z TI TO .ellipsis:=s5.extBut _ _ Z.b.symm (s4.extBut _ _ Z.i.symm (s3.extBut _ _ Z.b.symm (s2.extBut _ _ Z.h.symm hz1)))
 have k5:∀c o,c≠z->c≠TO->c≠i1->c≠i2->hp.get? c=some o->h5.get? c=some o:=λ c o c1 c2 c3 c4 q=>s5.extBut _ _ c2 (s4.extBut _ _ c4 (s3.extBut _ _ c2 (s2.extBut _ _ c3 (s1.extBut _ _ c1 q))))
 have zlt:z<h5.objs.size:=Heap.lt_size hz5
 refine wpAny_bind (m:=Builtin.SmallTypes.ownedTupleHandOut (.ref z) (.ref h5.objs.size)) ?_
 unfold Builtin.SmallTypes.ownedTupleHandOut
 have hz6:IsZip (h5.push {cls:=.type "tuple",data:=.seq #[x,y]}) z TI TO .ellipsis:=Heap.get?_push_of_some _ hz5
 refine wpAny_bind (wpAny_setField_rec hz6 (by simp) λ h7 hz7 s7=>?_)
 replace hz7:IsZip h7 z TI TO (rawInt h5.objs.size):=hz7
 refine wpAny_setField_rec hz7 (by simp) λ h8 hz8 s8=>?_
 replace hz8:IsZip h8 z TI TO (rawInt h5.objs.size):=hz8
 have up:∀c o,c≠z->h5.get? c=some o->h8.get? c=some o:=λ c o c1 q=>s8.extBut _ _ c1 (s7.extBut _ _ c1 (Heap.get?_push_of_some _ q))
 have p8:IsPair h8 h5.objs.size x y:=s8.extBut _ _ (Nat.ne_of_gt zlt) (s7.extBut _ _ (Nat.ne_of_gt zlt) (Heap.get?_push_size _ rfl))
 rw[sz]at hz8 p8
 refine wpAny_pure ⟨_,rfl,?_⟩
 show Q (.ref h5.objs.size) _
 rw[sz]
 have u1:T1 (k+1) h8:=D1.frame _ _ _ t1' λ b hb o q=>up b o (λ r=>Z.j (r▸hb)) (s5.extBut b o (λ r=>Z.l (r▸hb)) (s4.extBut b o (λ r=>Z.o (r▸hb)) (s3.extBut b o (λ r=>Z.l (r▸hb)) q)))
 have u2:T2 (k+1) h8:=D2.frame _ _ _ t2'' λ b hb o q=>up b o (λ r=>Z.k (r▸hb)) (s5.extBut b o (λ r=>Z.m (r▸hb)) q)
 exact hQ x y h8 tk2 p1 p2 hz8 (up _ _ Z.b o5) u1 u2 p8 λ c o c1 c2 c3 c4 q=>up c o c1 (k5 c o c1 c2 c3 c4 q)
theorem Mp{Q:PySem.Fin->Shared->Prop}(D1:Draws prog w A i1 f1 n1 P1 T1)(D2:Draws prog w A i2 f2 n2 P2 T2)(Z:Zd z TI TO i1 i2 f1 f2)(hz:IsZip s.heap z TI TO .none)(hTI:IsPair s.heap TI (.ref i1) (.ref i2))(hTO:IsPair s.heap TO va vb)(t1:T1 k s.heap)(t2:T2 k s.heap)(hk:k=n1∨(k<n1/\k=n2))
 (hE:∀h' tk e,(∀c o,c≠z->c≠TO->c≠i1->c≠i2->s.heap.get? c=some o->h'.get? c=some o)->(∃o,h'.get? e=some o/\o.cls=.type "StopIteration")->E (.ref e) {s with heap:=h',toks:=tk}):
 wpAny (model prog w) A (Builtin.«zip.__next__» ⟨[.ref z],[]⟩) Q E s:=by
 obtain⟨hp,g,d,tk0,os⟩:=s
 refine wpAny_bind (m:=field (.ref z) 2) (wpAny_field hz rfl (x:=.bool false) rfl (wpAny_bind (m:=field (.ref z) 3) (wpAny_field hz rfl (x:=.ref TI) rfl (wpAny_bind (wpAny_seqItems hTI rfl ?_)))))
 refine wpAny_bind (m:=Builtin.SmallTypes.ownedTupleIsFree (.ref z)) ?_
 unfold Builtin.SmallTypes.ownedTupleIsFree
 refine wpAny_bind (wpAny_field hz rfl (x:=.none) rfl (wpAny_pure ?_))
 simp only[if_true]
 refine wpAny_bind (wpAny_rule (wpAny_bind (wpAny_field hz rfl (x:=.ref TO) rfl (wpAny_bind (wpAny_setField_rec hz (by simp) λ h1 hz1 s1=>?_)))))
 replace hz1:IsZip h1 z TI TO .ellipsis:=hz1
 refine wpAny_bind ?_
 simp only[List.zipIdx_cons,List.zipIdx_nil,List.forIn_cons,List.forIn_nil]
 refine wpAny_bind (wpAny_bind (wpAny_onRaise (wpAny_bind (m:=Builtin.SmallTypes.nextOf (.ref i1)) ?_)))
 have t1':T1 k h1:=D1.frame _ _ _ t1 λ b hb o e=>s1.extBut b o (λ q=>Z.j (q▸hb)) e
 rcases hk with rfl | ⟨k1,rfl⟩
 . refine D1.done _ _ _ t1' λ h2 e s2 hq_=>?_
   obtain⟨oe,he,ce⟩:=hq_
   replace s2:Heap.ExtBut i1 h1 h2:=s2
   have hz2:IsZip h2 z TI TO .ellipsis:=s2 _ _ Z.h.symm hz1
   have ez:e≠z:=λ q=>by subst q;rw[hz2]at he;cases he;simp at ce
   exact wpAny_setField_rec hz2 (by simp) λ h3 _ s3=>hE h3 _ e (λ c o c1 _ c3 _ q=>s3.extBut _ _ c1 (s2 _ _ c3 (s1.extBut _ _ c1 q))) ⟨oe,s3.extBut _ _ ez he,ce⟩
 . refine D1.item k _ _ _ k1 t1' λ x h2 tk1 p1 _ s2=>wpAny_pure ?_
   replace s2:Heap.SameBut i1 h1 h2:=s2
   have o2:IsPair h2 TO va vb:=s2.extBut _ _ Z.f (s1.extBut _ _ Z.b hTO)
   refine wpAny_bind (wpAny_seqItems o2 rfl (wpAny_bind (wpAny_updateSeq_pair o2 λ h3 o3 s3=>wpAny_bind (wpAny_letGo (wpAny_pure ?_)))))
   refine wpAny_bind (wpAny_bind (wpAny_onRaise (wpAny_bind (m:=Builtin.SmallTypes.nextOf (.ref i2)) ?_)))
   have t2':T2 k h3:=D2.frame _ _ _ t2 λ b hb o e=>s3.extBut b o (λ q=>Z.m (q▸hb)) (s2.extBut b o (λ q=>Z.n (q▸hb)) (s1.extBut b o (λ q=>Z.k (q▸hb)) e))
   refine D2.done _ _ _ t2' λ h4 e s4 hq_=>?_
   obtain⟨oe,he,ce⟩:=hq_
   replace s4:Heap.ExtBut i2 h3 h4:=s4
   have hz4:IsZip h4 z TI TO .ellipsis:=s4 _ _ Z.i.symm (s3.extBut _ _ Z.b.symm (s2.extBut _ _ Z.h.symm hz1))
   have ez:e≠z:=λ q=>by subst q;rw[hz4]at he;cases he;simp at ce
   exact wpAny_setField_rec hz4 (by simp) λ h5 _ s5=>hE h5 _ e (λ c o c1 c2 c3 c4 q=>s5.extBut _ _ c1 (s4 _ _ c4 (s3.extBut _ _ c2 (s2.extBut _ _ c3 (s1.extBut _ _ c1 q))))) ⟨oe,s5.extBut _ _ ez he,ce⟩
end
section
variable {P : Program} {w : World} {K : PySem.W.Frag}
noncomputable def Itz(q r:SqKind P w K)(a b:Addr):It:=
 ⟨λ i H=>∃xs ys x y,q.Sq H a xs/\r.Sq H b ys/\xs[i]? =some x/\ys[i]? =some y,
  λ i H v H'=>∃p x y,H p=none/\H'=upd H p (.tup [x,y])/\v=.ref p/\(∀xs,q.Sq H a xs->xs[i]? =some x)/\∀ys,r.Sq H b ys->ys[i]? =some y,
  λ i H=>∃xs ys,q.Sq H a xs/\r.Sq H b ys/\i=min xs.length ys.length⟩
structure Zr(z TI TO i1 i2:Addr):Prop where
 a:TI≠z
 b:TO≠z
 c:TI≠TO
 d:TI≠i1
 e:TI≠i2
 f:TO≠i1
 g:TO≠i2
 h:i1≠z
 i:i2≠z
 j:i1≠i2
theorem Zr.zd(q r:SqKind P w K){X:Cx}{pins:Pins}{σ:St}{H:Hp}{s:Shared}{z TI TO i1 i2 a b:Addr}{xs ys:List V}(Z:Zr z TI TO i1 i2)(hK:X.K=K)(I:Inv X pins σ H s)(hf:∀c∈[z,TI,TO,i1,i2],eG X pins H c)(hq:q.Sq H a xs)(hr:r.Sq H b ys):Zd z TI TO i1 i2 [i1,a] [i2,b]:=by
 have fa:∀c∈[z,TI,TO,i1,i2],c≠a:=λ c hc=>(q.far hK I hq (hf c hc)).symm
 have fb:∀c∈[z,TI,TO,i1,i2],c≠b:=λ c hc=>(r.far hK I hr (hf c hc)).symm
 refine⟨Z.a,Z.b,Z.c,Z.d,Z.e,Z.f,Z.g,Z.h,Z.i,?_,?_,?_,?_,?_,?_⟩
 . simp[Z.h.symm,fa z (by simp)]
 . simp[Z.i.symm,fb z (by simp)]
 . simp[Z.f,fa TO (by simp)]
 . simp[Z.g,fb TO (by simp)]
 . simp[Z.j,fb i1 (by simp)]
 . simp[Z.j.symm,fa i2 (by simp)]
theorem Mg(q r:SqKind P w K){elts:List Expr}{k:Nat}{pos:Pos}(a b z TI TO i1 i2:Addr)(Z:Zr z TI TO i1 i2):Turn P w K (.Tuple elts k pos) (Itz q r a b) [z,TI,TO,i1,i2] z
 (λ i h=>IsZip h z TI TO .none/\IsPair h TI (.ref i1) (.ref i2)/\(∃va vb,IsPair h TO va vb)/\q.It h i1 a i/\r.It h i2 b i) where
 mem:=by simp
 obj:=λ i h st c hc=>by
  obtain⟨hz,hTI,⟨va,vb,hTO⟩,hi,hj⟩:=st
  obtain⟨o,vs,h1,h2⟩:=q.itObj hi
  obtain⟨o',vs',h1',h2'⟩:=r.itObj hj
  simp only[List.mem_cons,List.not_mem_nil,or_false]at hc
  rcases hc with rfl | rfl | rfl | rfl | rfl
  . exact⟨_,hz,λ v z=>nomatch z⟩
  . exact⟨_,hTI,λ v z=>nomatch z⟩
  . exact⟨_,hTO,λ v z=>nomatch z⟩
  . exact⟨o,h1,λ v z=>by rw[h2]at z;cases z⟩
  . exact⟨o',h1',λ v z=>by rw[h2']at z;cases z⟩
 keep:=λ i h h' st k=>by
  obtain⟨hz,hTI,⟨va,vb,hTO⟩,hi,hj⟩:=st
  exact⟨k z (by simp) _ hz,k TI (by simp) _ hTI,⟨va,vb,k TO (by simp) _ hTO⟩,q.itAt hi λ o e=>k i1 (by simp) o e,r.itAt hj λ o e=>k i2 (by simp) o e⟩
 item:=by
  intro X hP hw hK hc i pins s σ H E I hf st hg
  obtain⟨xs,ys,x,y,hq,hr,hx,hy⟩:=hg
  obtain⟨its,rv,ob⟩:=q.get hP hw hK I hq
  obtain⟨its2,rv2,ob2⟩:=r.get hP hw hK I hr
  obtain⟨u,hu,ru⟩:=rv.get hx
  obtain⟨u2,hu2,ru2⟩:=rv2.get hy
  obtain⟨hz,hTI,⟨va,vb,hTO⟩,hi,hj⟩:=st
  have ux:∀zs,q.Sq H a zs->zs[i]? =some x:=λ zs h=>by rw[q.inj hP hw hK I h hq];exact hx
  have uy:∀zs,r.Sq H b zs->zs[i]? =some y:=λ zs h=>by rw[r.inj hP hw hK I h hr];exact hy
  have Z2:=Z.zd q r hK I hf hq hr
  have l1:i<its.toArray.size:=by simpa using(z0.mp hu).1
  have l2:i<its2.toArray.size:=by simpa using(z0.mp hu2).1
  subst hP hw
  have hT:s.TypeIs (.ref z) "zip":=⟨_,hz,rfl⟩
  unfold pyNext
  refine wpAny_bind (wpAny_attempt (wpAny_callSpecial?_slot (name:=Str.ofString "__next__") hT F.slot_zip_next (wpAny_call_entry F.slot_zip_next hT F.entry_zip_next ?_ (F.args_zip_next_1 _))))
  refine QX (q.draws X.A.in1 (I.ok.hd hc) i1 a (q.ne hi ob) its.toArray) (r.draws X.A.in1 (I.ok.hd hc) i2 b (r.ne hj ob2) its2.toArray) Z2 hz hTI hTO ⟨hi,ob⟩ ⟨hj,ob2⟩ l1 l2 λ x' y' h' tk px py hz' hTO' t1 t2 hp' kp=>wpAny_pure ?_
  have ex:x'=u:=by
   have e1:its.toArray[i]? =some u:=by simpa using hu
   rw[e1]at px
   exact(Option.some.inj px).symm
  have ey:y'=u2:=by
   have e1:its2.toArray[i]? =some u2:=by simpa using hu2
   rw[e1]at py
   exact(Option.some.inj py).symm
  subst ex
  subst ey
  refine⟨_,rfl,wpAny_letOwnedTupleGo_zip hz' λ h2 hz2 sb=>?_⟩
  have I1:Inv X pins σ H {s with heap:=h2,toks:=tk}:=sS (ch:=[z,TI,TO,i1,i2]) I hf λ c o hb q'=>(sb.2 c (λ z=>hb (by simp[z]))).trans (kp c o (λ z=>hb (by simp[z])) (λ z=>hb (by simp[z])) (λ z=>hb (by simp[z])) (λ z=>hb (by simp[z])) q')
  have hp:H s.heap.objs.size=none:=I.hok.fresh (y9 _)
  have elt:z<s.heap.objs.size:=Heap.lt_size hz
  have hT2:h2.get? s.heap.objs.size=some {cls:=.type "tuple",data:=.seq #[x',y']}:=(sb.2 _ (Nat.ne_of_gt elt)).trans hp'
  have I2:Inv X pins σ (upd H s.heap.objs.size (.tup [x,y])) {s with heap:=h2,toks:=tk}:=yq I I1 (y9 _) ⟨by show 2≤sizeLine;decide,[x',y'],.cons ru (.cons ru2 .nil),_,hT2,rfl,_,rfl⟩
  have hTI':IsPair h2 TI (.ref i1) (.ref i2):=(sb.2 _ Z.a).trans (kp _ _ Z.a Z.c Z.d Z.e hTI)
  refine⟨.ref s.heap.objs.size,_,I2,rfl,⟨_,x,y,hp,rfl,rfl,ux,uy⟩,⟨hz2,hTI',⟨_,_,(sb.2 _ Z.b).trans hTO'⟩,q.itAt t1.1 λ o q'=>(sb.2 i1 Z.h).trans q',r.itAt t2.1 λ o q'=>(sb.2 i2 Z.i).trans q'⟩,λ c hb=>?_⟩
  rw[aq (w9 ?_)]
  . exact(hf c hb).1
  . obtain⟨o,vs,h1,_⟩:=q.itObj hi
    obtain⟨o',vs',h1',_⟩:=r.itObj hj
    simp only[List.mem_cons,List.not_mem_nil,or_false]at hb
    rcases hb with rfl | rfl | rfl | rfl | rfl
    . exact elt
    . exact Heap.lt_size hTI
    . exact Heap.lt_size hTO
    . exact Heap.lt_size h1
    . exact Heap.lt_size h1'
 done:=by
  intro X hP hw hK hc i pins s σ H E I hf st hg
  obtain⟨xs,ys,hq,hr,hn⟩:=hg
  obtain⟨its,rv,ob⟩:=q.get hP hw hK I hq
  obtain⟨its2,rv2,ob2⟩:=r.get hP hw hK I hr
  obtain⟨hz,hTI,⟨va,vb,hTO⟩,hi,hj⟩:=st
  have Z2:=Z.zd q r hK I hf hq hr
  subst hP hw
  have hT:s.TypeIs (.ref z) "zip":=⟨_,hz,rfl⟩
  have hk:i=its.toArray.size∨(i<its.toArray.size/\i=its2.toArray.size):=by
   have e1:=rv.length
   have e2:=rv2.length
   simp only[x4]
   omega
  unfold pyNext
  refine wpAny_bind (wpAny_attempt (wpAny_callSpecial?_slot (name:=Str.ofString "__next__") hT F.slot_zip_next (wpAny_call_entry F.slot_zip_next hT F.entry_zip_next ?_ (F.args_zip_next_1 _))))
  refine Mp (q.draws X.A.in1 (I.ok.hd hc) i1 a (q.ne hi ob) its.toArray) (r.draws X.A.in1 (I.ok.hd hc) i2 b (r.ne hj ob2) its2.toArray) Z2 hz hTI hTO ⟨hi,ob⟩ ⟨hj,ob2⟩ hk λ h' tk e kp hq_=>?_
  obtain⟨o,he,ce⟩:=hq_
  refine wpAny_bind (wpAny_isInstance (T:="StopIteration") (b:=true) ⟨o,he,ce⟩ isSubtype_stop (wpAny_pure ⟨rfl,?_⟩))
  exact sS (ch:=[z,TI,TO,i1,i2]) I hf λ c o hb q'=>kp c o (λ z=>hb (by simp[z])) (λ z=>hb (by simp[z])) (λ z=>hb (by simp[z])) (λ z=>hb (by simp[z])) q'
 self:=λ _ _ _ _ _ st h=>wpAny_pyIter_zip st.1 h
theorem Fg(q r:SqKind P w K){O:Own}{H:Hp}{a b:Addr}{ds es:List D}(h:∀O' H',Conv O O' H H'->∃xs ys,q.Sq H' a xs/\Reps K O' H' xs ds/\r.Sq H' b ys/\Reps K O' H' ys es):gQ K (Itz q r a b) O H (List.zipWith (λ x y=>.tup [x,y]) ds es):=by
 intro O' H' cv tr i
 obtain⟨xs,ys,hq,r1,hr,r2⟩:=h O' H' cv
 refine⟨λ d hd=>?_,λ hi=>⟨xs,ys,hq,hr,by rw[hi,r1.length,r2.length,List.length_zipWith]⟩⟩
 rw[List.getElem?_zipWith]at hd
 cases e1:ds[i]? with
 | none=>rw[e1]at hd;cases hd
 | some d1=>
   cases e2:es[i]? with
   | none=>rw[e1,e2]at hd;cases hd
   | some d2=>
     rw[e1,e2]at hd
     cases hd
     obtain⟨v1,hv1,rv1⟩:=r1.get e1
     obtain⟨v2,hv2,rv2⟩:=r2.get e2
     refine⟨⟨xs,ys,v1,v2,hq,hr,hv1,hv2⟩,λ x H'' y=>?_⟩
     obtain⟨p,x',y',hp,rfl,rfl,hx,hy⟩:=y
     have ex:=hx xs hq
     have ey:=hy ys hr
     rw[hv1]at ex
     rw[hv2]at ey
     cases ex
     cases ey
     have np:¬O'.has p:=λ z=>tr p z hp
     exact⟨dD.fresh hp _,.tup ⟨np,aQ⟩ (.cons (rv1.mono (Step.fresh hp _)) (.cons (rv2.mono (Step.fresh hp _)) .nil))⟩
noncomputable abbrev zh(h:Heap)(c1 c2:String)(l1 l2:Addr):Heap:=
 ((((h.push {cls:=.type c1,data:=.fields #[.ref l1,.int 0 0]}).push {cls:=.type c2,data:=.fields #[.ref l2,.int 0 0]}).push {cls:=.type "tuple",data:=.seq #[.ref h.objs.size,.ref (h.push {cls:=.type c1,data:=.fields #[.ref l1,.int 0 0]}).objs.size]}).push {cls:=.type "tuple",data:=.seq #[.none,.none]})
noncomputable abbrev zhz(h:Heap)(c1 c2:String)(l1 l2:Addr):Heap:=
 (zh h c1 c2 l1 l2).push {cls:=.type "zip",data:=.fields #[.none,.bool false,.bool false,.ref ((h.push {cls:=.type c1,data:=.fields #[.ref l1,.int 0 0]}).push {cls:=.type c2,data:=.fields #[.ref l2,.int 0 0]}).objs.size,
  .ref (((h.push {cls:=.type c1,data:=.fields #[.ref l1,.int 0 0]}).push {cls:=.type c2,data:=.fields #[.ref l2,.int 0 0]}).push {cls:=.type "tuple",data:=.seq #[.ref h.objs.size,.ref (h.push {cls:=.type c1,data:=.fields #[.ref l1,.int 0 0]}).objs.size]}).objs.size]}
theorem G8(l1 l2:Addr)(xs ys:Array Value):
 Meets (Builtin.«zip.__new__» ⟨[.type "zip",.ref l1,.ref l2],[]⟩) (λ _ R s=>s.heap.IsTuple l1 xs/\s.heap.IsTuple l2 ys/\
  R (.ok (.ret (.ref (zh s.heap "tuple_iterator" "tuple_iterator" l1 l2).objs.size))) {s with heap:=zhz s.heap "tuple_iterator" "tuple_iterator" l1 l2}):=
 .of_wp λ prog w A R s h=>by
  obtain⟨hp,g,d,tk,os⟩:=s;obtain⟨a1,a2,h⟩:=h
  have hsub:=sub_zip
  have b1:Heap.IsTuple (Shared.heap ⟨hp,g,d,tk,os⟩) l1 xs:=a1
  have b2:Heap.IsTuple (Shared.heap ⟨hp.push {cls:=.type "tuple_iterator",data:=.fields #[.ref l1,.int 0 0]},g,d,tk,os⟩) l2 ys:=Heap.IsTuple.push a2 _
  wp_walk using wpAny_pyIter_tuple b1,wpAny_pyIter_tuple b2
  exact⟨_,rfl,h⟩
end
section
variable {X : Cx} {Γ : Gam} {S : Store} {pos : Pos}
theorem zip_parts(h:Heap)(c1 c2:String)(l1 l2:Addr):(zh h c1 c2 l1 l2).objs.size=h.objs.size+4/\IsZip (zhz h c1 c2 l1 l2) (h.objs.size+4) (h.objs.size+2) (h.objs.size+3) .none/\IsPair (zhz h c1 c2 l1 l2) (h.objs.size+2) (.ref h.objs.size) (.ref (h.objs.size+1))/\IsPair (zhz h c1 c2 l1 l2) (h.objs.size+3) .none .none/\
 (zhz h c1 c2 l1 l2).get? h.objs.size=some {cls:=.type c1,data:=.fields #[.ref l1,.int 0 0]}/\(zhz h c1 c2 l1 l2).get? (h.objs.size+1)=some {cls:=.type c2,data:=.fields #[.ref l2,.int 0 0]}/\∀b o,h.get? b=some o->(zhz h c1 c2 l1 l2).get? b=some o:=by
 have z1:(h.push {cls:=.type c1,data:=.fields #[.ref l1,.int 0 0]}).objs.size=h.objs.size+1:=Heap.size_push ..
 have z2:((h.push {cls:=.type c1,data:=.fields #[.ref l1,.int 0 0]}).push {cls:=.type c2,data:=.fields #[.ref l2,.int 0 0]}).objs.size=h.objs.size+2:=by rw[Heap.size_push,z1]
 have z3:(((h.push {cls:=.type c1,data:=.fields #[.ref l1,.int 0 0]}).push {cls:=.type c2,data:=.fields #[.ref l2,.int 0 0]}).push {cls:=.type "tuple",data:=.seq #[.ref h.objs.size,.ref (h.push {cls:=.type c1,data:=.fields #[.ref l1,.int 0 0]}).objs.size]}).objs.size=h.objs.size+3:=by rw[Heap.size_push,z2]
 have z4:(zh h c1 c2 l1 l2).objs.size=h.objs.size+4:=by rw[Heap.size_push,z3]
 have g5:=Heap.get?_push_size (zh h c1 c2 l1 l2) (o:={cls:=.type "zip",data:=.fields #[.none,.bool false,.bool false,.ref ((h.push {cls:=.type c1,data:=.fields #[.ref l1,.int 0 0]}).push {cls:=.type c2,data:=.fields #[.ref l2,.int 0 0]}).objs.size,
  .ref (((h.push {cls:=.type c1,data:=.fields #[.ref l1,.int 0 0]}).push {cls:=.type c2,data:=.fields #[.ref l2,.int 0 0]}).push {cls:=.type "tuple",data:=.seq #[.ref h.objs.size,.ref (h.push {cls:=.type c1,data:=.fields #[.ref l1,.int 0 0]}).objs.size]}).objs.size]}) rfl
 have g4:(zhz h c1 c2 l1 l2).get? (((h.push {cls:=.type c1,data:=.fields #[.ref l1,.int 0 0]}).push {cls:=.type c2,data:=.fields #[.ref l2,.int 0 0]}).push {cls:=.type "tuple",data:=.seq #[.ref h.objs.size,.ref (h.push {cls:=.type c1,data:=.fields #[.ref l1,.int 0 0]}).objs.size]}).objs.size=some {cls:=.type "tuple",data:=.seq #[.none,.none]}:=Heap.get?_push_of_some _ (Heap.get?_push_size _ rfl)
 have g3:(zhz h c1 c2 l1 l2).get? ((h.push {cls:=.type c1,data:=.fields #[.ref l1,.int 0 0]}).push {cls:=.type c2,data:=.fields #[.ref l2,.int 0 0]}).objs.size=some {cls:=.type "tuple",data:=.seq #[.ref h.objs.size,.ref (h.push {cls:=.type c1,data:=.fields #[.ref l1,.int 0 0]}).objs.size]}:=Heap.get?_push_of_some _ (Heap.get?_push_of_some _ (Heap.get?_push_size _ rfl))
 have g2:(zhz h c1 c2 l1 l2).get? (h.push {cls:=.type c1,data:=.fields #[.ref l1,.int 0 0]}).objs.size=some {cls:=.type c2,data:=.fields #[.ref l2,.int 0 0]}:=Heap.get?_push_of_some _ (Heap.get?_push_of_some _ (Heap.get?_push_of_some _ (Heap.get?_push_size _ rfl)))
 have g1:(zhz h c1 c2 l1 l2).get? h.objs.size=some {cls:=.type c1,data:=.fields #[.ref l1,.int 0 0]}:=Heap.get?_push_of_some _ (Heap.get?_push_of_some _ (Heap.get?_push_of_some _ (Heap.get?_push_of_some _ (Heap.get?_push_size _ rfl))))
 rw[z2,z3,z4]at g5
 rw[z3]at g4
 rw[z1,z2]at g3
 rw[z1]at g2
 refine⟨z4,?_,g3,g4,g1,g2,λ b o e=>Heap.get?_push_of_some _ (Heap.get?_push_of_some _ (Heap.get?_push_of_some _ (Heap.get?_push_of_some _ (Heap.get?_push_of_some _ e))))⟩
 show(zhz h c1 c2 l1 l2).get? _=_
 unfold zhz
 rw[z2,z3]
 exact g5
theorem QW{pins:Pins}{σ:St}{H:Hp}{s:Shared}{elts:List Expr}{k:Nat}{tp:Pos}{R:It->Hp->Prop}{E:Value->Shared->Prop}{c1 c2:String}{l1 l2:Addr}(q r:SqKind X.prog X.w X.K)(I:Inv X pins σ H s)
 (hi:q.It (zhz s.heap c1 c2 l1 l2) s.heap.objs.size l1 0)(hj:r.It (zhz s.heap c1 c2 l1 l2) (s.heap.objs.size+1) l2 0)(rr:R (Itz q r l1 l2) H):
 wpAny (model X.prog X.w) X.A (pyIter (.ref (s.heap.objs.size+4))) (PIE X pins σ (.Tuple elts k tp) R) E {s with heap:=zhz s.heap c1 c2 l1 l2}:=by
 obtain⟨_,p1,p2,p3,_,_,kp⟩:=zip_parts s.heap c1 c2 l1 l2
 refine wpAny_pyIter_zip p1 ?_
 refine⟨s.heap.objs.size+4,[s.heap.objs.size+4,s.heap.objs.size+2,s.heap.objs.size+3,s.heap.objs.size,s.heap.objs.size+1],_,_,H,rfl,I.kept (t':=s.toks) kp,Mg q r l1 l2 (s.heap.objs.size+4) (s.heap.objs.size+2) (s.heap.objs.size+3) s.heap.objs.size (s.heap.objs.size+1) ?_,⟨p1,p2,⟨_,_,p3⟩,hi,hj⟩,λ b hb=>?_,rr⟩
 . constructor<;>exact λ z=>by have z':(_:Nat)=_:=z;omega
 . have hb':s.heap.objs.size≤b:=by
    simp only[List.mem_cons,List.not_mem_nil,or_false]at hb
    rcases hb with rfl | rfl | rfl | rfl | rfl
    . exact Nat.le_add_right _ _
    . exact Nat.le_add_right _ _
    . exact Nat.le_add_right _ _
    . exact y9 _
    . exact Nat.le_add_right _ _
   exact I.fpOk hb' (I.hok.fresh hb')
theorem Kr{e1 e2:Expr}{elts:List Expr}{k:Nat}{tp p:Pos}{W:List D->Store->Prop}(h:Ev X Γ S e1 λ d S1=>Ev X Γ S1 e2 λ d' S2=>∃ds es,d=.tup ds/\d'=.tup es/\W (List.zipWith (λ x y=>.tup [x,y]) ds es) S2)(hm:X.mg "zip"=none)(hg:Gl X "zip":=by rfl)
 (hs:starEach [e1,e2] X.env=(false,eval e1 X.env)::starEach [e2] X.env:=by rfl)(hs2:starEach [e2] X.env=[(false,eval e2 X.env)]:=by rfl):
 ItW X Γ S (.Tuple elts k tp) (.Call (.Name "zip" p) [e1,e2] [] pos) W:=by
 intro pins s σ H O I env st
 have hA:EvA X Γ S [e1,e2] λ dd S2=>∃ds es,dd=[.tup ds,.tup es]/\W (List.zipWith (λ x y=>.tup [x,y]) ds es) S2:=
  cC (h.mono λ d S1 h1=>cC (h1.mono λ d' S2 ⟨ds,es,a,b,w⟩=>gh ⟨ds,es,by rw[a,b],w⟩) hs2) hs
 refine Call_ (bY I hg hm boot_zip (PyProof.Rows.callWith_type1 (thn (hA pos pins s σ H O I env st) λ us s1 hq_=>?_) hs (by rw[hs2];rfl)))
 obtain⟨vs,H1,I1,r1,O1,dd,S1,⟨ds,es,ed,w⟩,st1,ok1,rep⟩:=hq_
 subst ed
 cases rep with
 | cons ra rb=>
   cases rb with
   | cons rb rc=>
     cases rc
     obtain⟨u,u2,rfl,ru,ru2⟩:=vals2 r1
     cases ra with
     | @tup a xs _ h1 q1=>
       cases rb with
       | @tup b ys _ h2 q2=>
         cases ru
         cases ru2
         obtain⟨its,rv,pl,hz⟩:=I1.tuple h1.sq
         obtain⟨its2,rv2,pl2,hz2⟩:=I1.tuple h2.sq
         obtain⟨z4,p1,p2,p3,p4,p5,kp⟩:=zip_parts s1.heap "tuple_iterator" "tuple_iterator" a b
         refine callType_new F.called_zip (by decide) (F.typeCall_zip_2 _ _) (F.newCall_zip_2 _ _) (λ obj=>F.args_object_init_3 obj _ _) F.entry_zip_new (G8 a b its.toArray its2.toArray) ⟨pl,pl2,?_⟩
         show _/\_
         rw[z4]
         refine⟨⟨_,p1,rfl⟩,QW (KZ X.prog X.w X.K) (KZ X.prog X.w X.K) I1 ⟨_,p4,rfl,rfl⟩ ⟨_,p5,rfl,rfl⟩ ⟨O1,_,S1,w,st1,ok1,Fg _ _ λ O' H' cv=>⟨xs,ys,(h1.conv cv).sq,q1.conv cv,(h2.conv cv).sq,q2.conv cv⟩⟩⟩
end
end DL
namespace DL
open PySem PySem.Spec L2
open PyProof.Rows
section
variable {X : Cx} {Γ : Gam} {S : Store} {e : Expr}
theorem UW{W:Option Int->Store->Prop}(h:Ev X Γ S e λ d S1=>∃i,d=.int i/\W (some i) S1):PoD X Γ S (some e) W:=h
theorem Vb{W:Option Int->Store->Prop}(h:W none S):PoD X Γ S none W:=h
end
theorem aM{α:Type}{xs:List α}{i:Nat}{x:α}(h:xs[i]? =some x):xs.take (i+1)=xs.take i++[x]:=by rw[List.take_add_one,h];rfl
theorem zm(d:D)(ds:List D):cutD (d::ds) (some 1) none=ds:=by
 unfold cutD
 have h1:HT.sIx (d::ds).length 0 (some 1)=1:=by
  have:=HT.sIx_nat (d::ds).length 0 1
  simp only[List.length_cons]at this ⊢
  have h2:((1:Nat):Int)=1:=rfl
  rw[h2]at this
  rw[this];omega
 rw[h1,HT.sIx_none]
 simp
theorem Ql(ds:List D)(lo hi:Option Int):(cutD ds lo hi).length≤ds.length:=by
 unfold cutD
 rw[List.length_take,List.length_drop];omega
theorem Nu{ds:List D}{lo hi:Option Int}{x:D}(h:x∈cutD ds lo hi):x∈ds:=by
 unfold cutD at h
 exact List.mem_of_mem_drop (List.mem_of_mem_take h)
theorem yj{ds:List D}{k:Int}(h:0≤k):cutD ds none (some k)=ds.take k.toNat:=by
 unfold cutD
 rw[HT.sIx_none]
 have e:HT.sIx ds.length ds.length (some k)=min k.toNat ds.length:=by
  have:=HT.sIx_nat ds.length ds.length k.toNat
  rwa[Int.toNat_of_nonneg h]at this
 rw[e,List.drop_zero,Nat.sub_zero]
 rcases Nat.le_total k.toNat ds.length with q | q
 . rw[Nat.min_eq_left q]
 . rw[Nat.min_eq_right q,List.take_of_length_le (y9 _),List.take_of_length_le q]
theorem ye{ds:List D}{k:Int}(h:0≤k):cutD ds (some k) none=ds.drop k.toNat:=by
 unfold cutD
 rw[HT.sIx_none]
 have e:HT.sIx ds.length 0 (some k)=min k.toNat ds.length:=by
  have:=HT.sIx_nat ds.length 0 k.toNat
  rwa[Int.toNat_of_nonneg h]at this
 rw[e]
 rcases Nat.le_total k.toNat ds.length with q | q
 . rw[Nat.min_eq_left q,List.take_of_length_le (by rw[List.length_drop];omega)]
 . rw[Nat.min_eq_right q,List.drop_eq_nil_of_le (y9 _),List.drop_eq_nil_of_le q];simp
theorem fM{α:Type}{ds:List α}{v:Int}(h0:0≤v)(h1:v<ds.length):∃x,atI ds v=some x/\ds[v.toNat]? =some x:=by
 have hk:v.toNat<ds.length:=by omega
 refine⟨ds[v.toNat],?_,y3 hk⟩
 have q:=aP (xs:=ds) (j:=v.toNat) (y3 hk)
 rwa[Int.toNat_of_nonneg h0]at q
theorem zH{α:Type}(x:α)(xs:List α):atI (x::xs) 0=some x:=aP (xs:=x::xs) (j:=0) rfl
theorem set_get{S:Store}{k:Nat}{l l':List D}(h:S[k]? =some l):(S.set k l')[k]? =some l':=List.getElem?_set_self (z0.mp h).1
end DL
namespace RF
open PySem PySem.Spec L2 DL
open PyProof.Rows
open Builtin
theorem pq:fillsNumberSlot (.type "tuple") "mul"=pure false:=
 PySem.fillsNumberSlot_seq (id:="tuple.__mul__") (r:=some (.builtin "tuple.__rmul__")) F.slot_tuple_mul.lookup (by decide+kernel) F.slot_tuple_rmul.lookup (by decide+kernel)
theorem xV:seqRepeat? (.type "tuple")=pure (some (.builtin "tuple.__mul__")):=by
 unfold seqRepeat?
 rw[PySem.seqSlot_of (T:="tuple") (name:="__mul__") (id:="tuple.__mul__") F.slot_tuple_mul.lookup (by decide+kernel),PySem.seqSlot_of (T:="tuple") (name:="__rmul__") (id:="tuple.__rmul__") F.slot_tuple_rmul.lookup (by decide+kernel)]
 rfl
theorem sG(a:Int)(t:Tok)(l:Addr)(items:Array Value)(n:Nat)(dct:Option Addr)(sl:Array (Option Value)):
 Meets (Builtin.«int.__rmul__» ⟨[.int a t,.ref l],[]⟩) (λ _ R s=>s.heap.get? l=some {cls:=.type "tuple",dict:=dct,data:=.seq items n,slots:=sl}/\R (.ok (.ret Value.notImplemented)) s):=
 .of_wp λ prog w A R s h=>by obtain⟨hp,g,d,tk,os⟩:=s;obtain⟨hl,h⟩:=h;wp_walk;exact⟨_,rfl,h⟩
theorem tM(l:Addr)(items:Array Value)(n:Nat)(dct:Option Addr)(sl:Array (Option Value))(x:Int)(u:Tok)(h1:¬(decide (x< -(2 ^ 63))||decide (x≥2 ^ 63))=true)(hc:(items.isEmpty||x==1)=true):
 Meets (Builtin.«tuple.__mul__» ⟨[.ref l,.int x u],[]⟩) (λ _ R s=>s.heap.get? l=some {cls:=.type "tuple",dict:=dct,data:=.seq items n,slots:=sl}/\R (.ok (.ret (.ref l))) s):=
 .of_wp λ prog w A R s h=>by
  obtain⟨hp,g,d,tk,os⟩:=s;obtain⟨hl,h⟩:=h
  unfold Builtin.«tuple.__mul__»
  wp_walk
  rw[if_neg h1]
  wp_walk using AutoSeq1.wpAny_loadPart' hl
  try rw[if_pos hc]
  wp_walk using AutoSeq1.wpAny_loadPart' hl
  exact⟨_,rfl,h⟩
theorem uc(l:Addr)(items:Array Value)(n:Nat)(dct:Option Addr)(sl:Array (Option Value))(x:Int)(u:Tok)(h1:¬(decide (x< -(2 ^ 63))||decide (x≥2 ^ 63))=true)(hc:¬(items.isEmpty||x==1)=true)(h2:(decide (x≤0)||items.isEmpty)=true):
 Meets (Builtin.«tuple.__mul__» ⟨[.ref l,.int x u],[]⟩) (λ _ R s=>s.heap.get? l=some {cls:=.type "tuple",dict:=dct,data:=.seq items n,slots:=sl}/\R (.ok (.ret (.ref s.heap.objs.size))) {s with heap:=s.heap.push {cls:=.type "tuple",data:=.seq #[]}}):=
 .of_wp λ prog w A R s h=>by
  obtain⟨hp,g,d,tk,os⟩:=s;obtain⟨hl,h⟩:=h
  unfold Builtin.«tuple.__mul__»
  wp_walk
  rw[if_neg h1]
  wp_walk using AutoSeq1.wpAny_loadPart' hl
  try rw[if_neg hc]
  wp_walk using AutoSeq1.wpAny_loadPart' hl
  try rw[if_pos h2]
  wp_walk using AutoSeq1.wpAny_loadPart' hl
  exact⟨_,rfl,h⟩
theorem sV(l:Addr)(items:Array Value)(n:Nat)(dct:Option Addr)(sl:Array (Option Value))(x:Int)(u:Tok)(h1:¬(decide (x< -(2 ^ 63))||decide (x≥2 ^ 63))=true)(hc:¬(items.isEmpty||x==1)=true)(h2:¬(decide (x≤0)||items.isEmpty)=true)
 (h3:¬((items.size:Int)*x>(2 ^ 63-1)/8))(h4:¬Builtin.Tuple.tupleTooMany ((items.size:Int)*x)=true)(h5:((List.replicate x.toNat items).foldl (· ++·) #[]).size≤sizeLine):
 Meets (Builtin.«tuple.__mul__» ⟨[.ref l,.int x u],[]⟩) (λ _ R s=>s.heap.get? l=some {cls:=.type "tuple",dict:=dct,data:=.seq items n,slots:=sl}/\R (.ok (.ret (.ref s.heap.objs.size))) {s with heap:=s.heap.push {cls:=.type "tuple",data:=.seq ((List.replicate x.toNat items).foldl (· ++·) #[])}}):=
 .of_wp λ prog w A R s h=>by
  obtain⟨hp,g,d,tk,os⟩:=s;obtain⟨hl,h⟩:=h
  unfold Builtin.«tuple.__mul__»
  wp_walk
  rw[if_neg h1]
  wp_walk using AutoSeq1.wpAny_loadPart' hl
  try rw[if_neg hc]
  wp_walk using AutoSeq1.wpAny_loadPart' hl
  try rw[if_neg h2]
  wp_walk using AutoSeq1.wpAny_loadPart' hl
  try rw[if_neg h3]
  wp_walk using AutoSeq1.wpAny_loadPart' hl
  try rw[if_neg h4]
  wp_walk using AutoSeq1.wpAny_loadPart' hl
  exact⟨_,rfl,h⟩
theorem Reps.rep{K:PySem.W.Frag}{O:Own}{H:Hp}{vs:List V}{ds:List D}(r:Reps K O H vs ds):∀k:Nat,Reps K O H (List.replicate k vs).flatten (List.replicate k ds).flatten
 | 0=>.nil
 | k+1=>by
   rw[List.replicate_succ,List.replicate_succ,List.flatten_cons,List.flatten_cons]
   exact r.append (Reps.rep r k)
theorem Rg{X:Cx}{S:Store}{W:WD}{ds:List D}{k:Int}(hk: -(2 ^ 63)≤k/\k<2 ^ 63)(hz:ds.length*k.toNat≤1000000)(w:W (.tup (List.replicate k.toNat ds).flatten) S):dg X .Mult (.tup ds) (.int k) S W:=by
 intro pins s σ H O v w' u u' I st r1 r2 r3 r4
 cases r1 with
 | @tup a xs _ h1 q1=>
   cases r2
   cases r3
   obtain⟨t,rfl⟩:=r4
   obtain⟨its,v1,p1,_⟩:=I.tuple h1.sq
   obtain⟨⟨cls,dd,data,sl⟩,ho,hc,n,hd⟩:=id p1
   simp only at hc hd
   subst hc hd
   have l1:its.length=ds.length:=by rw[←v1.length,q1.length]
   have c1:¬(decide (k< -(2 ^ 63))||decide (k≥2 ^ 63))=true:=by
    rw[decide_eq_false (by omega),decide_eq_false (by omega)];decide
   have new:∀m:Nat,m=k.toNat->EP X pins σ (QG X.K O H W) (.ref s.heap.objs.size) {s with heap:=s.heap.push {cls:=.type "tuple",data:=.seq (List.replicate m its).flatten.toArray}}:=by
    rintro m rfl
    refine⟨.ref s.heap.objs.size,upd H s.heap.objs.size (.tup (List.replicate k.toNat xs).flatten),I.laid (t':=s.toks) (λ b u e=>Heap.get?_push_of_some _ e) (y9 _) ?_,rfl,gw w st I.fresh (Reps.rep q1 _)⟩
    exact⟨by rw[len_rep,q1.length,Nat.mul_comm];exact small hz,_,v1.rep _,⟨_,Heap.get?_push_size _ rfl,rfl,_,rfl⟩⟩
   refine PySem.wpAny_binaryOp_repeat_ref (T:="tuple") (U:="int") (by decide) ⟨_,ho,rfl⟩ (λ s'=>typeIs_int s' k t) pq F.fills_int_mul F.slot_int_rmul xV F.slot_int_index.lookup
    (call_meets F.slot_int_rmul (typeIs_int s k t) F.entry_int_rmul (F.args_int_rmul_2 _ _) (sG k t a its.toArray n dd sl) ⟨ho,rfl,⟨_,ho,rfl⟩,?_⟩)
   by_cases b1:(its.toArray.isEmpty||k==1)=true
   . refine call_meets F.slot_tuple_mul ⟨_,ho,rfl⟩ F.entry_tuple_mul (F.args_tuple_mul_2 _ _) (tM a its.toArray n dd sl k t c1 b1) ⟨ho,.ref a,H,I,rfl,?_⟩
     have e:(List.replicate k.toNat ds).flatten=ds:=by
      rw[Bool.or_eq_true]at b1
      rcases b1 with z | z
      . have:its=[]:=by simpa using z
        have:ds=[]:=by rw[this]at l1;simpa using l1.symm
        subst this
        simp
      . have:k=1:=eq_of_beq z
        subst this
        simp
     rw[e]at w
     exact QG.here w st (.tup h1 q1)
   . by_cases b2:(decide (k≤0)||its.toArray.isEmpty)=true
     . refine call_meets F.slot_tuple_mul ⟨_,ho,rfl⟩ F.entry_tuple_mul (F.args_tuple_mul_2 _ _) (uc a its.toArray n dd sl k t c1 b1 b2) ⟨ho,?_⟩
       have h0:k.toNat=0:=by
        rw[Bool.or_eq_true]at b2
        rcases b2 with z | z
        . have:=of_decide_eq_true z;omega
        . exact absurd (by rw[z];rfl) b1
       have:=new 0 h0.symm
       exact this
     . have h0:0<k:=by
        cases z:decide (k≤0)with
        | true=>exact absurd (by rw[z];rfl) b2
        | false=>have:=of_decide_eq_false z;omega
       have ek:(its.toArray.size:Int)*k=((its.length*k.toNat:Nat):Int):=by
        rw[x4,Int.natCast_mul,Int.toNat_of_nonneg (by omega)]
       have fz:List.foldl (λ x1 x2=>x1++x2) #[] (List.replicate k.toNat its.toArray)=(List.replicate k.toNat its).flatten.toArray:=by
        have:=foldl_rep its k.toNat []
        rw[List.nil_append]at this
        exact this
       have big:its.length*k.toNat≤1000000:=by rw[l1];exact hz
       refine call_meets F.slot_tuple_mul ⟨_,ho,rfl⟩ F.entry_tuple_mul (F.args_tuple_mul_2 _ _) (sV a its.toArray n dd sl k t c1 b1 b2 (by rw[ek];omega) ?_ ?_) ⟨ho,?_⟩
       . rw[ek]
         have:(1000000:Nat)≤sizeLine:=by decide
         unfold Builtin.Tuple.tupleTooMany
         rw[decide_eq_true_eq]
         omega
       . rw[fz,x4,len_rep,Nat.mul_comm];exact small big
       . rw[fz]
         exact new _ rfl
end RF
namespace RF
open PySem PySem.Spec L2 DL
open PyProof.Rows
variable {W : WD}
structure Wd where
 P:Program
 w:World
 K:PySem.W.Frag
 mg:Str->Option Value
 base:Heap
noncomputable abbrev Nm:=List (Str×NameKind)
structure At(Ω:Wd)(X:Cx)(r:Nat)(top:Bool)(N:List Str)(nm:Nm):Prop where
 p:X.prog=Ω.P
 w:X.w=Ω.w
 k:X.K=Ω.K
 g:X.mg=Ω.mg
 b:X.base=Ω.base
 room:Room r X.A
 xe:X.xe=λ _ _=>False
 calm:X.calm=true
 n:X.N=N
 nd:N.Nodup
 kind:X.env.scope.kind=.function
 look:∀x k,nm.lookup x=some k->X.env.kindOf x=some k∨(k=.free/\X.env.kindOf x=some .cell)
 fn:∀x,nm.lookup x=some .cell->X.fn x=true
noncomputable def vis(nm:Nm)(x:Str):Bool:=match nm.lookup x with | some .local=>true | some .cell=>true | some .free=>true | _=>false
noncomputable def lcl(top:Bool)(nm:Nm)(x:Str):Bool:=match nm.lookup x with | some .local=>true | some .cell=>true | _=>false
noncomputable def glb(nm:Nm)(x:Str):Bool:=nm.lookup x==some .globalImplicit
noncomputable def okN(x:Str):Bool:=!(x==("__debug__":Str))&&(!(x==("__classdict__":Str))&& !(x==("__name__":Str)))
noncomputable def okE:Expr->Bool
 | .Starred .. =>false | .Set .. =>false | .Slice .. =>false | _=>true
noncomputable def noC:Expr->Bool
 | .ListComp .. =>false | .SetComp .. =>false | .DictComp .. =>false | _=>true
noncomputable def KD:Expr->Bool
 | .UnaryOp .. =>false | .BoolOp .. =>false | .IfExp .. =>false | .Compare .. =>false | _=>true
theorem aa{a b:Bool}(h:(a&&b)=true):a=true/\b=true:=by cases a<;>cases b<;>first | exact⟨rfl,rfl⟩ | exact(y6 h).elim
theorem nt{a:Bool}(h:(!a)=true):a=false:=by cases a<;>first | rfl | exact(y6 h).elim
theorem gF{x:Str}(h:okN x=true):(x==("__debug__":Str))=false/\(x==("__classdict__":Str))=false/\x≠"__name__":=by
 obtain⟨h1,h2⟩:=aa h
 obtain⟨h2,h3⟩:=aa h2
 exact⟨nt h1,nt h2,λ e=>by rw[e]at h3;simp at h3⟩
section
variable {Ω : Wd} {X : Cx} {r : Nat} {top : Bool} {N : List Str} {nm : Nm} {x : Str}
theorem At.vis(A:At Ω X r top N nm)(h:RF.vis nm x=true):Vis X.env.scope x:=by
 unfold RF.vis at h
 cases e:nm.lookup x with
 | none=>rw[e]at h;cases h
 | some k=>
   rw[e]at h
   have q:=A.look x k e
   cases k with
   | «local»=>rcases q with q | ⟨q,_⟩;exact .inl q;exact nomatch q
   | cell=>rcases q with q | ⟨q,_⟩;exact .inr (.inl q);exact nomatch q
   | free=>rcases q with q | ⟨_,q⟩;exact .inr (.inr q);exact .inr (.inl q)
   | _=>exact(y6 h).elim
theorem At.lcl(A:At Ω X r top N nm)(h:RF.lcl top nm x=true):Loc X.env.scope x/\(X.fn x=true∨X.env.scope.names.lookup x=some .local):=by
 unfold RF.lcl at h
 cases e:nm.lookup x with
 | none=>rw[e]at h;cases h
 | some k=>
   rw[e]at h
   have q:=A.look x k e
   cases k with
   | «local»=>rcases q with q | ⟨q,_⟩;exact⟨.inl q,.inr q⟩;exact nomatch q
   | cell=>rcases q with q | ⟨q,_⟩;exact⟨.inr q,.inl (A.fn x e)⟩;exact nomatch q
   | _=>exact(y6 h).elim
theorem At.glb(A:At Ω X r top N nm)(h:RF.glb nm x=true):Gl X x:=by
 have e:nm.lookup x=some .globalImplicit:=eq_of_beq h
 rcases A.look x _ e with q | ⟨q,_⟩
 . exact q
 . exact nomatch q
end
theorem aC{e:Expr}(h:okE e=true)(es:List Expr)(env:Env):starEach (e::es) env=(false,eval e env)::starEach es env:=by
 cases e<;>first | rfl | exact(y6 h).elim
theorem qe:∀{es:List Expr}(_:es.all okE=true)(pos:Pos)(env:Env),(backTo pos (starEach es env)).any (·.1)=false
 | [],_,_,_=>rfl
 | e::es,h,pos,env=>by
   rw[List.all_cons]at h
   obtain⟨h1,h2⟩:=aa h
   rw[aC h1]
   show(false||(backTo pos (starEach es env)).any (·.1))=false
   rw[qe h2];rfl
theorem eQ{op:CmpOp}{e:Expr}(h:okE e=true):behindInMarks op e=false:=by
 cases e<;>first | rfl | exact(y6 h).elim
theorem Ku{e:Expr}(h:okE e=true):Dh e:=by
 intro _ _
 cases e<;>first | rfl | exact(y6 h).elim
theorem mY{e:Expr}(h:okE e=true)(env:Env):∀x,foldedSetIterable e env x=pure x:=by
 intro x
 cases e<;>first | rfl | exact(y6 h).elim
theorem jC{e:Expr}(h:noC e=true)(t:Option Expr)(l:Nat)(env:Env):swapsWith e t l env=pure false:=by
 cases e<;>first | rfl | exact(y6 h).elim
theorem Ja{e:Expr}(h:KD e=true)(env:Env):∀whole,isTrue e env whole=(do let v ←whole;standAt e.pos;holding [v] (truthy v)):=by
 intro w
 cases e<;>first | rfl | exact(y6 h).elim
section
variable {X : Cx} {Γ : Gam} {S : Store} {e : Expr} {es : List Expr}
theorem EvA.mono{W W':List D->Store->Prop}(h:EvA X Γ S es W)(k:∀ds S',W ds S'->W' ds S'):EvA X Γ S es W':=λ pos pins s σ H O I env st=>
 thn (h pos pins s σ H O I env st) λ _ _ ⟨v,H',I',r,O',d,S',w,q⟩=>⟨v,H',I',r,O',d,S',k d S' w,q⟩
theorem Ts.mono{W W':Bool->Store->Prop}(h:Ts X Γ S e W)(k:∀c S',W c S'->W' c S'):Ts X Γ S e W':=λ pins s σ H O I env st=>
 thn (h pins s σ H O I env st) λ _ _ ⟨H',I',O',S',w,q⟩=>⟨H',I',O',S',k _ S' w,q⟩
theorem BdW.mono{d:D}{W W':Gam->Store->Prop}(h:BdW X e d Γ S W)(k:∀G S',W G S'->W' G S'):BdW X e d Γ S W':=λ pins s σ H O v u I env st r ru=>
 thn (h pins s σ H O v u I env st r ru) λ _ _ ⟨σ',H',I',O',G,S',w,q⟩=>⟨σ',H',I',O',G,S',k G S' w,q⟩
theorem ItW.mono{tg:Expr}{W W':List D->Store->Prop}(h:ItW X Γ S tg e W)(k:∀ds S',W ds S'->W' ds S'):ItW X Γ S tg e W':=λ pins s σ H O I env st=>
 thn (h pins s σ H O I env st) λ _ _ q=>thn q λ _ _ ⟨it,fp,tn,J,H',e1,e2,e3,e4,e5,O',ds,S',w,z⟩=>⟨it,fp,tn,J,H',e1,e2,e3,e4,e5,O',ds,S',k ds S' w,z⟩
theorem Ru{pins:Pins}{O:Own}{H:Hp}{W W':DL.Fin}(h1:∀G S,W.nx G S->W'.nx G S)(h2:∀d S,W.rt d S->W'.rt d S)(h3:∀G S,W.bk G S->W'.bk G S)(h4:∀G S,W.ct G S->W'.ct G S){f:Flow}{s':Shared}(q:SP X pins (ends X.K O H W) f s'):SP X pins (ends X.K O H W') f s':=by
 cases f with
 | next=>obtain⟨σ,H',I,O',G,S',w,q⟩:=q;exact⟨σ,H',I,O',G,S',h1 _ _ w,q⟩
 | brk=>obtain⟨σ,H',I,O',G,S',w,q⟩:=q;exact⟨σ,H',I,O',G,S',h3 _ _ w,q⟩
 | cont=>obtain⟨σ,H',I,O',G,S',w,q⟩:=q;exact⟨σ,H',I,O',G,S',h4 _ _ w,q⟩
 | ret u=>obtain⟨v,σ,H',I,r,O',d,S',w,q⟩:=q;exact⟨v,σ,H',I,r,O',d,S',h2 _ _ w,q⟩
theorem Rn.mono{st:Stmt}{W W':DL.Fin}(h:Rn X Γ S st W)(h1:∀G S,W.nx G S->W'.nx G S)(h2:∀d S,W.rt d S->W'.rt d S)(h3:∀G S,W.bk G S->W'.bk G S)(h4:∀G S,W.ct G S->W'.ct G S):Rn X Γ S st W':=λ pins s σ H O I env ok=>
 thn (h pins s σ H O I env ok) λ _ _ q=>Ru h1 h2 h3 h4 q
theorem Hr{a b c:Expr}{op op':CmpOp}{pos:Pos}{W:Bool->Store->Prop}(h:Ev X Γ S a λ x S1=>Ev X Γ S1 b λ y S2=>bh X op x y S2 (asB λ k S3=>(k=false->W false S3)/\(k=true->Ev X Γ S3 c λ t S4=>bh X op' y t S4 (asB W))))
 (hm:lastMarks [op,op'] [b,c]=false):Ts X Γ S (.Compare a [op,op'] [b,c] pos) W:=by
 intro pins s σ H O I env st
 refine isTrue_chain (rs:=[]) (thn (h pins s σ H O I env st) λ u s1 hq_=>?_) hm
 obtain⟨v,H1,I1,r1,O1,x,S1,hb,st1,ok1,rep1⟩:=hq_
 refine test_link (thn (hb pins s1 σ H1 O1 I1 (env.mono st1) ok1) λ u' s2 hq_=>?_)
 obtain⟨w,H2,I2,r2,O2,y,S2,hw,st2,ok2,rep2⟩:=hq_
 refine thn (hw pins s2 σ H2 O2 v w u u' I2 ok2 (rep1.mono st2) rep2 r1 r2) λ _ s3 hq_=>?_
 obtain⟨z,H3,I3,r3,O3,d3,S3,⟨k,hd,k1,k2⟩,st3,ok3,rep3⟩:=hq_
 subst hd
 cases rep3
 cases r3
 refine wpAny_truthy_bool ?_
 cases k with
 | false=>exact ite_ff ⟨H3,I3,O3,S3,k1 rfl,(st1.trans st2).trans st3,ok3⟩
 | true=>
   refine ite_tt (test_last (thn (k2 rfl pins s3 σ H3 O3 I3 (((env.mono st1).mono st2).mono st3) ok3) λ u4 s4 hq_=>?_))
   obtain⟨w4,H4,I4,r4,O4,t,S4,h4,st4,ok4,rep4⟩:=hq_
   refine thn (h4 pins s4 σ H4 O4 w w4 u' u4 I4 ok4 ((rep2.mono st3).mono st4) rep4 r2 r4) λ _ s5 hq_=>?_
   obtain⟨z5,H5,I5,r5,O5,d5,S5,⟨k,hd,w5⟩,st5,ok5,rep5⟩:=hq_
   subst hd
   cases rep5
   cases r5
   exact wpAny_truthy_bool ⟨H5,I5,O5,S5,w5,(((st1.trans st2).trans st3).trans st4).trans st5,ok5⟩
end
noncomputable def bII(x y:D)(k:Int->Int->Prop):Prop:=match x with
 | .int i=>(match y with
   | .int j=>k i j
   | _=>False)
 | _=>False
theorem dG{x y:D}{k:Int->Int->Prop}(h:bII x y k):∃i j,x=.int i/\y=.int j/\k i j:=by
 cases x<;>first | exact h.elim | (cases y<;>first | exact h.elim | exact⟨_,_,rfl,rfl,h⟩)
noncomputable def bTu(x:D)(k:List D->Prop):Prop:=match x with
 | .tup a=>k a
 | _=>False
theorem tQ{x:D}{k:List D->Prop}(h:bTu x k):∃a,x=.tup a/\k a:=by cases x<;>first | exact h.elim | exact⟨_,rfl,h⟩
noncomputable def bLs(x:D)(k:List D->Prop):Prop:=match x with
 | .lst a=>k a
 | _=>False
theorem CP{x:D}{k:List D->Prop}(h:bLs x k):∃a,x=.lst a/\k a:=by cases x<;>first | exact h.elim | exact⟨_,rfl,h⟩
noncomputable def bIn(x:D)(k:Int->Prop):Prop:=match x with
 | .int a=>k a
 | _=>False
theorem Oe{x:D}{k:Int->Prop}(h:bIn x k):∃a,x=.int a/\k a:=by cases x<;>first | exact h.elim | exact⟨_,rfl,h⟩
noncomputable def Lh(x:D)(a b c:Prop):Prop:=match x with
 | .int _=>a
 | .tup _=>b
 | _=>c
theorem wG{x:D}{a b c:Prop}(h:Lh x a b c):a∨b∨c:=by cases x<;>first | exact .inl h | exact .inr (.inl h) | exact .inr (.inr h)
noncomputable def Nf(op:Operator)(x y:D)(S:Store)(W:WD):Prop:=match op with
 | .Add=>Lh x (bII x y λ i j=>W (.int (i+j)) S) (bTu x λ a=>bTu y λ b=>a.length+b.length≤1000000/\W (.tup (a++b)) S) (bLs x λ a=>bLs y λ b=>a.length+b.length≤1000000/\W (.lst (a++b)) S)
 | .Sub=>bII x y λ i j=>W (.int (i-j)) S
 | .Mult=>Lh x (bII x y λ i j=>CMul i j/\W (.int (i*j)) S) (bTu x λ a=>bIn y λ n=>(-(2 ^ 63)≤n/\n<2 ^ 63)/\a.length*n.toNat≤1000000/\W (.tup (List.replicate n.toNat a).flatten) S) False
 | .Mod=>bII x y λ i j=>0<j/\W (.int (i % j)) S
 | .FloorDiv=>bII x y λ i j=>(0<j/\j<1073741824)/\W (.int (i/j)) S
 | .Pow=>bII x y λ i j=>CPow i j/\W (.int (i ^ j.toNat)) S
 | _=>False
theorem J7{X:Cx}{op:Operator}{x y:D}{S:Store}(h:Nf op x y S W):dg X op x y S W:=by
 cases op<;>first | exact(show False from h).elim | skip
 . rcases wG h with h | h | h
   . obtain⟨i,j,rfl,rfl,h⟩:=dG h;exact Ti h
   . obtain⟨a,rfl,h1⟩:=tQ h;obtain⟨b,rfl,h2⟩:=tQ h1;exact QD h2.1 h2.2
   . obtain⟨a,rfl,h1⟩:=CP h;obtain⟨b,rfl,h2⟩:=CP h1;exact Rf h2.1 h2.2
 . obtain⟨i,j,rfl,rfl,h⟩:=dG h;exact Tw h
 . rcases wG h with h | h | h
   . obtain⟨i,j,rfl,rfl,h⟩:=dG h;exact Up h.1 h.2
   . obtain⟨a,rfl,h1⟩:=tQ h;obtain⟨b,rfl,h2⟩:=Oe h1;exact Rg h2.1 h2.2.1 h2.2.2
   . exact h.elim
 all_goals obtain⟨i,j,rfl,rfl,h⟩:=dG h
 all_goals first | exact TJ h.1 h.2 | exact Qu h.1 h.2 | exact Ue h.1 h.2
noncomputable def Kz(x y:D)(S:Store)(W:WD):Prop:=match x,y with
 | .tup ds,.int i=>∃d,atI ds i=some d/\W d S
 | .lst ds,.int i=>∃d,atI ds i=some d/\W d S
 | .loc k,.int i=>∃ds d,S[k]? =some ds/\atI ds i=some d/\W d S
 | _,_=>False
theorem NB{X:Cx}{a b:Expr}{x y:D}{S:Store}(h:Kz x y S W):IxW X a b x y S W:=by
 unfold Kz at h
 split at h
 . obtain⟨d,h1,h2⟩:=h;exact Ud h1 h2
 . obtain⟨d,h1,h2⟩:=h;exact Uu h1 h2
 . obtain⟨ds,d,h1,h2,h3⟩:=h;exact TF h1 h2 h3
 . exact h.elim
noncomputable def Ml(x:D)(l h:Option Int)(S:Store)(W:WD):Prop:=match x with
 | .tup ds=>W (.tup (cutD ds l h)) S
 | .lst ds=>W (.lst (cutD ds l h)) S
 | .loc k=>∃ds,S[k]? =some ds/\W (.lst (cutD ds l h)) S
 | _=>False
theorem TV{X:Cx}{S:Store}{k:Nat}{ds:List D}{lo hi:Option Int}(hk:S[k]? =some ds)(w:W (.lst (cutD ds lo hi)) S):SlW X (.loc k) lo hi S W:=by
 intro pins s σ H O v u vl vu sl I st r1 r3 hs pl pu
 cases r1 with
 | @loc p _ h1=>
   obtain⟨xs,hx,q1⟩:=st.obj k p ds h1 hk
   exact Eg pins s σ H _ u vl vu lo hi sl _ I r3 hs pl pu ⟨p,xs,rfl,SqL.of hx,λ p' hp=>dO w st hp (tY q1 lo hi)⟩
theorem Qg{X:Cx}{x:D}{l r:Option Int}{S:Store}(h:Ml x l r S W):SlW X x l r S W:=by
 unfold Ml at h
 split at h
 . exact Uk h
 . exact Ul h
 . obtain⟨ds,h1,h2⟩:=h;exact TV h1 h2
 . exact h.elim
inductive Ty where
 | int | bool | tuple | list
 deriving DecidableEq
noncomputable def Ty.id:Ty->String
 | .int=>"int" | .bool=>"bool" | .tuple=>"tuple" | .list=>"list"
noncomputable def Ty.nm:Ty->Str
 | .int=>"int" | .bool=>"bool" | .tuple=>"tuple" | .list=>"list"
noncomputable def isD:Ty->D->Bool
 | .int,.int _=>true | .int,.bl _=>true | .bool,.bl _=>true | .tuple,.tup _=>true | .list,.lst _=>true | .list,.loc _=>true | _,_=>false
theorem RB(T:Ty)(x:D):isi (tyD x) T.id=isD T x:=by cases T<;>cases x<;>rfl
theorem Ty.isT(T:Ty):DL.isT T.id=true:=by cases T<;>rfl
theorem Ty.boot(T:Ty):bootBuiltins T.nm=some (.type T.id):=by cases T<;>decide+kernel
theorem Ty.ok(T:Ty):(T.nm==("__debug__":Str))=false/\T.nm≠"__name__":=by cases T<;>decide+kernel
end RF
namespace RF
open PySem PySem.Spec L2 DL
open PyProof.Rows
variable {ds : List D} {S : Store} {x y : D} {W : Bool -> Store -> Prop}
mutual
noncomputable def eqD:D->D->Bool
 | .non,.non=>true
 | .bl a,.bl b=>a==b
 | .int a,.int b=>a==b
 | .bl a,.int b=>(if a then 1 else 0)==b
 | .int a,.bl b=>a==(if b then 1 else 0)
 | .str a,.str b=>a==b
 | .tup a,.tup b=>bU a b
 | .lst a,.lst b=>bU a b
 | .dic,.dic=>true
 | _,_=>false
noncomputable def bU:List D->List D->Bool
 | [],[]=>true
 | a::as,b::bs=>eqD a b&&bU as bs
 | _,_=>false
end
mutual
noncomputable def okD:D->Bool
 | .tup ds=>bJ ds
 | .lst ds=>bJ ds
 | .loc _=>false
 | .dic=>false
 | .dlo _=>false
 | _=>true
noncomputable def bJ:List D->Bool
 | []=>true
 | d::ds=>okD d&&bJ ds
end
mutual
inductive Sn(K:PySem.W.Frag)(H:Hp):V->D->Prop
 | non:Sn K H .non .non
 | bl(b:Bool):Sn K H (.bl b) (.bl b)
 | int(i:Int):Sn K H (.int i) (.int i)
 | str(x:Str):Sn K H (.str x) (.str x)
 | tup{a:Addr}{xs:List V}{ds:List D}(h:SqT K H a xs)(r:Sns K H xs ds):Sn K H (.ref a) (.tup ds)
 | lst{a:Addr}{xs:List V}{ds:List D}(h:SqL K H a xs)(r:Sns K H xs ds):Sn K H (.ref a) (.lst ds)
inductive Sns(K:PySem.W.Frag)(H:Hp):List V->List D->Prop
 | nil:Sns K H [] []
 | cons{v:V}{d:D}{vs:List V}{ds:List D}(r:Sn K H v d)(t:Sns K H vs ds):Sns K H (v::vs) (d::ds)
end
section
variable {K : PySem.W.Frag} {H : Hp} {O : Own}
theorem Sns.length:∀{vs:List V}{ds:List D},Sns K H vs ds->vs.length=ds.length
 | _,_,.nil=>rfl
 | _,_,.cons _ t=>by simp[Sns.length t]
theorem Sns.get:∀{vs:List V}{ds:List D}{i:Nat}{d:D},Sns K H vs ds->ds[i]? =some d->∃v,vs[i]? =some v/\Sn K H v d
 | _,_,_,_,.nil,e=>by simp at e
 | _,_,0,_,.cons r _,e=>by simp at e;subst e;exact⟨_,rfl,r⟩
 | _,_,i+1,d,.cons _ t,e=>by
   obtain⟨v,h1,h2⟩:=Sns.get (i:=i) (d:=d) t (by simpa using e)
   exact⟨v,by simpa using h1,h2⟩
mutual
theorem yZ:∀{v:V}{d:D},okD d=true->Rep K O H v d->Sn K H v d
 | _,_,_,.non=>.non
 | _,_,_,.bl b=>.bl b
 | _,_,_,.int i=>.int i
 | _,_,_,.str x=>.str x
 | _,_,h,.tup h1 r=>.tup h1.sq (jk (by simpa[okD]using h) r)
 | _,_,h,.lst h1 r=>.lst h1.sq (jk (by simpa[okD]using h) r)
 | _,_,h,.loc _=>by simp[okD]at h
 | _,_,h,.dic _ _=>by simp[okD]at h
 | _,_,h,.dlo _=>by simp[okD]at h
theorem jk:∀{vs:List V}{ds:List D},bJ ds=true->Reps K O H vs ds->Sns K H vs ds
 | _,_,_,.nil=>.nil
 | _,_,h,.cons r t=>by
   simp only[bJ,Bool.and_eq_true]at h
   exact .cons (yZ h.1 r) (jk h.2 t)
end
end
section
variable {X : Cx} {pins : Pins} {s : Shared} {σ : DL.St} {H : Hp}
mutual
theorem mD(I:Inv X pins σ H s):∀{v:V}{x y:D},Sn X.K H v x->Sn X.K H v y->x=y
 | _,_,_,.non,b=>by cases b;rfl
 | _,_,_,.bl _,b=>by cases b;rfl
 | _,_,_,.int _,b=>by cases b;rfl
 | _,_,_,.str _,b=>by cases b;rfl
 | _,_,_,.tup h r,b=>by
   cases b with
   | tup h' r'=>
     have e:=I.tuple_inj h h'
     subst e
     rw[tL I r r']
   | lst h' r'=>
     exfalso
     obtain⟨its,_,⟨o,h2,h3,_⟩,_⟩:=I.tuple h
     obtain⟨its2,_,pl,_⟩:=I.list h'
     obtain⟨o',h2',h3',_⟩:=pl.isList
     rw[h2]at h2'
     cases h2'
     rw[h3]at h3'
     exact absurd h3' (by decide)
 | _,_,_,.lst h r,b=>by
   cases b with
   | lst h' r'=>
     have e:=I.list_inj h h'
     subst e
     rw[tL I r r']
   | tup h' r'=>
     exfalso
     obtain⟨its,_,⟨o,h2,h3,_⟩,_⟩:=I.tuple h'
     obtain⟨its2,_,pl,_⟩:=I.list h
     obtain⟨o',h2',h3',_⟩:=pl.isList
     rw[h2]at h2'
     cases h2'
     rw[h3]at h3'
     exact absurd h3' (by decide)
theorem tL(I:Inv X pins σ H s):∀{vs:List V}{xs ys:List D},Sns X.K H vs xs->Sns X.K H vs ys->xs=ys
 | _,_,_,.nil,b=>by cases b;rfl
 | _,_,_,.cons r t,b=>by
   cases b with
   | cons r' t'=>rw[mD I r r',tL I t t']
end
end
mutual
theorem pM:∀(x:D),ao x=true->eqD x x=true
 | .non,_=>by simp[eqD]
 | .bl _,_=>by simp[eqD]
 | .int _,_=>by simp[eqD]
 | .str _,_=>by simp[eqD]
 | .tup ds,h=>by simp only[eqD];exact mz ds (by simpa[ao]using h)
 | .lst ds,h=>by simp only[eqD];exact mz ds (by simpa[ao]using h)
 | .loc _,h=>by simp[ao]at h
 | .dic,_=>by simp[eqD]
theorem mz:∀(xs:List D),ak xs=true->bU xs xs=true
 | [],_=>by simp[bU]
 | d::ds,h=>by
   simp only[ak,Bool.and_eq_true]at h
   simp only[bU,Bool.and_eq_true]
   exact⟨pM d h.1,mz ds h.2⟩
end
mutual
theorem J4:∀(x:D),okD x=true->ao x=true
 | .non,_=>by simp[ao]
 | .bl _,_=>by simp[ao]
 | .int _,_=>by simp[ao]
 | .str _,_=>by simp[ao]
 | .tup ds,h=>by simp only[ao];exact lN ds (by simpa[okD]using h)
 | .lst ds,h=>by simp only[ao];exact lN ds (by simpa[okD]using h)
 | .loc _,h=>by simp[okD]at h
 | .dic,h=>by simp[okD]at h
 | .dlo _,h=>by simp[okD]at h
theorem lN:∀(xs:List D),bJ xs=true->ak xs=true
 | [],_=>by simp[ak]
 | d::ds,h=>by
   simp only[bJ,Bool.and_eq_true]at h
   simp only[ak,Bool.and_eq_true]
   exact⟨J4 d h.1,lN ds h.2⟩
end
noncomputable abbrev eqJ(ds es:List D)(j:Nat):Bool:=eqD (ds.getD j .non) (es.getD j .non)
theorem Lx(d e:D)(ds es:List D):(eqJ (d::ds) (e::es)) ∘ Nat.succ=eqJ ds es:=by
 funext j;simp[eqJ,List.getD]
theorem jG:∀(ds es:List D),((List.range (min ds.length es.length)).all (eqJ ds es)&&ds.length==es.length)=bU ds es
 | [],[]=>by simp[bU]
 | [],e::es=>by simp[bU]
 | d::ds,[]=>by simp[bU]
 | d::ds,e::es=>by
   have ih:=jG ds es
   have h1:min (d::ds).length (e::es).length=min ds.length es.length+1:=by simp only[List.length_cons];omega
   rw[h1,List.range_succ_eq_map,List.all_cons,List.all_map,Lx]
   have h2:((d::ds).length==(e::es).length)=(ds.length==es.length):=by simp
   have h3:eqJ (d::ds) (e::es) 0=eqD d e:=by simp[eqJ,List.getD]
   rw[h2,h3,Bool.and_assoc,ih]
   simp only[bU]
theorem Lz{es:List D}(h:ds.length=es.length):(List.range ds.length).all (eqJ ds es)=bU ds es:=by
 rw[←jG ds es,←h,Nat.min_self,beq_self_eq_true,Bool.and_true]
theorem Om{es:List D}(h:ds.length≠es.length):bU ds es=false:=by
 rw[←jG ds es]
 have:(ds.length==es.length)=false:=by simpa using h
 rw[this,Bool.and_false]
section
variable {X : Cx}
theorem m5{n:Nat}(ih:∀(x y:D),deep x≤n->∀{pins:Pins}{s:Shared}{σ:DL.St}{H:Hp}{v w:V}{u u':Value}{A:Around},Inv X pins σ H s->Sn X.K H v x->Sn X.K H w y->RelV v u->RelV w u'->A.units+n<cLine->SeqAt.EqAt A s u u' (eqD x y))
 (x y:D)(hx:deep x≤n+1){pins:Pins}{s:Shared}{σ:DL.St}{H:Hp}{v w:V}{u u':Value}{A:Around}(I:Inv X pins σ H s)(r1:Sn X.K H v x)(r2:Sn X.K H w y)(ru:RelV v u)(ru':RelV w u')(hu:A.units+(n+1)<cLine):
 SeqAt.RcAt A s u u' (eqD x y)/\SeqAt.RcNeAt A s u u' (!eqD x y):=by
 have hu0:A.units<cLine:=by omega
 have part:∀{ds es:List D}{xs ys:List V}{its its2:List Value},aV ds≤n->Sns X.K H xs ds->Sns X.K H ys es->Vals xs its->Vals ys its2->∀j(h1:j<its.toArray.size)(h2:j<its2.toArray.size),SeqAt.EqAt A.in1 s its.toArray[j] its2.toArray[j] (eqJ ds es j):=by
  intro ds es xs ys its its2 hd q1 q2 v1 v2 j j1 j2
  have l1:its.length=ds.length:=by rw[←v1.length,q1.length]
  have l2:its2.length=es.length:=by rw[←v2.length,q2.length]
  have hj:j<ds.length:=by simpa[l1]using j1
  have hj2:j<es.length:=by simpa[l2]using j2
  obtain⟨z1,a1,b1⟩:=q1.get (y3 hj)
  obtain⟨z2,a2,b2⟩:=q2.get (y3 hj2)
  obtain⟨u1,c1,d1⟩:=v1.get a1
  obtain⟨u2,c2,d2⟩:=v2.get a2
  have e1:its.toArray[j]=u1:=by have:=(z0.mp c1).2;simpa using this
  have e2:its2.toArray[j]=u2:=by have:=(z0.mp c2).2;simpa using this
  rw[e1,e2]
  have e3:eqJ ds es j=eqD ds[j] es[j]:=by simp[eqJ,List.getD,hj,hj2]
  rw[e3]
  have hd':=cV (y3 hj)
  exact ih ds[j] es[j] (by omega) I b1 b2 d1 d2 (by show A.units+1+n<cLine;omega)
 cases r1 with
 | non=>
   cases ru
   cases r2 with
   | non=>cases ru';exact⟨SeqAt.RcAt.none_none,SeqAt.RcNeAt.none_none⟩
   | bl b=>cases ru';exact⟨SeqAt.RcAt.none_bool b,SeqAt.RcNeAt.none_bool b⟩
   | int i=>obtain⟨t',rfl⟩:=ru';exact⟨SeqAt.RcAt.none_int i t',SeqAt.RcNeAt.none_int i t'⟩
   | str i=>obtain⟨t',rfl⟩:=ru';exact⟨SeqAt.RcAt.none_str i t',SeqAt.RcNeAt.none_str i t'⟩
   | tup h2 q2=>
     cases ru';obtain⟨its2,v2,p2,_⟩:=I.tuple h2
     exact⟨SeqAt.RcAt.none_tuple (show s.heap.IsTuple _ its2.toArray from p2) hu0,SeqAt.RcNeAt.none_tuple (show s.heap.IsTuple _ its2.toArray from p2) hu0⟩
   | lst h2 q2=>
     cases ru';obtain⟨its2,v2,p2,_⟩:=I.list h2
     exact⟨SeqAt.RcAt.none_list p2.isList hu0,SeqAt.RcNeAt.none_list p2.isList hu0⟩
 | bl a=>
   cases ru
   cases r2 with
   | non=>cases ru';exact⟨SeqAt.RcAt.bool_none a,SeqAt.RcNeAt.bool_none a⟩
   | bl b=>cases ru';exact⟨SeqAt.RcAt.bool_bool a b,SeqAt.RcNeAt.bool_bool a b⟩
   | int i=>obtain⟨t',rfl⟩:=ru';exact⟨SeqAt.RcAt.bool_int a i t',SeqAt.RcNeAt.bool_int a i t'⟩
   | str i=>obtain⟨t',rfl⟩:=ru';exact⟨SeqAt.RcAt.bool_str a i t',SeqAt.RcNeAt.bool_str a i t'⟩
   | tup h2 q2=>
     cases ru';obtain⟨its2,v2,p2,_⟩:=I.tuple h2
     exact⟨SeqAt.RcAt.bool_tuple a (show s.heap.IsTuple _ its2.toArray from p2) hu0,SeqAt.RcNeAt.bool_tuple a (show s.heap.IsTuple _ its2.toArray from p2) hu0⟩
   | lst h2 q2=>
     cases ru';obtain⟨its2,v2,p2,_⟩:=I.list h2
     exact⟨SeqAt.RcAt.bool_list a p2.isList hu0,SeqAt.RcNeAt.bool_list a p2.isList hu0⟩
 | int a=>
   obtain⟨t,rfl⟩:=ru
   cases r2 with
   | non=>cases ru';exact⟨SeqAt.RcAt.int_none a t,SeqAt.RcNeAt.int_none a t⟩
   | bl b=>cases ru';exact⟨SeqAt.RcAt.int_bool a t b,SeqAt.RcNeAt.int_bool a t b⟩
   | int i=>obtain⟨t',rfl⟩:=ru';exact⟨SeqAt.RcAt.int_int a t i t',SeqAt.RcNeAt.int_int a t i t'⟩
   | str i=>obtain⟨t',rfl⟩:=ru';exact⟨SeqAt.RcAt.int_str a t i t',SeqAt.RcNeAt.int_str a t i t'⟩
   | tup h2 q2=>
     cases ru';obtain⟨its2,v2,p2,_⟩:=I.tuple h2
     exact⟨SeqAt.RcAt.int_tuple a t (show s.heap.IsTuple _ its2.toArray from p2) hu0,SeqAt.RcNeAt.int_tuple a t (show s.heap.IsTuple _ its2.toArray from p2) hu0⟩
   | lst h2 q2=>
     cases ru';obtain⟨its2,v2,p2,_⟩:=I.list h2
     exact⟨SeqAt.RcAt.int_list a t p2.isList hu0,SeqAt.RcNeAt.int_list a t p2.isList hu0⟩
 | str a=>
   obtain⟨t,rfl⟩:=ru
   cases r2 with
   | non=>cases ru';exact⟨SeqAt.RcAt.str_none a t,SeqAt.RcNeAt.str_none a t⟩
   | bl b=>cases ru';exact⟨SeqAt.RcAt.str_bool a t b,SeqAt.RcNeAt.str_bool a t b⟩
   | int i=>obtain⟨t',rfl⟩:=ru';exact⟨SeqAt.RcAt.str_int a t i t',SeqAt.RcNeAt.str_int a t i t'⟩
   | str i=>obtain⟨t',rfl⟩:=ru';exact⟨SeqAt.RcAt.str_str a t i t',SeqAt.RcNeAt.str_str a t i t'⟩
   | tup h2 q2=>
     cases ru';obtain⟨its2,v2,p2,_⟩:=I.tuple h2
     exact⟨SeqAt.RcAt.str_tuple a t (show s.heap.IsTuple _ its2.toArray from p2) hu0,SeqAt.RcNeAt.str_tuple a t (show s.heap.IsTuple _ its2.toArray from p2) hu0⟩
   | lst h2 q2=>
     cases ru';obtain⟨its2,v2,p2,_⟩:=I.list h2
     exact⟨SeqAt.RcAt.str_list a t p2.isList hu0,SeqAt.RcNeAt.str_list a t p2.isList hu0⟩
 | @tup a xs ds h1 q1=>
   cases ru
   obtain⟨its,v1,p1,_⟩:=I.tuple h1
   have p1:s.heap.IsTuple a its.toArray:=p1
   cases r2 with
   | non=>cases ru';exact⟨SeqAt.RcAt.tuple_none p1 hu0,SeqAt.RcNeAt.tuple_none p1 hu0⟩
   | bl b=>cases ru';exact⟨SeqAt.RcAt.tuple_bool b p1 hu0,SeqAt.RcNeAt.tuple_bool b p1 hu0⟩
   | int i=>obtain⟨t',rfl⟩:=ru';exact⟨SeqAt.RcAt.tuple_int i t' p1 hu0,SeqAt.RcNeAt.tuple_int i t' p1 hu0⟩
   | str i=>obtain⟨t',rfl⟩:=ru';exact⟨SeqAt.RcAt.tuple_str i t' p1 hu0,SeqAt.RcNeAt.tuple_str i t' p1 hu0⟩
   | @tup b ys es h2 q2=>
     cases ru'
     obtain⟨its2,v2,p2,_⟩:=I.tuple h2
     have p2:s.heap.IsTuple b its2.toArray:=p2
     have l1:its.toArray.size=ds.length:=by rw[x4,←v1.length,q1.length]
     have l2:its2.toArray.size=es.length:=by rw[x4,←v2.length,q2.length]
     have hd:aV ds≤n:=by simp[deep]at hx;exact hx
     have a1:=SeqAt.RcAt.tuples (e:=eqJ ds es) p1 p2 hu0 (part hd q1 q2 v1 v2)
     have a2:=SeqAt.RcNeAt.tuples (e:=eqJ ds es) p1 p2 hu0 (part hd q1 q2 v1 v2)
     rw[l1,l2,jG]at a1 a2
     simp only[eqD]
     exact⟨a1,a2⟩
   | lst h2 q2=>
     cases ru';obtain⟨its2,v2,p2,_⟩:=I.list h2
     exact⟨SeqAt.RcAt.tuple_list p1 p2.isList hu0,SeqAt.RcNeAt.tuple_list p1 p2.isList hu0⟩
 | @lst a xs ds h1 q1=>
   cases ru
   obtain⟨its,v1,p1,_⟩:=I.list h1
   have p1:=p1.isList
   cases r2 with
   | non=>cases ru';exact⟨SeqAt.RcAt.list_none p1 hu0,SeqAt.RcNeAt.list_none p1 hu0⟩
   | bl b=>cases ru';exact⟨SeqAt.RcAt.list_bool b p1 hu0,SeqAt.RcNeAt.list_bool b p1 hu0⟩
   | int i=>obtain⟨t',rfl⟩:=ru';exact⟨SeqAt.RcAt.list_int i t' p1 hu0,SeqAt.RcNeAt.list_int i t' p1 hu0⟩
   | str i=>obtain⟨t',rfl⟩:=ru';exact⟨SeqAt.RcAt.list_str i t' p1 hu0,SeqAt.RcNeAt.list_str i t' p1 hu0⟩
   | tup h2 q2=>
     cases ru';obtain⟨its2,v2,p2,_⟩:=I.tuple h2
     exact⟨SeqAt.RcAt.list_tuple p1 (show s.heap.IsTuple _ its2.toArray from p2) hu0,SeqAt.RcNeAt.list_tuple p1 (show s.heap.IsTuple _ its2.toArray from p2) hu0⟩
   | @lst b ys es h2 q2=>
     cases ru'
     obtain⟨its2,v2,p2,_⟩:=I.list h2
     have p2:=p2.isList
     have l1:its.toArray.size=ds.length:=by rw[x4,←v1.length,q1.length]
     have l2:its2.toArray.size=es.length:=by rw[x4,←v2.length,q2.length]
     have hd:aV ds≤n:=by simp[deep]at hx;exact hx
     simp only[eqD]
     by_cases hl:ds.length=es.length
     . have a1:=SeqAt.RcAt.lists (e:=eqJ ds es) p1 p2 (by rw[l1,l2,hl]) hu0 (part hd q1 q2 v1 v2)
       have a2:=SeqAt.RcNeAt.lists (e:=eqJ ds es) p1 p2 (by rw[l1,l2,hl]) hu0 (part hd q1 q2 v1 v2)
       rw[l1,Lz hl]at a1 a2
       exact⟨a1,a2⟩
     . have z:(its.toArray.size !=its2.toArray.size)=true:=by rw[l1,l2];simpa using hl
       rw[Om hl]
       exact⟨SeqAt.RcAt.lists_lengths p1 p2 z hu0,SeqAt.RcNeAt.lists_lengths p1 p2 z hu0⟩
theorem xP:∀{K:PySem.W.Frag}{H:Hp}{v:V}{x:D},Sn K H v x->ao x=true:=by
 intro K H v x h
 refine Sn.rec (motive_1:=λ v x _=>ao x=true) (motive_2:=λ vs xs _=>ak xs=true) ?_ ?_ ?_ ?_ ?_ ?_ ?_ ?_ h
 . simp[ao]
 . intro b;simp[ao]
 . intro b;simp[ao]
 . intro b;simp[ao]
 . intro a xs ds h r ih;simpa[ao]using ih
 . intro a xs ds h r ih;simpa[ao]using ih
 . simp[ak]
 . intro v d vs ds r t ih1 ih2;simp[ak,ih1,ih2]
theorem xZ (n:Nat):∀(x y:D),deep x≤n->∀{pins:Pins}{s:Shared}{σ:DL.St}{H:Hp}{v w:V}{u u':Value}{A:Around},Inv X pins σ H s->Sn X.K H v x->Sn X.K H w y->RelV v u->RelV w u'->A.units+n<cLine->SeqAt.EqAt A s u u' (eqD x y):=by
 induction n with
 | zero=>
   intro x y hx pins s σ H v w u u' A I r1 r2 ru ru' hu
   cases r1 with
   | non=>
     cases ru
     cases r2 with
     | non=>cases ru';exact SeqAt.EqAt.same _
     | bl b=>cases ru';exact SeqAt.EqAt.none_bool b
     | int i=>obtain⟨t',rfl⟩:=ru';exact SeqAt.EqAt.none_int i t'
     | str i=>obtain⟨t',rfl⟩:=ru';exact SeqAt.EqAt.none_str i t'
     | tup h2 q2=>cases ru';obtain⟨its2,v2,p2,_⟩:=I.tuple h2;exact SeqAt.EqAt.none_tuple (show s.heap.IsTuple _ its2.toArray from p2) (by omega)
     | lst h2 q2=>cases ru';obtain⟨its2,v2,p2,_⟩:=I.list h2;exact SeqAt.EqAt.none_list p2.isList (by omega)
   | bl a=>
     cases ru
     cases r2 with
     | non=>cases ru';exact SeqAt.EqAt.bool_none a
     | bl b=>cases ru';exact SeqAt.EqAt.bool_bool a b
     | int i=>obtain⟨t',rfl⟩:=ru';exact SeqAt.EqAt.bool_int a i t'
     | str i=>obtain⟨t',rfl⟩:=ru';exact SeqAt.EqAt.bool_str a i t'
     | tup h2 q2=>cases ru';obtain⟨its2,v2,p2,_⟩:=I.tuple h2;exact SeqAt.EqAt.bool_tuple a (show s.heap.IsTuple _ its2.toArray from p2) (by omega)
     | lst h2 q2=>cases ru';obtain⟨its2,v2,p2,_⟩:=I.list h2;exact SeqAt.EqAt.bool_list a p2.isList (by omega)
   | int a=>
     obtain⟨t,rfl⟩:=ru
     cases r2 with
     | non=>cases ru';exact SeqAt.EqAt.int_none a t
     | bl b=>cases ru';exact SeqAt.EqAt.int_bool a t b
     | int i=>obtain⟨t',rfl⟩:=ru';exact SeqAt.EqAt.int_int a t i t'
     | str i=>obtain⟨t',rfl⟩:=ru';exact SeqAt.EqAt.int_str a t i t'
     | tup h2 q2=>cases ru';obtain⟨its2,v2,p2,_⟩:=I.tuple h2;exact SeqAt.EqAt.int_tuple a t (show s.heap.IsTuple _ its2.toArray from p2) (by omega)
     | lst h2 q2=>cases ru';obtain⟨its2,v2,p2,_⟩:=I.list h2;exact SeqAt.EqAt.int_list a t p2.isList (by omega)
   | str a=>
     obtain⟨t,rfl⟩:=ru
     cases r2 with
     | non=>cases ru';exact SeqAt.EqAt.str_none a t
     | bl b=>cases ru';exact SeqAt.EqAt.str_bool a t b
     | int i=>obtain⟨t',rfl⟩:=ru';exact SeqAt.EqAt.str_int a t i t'
     | str i=>obtain⟨t',rfl⟩:=ru';exact SeqAt.EqAt.str_str a t i t'
     | tup h2 q2=>cases ru';obtain⟨its2,v2,p2,_⟩:=I.tuple h2;exact SeqAt.EqAt.str_tuple a t (show s.heap.IsTuple _ its2.toArray from p2) (by omega)
     | lst h2 q2=>cases ru';obtain⟨its2,v2,p2,_⟩:=I.list h2;exact SeqAt.EqAt.str_list a t p2.isList (by omega)
   | tup _ _=>simp[deep]at hx
   | lst _ _=>simp[deep]at hx
 | succ n ih=>
   intro x y hx pins s σ H v w u u' A I r1 r2 ru ru' hu
   by_cases h0:deep x≤n
   . exact ih x y h0 I r1 r2 ru ru' (by omega)
   . have both:=m5 ih x y hx I r1 r2 ru ru' hu
     cases r1 with
     | non=>simp[deep]at h0
     | bl b=>simp[deep]at h0
     | int b=>simp[deep]at h0
     | str b=>simp[deep]at h0
     | @tup a xs ds h1 q1=>
       cases ru
       obtain⟨its,v1,p1,_⟩:=I.tuple h1
       have p1:s.heap.IsTuple a its.toArray:=p1
       cases r2 with
       | non=>cases ru';exact SeqAt.EqAt.tuple_none p1 (by omega)
       | bl b=>cases ru';exact SeqAt.EqAt.tuple_bool b p1 (by omega)
       | int i=>obtain⟨t',rfl⟩:=ru';exact SeqAt.EqAt.tuple_int i t' p1 (by omega)
       | str i=>obtain⟨t',rfl⟩:=ru';exact SeqAt.EqAt.tuple_str i t' p1 (by omega)
       | @tup b ys es h2 q2=>
         cases ru'
         by_cases e:a=b
         . subst e
           have e2:=mD I (.tup h1 q1) (.tup h2 q2)
           rw[←e2,pM _ (xP (.tup h1 q1))]
           exact SeqAt.EqAt.same _
         . exact SeqAt.EqAt.of_refs e both.1
       | @lst b ys es h2 q2=>
         cases ru';obtain⟨its2,v2,p2,_⟩:=I.list h2;exact SeqAt.EqAt.tuple_list p1 p2.isList (by omega)
     | @lst a xs ds h1 q1=>
       cases ru
       obtain⟨its,v1,p1,_⟩:=I.list h1
       have p1:=p1.isList
       cases r2 with
       | non=>cases ru';exact SeqAt.EqAt.list_none p1 (by omega)
       | bl b=>cases ru';exact SeqAt.EqAt.list_bool b p1 (by omega)
       | int i=>obtain⟨t',rfl⟩:=ru';exact SeqAt.EqAt.list_int i t' p1 (by omega)
       | str i=>obtain⟨t',rfl⟩:=ru';exact SeqAt.EqAt.list_str i t' p1 (by omega)
       | tup h2 q2=>cases ru';obtain⟨its2,v2,p2,_⟩:=I.tuple h2;exact SeqAt.EqAt.list_tuple p1 (show s.heap.IsTuple _ its2.toArray from p2) (by omega)
       | @lst b ys es h2 q2=>
         cases ru'
         by_cases e:a=b
         . subst e
           have e2:=mD I (.lst h1 q1) (.lst h2 q2)
           rw[←e2,pM _ (xP (.lst h1 q1))]
           exact SeqAt.EqAt.same _
         . exact SeqAt.EqAt.of_refs e both.1
noncomputable def vw(S:Store):D->D
 | .loc k=>match S[k]? with | some ds=>.lst ds | none=>.loc k
 | d=>d
noncomputable def Fy(S:Store)(x y:D):Prop:=okD (vw S x)=true/\okD (vw S y)=true/\deep (vw S x)≤50
theorem fB{K:PySem.W.Frag}{O:Own}{H:Hp}{v:V}(st:StOk K O H S)(r:Rep K O H v x)(h:okD (vw S x)=true):Sn K H v (vw S x):=by
 cases r with
 | @loc a k hk=>
   simp only[vw]at h ⊢
   have hl:k<S.length:=by rw[←st.len];exact(z0.mp hk).1
   obtain⟨xs,hx,q⟩:=st.obj k a S[k] hk (y3 hl)
   rw[y3 hl]at h ⊢
   exact .lst (SqL.of hx) (jk (by simpa[okD]using h) q)
 | non=>exact .non
 | bl b=>exact .bl b
 | int i=>exact .int i
 | str i=>exact .str i
 | tup h1 q1=>exact yZ h (.tup h1 q1)
 | lst h1 q1=>exact yZ h (.lst h1 q1)
 | dic h1 e1=>simp[vw,okD]at h
 | dlo h1=>simp[vw,okD]at h
theorem Tu(hu:X.A.units+60<cLine)(h:Fy S x y)(w:W (eqD (vw S x) (vw S y)) S):bh X .Eq x y S (asB W):=by
 intro pins s σ H O v w' u u' I st r1 r2 r3 r4
 obtain⟨h1,h2,h3⟩:=h
 have:=(m5 (n:=50) (A:=X.A) (xZ 50) (vw S x) (vw S y) (by omega) I (fB st r1 h1) (fB st r2 h2) r3 r4 (by omega)).1
 exact this _ _ _ _ ⟨.bl _,H,I,rfl,QG.here ⟨_,rfl,w⟩ st (.bl _)⟩
theorem Uq(hu:X.A.units+60<cLine)(h:Fy S x y)(w:W (!eqD (vw S x) (vw S y)) S):bh X .NotEq x y S (asB W):=by
 intro pins s σ H O v w' u u' I st r1 r2 r3 r4
 obtain⟨h1,h2,h3⟩:=h
 have:=(m5 (n:=50) (A:=X.A) (xZ 50) (vw S x) (vw S y) (by omega) I (fB st r1 h1) (fB st r2 h2) r3 r4 (by omega)).2
 exact this _ _ _ _ ⟨.bl _,H,I,rfl,QG.here ⟨_,rfl,w⟩ st (.bl _)⟩
theorem jP:∀{xs:List V}{its:List Value}{i:Nat}{v:V},Vals xs its->xs[i]? =some v->∃y,its[i]? =some y/\RelV v y
 | _,_,_,_,.nil,e=>by simp at e
 | _,_,0,_,.cons a _,e=>by simp at e;subst e;exact⟨_,rfl,a⟩
 | _,_,i+1,v,.cons _ t,e=>by
   obtain⟨y,h1,h2⟩:=jP (i:=i) (v:=v) t (by simpa using e)
   exact⟨y,by simpa using h1,h2⟩
theorem Dt{pins:Pins}{s:Shared}{σ:DL.St}{H:Hp}{v w':V}{u u':Value}(hu:X.A.units+60<cLine)(I:Inv X pins σ H s)(sx:Sn X.K H v x)(sy:Sn X.K H w' (.lst ds))(r3:RelV v u)(r4:RelV w' u')(h3:aV ds≤50):
 ∃(l:Addr) (its:List Value) (e:Value->Bool),u'=.ref l/\s.heap.IsList l its.toArray/\(∀y,y∈its.toArray->SeqAt.EqAt X.A.in1 s y u (e y))/\its.toArray.any e=ds.any λ d=>eqD d x:=by
 classical
 cases sy with
 | @lst a xs _ h1 q1=>
   cases r4
   obtain⟨its,rv,pl,hz⟩:=I.list h1
   let e:Value->Bool:=λ y=>decide (∃(v':V) (d:D),RelV v' y/\Sn X.K H v' d/\eqD d x=true)
   have ev:∀(y:Value)(v':V)(d:D),RelV v' y->Sn X.K H v' d->e y=eqD d x:=by
    intro y v' d hr hs
    cases hd:eqD d x with
    | true=>exact decide_eq_true ⟨v',d,hr,hs,hd⟩
    | false=>
      refine decide_eq_false ?_
      rintro⟨v2,d2,hr2,hs2,hd2⟩
      have ev':=hr2.inj hr
      subst ev'
      have:=mD I hs2 hs
      subst this
      rw[hd]at hd2;cases hd2
   refine⟨a,its,e,rfl,pl.isList,?_,?_⟩
   . intro y hy
     have hy':y∈its:=by simpa using hy
     obtain⟨i,hi⟩:=List.getElem?_of_mem hy'
     have hlt:i<xs.length:=by rw[rv.length];exact(z0.mp hi).1
     obtain⟨d,hd⟩:∃d,ds[i]? =some d:=⟨_,y3 (by rw[←q1.length];exact hlt)⟩
     obtain⟨v',hv',hs⟩:=q1.get hd
     obtain⟨y',hy2,hr⟩:=jP rv hv'
     rw[hi]at hy2;cases hy2
     rw[ev y v' d hr hs]
     exact xZ 50 d x (Nat.le_trans (cV hd) h3) I hs sx hr r3 (by show X.A.units+1+50<cLine;omega)
   . have hlen:its.length=ds.length:=by rw[←rv.length,q1.length]
     have main:∀(xs:List V)(its:List Value)(ds:List D),Vals xs its->Sns X.K H xs ds->its.any e=ds.any λ d=>eqD d x:=by
      intro xs its ds rv q1
      induction rv generalizing ds with
      | nil=>cases q1;rfl
      | cons hr _ ih=>
        cases q1 with
        | cons hs ht=>rw[List.any_cons,List.any_cons,ev _ _ _ hr hs,ih _ ht]
     rw[List.any_toArray]
     exact main xs its ds rv q1
theorem Sy(hu:X.A.units+60<cLine)(hy:vw S y=.lst ds)(h1:okD (vw S x)=true)(h2:bJ ds=true)(h3:aV ds≤50)(w:W (ds.any λ d=>eqD d (vw S x)) S):bh X .In x y S (asB W):=by
 intro pins s σ H O v w' u u' I st r1 r2 r3 r4
 have sy:=fB st r2 (by rw[hy];simpa[okD]using h2)
 rw[hy]at sy
 obtain⟨l,its,e,rfl,hl,he,ha⟩:=Dt hu I (fB st r1 h1) sy r3 r4 h3
 refine SeqAt.in_listAt e hl he ?_
 rw[ha]
 exact⟨.bl _,H,I,rfl,QG.here ⟨_,rfl,w⟩ st (.bl _)⟩
theorem Q7(hu:X.A.units+60<cLine)(hy:vw S y=.lst ds)(h1:okD (vw S x)=true)(h2:bJ ds=true)(h3:aV ds≤50)(w:W (!(ds.any λ d=>eqD d (vw S x))) S):bh X .NotIn x y S (asB W):=by
 intro pins s σ H O v w' u u' I st r1 r2 r3 r4
 have sy:=fB st r2 (by rw[hy];simpa[okD]using h2)
 rw[hy]at sy
 obtain⟨l,its,e,rfl,hl,he,ha⟩:=Dt hu I (fB st r1 h1) sy r3 r4 h3
 refine SeqAt.notIn_listAt e hl he ?_
 rw[ha]
 exact⟨.bl _,H,I,rfl,QG.here ⟨_,rfl,w⟩ st (.bl _)⟩
end
end RF
namespace RF
open PySem PySem.Spec L2 DL
open PyProof.Rows
variable {X : Cx}
noncomputable def isN:D->Bool
 | .non=>true
 | _=>false
theorem R1{a b:Bool}{S:Store}{W:Bool->Store->Prop}(w:W (a==b) S):bh X .Is (.bl a) (.bl b) S (asB W):=by
 intro pins s σ H O v w' u u' I st r1 r2 r3 r4
 cases r1;cases r2;cases r3;cases r4
 refine wpAny_is_plain rfl ?_
 have e:(Value.bool a==Value.bool b)=(a==b):=by cases a<;>cases b<;>rfl
 rw[e]
 exact⟨.bl _,H,I,rfl,QG.here ⟨_,rfl,w⟩ st (.bl _)⟩
theorem HB{a b:Bool}{S:Store}{W:Bool->Store->Prop}(w:W (!(a==b)) S):bh X .IsNot (.bl a) (.bl b) S (asB W):=by
 intro pins s σ H O v w' u u' I st r1 r2 r3 r4
 cases r1;cases r2;cases r3;cases r4
 refine wpAny_isNot_plain rfl ?_
 have e:(Value.bool a==Value.bool b)=(a==b):=by cases a<;>cases b<;>rfl
 rw[e]
 exact⟨.bl _,H,I,rfl,QG.here ⟨_,rfl,w⟩ st (.bl _)⟩
noncomputable def bEq(x y:D)(ki:Int->Int->Prop)(kb:Bool->Bool->Prop)(g:Prop):Prop:=match x with
 | .int i=>(match y with
   | .int j=>ki i j
   | _=>g)
 | .bl i=>(match y with
   | .bl j=>kb i j
   | _=>g)
 | _=>g
theorem CJ{x y:D}{ki:Int->Int->Prop}{kb:Bool->Bool->Prop}{g:Prop}(h:bEq x y ki kb g):(∃i j,x=.int i/\y=.int j/\ki i j)∨(∃i j,x=.bl i/\y=.bl j/\kb i j)∨g:=by
 cases x<;>first | exact .inr (.inr h) | (cases y<;>first | exact .inr (.inr h) | exact .inl ⟨_,_,rfl,rfl,h⟩ | exact .inr (.inl ⟨_,_,rfl,rfl,h⟩))
noncomputable def bIs(x y:D)(n:Prop)(kb:Bool->Bool->Prop):Prop:=match y with
 | .non=>n
 | .bl j=>(match x with
   | .bl i=>kb i j
   | _=>False)
 | _=>False
theorem Cv{x y:D}{n:Prop}{kb:Bool->Bool->Prop}(h:bIs x y n kb):(y=.non/\n)∨∃i j,x=.bl i/\y=.bl j/\kb i j:=by
 cases y<;>first | exact h.elim | exact .inl ⟨rfl,h⟩ | (cases x<;>first | exact h.elim | exact .inr ⟨_,_,rfl,rfl,h⟩)
@[irreducible] noncomputable def aO(op:CmpOp)(x y:D)(S:Store)(W:Bool->Store->Prop):Prop:=match op with
  | .Lt=>bII x y λ i j=>W (decide (i<j)) S
  | .LtE=>bII x y λ i j=>W (decide (i≤j)) S
  | .Gt=>bII x y λ i j=>W (decide (j<i)) S
  | .GtE=>bII x y λ i j=>W (decide (j≤i)) S
  | .Eq=>bEq x y (λ i j=>W (decide (i=j)) S) (λ i j=>W (i==j) S) (Fy S x y/\W (eqD (vw S x) (vw S y)) S)
  | .NotEq=>bEq x y (λ i j=>W (!decide (i=j)) S) (λ i j=>W (!(i==j)) S) ((Fy S x y/\W (!eqD (vw S x) (vw S y)) S)∨(x=y/\ao x=true/\deep x≤50/\W false S))
  | .Is=>bIs x y (W (isN x) S) λ i j=>W (i==j) S
  | .IsNot=>bIs x y (W (!isN x) S) λ i j=>W (!(i==j)) S
  | .In=>∃ds,vw S y=.lst ds/\okD (vw S x)=true/\bJ ds=true/\aV ds≤50/\W (ds.any λ d=>eqD d (vw S x)) S
  | .NotIn=>∃ds,vw S y=.lst ds/\okD (vw S x)=true/\bJ ds=true/\aV ds≤50/\W (!(ds.any λ d=>eqD d (vw S x))) S
theorem bZ{op:CmpOp}{x y:D}{S:Store}{W:Bool->Store->Prop}{b:Bool}(h:∀V:WD,V (.bl b) S->bh X op x y S V)(w:W b S):bh X op x y S (asB W):=h (asB W) ⟨b,rfl,w⟩
theorem eU{op:CmpOp}{x y:D}{S:Store}{W:Bool->Store->Prop}(hu:X.A.units+60<cLine)(h:aO op x y S W):bh X op x y S (asB W):=by
 unfold aO at h
 cases op with
 | Lt=>obtain⟨i,j,rfl,rfl,h⟩:=dG h;exact bZ (λ _=>U9) h
 | LtE=>obtain⟨i,j,rfl,rfl,h⟩:=dG h;exact bZ (λ _=>Vi) h
 | Gt=>obtain⟨i,j,rfl,rfl,h⟩:=dG h;exact bZ (λ _=>Va) h
 | GtE=>obtain⟨i,j,rfl,rfl,h⟩:=dG h;exact bZ (λ _=>UV) h
 | Eq=>
   rcases CJ h with⟨i,j,rfl,rfl,h⟩ | ⟨i,j,rfl,rfl,h⟩ | h
   . exact bZ (λ _=>Tt) h
   . exact bZ (λ _=>Uo) h
   . exact Tu hu h.1 h.2
 | NotEq=>
   rcases CJ h with⟨i,j,rfl,rfl,h⟩ | ⟨i,j,rfl,rfl,h⟩ | h | ⟨rfl,h1,h2,h3⟩
   . exact bZ (λ _=>Uh) h
   . exact bZ (λ _=>Ux) h
   . exact Uq hu h.1 h.2
   . exact Lj hu h1 h2 ⟨false,rfl,h3⟩
 | Is=>
   rcases Cv h with⟨rfl,h⟩ | ⟨i,j,rfl,rfl,h⟩
   . exact bZ (λ V w=>Us w) h
   . exact R1 h
 | IsNot=>
   rcases Cv h with⟨rfl,h⟩ | ⟨i,j,rfl,rfl,h⟩
   . refine bZ (λ V w=>OD ?_) h
     cases x<;>exact w
   . exact HB h
 | In=>obtain⟨ds,h1,h2,h3,h4,h5⟩:=h;exact Sy hu h1 h2 h3 h4 h5
 | NotIn=>obtain⟨ds,h1,h2,h3,h4,h5⟩:=h;exact Q7 hu h1 h2 h3 h4 h5
section
variable {i j : Int} {a b : Bool} {x y : D} {S : Store} {W : Bool -> Store -> Prop}
theorem cLt(w:W (decide (i<j)) S):aO .Lt (.int i) (.int j) S W:=by unfold aO;exact w
theorem cLe(w:W (decide (i≤j)) S):aO .LtE (.int i) (.int j) S W:=by unfold aO;exact w
theorem cGt(w:W (decide (j<i)) S):aO .Gt (.int i) (.int j) S W:=by unfold aO;exact w
theorem cEqI(w:W (decide (i=j)) S):aO .Eq (.int i) (.int j) S W:=by unfold aO;exact w
theorem cNeB(w:W (!(a==b)) S):aO .NotEq (.bl a) (.bl b) S W:=by unfold aO;exact w
theorem cIsNotB(w:W (!(a==b)) S):aO .IsNot (.bl a) (.bl b) S W:=by unfold aO;exact w
theorem cIsNot(w:W (!isN x) S):aO .IsNot x .non S W:=by unfold aO;cases x<;>exact w
theorem cIn{ds:List D}(h1:vw S y=.lst ds)(h2:okD (vw S x)=true)(h3:bJ ds=true)(h4:aV ds≤50)(w:W (ds.any λ d=>eqD d (vw S x)) S):aO .In x y S W:=by unfold aO;cases x<;>exact⟨ds,h1,h2,h3,h4,w⟩
end
structure Ex(Ω:Wd) where
 lev:Nat
 chk:Bool->List Str->Nm->Expr->Bool
 wp:Gam->Store->WD->Prop
 sound:∀{X:Cx}{r:Nat}{top:Bool}{N:List Str}{nm:Nm}{e:Expr}{Γ:Gam}{S:Store}{W:WD},At Ω X r top N nm->lev≤r->chk top N nm e=true->wp Γ S W->Ev X Γ S e W
structure Te(Ω:Wd) where
 lev:Nat
 chk:Bool->List Str->Nm->Expr->Bool
 wp:Gam->Store->(Bool->Store->Prop)->Prop
 sound:∀{X:Cx}{r:Nat}{top:Bool}{N:List Str}{nm:Nm}{e:Expr}{Γ:Gam}{S:Store}{W:Bool->Store->Prop},At Ω X r top N nm->lev≤r->chk top N nm e=true->wp Γ S W->Ts X Γ S e W
structure Ar(Ω:Wd) where
 lev:Nat
 chk:Bool->List Str->Nm->List Expr->Bool
 wp:Gam->Store->(List D->Store->Prop)->Prop
 plain:∀{top:Bool}{N:List Str}{nm:Nm}{es:List Expr},chk top N nm es=true->es.all okE=true
 sound:∀{X:Cx}{r:Nat}{top:Bool}{N:List Str}{nm:Nm}{es:List Expr}{Γ:Gam}{S:Store}{W:List D->Store->Prop},At Ω X r top N nm->lev≤r->chk top N nm es=true->wp Γ S W->EvA X Γ S es W
structure Bo(Ω:Wd) where
 lev:Nat
 chk:Bool->List Str->Nm->List Expr->Bool
 wpA:Gam->Store->WD->Prop
 wpO:Gam->Store->WD->Prop
 ne:∀{top:Bool}{N:List Str}{nm:Nm}{es:List Expr},chk top N nm es=true->∃b rest,es=b::rest
 soundA:∀{X:Cx}{r:Nat}{top:Bool}{N:List Str}{nm:Nm}{es:List Expr}{Γ:Gam}{S:Store}{W:WD}{pos:Pos},At Ω X r top N nm->lev≤r->chk top N nm es=true->wpA Γ S W->Ev X Γ S (.BoolOp .And es pos) W
 soundO:∀{X:Cx}{r:Nat}{top:Bool}{N:List Str}{nm:Nm}{es:List Expr}{Γ:Gam}{S:Store}{W:WD}{pos:Pos},At Ω X r top N nm->lev≤r->chk top N nm es=true->wpO Γ S W->Ev X Γ S (.BoolOp .Or es pos) W
structure Bt(Ω:Wd) where
 lev:Nat
 chk:Bool->List Str->Nm->List Expr->Bool
 wpA:Gam->Store->(Bool->Store->Prop)->Prop
 wpO:Gam->Store->(Bool->Store->Prop)->Prop
 ne:∀{top:Bool}{N:List Str}{nm:Nm}{es:List Expr},chk top N nm es=true->∃b rest,es=b::rest
 soundA:∀{X:Cx}{r:Nat}{top:Bool}{N:List Str}{nm:Nm}{es:List Expr}{Γ:Gam}{S:Store}{W:Bool->Store->Prop}{pos:Pos},At Ω X r top N nm->lev≤r->chk top N nm es=true->wpA Γ S W->TsW X Γ S (.BoolOp .And es pos) W
 soundO:∀{X:Cx}{r:Nat}{top:Bool}{N:List Str}{nm:Nm}{es:List Expr}{Γ:Gam}{S:Store}{W:Bool->Store->Prop}{pos:Pos},At Ω X r top N nm->lev≤r->chk top N nm es=true->wpO Γ S W->TsW X Γ S (.BoolOp .Or es pos) W
theorem At.hu{Ω:Wd}{r:Nat}{top:Bool}{N:List Str}{nm:Nm}(A:At Ω X r top N nm):X.A.units+60<cLine:=by have:=A.room.un;omega
theorem lv2{a b r:Nat}(h:max a b≤r):a≤r/\b≤r:=by omega
variable {Ω : Wd}
noncomputable def Ex.var(i:Nat):Ex Ω where
 lev:=0
 chk _ N nm e:=match e with | .Name x _=>(N[i]? ==some x)&&(vis nm x&&okN x) | _=>false
 wp Γ S W:=match Γ[i]? with | some (some d)=>W d S | _=>False
 sound:=by
  intro X r top N nm e Γ S W A _ hc hw
  cases e with
  | Name x pos=>
    obtain⟨h1,h2⟩:=aa hc
    obtain⟨h2,h3⟩:=aa h2
    obtain⟨d1,d2,_⟩:=gF h3
    have h1:N[i]? =some x:=eq_of_beq h1
    cases hΓ:Γ[i]? with
    | none=>rw[hΓ]at hw;exact hw.elim
    | some o=>
      cases o with
      | none=>rw[hΓ]at hw;exact hw.elim
      | some d=>
        rw[hΓ]at hw
        exact QQ i hΓ hw (by rw[A.n];exact h1) (A.vis h2) d1 d2
  | _=>exact fE hc
noncomputable def Ex.int(i:Int):Ex Ω where
 lev:=0
 chk _ _ _ e:=match e with | .Constant (.int j) _ _=>j==i | _=>false
 wp _ S W:=W (.int i) S
 sound:=by
  intro X r top N nm e Γ S W A _ hc hw
  cases e with
  | Constant c k pos=>
    cases c with
    | int j=>have e:j=i:=eq_of_beq hc;subst e;exact J0 hw
    | _=>exact fE hc
  | _=>exact fE hc
noncomputable def Ex.bl(i:Bool):Ex Ω where
 lev:=0
 chk _ _ _ e:=match e with | .Constant (.bool j) _ _=>j==i | _=>false
 wp _ S W:=W (.bl i) S
 sound:=by
  intro X r top N nm e Γ S W A _ hc hw
  cases e with
  | Constant c k pos=>
    cases c with
    | bool j=>have e:j=i:=eq_of_beq hc;subst e;exact Tz hw
    | _=>exact fE hc
  | _=>exact fE hc
noncomputable def Ex.non:Ex Ω where
 lev:=0
 chk _ _ _ e:=match e with | .Constant .none _ _=>true | _=>false
 wp _ S W:=W .non S
 sound:=by
  intro X r top N nm e Γ S W A _ hc hw
  cases e with
  | Constant c k pos=>
    cases c with
    | none=>exact Qp hw
    | _=>exact fE hc
  | _=>exact fE hc
noncomputable def Ex.gint{x:Str}{i:Int}(h:∃t,Ω.mg x=some (.int i t)):Ex Ω where
 lev:=0
 chk _ _ nm e:=match e with | .Name y _=>(y==x)&&(glb nm x&&okN x) | _=>false
 wp _ S W:=W (.int i) S
 sound:=by
  intro X r top N nm e Γ S W A _ hc hw
  cases e with
  | Name y pos=>
    obtain⟨h1,h2⟩:=aa hc
    obtain⟨h2,h3⟩:=aa h2
    have e:y=x:=eq_of_beq h1
    subst e
    obtain⟨t,h⟩:=h
    exact Lr (by rw[A.g];exact h) hw (A.glb h2) (gF h3).1
  | _=>exact fE hc
noncomputable def Ex.bin(op:Operator)(a b:Ex Ω):Ex Ω where
 lev:=max a.lev b.lev
 chk top N nm e:=match e with | .BinOp l o r _=>(o==op)&&(a.chk top N nm l&&b.chk top N nm r) | _=>false
 wp Γ S W:=a.wp Γ S λ x S1=>b.wp Γ S1 λ y S2=>Nf op x y S2 W
 sound:=by
  intro X r top N nm e Γ S W A hl hc hw
  obtain⟨l1,l2⟩:=lv2 hl
  cases e with
  | BinOp l o r' pos=>
    obtain⟨h1,h2⟩:=aa hc
    obtain⟨h2,h3⟩:=aa h2
    have e:o=op:=eq_of_beq h1
    subst e
    exact xW ((a.sound A l1 h2 hw).mono λ x S1 q=>(b.sound A l2 h3 q).mono λ y S2 q=>J7 q)
  | _=>exact fE hc
noncomputable def Ex.cmp(op:CmpOp)(a b:Ex Ω):Ex Ω where
 lev:=max a.lev b.lev
 chk top N nm e:=match e with | .Compare l [o] [r] _=>(o==op)&&(okE r&&(a.chk top N nm l&&b.chk top N nm r)) | _=>false
 wp Γ S W:=a.wp Γ S λ x S1=>b.wp Γ S1 λ y S2=>aO op x y S2 λ c S3=>W (.bl c) S3
 sound:=by
  intro X r top N nm e Γ S W A hl hc hw
  obtain⟨l1,l2⟩:=lv2 hl
  cases e with
  | Compare l os rs pos=>
    match os,rs,hc with
    | [o],[r'],hc=>
      obtain⟨h1,h2⟩:=aa hc
      obtain⟨h0,h2⟩:=aa h2
      obtain⟨h2,h3⟩:=aa h2
      have e:o=op:=eq_of_beq h1
      subst e
      exact Rt ((a.sound A l1 h2 hw).mono λ x S1 q=>(b.sound A l2 h3 q).mono λ y S2 q=>(eU A.hu q).mono λ d S3 ⟨c,e,w⟩=>by subst e;exact w) (eQ h0)
    | [],_,hc=>exact fE hc
    | [_],[],hc=>exact fE hc
    | [_],_::_::_,hc=>exact fE hc
    | _::_::_,_,hc=>exact fE hc
  | _=>exact fE hc
noncomputable def Te.cmp(op:CmpOp)(a b:Ex Ω):Te Ω where
 lev:=max a.lev b.lev
 chk top N nm e:=match e with | .Compare l [o] [r] _=>(o==op)&&(okE r&&(a.chk top N nm l&&b.chk top N nm r)) | _=>false
 wp Γ S W:=a.wp Γ S λ x S1=>b.wp Γ S1 λ y S2=>aO op x y S2 W
 sound:=by
  intro X r top N nm e Γ S W A hl hc hw
  obtain⟨l1,l2⟩:=lv2 hl
  cases e with
  | Compare l os rs pos=>
    match os,rs,hc with
    | [o],[r'],hc=>
      obtain⟨h1,h2⟩:=aa hc
      obtain⟨h0,h2⟩:=aa h2
      obtain⟨h2,h3⟩:=aa h2
      have e:o=op:=eq_of_beq h1
      subst e
      exact zz ((a.sound A l1 h2 hw).mono λ x S1 q=>(b.sound A l2 h3 q).mono λ y S2 q=>eU A.hu q) (eQ h0)
    | [],_,hc=>exact fE hc
    | [_],[],hc=>exact fE hc
    | [_],_::_::_,hc=>exact fE hc
    | _::_::_,_,hc=>exact fE hc
  | _=>exact fE hc
noncomputable abbrev M3(a:Ex Ω)(o1:CmpOp)(b:Ex Ω)(o2:CmpOp)(c:Ex Ω)(Γ:Gam)(S:Store)(W:Bool->Store->Prop):Prop:=
 a.wp Γ S λ x S1=>b.wp Γ S1 λ y S2=>aO o1 x y S2 λ k S3=>(k=false->W false S3)/\(k=true->c.wp Γ S3 λ t S4=>aO o2 y t S4 W)
noncomputable def Ex.ch2(a:Ex Ω)(o1:CmpOp)(b:Ex Ω)(o2:CmpOp)(c:Ex Ω):Ex Ω where
 lev:=max (max a.lev b.lev) c.lev
 chk top N nm e:=match e with | .Compare l [p1,p2] [m,r] _=>(p1==o1)&&((p2==o2)&&(okE r&&(a.chk top N nm l&&(b.chk top N nm m&&c.chk top N nm r)))) | _=>false
 wp Γ S W:=M3 a o1 b o2 c Γ S λ k S1=>W (.bl k) S1
 sound:=by
  intro X r top N nm e Γ S W A hl hc hw
  obtain⟨l1,l3⟩:=lv2 hl
  obtain⟨l1,l2⟩:=lv2 l1
  cases e with
  | Compare l os rs pos=>
    match os,rs,hc with
    | [p1,p2],[m,r'],hc=>
      obtain⟨h1,h2⟩:=aa hc
      obtain⟨h2,h3⟩:=aa h2
      obtain⟨h0,h3⟩:=aa h3
      obtain⟨h3,h4⟩:=aa h3
      obtain⟨h4,h5⟩:=aa h4
      have e:p1=o1:=eq_of_beq h1
      subst e
      have e:p2=o2:=eq_of_beq h2
      subst e
      refine Ks ((a.sound A l1 h3 hw).mono λ x S1 q=>(b.sound A l2 h4 q).mono λ y S2 q=>(eU A.hu q).mono λ d S3 ⟨k,e,w⟩=>⟨k,e,w.1,λ hk=>(c.sound A l3 h5 (w.2 hk)).mono λ t S4 q=>(eU A.hu q).mono λ d S3 ⟨c,e,w⟩=>by subst e;exact w⟩) (eQ h0)
    | [],_,hc=>exact fE hc
    | [_],_,hc=>exact fE hc
    | [_,_],[],hc=>exact fE hc
    | [_,_],[_],hc=>exact fE hc
    | [_,_],_::_::_::_,hc=>exact fE hc
    | _::_::_::_,_,hc=>exact fE hc
  | _=>exact fE hc
noncomputable def Te.ch2(a:Ex Ω)(o1:CmpOp)(b:Ex Ω)(o2:CmpOp)(c:Ex Ω):Te Ω where
 lev:=max (max a.lev b.lev) c.lev
 chk top N nm e:=match e with | .Compare l [p1,p2] [m,r] _=>(p1==o1)&&((p2==o2)&&(okE r&&(a.chk top N nm l&&(b.chk top N nm m&&c.chk top N nm r)))) | _=>false
 wp Γ S W:=M3 a o1 b o2 c Γ S W
 sound:=by
  intro X r top N nm e Γ S W A hl hc hw
  obtain⟨l1,l3⟩:=lv2 hl
  obtain⟨l1,l2⟩:=lv2 l1
  cases e with
  | Compare l os rs pos=>
    match os,rs,hc with
    | [p1,p2],[m,r'],hc=>
      obtain⟨h1,h2⟩:=aa hc
      obtain⟨h2,h3⟩:=aa h2
      obtain⟨h0,h3⟩:=aa h3
      obtain⟨h3,h4⟩:=aa h3
      obtain⟨h4,h5⟩:=aa h4
      have e:p1=o1:=eq_of_beq h1
      subst e
      have e:p2=o2:=eq_of_beq h2
      subst e
      refine Hr ((a.sound A l1 h3 hw).mono λ x S1 q=>(b.sound A l2 h4 q).mono λ y S2 q=>(eU A.hu q).mono λ d S3 ⟨k,e,w⟩=>⟨k,e,w.1,λ hk=>(c.sound A l3 h5 (w.2 hk)).mono λ t S4 q=>eU A.hu q⟩) (eQ h0)
    | [],_,hc=>exact fE hc
    | [_],_,hc=>exact fE hc
    | [_,_],[],hc=>exact fE hc
    | [_,_],[_],hc=>exact fE hc
    | [_,_],_::_::_::_,hc=>exact fE hc
    | _::_::_::_,_,hc=>exact fE hc
  | _=>exact fE hc
noncomputable def Te.val(a:Ex Ω):Te Ω where
 lev:=a.lev
 chk top N nm e:=KD e&&a.chk top N nm e
 wp Γ S W:=a.wp Γ S λ d S1=>match d with | .bl c=>W c S1 | _=>False
 sound:=by
  intro X r top N nm e Γ S W A hl hc hw
  obtain⟨h1,h2⟩:=aa hc
  refine RZ ((a.sound A hl h2 hw).mono λ d S1 q=>?_) (Ja h1 _)
  cases d<;>first | exact⟨_,rfl,q⟩ | exact q.elim
noncomputable def Te.not(t:Te Ω):Te Ω where
 lev:=t.lev
 chk top N nm e:=match e with | .UnaryOp .Not a _=>t.chk top N nm a | _=>false
 wp Γ S W:=t.wp Γ S λ c S1=>W (!c) S1
 sound:=by
  intro X r top N nm e Γ S W A hl hc hw
  cases e with
  | UnaryOp o a pos=>
    cases o with
    | Not=>exact R3 (t.sound A hl hc hw)
    | _=>exact fE hc
  | _=>exact fE hc
noncomputable def Bt.one(t:Te Ω):Bt Ω where
 lev:=t.lev
 chk top N nm es:=match es with | [e]=>t.chk top N nm e | _=>false
 wpA Γ S W:=t.wp Γ S W
 wpO Γ S W:=t.wp Γ S W
 ne:=by
  intro top N nm es hc
  match es,hc with
  | [e],_=>exact⟨_,_,rfl⟩
  | [],hc=>exact fE hc
  | _::_::_,hc=>exact fE hc
 soundA:=by
  intro X r top N nm es Γ S W pos A hl hc hw
  match es,hc with
  | [e],hc=>exact tw_and1 (t.sound A hl hc hw)
  | [],hc=>exact fE hc
  | _::_::_,hc=>exact fE hc
 soundO:=by
  intro X r top N nm es Γ S W pos A hl hc hw
  match es,hc with
  | [e],hc=>exact tw_or1 (t.sound A hl hc hw)
  | [],hc=>exact fE hc
  | _::_::_,hc=>exact fE hc
noncomputable def Bt.cons(t:Te Ω)(r:Bt Ω):Bt Ω where
 lev:=max t.lev r.lev
 chk top N nm es:=match es with | e::es=>t.chk top N nm e&&r.chk top N nm es | _=>false
 wpA Γ S W:=t.wp Γ S λ c S1=>(c=true->r.wpA Γ S1 W)/\(c=false->W false S1)
 wpO Γ S W:=t.wp Γ S λ c S1=>(c=true->W true S1)/\(c=false->r.wpO Γ S1 W)
 ne:=by
  intro top N nm es hc
  match es,hc with
  | _::_,_=>exact⟨_,_,rfl⟩
  | [],hc=>exact fE hc
 soundA:=by
  intro X r' top N nm es Γ S W pos A hl hc hw
  obtain⟨l1,l2⟩:=lv2 hl
  match es,hc with
  | e::es,hc=>
    obtain⟨h1,h2⟩:=aa hc
    obtain⟨b,rest,rfl⟩:=r.ne h2
    exact tw_and (Ts.mono (t.sound A l1 h1 hw) λ c S1 q=>⟨λ hk=>r.soundA A l2 h2 (q.1 hk),q.2⟩)
  | [],hc=>exact fE hc
 soundO:=by
  intro X r' top N nm es Γ S W pos A hl hc hw
  obtain⟨l1,l2⟩:=lv2 hl
  match es,hc with
  | e::es,hc=>
    obtain⟨h1,h2⟩:=aa hc
    obtain⟨b,rest,rfl⟩:=r.ne h2
    exact tw_or (Ts.mono (t.sound A l1 h1 hw) λ c S1 q=>⟨q.1,λ hk=>r.soundO A l2 h2 (q.2 hk)⟩)
  | [],hc=>exact fE hc
noncomputable def Te.and(l:Bt Ω):Te Ω where
 lev:=l.lev
 chk top N nm e:=match e with | .BoolOp .And es _=>l.chk top N nm es | _=>false
 wp Γ S W:=l.wpA Γ S W
 sound:=by
  intro X r top N nm e Γ S W A hl hc hw
  cases e with
  | BoolOp o es pos=>
    cases o with
    | And=>exact(l.soundA A hl hc hw).ts
    | _=>exact fE hc
  | _=>exact fE hc
noncomputable def Te.or(l:Bt Ω):Te Ω where
 lev:=l.lev
 chk top N nm e:=match e with | .BoolOp .Or es _=>l.chk top N nm es | _=>false
 wp Γ S W:=l.wpO Γ S W
 sound:=by
  intro X r top N nm e Γ S W A hl hc hw
  cases e with
  | BoolOp o es pos=>
    cases o with
    | Or=>exact(l.soundO A hl hc hw).ts
    | _=>exact fE hc
  | _=>exact fE hc
noncomputable def Bo.one(t:Ex Ω):Bo Ω where
 lev:=t.lev
 chk top N nm es:=match es with | [e]=>t.chk top N nm e | _=>false
 wpA Γ S W:=t.wp Γ S W
 wpO Γ S W:=t.wp Γ S W
 ne:=by
  intro top N nm es hc
  match es,hc with
  | [e],_=>exact⟨_,_,rfl⟩
  | [],hc=>exact fE hc
  | _::_::_,hc=>exact fE hc
 soundA:=by
  intro X r top N nm es Γ S W pos A hl hc hw
  match es,hc with
  | [e],hc=>exact JK (t.sound A hl hc hw)
  | [],hc=>exact fE hc
  | _::_::_,hc=>exact fE hc
 soundO:=by
  intro X r top N nm es Γ S W pos A hl hc hw
  match es,hc with
  | [e],hc=>exact JK (t.sound A hl hc hw)
  | [],hc=>exact fE hc
  | _::_::_,hc=>exact fE hc
noncomputable def Bo.cons(t:Ex Ω)(r:Bo Ω):Bo Ω where
 lev:=max t.lev r.lev
 chk top N nm es:=match es with | e::es=>t.chk top N nm e&&r.chk top N nm es | _=>false
 wpA Γ S W:=t.wp Γ S λ d S1=>match d with | .bl c=>(c=true->r.wpA Γ S1 W)/\(c=false->W (.bl false) S1) | _=>False
 wpO Γ S W:=t.wp Γ S λ d S1=>match d with | .bl c=>(c=true->W (.bl true) S1)/\(c=false->r.wpO Γ S1 W) | _=>False
 ne:=by
  intro top N nm es hc
  match es,hc with
  | _::_,_=>exact⟨_,_,rfl⟩
  | [],hc=>exact fE hc
 soundA:=by
  intro X r' top N nm es Γ S W pos A hl hc hw
  obtain⟨l1,l2⟩:=lv2 hl
  match es,hc with
  | e::es,hc=>
    obtain⟨h1,h2⟩:=aa hc
    obtain⟨b,rest,rfl⟩:=r.ne h2
    refine Rm ((t.sound A l1 h1 hw).mono λ d S1 q=>?_)
    cases d<;>first | exact⟨_,rfl,λ hk=>r.soundA A l2 h2 (q.1 hk),q.2⟩ | exact q.elim
  | [],hc=>exact fE hc
 soundO:=by
  intro X r' top N nm es Γ S W pos A hl hc hw
  obtain⟨l1,l2⟩:=lv2 hl
  match es,hc with
  | e::es,hc=>
    obtain⟨h1,h2⟩:=aa hc
    obtain⟨b,rest,rfl⟩:=r.ne h2
    refine TY ((t.sound A l1 h1 hw).mono λ d S1 q=>?_)
    cases d<;>first | exact⟨_,rfl,q.1,λ hk=>r.soundO A l2 h2 (q.2 hk)⟩ | exact q.elim
  | [],hc=>exact fE hc
noncomputable def Ex.and(l:Bo Ω):Ex Ω where
 lev:=l.lev
 chk top N nm e:=match e with | .BoolOp .And es _=>l.chk top N nm es | _=>false
 wp Γ S W:=l.wpA Γ S W
 sound:=by
  intro X r top N nm e Γ S W A hl hc hw
  cases e with
  | BoolOp o es pos=>
    cases o with
    | And=>exact l.soundA A hl hc hw
    | _=>exact fE hc
  | _=>exact fE hc
noncomputable def Ex.or(l:Bo Ω):Ex Ω where
 lev:=l.lev
 chk top N nm e:=match e with | .BoolOp .Or es _=>l.chk top N nm es | _=>false
 wp Γ S W:=l.wpO Γ S W
 sound:=by
  intro X r top N nm e Γ S W A hl hc hw
  cases e with
  | BoolOp o es pos=>
    cases o with
    | Or=>exact l.soundO A hl hc hw
    | _=>exact fE hc
  | _=>exact fE hc
noncomputable def Ex.not(a:Ex Ω):Ex Ω where
 lev:=a.lev
 chk top N nm e:=match e with | .UnaryOp .Not b _=>a.chk top N nm b | _=>false
 wp Γ S W:=a.wp Γ S λ d S1=>match d with | .bl c=>W (.bl (!c)) S1 | _=>False
 sound:=by
  intro X r top N nm e Γ S W A hl hc hw
  cases e with
  | UnaryOp o b pos=>
    cases o with
    | Not=>
      refine RJ ((a.sound A hl hc hw).mono λ d S1 q=>?_)
      cases d<;>first | exact⟨_,rfl,q⟩ | exact q.elim
    | _=>exact fE hc
  | _=>exact fE hc
noncomputable def Ex.neg(a:Ex Ω):Ex Ω where
 lev:=a.lev
 chk top N nm e:=match e with | .UnaryOp .USub b _=>a.chk top N nm b | _=>false
 wp Γ S W:=a.wp Γ S λ d S1=>match d with | .int c=>W (.int (-c)) S1 | _=>False
 sound:=by
  intro X r top N nm e Γ S W A hl hc hw
  cases e with
  | UnaryOp o b pos=>
    cases o with
    | USub=>
      refine Hz ((a.sound A hl hc hw).mono λ d S1 q=>?_)
      cases d<;>first | exact⟨_,rfl,q⟩ | exact q.elim
    | _=>exact fE hc
  | _=>exact fE hc
noncomputable def Ar.nil:Ar Ω where
 lev:=0
 chk _ _ _ es:=match es with | []=>true | _=>false
 wp _ S W:=W [] S
 plain:=by
  intro top N nm es hc
  match es,hc with
  | [],_=>rfl
  | _::_,hc=>exact fE hc
 sound:=by
  intro X r top N nm es Γ S W A _ hc hw
  match es,hc with
  | [],_=>exact gh hw
  | _::_,hc=>exact fE hc
noncomputable def Ar.cons(a:Ex Ω)(r:Ar Ω):Ar Ω where
 lev:=max a.lev r.lev
 chk top N nm es:=match es with | e::es=>okE e&&(a.chk top N nm e&&r.chk top N nm es) | _=>false
 wp Γ S W:=a.wp Γ S λ d S1=>r.wp Γ S1 λ ds S2=>W (d::ds) S2
 plain:=by
  intro top N nm es hc
  match es,hc with
  | e::es,hc=>
    obtain⟨h1,h2⟩:=aa hc
    obtain⟨h2,h3⟩:=aa h2
    rw[List.all_cons,h1,r.plain h3];rfl
  | [],hc=>exact fE hc
 sound:=by
  intro X r' top N nm es Γ S W A hl hc hw
  obtain⟨l1,l2⟩:=lv2 hl
  match es,hc with
  | e::es,hc=>
    obtain⟨h1,h2⟩:=aa hc
    obtain⟨h2,h3⟩:=aa h2
    exact cC ((a.sound A l1 h2 hw).mono λ d S1 q=>r.sound A l2 h3 q) (aC h1 _ _)
  | [],hc=>exact fE hc
noncomputable def Ex.tup(as:Ar Ω):Ex Ω where
 lev:=as.lev
 chk top N nm e:=match e with | .Tuple es _ _=>as.chk top N nm es | _=>false
 wp Γ S W:=as.wp Γ S λ ds S1=>ds.length≤1000000/\W (.tup ds) S1
 sound:=by
  intro X r top N nm e Γ S W A hl hc hw
  cases e with
  | Tuple es k pos=>exact QJ (as.sound A hl hc hw)
  | _=>exact fE hc
noncomputable def Ex.lst(as:Ar Ω):Ex Ω where
 lev:=as.lev
 chk top N nm e:=match e with | .List es _=>as.chk top N nm es | _=>false
 wp Γ S W:=as.wp Γ S λ ds S1=>ds.length≤1000000/\W (.lst ds) S1
 sound:=by
  intro X r top N nm e Γ S W A hl hc hw
  cases e with
  | List es pos=>exact Q8 (as.sound A hl hc hw)
  | _=>exact fE hc
noncomputable def Ex.own(as:Ar Ω):Ex Ω where
 lev:=as.lev
 chk top N nm e:=match e with | .List es _=>as.chk top N nm es | _=>false
 wp Γ S W:=as.wp Γ S λ ds S1=>ds.length≤1000000/\W (.loc S1.length) (S1++[ds])
 sound:=by
  intro X r top N nm e Γ S W A hl hc hw
  cases e with
  | List es pos=>exact Ol (as.sound A hl hc hw)
  | _=>exact fE hc
noncomputable def Ex.ix(a b:Ex Ω):Ex Ω where
 lev:=max a.lev b.lev
 chk top N nm e:=match e with | .Subscript l r _=>okE r&&(a.chk top N nm l&&b.chk top N nm r) | _=>false
 wp Γ S W:=a.wp Γ S λ x S1=>b.wp Γ S1 λ y S2=>Kz x y S2 W
 sound:=by
  intro X r top N nm e Γ S W A hl hc hw
  obtain⟨l1,l2⟩:=lv2 hl
  cases e with
  | Subscript l r' pos=>
    obtain⟨h1,h2⟩:=aa hc
    obtain⟨h2,h3⟩:=aa h2
    exact Sv ((a.sound A l1 h2 hw).mono λ x S1 q=>(b.sound A l2 h3 q).mono λ y S2 q=>NB q) (Ku h1)
  | _=>exact fE hc
structure Po(Ω:Wd) where
 lev:Nat
 chk:Bool->List Str->Nm->Option Expr->Bool
 wp:Gam->Store->(Option Int->Store->Prop)->Prop
 sound:∀{X:Cx}{r:Nat}{top:Bool}{N:List Str}{nm:Nm}{e:Option Expr}{Γ:Gam}{S:Store}{W:Option Int->Store->Prop},At Ω X r top N nm->lev≤r->chk top N nm e=true->wp Γ S W->PoD X Γ S e W
noncomputable def Po.no:Po Ω where
 lev:=0
 chk _ _ _ e:=match e with | none=>true | _=>false
 wp _ S W:=W none S
 sound:=by
  intro X r top N nm e Γ S W A hl hc hw
  cases e with
  | none=>exact Vb hw
  | some e=>exact fE hc
noncomputable def Po.so(a:Ex Ω):Po Ω where
 lev:=a.lev
 chk top N nm e:=match e with | some e=>a.chk top N nm e | _=>false
 wp Γ S W:=a.wp Γ S λ d S1=>match d with | .int i=>W (some i) S1 | _=>False
 sound:=by
  intro X r top N nm e Γ S W A hl hc hw
  cases e with
  | some e=>
    refine UW ((a.sound A hl hc hw).mono λ d S1 q=>?_)
    cases d<;>first | exact⟨_,rfl,q⟩ | exact q.elim
  | none=>exact fE hc
theorem PoD.mono{Γ:Gam}{S:Store}{e:Option Expr}{W W':Option Int->Store->Prop}(h:PoD X Γ S e W)(k:∀c S',W c S'->W' c S'):PoD X Γ S e W':=by
 cases e with
 | none=>exact k _ _ h
 | some e=>exact Ev.mono h λ d S1 ⟨i,e,w⟩=>⟨i,e,k _ _ w⟩
noncomputable def Ex.sl(a:Ex Ω)(lo hi:Po Ω):Ex Ω where
 lev:=max a.lev (max lo.lev hi.lev)
 chk top N nm e:=match e with | .Subscript l (.Slice x y none _) _=>a.chk top N nm l&&(lo.chk top N nm x&&hi.chk top N nm y) | _=>false
 wp Γ S W:=a.wp Γ S λ x S1=>lo.wp Γ S1 λ l S2=>hi.wp Γ S2 λ h S3=>Ml x l h S3 W
 sound:=by
  intro X r top N nm e Γ S W A hl hc hw
  obtain⟨l1,l2⟩:=lv2 hl
  obtain⟨l2,l3⟩:=lv2 l2
  cases e with
  | Subscript l sl pos=>
    cases sl with
    | Slice x y z p2=>
      cases z with
      | none=>
        obtain⟨h1,h2⟩:=aa hc
        obtain⟨h2,h3⟩:=aa h2
        exact KC ((a.sound A l1 h1 hw).mono λ x S1 q=>PoD.mono (lo.sound A l2 h2 q) λ l S2 q=>PoD.mono (hi.sound A l3 h3 q) λ h S3 q=>Qg q)
      | some _=>exact fE hc
    | _=>exact fE hc
  | _=>exact fE hc
noncomputable def Ex.call{x:Str}{k n:Nat}{F:Ct}(C:Callee Ω.P Ω.w Ω.K Ω.mg Ω.base x k n F)(as:Ar Ω):Ex Ω where
 lev:=max k as.lev
 chk top N nm e:=match e with | .Call (.Name y _) (a::es) [] _=>(y==x)&&(glb nm x&&(okN x&&as.chk top N nm (a::es))) | _=>false
 wp Γ S W:=as.wp Γ S λ ds S1=>ds.length=n/\F ds S1 W
 sound:=by
  intro X r top N nm e Γ S W A hl hc hw
  obtain⟨l1,l2⟩:=lv2 hl
  cases e with
  | Call f es ks pos=>
    cases f with
    | Name y p=>
      match es,ks,hc with
      | a::es,[],hc=>
        obtain⟨h1,h2⟩:=aa hc
        obtain⟨h2,h3⟩:=aa h2
        obtain⟨h3,h4⟩:=aa h3
        have e:y=x:=eq_of_beq h1
        subst e
        have pl:=as.plain h4
        rw[List.all_cons]at pl
        obtain⟨p1,p2⟩:=aa pl
        have C':Callee X.prog X.w X.K X.mg X.base y k n F:=by rw[A.p,A.w,A.k,A.g,A.b];exact C
        exact PT C' (A.room.mono l1) (as.sound A l2 h4 hw) (A.glb h2) (gF h3).1 (aC p1 _ _) (qe p2 _ _)
      | [],_,hc=>exact fE hc
      | _::_,_::_,hc=>exact fE hc
    | _=>exact fE hc
  | _=>exact fE hc
structure Bf where
 x:Str
 id:String
 boot:bootBuiltins x=some (.builtin id)
 wp:List D->Store->WD->Prop
 sound:∀{X:Cx}{ds:List D}{S:Store}{W:WD},X.calm=true->Room 0 X.A->wp ds S W->dm X (.builtin id) ds S W
noncomputable def Ex.blt(b:Bf)(hm:Ω.mg b.x=none)(as:Ar Ω):Ex Ω where
 lev:=as.lev
 chk top N nm e:=match e with | .Call (.Name y _) (a::es) [] _=>(y==b.x)&&(glb nm b.x&&(okN b.x&&as.chk top N nm (a::es))) | _=>false
 wp Γ S W:=as.wp Γ S λ ds S1=>b.wp ds S1 W
 sound:=by
  intro X r top N nm e Γ S W A hl hc hw
  cases e with
  | Call f es ks pos=>
    cases f with
    | Name y p=>
      match es,ks,hc with
      | a::es,[],hc=>
        obtain⟨h1,h2⟩:=aa hc
        obtain⟨h2,h3⟩:=aa h2
        obtain⟨h3,h4⟩:=aa h3
        have e:y=b.x:=eq_of_beq h1
        subst e
        have pl:=as.plain h4
        rw[List.all_cons]at pl
        obtain⟨p1,p2⟩:=aa pl
        exact MK (EvA.mono (as.sound A hl h4 hw) λ ds S1 q=>b.sound A.calm (A.room.mono (Nat.zero_le _)) q) (by rw[A.g];exact hm) b.boot (A.glb h2) (gF h3).2.2 (gF h3).1 (aC p1 _ _) (qe p2 _ _)
      | [],_,hc=>exact fE hc
      | _::_,_::_,hc=>exact fE hc
    | _=>exact fE hc
  | _=>exact fE hc
structure Bc where
 x:Str
 id:String
 boot:bootBuiltins x=some (.type id)
 wp:List D->Store->WD->Prop
 sound:∀{X:Cx}{ds:List D}{S:Store}{W:WD},X.calm=true->Room 0 X.A->wp ds S W->dm X (.type id) ds S W
noncomputable def Ex.typ(b:Bc)(hm:Ω.mg b.x=none)(as:Ar Ω):Ex Ω where
 lev:=as.lev
 chk top N nm e:=match e with | .Call (.Name y _) (a::es) [] _=>(y==b.x)&&(glb nm b.x&&(okN b.x&&as.chk top N nm (a::es))) | _=>false
 wp Γ S W:=as.wp Γ S λ ds S1=>b.wp ds S1 W
 sound:=by
  intro X r top N nm e Γ S W A hl hc hw
  cases e with
  | Call f es ks pos=>
    cases f with
    | Name y p=>
      match es,ks,hc with
      | a::es,[],hc=>
        obtain⟨h1,h2⟩:=aa hc
        obtain⟨h2,h3⟩:=aa h2
        obtain⟨h3,h4⟩:=aa h3
        have e:y=b.x:=eq_of_beq h1
        subst e
        have pl:=as.plain h4
        rw[List.all_cons]at pl
        obtain⟨p1,p2⟩:=aa pl
        exact Lg (EvA.mono (as.sound A hl h4 hw) λ ds S1 q=>b.sound A.calm (A.room.mono (Nat.zero_le _)) q) (by rw[A.g];exact hm) b.boot (A.glb h2) (gF h3).2.2 (gF h3).1 (aC p1 _ _) (qe p2 _ _)
      | [],_,hc=>exact fE hc
      | _::_,_::_,hc=>exact fE hc
    | _=>exact fE hc
  | _=>exact fE hc
noncomputable def Ex.isi(hm:Ω.mg "isinstance"=none)(a:Ex Ω)(T:Ty)(hT:Ω.mg T.nm=none):Ex Ω where
 lev:=a.lev
 chk top N nm e:=match e with | .Call (.Name y _) [b,.Name t _] [] _=>(y==("isinstance":Str))&&(glb nm "isinstance"&&((t==T.nm)&&(glb nm T.nm&&(okE b&&a.chk top N nm b)))) | _=>false
 wp Γ S W:=a.wp Γ S λ d S1=>W (.bl (isD T d)) S1
 sound:=by
  intro X r top N nm e Γ S W A hl hc hw
  split at hc
  . rename_i y p b t q pos
    obtain⟨h1,g2⟩:=aa hc
    obtain⟨h2,g3⟩:=aa g2
    obtain⟨h3,g4⟩:=aa g3
    obtain⟨h4,g5⟩:=aa g4
    obtain⟨h5,h6⟩:=aa g5
    have e:y="isinstance":=eq_of_beq h1
    subst e
    have e:t=T.nm:=eq_of_beq h3
    subst e
    exact Qw (Tn:=T.id) ((a.sound A hl h6 hw).mono λ d S1 q=>by rw[RB];exact q) T.isT T.boot (by rw[A.g];exact hm) (by rw[A.g];exact hT) (A.glb h2) (A.glb h4) T.ok.2 T.ok.1 (aC h5 _ _) (aC (e:=.Name T.nm q) rfl [] _)
  . exact fE hc
end RF
namespace RF
open PySem PySem.Spec L2 DL
open PyProof.Rows
variable {Γ : Gam}
inductive Tg where
 | nm(i:Nat) | tup(is:List Nat)
noncomputable def setAll:Gam->List Nat->List D->Gam
 | Γ,i::is,d::ds=>setAll (Γ.set i (some d)) is ds
 | Γ,_,_=>Γ
noncomputable def Tg.wp:Tg->D->Gam->(Gam->Prop)->Prop
 | .nm i,d,Γ,W=>W (Γ.set i (some d))
 | .tup is,.tup ds,Γ,W=>ds.length=is.length/\W (setAll Γ is ds)
 | .tup _,_,_,_=>False
noncomputable def Tg.slots:Tg->List Nat
 | .nm i=>[i]
 | .tup is=>is
noncomputable def wz(top:Bool)(N:List Str)(nm:Nm)(i:Nat)(e:Expr):Bool:=match e with | .Name x _=>(N[i]? ==some x)&&lcl top nm x | _=>false
noncomputable def fL(top:Bool)(N:List Str)(nm:Nm):List Nat->List Expr->Bool
 | [],[]=>true
 | i::is,e::es=>wz top N nm i e&&fL top N nm is es
 | _,_=>false
noncomputable def Tg.chk(t:Tg)(top:Bool)(N:List Str)(nm:Nm)(e:Expr):Bool:=match t with
 | .nm i=>wz top N nm i e
 | .tup is=>match e with | .Tuple es _ _=>fL top N nm is es | _=>false
section
variable {Ω : Wd} {X : Cx} {r : Nat} {top : Bool} {N : List Str} {nm : Nm}
theorem GR(A:At Ω X r top N nm){i:Nat}{e:Expr}{d:D}{Γ:Gam}{S:Store}{W:Gam->Store->Prop}(hc:wz top N nm i e=true)(hw:W (Γ.set i (some d)) S):BdW X e d Γ S W:=by
 cases e with
 | Name x pos=>
   obtain⟨h1,h2⟩:=aa hc
   have h1:N[i]? =some x:=eq_of_beq h1
   obtain⟨l1,l2⟩:=A.lcl h2
   exact Oz i hw (by rw[A.n];exact A.nd) (by rw[A.n];exact h1) l1 l2
 | _=>exact fE hc
theorem zA{i:Nat}{is:List Nat}{es:List Expr}(h:fL top N nm (i::is) es=true):∃x p es',es=.Name x p::es'/\wz top N nm i (.Name x p)=true/\fL top N nm is es'=true:=by
 cases es with
 | nil=>exact(y6 h).elim
 | cons e es=>
   obtain⟨h1,h2⟩:=aa h
   cases e with
   | Name x p=>exact⟨x,p,es,rfl,h1,h2⟩
   | _=>exact(y6 h1).elim
theorem Ds{es:List Expr}(h:fL top N nm [] es=true):es=[]:=by
 cases es with
 | nil=>rfl
 | cons e es=>exact(y6 h).elim
theorem Iu(A:At Ω X r top N nm){S:Store}{W:Gam->Store->Prop}:∀{is:List Nat}{es:List Expr}{ds:List D}{Γ:Gam},fL top N nm is es=true->ds.length=is.length->W (setAll Γ is ds) S->xF X es ds Γ S W
 | [],es,ds,Γ,hc,hl,hw=>by
   have e:=Ds hc
   subst e
   have e:ds=[]:=by simpa using hl
   subst e
   exact Oj hw
 | i::is,es,ds,Γ,hc,hl,hw=>by
   obtain⟨x,p,es',rfl,h1,h2⟩:=zA hc
   cases ds with
   | nil=>simp at hl
   | cons d ds=>exact Kp (GR A h1 (Iu A h2 (by simpa using hl) hw)) rfl
theorem Dw:∀{is:List Nat}{es:List Expr},fL top N nm is es=true->∀env:Env,(assignEach es env).length=is.length/\(assignEach es env).findIdx? (·.1)=none
 | [],es,hc,env=>by
   have e:=Ds hc
   subst e
   exact⟨rfl,rfl⟩
 | i::is,es,hc,env=>by
   obtain⟨x,p,es',rfl,h1,h2⟩:=zA hc
   obtain⟨a,b⟩:=Dw h2 env
   have e:assignEach (.Name x p::es') env=(false,assign (.Name x p) env)::assignEach es' env:=rfl
   rw[e]
   refine⟨by simp[a],?_⟩
   rw[List.findIdx?_cons,b]
   rfl
theorem Tg.sound(A:At Ω X r top N nm){t:Tg}{e:Expr}{d:D}{Γ:Gam}{S:Store}{W:Gam->Store->Prop}(hc:t.chk top N nm e=true)(hw:t.wp d Γ λ Γ'=>W Γ' S):BdW X e d Γ S W:=by
 cases t with
 | nm i=>exact GR A hc hw
 | tup is=>
   cases e with
   | Tuple es k pos=>
     have hc:fL top N nm is es=true:=hc
     cases d with
     | tup ds=>
       obtain⟨hl,hw⟩:ds.length=is.length/\W (setAll Γ is ds) S:=hw
       obtain⟨a,b⟩:=Dw hc X.env
       exact Sh (Iu A hc hl hw) A.calm (a.trans hl.symm) b
     | _=>exact hw.elim
   | _=>exact fE hc
end
theorem Sub.setAll{Γ:Gam}:∀{is:List Nat}{ds:List D}{Γ':Gam},Sub Γ Γ'->(∀i∈is,Γ[i]? =some none)->Sub Γ (RF.setAll Γ' is ds)
 | [],ds,Γ',h,_=>by cases ds<;>exact h
 | i::is,[],Γ',h,_=>h
 | i::is,d::ds,Γ',h,hi=>show Sub Γ (RF.setAll (Γ'.set i (some d)) is ds)from Sub.setAll (Γ':=Γ'.set i (some d)) (h.set i (some d) (hi i x5)) λ j hj=>hi j (x3 _ hj)
theorem Ir{cap:List (Option Nat)}{i:Nat}(h:cap[i]? =some none):(capt cap Γ)[i]? =some none:=by
 unfold capt
 rw[y8,h];rfl
structure Itb(Ω:Wd) where
 lev:Nat
 chk:Bool->List Str->Nm->Expr->Expr->Bool
 wp:Gam->Store->(List D->Store->Prop)->Prop
 sound:∀{X:Cx}{r:Nat}{top:Bool}{N:List Str}{nm:Nm}{tg e:Expr}{Γ:Gam}{S:Store}{W:List D->Store->Prop},At Ω X r top N nm->lev≤r->chk top N nm tg e=true->wp Γ S W->ItW X Γ S tg e W
theorem RL{X:Cx}{S:Store}{tg e:Expr}{W:List D->Store->Prop}(h:Ev X Γ S e λ d S1=>match d with | .lst ds=>W ds S1 | .tup ds=>W ds S1 | _=>False):ItW X Γ S tg e W:=by
 intro pins s σ H O I env st
 refine thn (h pins s σ H O I env st) λ u s1 hq_=>?_
 obtain⟨v,H1,I1,r1,O1,d,S1,w,st1,ok1,rep⟩:=hq_
 cases rep with
 | @lst a xs ds h1 q1=>
   cases r1
   obtain⟨its,rv,p,hz⟩:=I1.list h1.sq
   refine wpAny_pyIter_list p.isList ?_
   refine⟨s1.heap.objs.size,[s1.heap.objs.size],_,_,H1,rfl,I1.kept (t':=s1.toks) λ b o e=>Heap.get?_push_of_some _ e,mH a _,⟨_,Heap.get?_push_size _ rfl,rfl,rfl⟩,λ b hb=>?_,O1,ds,S1,w,st1,ok1,oJ h1 q1⟩
   have e:b=s1.heap.objs.size:=by simpa using hb
   subst e
   exact I1.fpOk (y9 _) (I1.hok.fresh (y9 _))
 | @tup a xs ds h1 q1=>
   cases r1
   obtain⟨its,rv,p,hz⟩:=I1.tuple h1.sq
   refine wpAny_pyIter_tuple (show s1.heap.IsTuple a its.toArray from p) ?_
   refine⟨s1.heap.objs.size,[s1.heap.objs.size],_,_,H1,rfl,I1.kept (t':=s1.toks) λ b o e=>Heap.get?_push_of_some _ e,qQ a _,⟨_,Heap.get?_push_size _ rfl,rfl,rfl⟩,λ b hb=>?_,O1,ds,S1,w,st1,ok1,ql h1 q1⟩
   have e:b=s1.heap.objs.size:=by simpa using hb
   subst e
   exact I1.fpOk (y9 _) (I1.hok.fresh (y9 _))
 | _=>exact w.elim
variable {Ω : Wd}
noncomputable def Itb.seq(a:Ex Ω):Itb Ω where
 lev:=a.lev
 chk top N nm _ e:=a.chk top N nm e
 wp Γ S W:=a.wp Γ S λ d S1=>match d with | .lst ds=>W ds S1 | .tup ds=>W ds S1 | _=>False
 sound:=by
  intro X r top N nm tg e Γ S W A hl hc hw
  exact RL (a.sound A hl hc hw)
noncomputable def Itb.rng1(hm:Ω.mg "range"=none)(a:Ex Ω):Itb Ω where
 lev:=a.lev
 chk top N nm _ e:=match e with | .Call (.Name y _) [b] [] _=>(y==("range":Str))&&(glb nm "range"&&(okE b&&a.chk top N nm b)) | _=>false
 wp Γ S W:=a.wp Γ S λ d S1=>match d with | .int j=>(-(2 ^ 62)≤j/\j<2 ^ 62)/\W (upTo 0 j.toNat) S1 | _=>False
 sound:=by
  intro X r top N nm tg e Γ S W A hl hc hw
  split at hc
  . rename_i y p b pos
    obtain⟨h1,g2⟩:=aa hc
    obtain⟨h2,g3⟩:=aa g2
    obtain⟨h3,h4⟩:=aa g3
    have e:y="range":=eq_of_beq h1
    subst e
    refine Iz ((a.sound A hl h4 hw).mono λ d S1 q=>?_) (by rw[A.g];exact hm) (A.glb h2) (aC h3 [] _)
    cases d<;>first | exact⟨_,rfl,q.1.1,q.1.2,q.2⟩ | exact q.elim
  . exact fE hc
noncomputable def Itb.rng2(hm:Ω.mg "range"=none)(a b:Ex Ω):Itb Ω where
 lev:=max a.lev b.lev
 chk top N nm _ e:=match e with | .Call (.Name y _) [l,r] [] _=>(y==("range":Str))&&(glb nm "range"&&((okE l&&okE r)&&(a.chk top N nm l&&b.chk top N nm r))) | _=>false
 wp Γ S W:=a.wp Γ S λ d S1=>b.wp Γ S1 λ d' S2=>match d,d' with | .int i,.int j=>(-(2 ^ 62)≤i/\i<2 ^ 62/\ -(2 ^ 62)≤j/\j<2 ^ 62)/\W (upTo i (j-i).toNat) S2 | _,_=>False
 sound:=by
  intro X r top N nm tg e Γ S W A hl hc hw
  obtain⟨l1,l2⟩:=lv2 hl
  split at hc
  . rename_i y p l r' pos
    obtain⟨h1,g2⟩:=aa hc
    obtain⟨h2,g3⟩:=aa g2
    obtain⟨h3,h4⟩:=aa g3
    obtain⟨h5,h6⟩:=aa h3
    obtain⟨h7,h8⟩:=aa h4
    have e:y="range":=eq_of_beq h1
    subst e
    refine Hx ((a.sound A l1 h7 hw).mono λ d S1 q=>(b.sound A l2 h8 q).mono λ d' S2 q=>?_) (by rw[A.g];exact hm) (A.glb h2) (by rw[aC h5,aC h6];rfl) (aC h6 [] _)
    cases d<;>first | exact q.elim | (cases d'<;>first | exact⟨_,_,rfl,rfl,q.1,q.2⟩ | exact q.elim)
  . exact fE hc
structure Cd(Ω:Wd) where
 lev:Nat
 chk:Bool->List Str->Nm->List Expr->Bool
 wp:Gam->Store->(Bool->Store->Prop)->Prop
 sound:∀{X:Cx}{r:Nat}{top:Bool}{N:List Str}{nm:Nm}{es:List Expr}{Γ:Gam}{S:Store}{W:Bool->Store->Prop},At Ω X r top N nm->lev≤r->chk top N nm es=true->wp Γ S W->TsA X Γ S es W
noncomputable def Cd.no:Cd Ω where
 lev:=0
 chk _ _ _ es:=match es with | []=>true | _=>false
 wp _ S W:=W true S
 sound:=by
  intro X r top N nm es Γ S W A hl hc hw
  match es,hc with
  | [],_=>exact hw
  | _::_,hc=>exact fE hc
@[irreducible] noncomputable def m8(cap:List (Option Nat))(Γ:Gam)(elt:Ex Ω)(tg:Tg)(cd:Cd Ω)(W:WD)(ds:List D)(C0:Store->Prop)(S1:Store):Prop:=
  ds.length≤1000000/\∃Pv:Nat->List D->Store->Prop,Pv 0 [] S1/\(∀i acc S',Pv i acc S'->C0 S')/\
   (∀i d acc S',ds[i]? =some d->Pv i acc S'->tg.wp d (capt cap Γ) λ Γ2=>cd.wp Γ2 S' λ ok S3=>(ok=true->elt.wp Γ2 S3 λ y S4=>Pv (i+1) (acc++[y]) S4)/\(ok=false->Pv (i+1) acc S3))/\
   ∀acc S',Pv ds.length acc S'->W (.lst acc) S'∨W (.loc S'.length) (S'++[acc])
noncomputable abbrev nu(cap:List (Option Nat))(Γ:Gam)(elt:Ex Ω)(tg:Tg)(cd:Cd Ω)(W:WD)(ds:List D)(S1:Store):Prop:=m8 cap Γ elt tg cd W ds (λ _=>True) S1
theorem zW{cap:List (Option Nat)}{elt:Ex Ω}{tg:Tg}{cd:Cd Ω}{W:WD}{ds:List D}{C0:Store->Prop}{S1:Store}(h:ds.length≤1000000/\∃Pv:Nat->List D->Store->Prop,Pv 0 [] S1/\(∀i acc S',Pv i acc S'->C0 S')/\
 (∀i d acc S',ds[i]? =some d->Pv i acc S'->tg.wp d (capt cap Γ) λ Γ2=>cd.wp Γ2 S' λ ok S3=>(ok=true->elt.wp Γ2 S3 λ y S4=>Pv (i+1) (acc++[y]) S4)/\(ok=false->Pv (i+1) acc S3))/\
 ∀acc S',Pv ds.length acc S'->W (.lst acc) S'∨W (.loc S'.length) (S'++[acc])):m8 cap Γ elt tg cd W ds C0 S1:=by unfold m8;exact h
theorem jj{cap:List (Option Nat)}{elt:Ex Ω}{tg:Tg}{cd:Cd Ω}{W:WD}{ds:List D}{S1:Store}(h:ds.length≤1000000/\∃Pv:Nat->List D->Store->Prop,Pv 0 [] S1/\
 (∀i d acc S',ds[i]? =some d->Pv i acc S'->tg.wp d (capt cap Γ) λ Γ2=>cd.wp Γ2 S' λ ok S3=>(ok=true->elt.wp Γ2 S3 λ y S4=>Pv (i+1) (acc++[y]) S4)/\(ok=false->Pv (i+1) acc S3))/\
 ∀acc S',Pv ds.length acc S'->W (.lst acc) S'):nu cap Γ elt tg cd W ds S1:=by
 obtain⟨hz,Pv,p0,pt,pe⟩:=h
 exact zW ⟨hz,Pv,p0,λ _ _ _ _=>trivial,pt,λ acc S' q=>.inl (pe acc S' q)⟩
noncomputable def nA(N':List Str)(cap:List (Option Nat))(elt:Ex Ω)(tg:Tg)(it:Itb Ω)(cd:Cd Ω)(top:Bool)(N:List Str)(nm:Nm)(e:Expr):Bool:=match e with
 | .ListComp x [⟨t,i,cs,0⟩] sc _=>(sc.kind==.function)&&(za sc.names&&(freeOk nm sc.names&&((sc.names.all λ y=>!(y.2==.local)||(sc.names.lookup y.1==some .local))&&(bc N nm N' sc.names cap N'&&
  (okE i&&((tg.slots.all λ j=>cap[j]? ==some none)&&(decide N'.Nodup&&(it.chk top N nm t i&&(tg.chk false N' sc.names t&&(cd.chk false N' sc.names cs&&elt.chk false N' sc.names x))))))))))
 | _=>false
section
variable {X : Cx} {r : Nat} {top : Bool} {N : List Str} {nm : Nm}
theorem uC(A:At Ω X r top N nm){x:Str}(h:nm.lookup x=some .cell∨nm.lookup x=some .free):X.env.scope.names.lookup x=some .cell∨X.env.scope.names.lookup x=some .free:=by
 rcases h with h | h
 . rcases A.look x _ h with q | ⟨q,_⟩
   . exact .inl q
   . exact nomatch q
 . rcases A.look x _ h with q | ⟨_,q⟩
   . exact .inr q
   . exact .inl q
theorem uB(A:At Ω X r top N nm){names:Nm}(h:freeOk nm names=true):freeOk X.env.scope.names names=true:=by
 unfold freeOk
 refine List.all_eq_true.mpr λ y hy=>?_
 by_cases e:y.2=.free
 . have:=uC A (my h y hy e)
   rcases this with q | q<;>simp[q]
 . simp[e]
theorem jQ(A:At Ω X r top N nm){N':List Str}{names':Nm}:∀{cap:List (Option Nat)}{t:List Str},bc N nm N' names' cap t=true->bc X.N X.env.scope.names N' names' cap t=true
 | [],[],_=>rfl
 | [],_::_,h=>by simp[bc]at h
 | none::_,[],h=>by simp[bc]at h
 | some _::_,[],h=>by simp[bc]at h
 | none::r,_::t,h=>by simp only[bc]at h ⊢;exact jQ A h
 | some j::r,x::t,h=>by
   simp only[bc,Bool.and_eq_true,Bool.or_eq_true,beq_iff_eq]at h ⊢
   exact⟨⟨⟨by rw[A.n];exact h.1.1.1,uC A h.1.1.2⟩,h.1.2⟩,jQ A h.2⟩
theorem Ss(A:At Ω X r top N nm){sc:Scope}{N':List Str}{C:Addr}{s:Shared}{H:Hp}{ex:List Addr}{cl:List (Str×Addr)}(hk:sc.kind=.function)(nd:N'.Nodup):At Ω (fc X sc N' C s H ex cl) r false N' sc.names where
 p:=A.p
 w:=A.w
 k:=A.k
 g:=A.g
 b:=A.b
 room:=A.room
 xe:=A.xe
 calm:=A.calm
 n:=rfl
 nd:=nd
 kind:=hk
 look:=by
  intro x k h
  show(relabel sc X.env).names.lookup x=some k∨_
  rw[jq,dI,h]
  rcases pG X.env x k with q | ⟨q1,q2⟩
  . exact .inl (congrArg some q)
  . refine .inr ⟨q1,?_⟩
    show(relabel sc X.env).names.lookup x=some .cell
    rw[jq,dI,h]
    exact congrArg some q2
 fn:=λ x h=>by show(sc.names.lookup x==some .cell)=true;rw[h];rfl
theorem qt(A:At Ω X r top N nm){sc:Scope}{N':List Str}{cap:List (Option Nat)}{elt:Ex Ω}{tg:Tg}{cd:Cd Ω}{x t:Expr}{cs:List Expr}{Γ:Gam}{W:WD}{ds:List D}{C0:Store->Prop}{S1:Store}(le:elt.lev≤r)(lc:cd.lev≤r)(hk:sc.kind=.function)(nd:N'.Nodup)(hs:(tg.slots.all λ j=>cap[j]? ==some none)=true)
 (ht:tg.chk false N' sc.names t=true)(hcd:cd.chk false N' sc.names cs=true)(he:elt.chk false N' sc.names x=true)(h:m8 cap Γ elt tg cd W ds C0 S1):ww X sc N' cap Γ x t cs W ds C0 S1:=by
 unfold m8 at h
 obtain⟨hz,Pv,p0,pC,pt,pe⟩:=h
 refine⟨hz,Pv,p0,pC,λ i d acc S' hd hp C s H ex cl=>?_,pe⟩
 have B:=Ss A (C:=C) (s:=s) (H:=H) (ex:=ex) (cl:=cl) hk nd
 have sl:∀j∈tg.slots,(capt cap Γ)[j]? =some none:=λ j hj=>Ir (by
  have:=List.all_eq_true.mp hs j hj
  exact eq_of_beq this)
 have base:=pt i d acc S' hd hp
 have go:∀Γ2,(cd.wp Γ2 S' λ ok S3=>(ok=true->elt.wp Γ2 S3 λ y S4=>Pv (i+1) (acc++[y]) S4)/\(ok=false->Pv (i+1) acc S3))->
  TsA (fc X sc N' C s H ex cl) Γ2 S' cs λ ok S3=>(ok=true->Ev (fc X sc N' C s H ex cl) Γ2 S3 x λ y S4=>Pv (i+1) (acc++[y]) S4)/\(ok=false->Pv (i+1) acc S3):=by
  intro Γ2 q
  have:=cd.sound B lc hcd q
  match cs,this with
  | [],this=>exact⟨λ hk=>elt.sound B le he (this.1 hk),this.2⟩
  | [c],this=>exact Ts.mono this λ ok S3 z=>⟨λ hk=>elt.sound B le he (z.1 hk),z.2⟩
  | _::_::_,this=>exact this.elim
 refine Tg.sound B (W:=λ Γ2 S2=>Sub (capt cap Γ) Γ2/\TsA (fc X sc N' C s H ex cl) Γ2 S2 cs λ ok S3=>(ok=true->Ev (fc X sc N' C s H ex cl) Γ2 S3 x λ y S4=>Pv (i+1) (acc++[y]) S4)/\(ok=false->Pv (i+1) acc S3)) ht ?_
 cases tg with
 | nm j=>exact⟨(Sub.refl _).set j _ (sl j (by simp[Tg.slots])),go _ base⟩
 | tup is=>
   cases d with
   | tup es=>exact⟨base.1,Sub.setAll (Sub.refl _) sl,go _ base.2⟩
   | _=>exact base.elim
end
noncomputable def Ex.comp(N':List Str)(cap:List (Option Nat))(elt:Ex Ω)(tg:Tg)(it:Itb Ω)(cd:Cd Ω):Ex Ω where
 lev:=max elt.lev (max it.lev cd.lev)
 chk top N nm e:=nA N' cap elt tg it cd top N nm e
 wp Γ S W:=it.wp Γ S λ ds S1=>nu cap Γ elt tg cd W ds S1
 sound:=by
  intro X r top N nm e Γ S W A hl hc hw
  obtain⟨l1,l2⟩:=lv2 hl
  obtain⟨l2,l3⟩:=lv2 l2
  unfold nA at hc
  split at hc
  . rename_i x t i cs sc pos
    obtain⟨h1,hc⟩:=aa hc
    obtain⟨h2,hc⟩:=aa hc
    obtain⟨h3,hc⟩:=aa hc
    obtain⟨h4,hc⟩:=aa hc
    obtain⟨h5,hc⟩:=aa hc
    obtain⟨h6,hc⟩:=aa hc
    obtain⟨h7,hc⟩:=aa hc
    obtain⟨h8,hc⟩:=aa hc
    obtain⟨h9,hc⟩:=aa hc
    obtain⟨h10,hc⟩:=aa hc
    obtain⟨h11,h12⟩:=aa hc
    have hk:sc.kind=.function:=eq_of_beq h1
    refine O9 N' cap (ItW.toC (ItW.mono (it.sound A l2 h9 hw) λ ds S1 q=>qt A l1 l3 hk (of_decide_eq_true h8) h7 h10 h11 h12 q)) A.xe A.calm hk h2 (uB A h3) (λ y hy e=>?_) (jQ A h5) (mY h6 _)
    . have:=List.all_eq_true.mp h4 y hy
      simpa[e]using this
  . exact fE hc
end RF
namespace RF
open PySem PySem.Spec L2 DL
open PyProof.Rows
variable {Ω : Wd}
theorem JP{e:Expr}(h:noC e=true)(t:Expr)(l:Nat)(env:Env):swapsWithSole [t] e l env=pure false:=by
 unfold swapsWithSole
 exact jC h (some t) l env
structure Sm(Ω:Wd) where
 lev:Nat
 chk:Bool->List Str->Nm->Stmt->Bool
 wp:Gam->Store->DL.Fin->Prop
 sound:∀{X:Cx}{r:Nat}{top:Bool}{N:List Str}{nm:Nm}{st:Stmt}{Γ:Gam}{S:Store}{W:DL.Fin},At Ω X r top N nm->lev≤r->chk top N nm st=true->wp Γ S W->Rn X Γ S st W
structure Bl(Ω:Wd) where
 lev:Nat
 chk:Bool->List Str->Nm->List Stmt->Bool
 wp:Gam->Store->DL.Fin->Prop
 sound:∀{X:Cx}{r:Nat}{top:Bool}{N:List Str}{nm:Nm}{sts:List Stmt}{Γ:Gam}{S:Store}{W:DL.Fin},At Ω X r top N nm->lev≤r->chk top N nm sts=true->wp Γ S W->Rns X Γ S sts W
noncomputable def Bl.nil:Bl Ω where
 lev:=0
 chk _ _ _ sts:=match sts with | []=>true | _=>false
 wp Γ S W:=W.nx Γ S
 sound:=by
  intro X r top N nm sts Γ S W A hl hc hw
  match sts,hc with
  | [],_=>exact Q5 hw
  | _::_,hc=>exact fE hc
noncomputable def Bl.cons(s:Sm Ω)(b:Bl Ω):Bl Ω where
 lev:=max s.lev b.lev
 chk top N nm sts:=match sts with | st::sts=>s.chk top N nm st&&b.chk top N nm sts | _=>false
 wp Γ S W:=s.wp Γ S {W with nx:=λ Γ1 S1=>b.wp Γ1 S1 W}
 sound:=by
  intro X r top N nm sts Γ S W A hl hc hw
  obtain⟨l1,l2⟩:=lv2 hl
  match sts,hc with
  | st::sts,hc=>
    obtain⟨h1,h2⟩:=aa hc
    exact PP (Rn.mono (s.sound A l1 h1 hw) (λ G S1 q=>b.sound A l2 h2 q) (λ _ _ q=>q) (λ _ _ q=>q) λ _ _ q=>q)
  | [],hc=>exact fE hc
noncomputable def Sm.ret(a:Ex Ω):Sm Ω where
 lev:=a.lev
 chk top N nm st:=match st with | .Return (some e) _=>a.chk top N nm e | _=>false
 wp Γ S W:=a.wp Γ S W.rt
 sound:=by
  intro X r top N nm st Γ S W A hl hc hw
  cases st with
  | Return o pos=>
    cases o with
    | some e=>exact Uc (a.sound A hl hc hw)
    | none=>exact fE hc
  | _=>exact fE hc
noncomputable def Sm.expr(a:Ex Ω):Sm Ω where
 lev:=a.lev
 chk top N nm st:=match st with | .Expr e _=>noC e&&a.chk top N nm e | _=>false
 wp Γ S W:=a.wp Γ S λ _ S1=>W.nx Γ S1
 sound:=by
  intro X r top N nm st Γ S W A hl hc hw
  cases st with
  | Expr e pos=>
    obtain⟨h1,h2⟩:=aa hc
    exact Rj (a.sound A hl h2 hw) (jC h1 _ _ _)
  | _=>exact fE hc
noncomputable def Sm.ite(c:Te Ω)(a b:Bl Ω):Sm Ω where
 lev:=max c.lev (max a.lev b.lev)
 chk top N nm st:=match st with | .If t xs ys _=>c.chk top N nm t&&(a.chk top N nm xs&&b.chk top N nm ys) | _=>false
 wp Γ S W:=c.wp Γ S λ k S1=>(k=true->a.wp Γ S1 W)/\(k=false->b.wp Γ S1 W)
 sound:=by
  intro X r top N nm st Γ S W A hl hc hw
  obtain⟨l1,l2⟩:=lv2 hl
  obtain⟨l2,l3⟩:=lv2 l2
  cases st with
  | If t xs ys pos=>
    obtain⟨h1,h2⟩:=aa hc
    obtain⟨h2,h3⟩:=aa h2
    exact Vd (Ts.mono (c.sound A l1 h1 hw) λ k S1 q=>⟨λ hk=>a.sound A l2 h2 (q.1 hk),λ hk=>b.sound A l3 h3 (q.2 hk)⟩)
  | _=>exact fE hc
noncomputable def Sm.set(i:Nat)(a:Ex Ω):Sm Ω where
 lev:=a.lev
 chk top N nm st:=match st with | .Assign [.Name x _] e _=>(N[i]? ==some x)&&(lcl top nm x&&(noC e&&a.chk top N nm e)) | _=>false
 wp Γ S W:=a.wp Γ S λ d S1=>W.nx (Γ.set i (some d)) S1
 sound:=by
  intro X r top N nm st Γ S W A hl hc hw
  split at hc
  . obtain⟨h1,h2⟩:=aa hc
    obtain⟨h2,h3⟩:=aa h2
    obtain⟨h3,h4⟩:=aa h3
    obtain⟨l1,l2⟩:=A.lcl h2
    exact Ni i (a.sound A hl h4 hw) (by rw[A.n];exact A.nd) (by rw[A.n];exact eq_of_beq h1) l1 (jC h3 _ _ _) l2
  . exact fE hc
noncomputable def Sm.setC(i:Nat)(N':List Str)(cap:List (Option Nat))(elt:Ex Ω)(tg:Tg)(it:Itb Ω)(cd:Cd Ω):Sm Ω where
 lev:=max elt.lev (max it.lev cd.lev)
 chk top N nm st:=match st with | .Assign [.Name x p] e _=>(N[i]? ==some x)&&(lcl top nm x&&(top&&(nA N' cap elt tg it cd top N nm e))) | _=>false
 wp Γ S W:=it.wp Γ S λ ds S1=>nu cap Γ elt tg cd (λ d S2=>W.nx (Γ.set i (some d)) S2) ds S1
 sound := by
  intro X r top N nm st Γ S W A hl hc hw
  split at hc
  . rename_i x p e spos
    obtain⟨k1,q1⟩:=aa hc
    obtain⟨k2,q2⟩:=aa q1
    obtain⟨k0,hcomp⟩:=aa q2
    obtain⟨l1,l2⟩:=A.lcl k2
    have hN:X.N[i]? =some x:=by rw[A.n];exact eq_of_beq k1
    have nd:X.N.Nodup:=by rw[A.n];exact A.nd
    have hc2:=hcomp
    obtain⟨le,l3⟩:=lv2 hl
    obtain⟨li,lc⟩:=lv2 l3
    unfold nA at hc2
    split at hc2
    . rename_i x' t i' cs sc pos
      obtain⟨h1,hc⟩:=aa hc2
      obtain⟨h2,hc⟩:=aa hc
      obtain⟨h3,hc⟩:=aa hc
      obtain⟨h4,hc⟩:=aa hc
      obtain⟨h5,hc⟩:=aa hc
      obtain⟨h6,hc⟩:=aa hc
      obtain⟨h7,hc⟩:=aa hc
      obtain⟨h8,hc⟩:=aa hc
      obtain⟨h9,hc⟩:=aa hc
      obtain⟨h10,hc⟩:=aa hc
      obtain⟨h11,h12⟩:=aa hc
      have hk:sc.kind=.function:=eq_of_beq h1
      by_cases hb:(X.env.blockKind==.function&&X.env.kindOf x==some .local&&p.line==(Expr.ListComp x' [⟨t,i',cs,0⟩] sc pos).pos.line&& !(sc.names.any λ(n,k)=>n==x&&(k==.local||k==.cell)))=true
      . refine Ij i N' cap (ItW.toC (ItW.mono (it.sound A li h9 hw) λ ds S1 q=>qt A le lc hk (of_decide_eq_true h8) h7 h10 h11 h12 q)) nd hN l1 ?_ l2 A.xe A.calm hk h2 (uB A h3) (λ y hy e=>?_) (jQ A h5) (mY h6 _)
        . show(pure (X.env.blockKind==.function&&X.env.kindOf x==some .local&&p.line==(Expr.ListComp x' [⟨t,i',cs,0⟩] sc pos).pos.line&& !(sc.names.any λ(n,k)=>n==x&&(k==.local||k==.cell))):Sem Bool)=pure true
          rw[hb]
        . have:=List.all_eq_true.mp h4 y hy
          simpa[e]using this
      . have hb:_=false:=Bool.eq_false_iff.mpr hb
        refine Ni i ((Ex.comp N' cap elt tg it cd).sound A hl hcomp hw) nd hN l1 ?_ l2
        show(pure (X.env.blockKind==.function&&X.env.kindOf x==some .local&&p.line==(Expr.ListComp x' [⟨t,i',cs,0⟩] sc pos).pos.line&& !(sc.names.any λ(n,k)=>n==x&&(k==.local||k==.cell))):Sem Bool)=pure false
        rw[hb]
    . exact(y6 hc2).elim
  . exact fE hc
noncomputable def Sm.setIx(o i a:Ex Ω):Sm Ω where
 lev:=max a.lev (max o.lev i.lev)
 chk top N nm st:=match st with | .Assign [.Subscript x y _] e _=>noC e&&(okE y&&(a.chk top N nm e&&(o.chk top N nm x&&i.chk top N nm y))) | _=>false
 wp Γ S W:=a.wp Γ S λ d S1=>o.wp Γ S1 λ x S2=>i.wp Γ S2 λ y S3=>match x,y with | .loc k,.int n=>∃ds j,S3[k]? =some ds/\ixN ds.length n=some j/\W.nx Γ (S3.set k (ds.set j d)) | _,_=>False
 sound:=by
  intro X r top N nm st Γ S W A hl hc hw
  obtain⟨l1,l2⟩:=lv2 hl
  obtain⟨l2,l3⟩:=lv2 l2
  split at hc
  . rename_i x y p e spos
    obtain⟨h1,hc⟩:=aa hc
    obtain⟨h2,hc⟩:=aa hc
    obtain⟨h3,hc⟩:=aa hc
    obtain⟨h4,h5⟩:=aa hc
    refine Px ((a.sound A l1 h3 hw).mono λ d S1 q=>(o.sound A l2 h4 q).mono λ x S2 q=>(i.sound A l3 h5 q).mono λ y S3 q=>?_) ?_ (JP h1 _ _ _) ?_ rfl
    . cases x<;>first | exact q.elim | (cases y<;>first | exact q.elim | (obtain⟨ds,j,a,b,c⟩:=q;exact⟨_,_,ds,j,rfl,rfl,a,b,c⟩))
    . intro v
      cases y<;>first | rfl | exact(y6 h2).elim
    . rfl
  . exact fE hc
@[irreducible] noncomputable def iT(Γ:Gam)(tg:Tg)(body:Bl Ω)(W:DL.Fin)(ds:List D)(S1:Store):Prop:=
  ∃Pv:Nat->Gam->Store->Prop,Pv 0 Γ S1/\(∀i d Γ' S',ds[i]? =some d->Pv i Γ' S'->tg.wp d Γ' λ Γ2=>body.wp Γ2 S' {W with nx:=Pv (i+1),ct:=Pv (i+1),bk:=W.nx})/\(∀Γ' S',Pv ds.length Γ' S'->W.nx Γ' S')
theorem aR{Γ:Gam}{tg:Tg}{body:Bl Ω}{W:DL.Fin}{ds:List D}{S1:Store}(h:∃Pv:Nat->Gam->Store->Prop,Pv 0 Γ S1/\(∀i d Γ' S',ds[i]? =some d->Pv i Γ' S'->tg.wp d Γ' λ Γ2=>body.wp Γ2 S' {W with nx:=Pv (i+1),ct:=Pv (i+1),bk:=W.nx})/\(∀Γ' S',Pv ds.length Γ' S'->W.nx Γ' S')):iT Γ tg body W ds S1:=by unfold iT;exact h
noncomputable def Sm.for(tg:Tg)(it:Itb Ω)(body:Bl Ω):Sm Ω where
 lev:=max it.lev body.lev
 chk top N nm st:=match st with | .For t i b [] _=>okE i&&(tg.chk top N nm t&&(it.chk top N nm t i&&body.chk top N nm b)) | _=>false
 wp Γ S W:=it.wp Γ S λ ds S1=>iT Γ tg body W ds S1
 sound:=by
  intro X r top N nm st Γ S W A hl hc hw
  obtain⟨l1,l2⟩:=lv2 hl
  split at hc
  . rename_i t i b pos
    obtain⟨h1,hc⟩:=aa hc
    obtain⟨h2,hc⟩:=aa hc
    obtain⟨h3,h4⟩:=aa hc
    refine Ub (ItW.mono (it.sound A l1 h3 hw) λ ds S1 q=>?_) (by rw[A.xe];exact PassesOwn.never) A.calm (mY h1 _)
    unfold iT at q
    obtain⟨Pv,p0,pt,pe⟩:=q
    refine⟨Pv,p0,λ i d Γ' S' hd hp=>BdW.mono (Tg.sound A (W:=λ Γ2 S2=>body.wp Γ2 S2 {W with nx:=Pv (i+1),ct:=Pv (i+1),bk:=W.nx}) h2 (pt i d Γ' S' hd hp)) λ Γ2 S2 q=>body.sound A l2 h4 q,pe⟩
  . exact fE hc
noncomputable def Tr(N ps:List Str)(sm:Stmt)(k:Nat)(body:Bl Ω):Bool:=
 ((aL sm).kind==.function)&&(!(aL sm).isCoroutine&&(!(aL sm).isGenerator&&(decide N.Nodup&&(decide (N.take ps.length=ps)&&((ps.all λ x=>(aL sm).names.lookup x==some .local||(aL sm).names.lookup x==some .cell)&&
   (((aL sm).names.all λ y=>!(y.2==.free))&&(Nat.ble body.lev k&&body.chk true N (aL sm).names (cj sm))))))))
theorem aA{x qual:Str}{sm:Stmt}{f:Addr}{fd:FuncData}{N ps:List Str}{k:Nat}{F:Ct}(FF:Fun Ω.K x qual sm f fd)(body:Bl Ω)(hc:Tr N ps sm k body=true)
 (vc:∀(ds:List D)(S:Store)(W:WD),F ds S W->ds.length=ps.length->body.wp (ds.map some++List.replicate (N.length-ds.length) none) S {nx:=λ _ S1=>W .non S1,rt:=W}):FnOk Ω.P Ω.w Ω.K Ω.mg Ω.base CX0 (k+1) f fd ps (spC Ω.K ps.length F):=by
 obtain⟨h1,hc⟩:=aa hc
 obtain⟨h2,hc⟩:=aa hc
 obtain⟨h3,hc⟩:=aa hc
 obtain⟨h4,hc⟩:=aa hc
 obtain⟨h5,hc⟩:=aa hc
 obtain⟨h6,hc⟩:=aa hc
 obtain⟨h7,hc⟩:=aa hc
 obtain⟨h8,h9⟩:=aa hc
 have nd:N.Nodup:=of_decide_eq_true h4
 have sc:FnScope N ps (aL sm):=⟨eq_of_beq h1,nt h2,nt h3,nd,of_decide_eq_true h5,λ x hx=>by
  have:=List.all_eq_true.mp h6 x hx
  simpa using this,λ y hy e=>by
  have:=List.all_eq_true.mp h7 y hy
  simp[e]at this⟩
 refine Tf FF sc λ cdv A outer s H E ds S W hr hl h=>?_
 refine body.sound (r:=k) (top:=true) (N:=N) (nm:=(aL sm).names) ⟨rfl,rfl,rfl,rfl,rfl,hr,rfl,rfl,rfl,nd,sc.kind,λ x kk h=>.inl h,λ _ _=>rfl⟩ (Nat.le_of_ble_eq_true h8) h9 (vc ds S W h hl)
theorem callee{x qual:Str}{sm:Stmt}{f:Addr}{fd:FuncData}{ps:List Str}{k n:Nat}{F:Ct}(FF:Fun Ω.K x qual sm f fd)(h:FnOk Ω.P Ω.w Ω.K Ω.mg Ω.base CX0 k f fd ps (spC Ω.K n F))(hm:Ω.mg x=some (.ref f))(b:Binds Ω.K fd ps []):Callee Ω.P Ω.w Ω.K Ω.mg Ω.base x k n F:=⟨f,fd,ps,h,hm,FF.kp,b⟩
end RF
namespace RF
open PySem PySem.Spec L2 DL
open PyProof.Rows
noncomputable def bu:Bf where
 x:="len"
 id:="len"
 boot:=by decide+kernel
 wp ds S W:=match ds with
  | [.tup ds]=>W (.int ds.length) S
  | [.lst ds]=>W (.int ds.length) S
  | [.loc k]=>∃ds,S[k]? =some ds/\W (.int ds.length) S
  | _=>False
 sound:=by
  intro X ds S W hc hr h
  split at h
  . exact RP h
  . exact R7 h
  . obtain⟨ds,h1,h2⟩:=h;exact Qx h1 h2
  . exact h.elim
noncomputable def fX:Bf where
 x:="all"
 id:="all"
 boot:=by decide+kernel
 wp ds S W:=match ds with
  | [.lst ds]=>∃bs:List Bool,ds=bs.map .bl/\W (.bl (bs.all id)) S
  | _=>False
 sound:=by
  intro X ds S W hc hr h
  split at h
  . obtain⟨bs,rfl,h⟩:=h;exact k_all h hc
  . exact h.elim
noncomputable def RW:Bf where
 x:="abs"
 id:="abs"
 boot:=by decide+kernel
 wp ds S W:=match ds with
  | [.int i]=>W (.int (if i<0 then-i else i)) S
  | _=>False
 sound:=by
  intro X ds S W hc hr h
  split at h
  . refine bV Ln λ O H vs st r=>?_
    obtain⟨v,rfl,r'⟩:=cR r
    cases r'
    exact⟨_,rfl,QG.here h st (.int _)⟩
  . exact h.elim
theorem M7{K:PySem.W.Frag}{O:Own}{H:Hp}{vs:List V}{d e:D}(r:Reps K O H vs [d,e]):∃v w,vs=[v,w]/\Rep K O H v d/\Rep K O H w e:=by
 cases r with
 | cons a t=>
   cases t with
   | cons b t=>cases t;exact⟨_,_,rfl,a,b⟩
noncomputable def UT:Bf where
 x:="min"
 id:="min"
 boot:=by decide+kernel
 wp ds S W:=match ds with
  | [.int i,.int j]=>W (.int (if j<i then j else i)) S
  | _=>False
 sound:=by
  intro X ds S W hc hr h
  split at h
  . refine bV (Hu hc) λ O H vs st r=>?_
    obtain⟨v,w,rfl,r1,r2⟩:=M7 r
    cases r1
    cases r2
    exact⟨_,_,rfl,QG.here h st (.int _)⟩
  . exact h.elim
noncomputable def U8:Bf where
 x:="max"
 id:="max"
 boot:=by decide+kernel
 wp ds S W:=match ds with
  | [.int i,.int j]=>W (.int (if j>i then j else i)) S
  | _=>False
 sound:=by
  intro X ds S W hc hr h
  split at h
  . refine bV (Jl hc) λ O H vs st r=>?_
    obtain⟨v,w,rfl,r1,r2⟩:=M7 r
    cases r1
    cases r2
    exact⟨_,_,rfl,QG.here h st (.int _)⟩
  . exact h.elim
noncomputable def bj:Bc where
 x:="tuple"
 id:="tuple"
 boot:=by decide+kernel
 wp ds S W:=match ds with
  | [.lst ds]=>W (.tup ds) S
  | [.loc k]=>∃ds,S[k]? =some ds/\W (.tup ds) S
  | _=>False
 sound:=by
  intro X ds S W hc hr h
  split at h
  . exact Q0 h
  . obtain⟨ds,h1,h2⟩:=h;exact Qt h1 h2
  . exact h.elim
noncomputable def v9:Bc where
 x:="list"
 id:="list"
 boot:=by decide+kernel
 wp ds S W:=match ds with
  | [.tup ds]=>W (.lst ds) S
  | [.lst ds]=>W (.lst ds) S
  | _=>False
 sound:=by
  intro X ds S W hc hr h
  split at h
  . exact R8 h
  . exact Q3 h
  . exact h.elim
noncomputable def U4:Bc where
 x:="int"
 id:="int"
 boot:=by decide+kernel
 wp ds S W:=match ds with
  | [.int i]=>W (.int i) S
  | [.bl k]=>W (.int (if k then 1 else 0)) S
  | _=>False
 sound:=by
  intro X ds S W hc hr h
  split at h
  . refine bV uM λ O H vs st r=>?_
    obtain⟨v,rfl,r'⟩:=cR r
    cases r'
    exact .inl ⟨_,rfl,QG.here h st (.int _)⟩
  . refine bV uM λ O H vs st r=>?_
    obtain⟨v,rfl,r'⟩:=cR r
    cases r'
    exact .inr ⟨_,rfl,QG.here h st (.int _)⟩
  . exact h.elim
section
variable {X : Cx} {Γ : Gam} {S : Store} {e : Expr} {pos : Pos}
theorem PN{elts:List Expr}{k:Nat}{tp p:Pos}{W:List D->Store->Prop}(h:Ev X Γ S e λ d S1=>match d with | .lst ds=>W (ds.mapIdx λ i d=>.tup [.int i,d]) S1 | .tup ds=>W (ds.mapIdx λ i d=>.tup [.int i,d]) S1 | _=>False)(hm:X.mg "enumerate"=none)(hg:Gl X "enumerate")(hs:starEach [e] X.env=[(false,eval e X.env)]):
 ItW X Γ S (.Tuple elts k tp) (.Call (.Name "enumerate" p) [e] [] pos) W:=by
 intro pins s σ H O I env st
 refine Call_ (bY I hg hm boot_enumerate (PyProof.Rows.callWith_type1 (thn (ni h.pe yE hs pos pins s σ H (λ vs H'=>∃v,vs=[v]/\QG X.K O H (λ d S1=>match d with | .lst ds=>W (ds.mapIdx λ i d=>.tup [.int i,d]) S1 | .tup ds=>W (ds.mapIdx λ i d=>.tup [.int i,d]) S1 | _=>False) v H') I ⟨O,env,st,λ v H' q=>⟨v,rfl,q⟩⟩) λ us s1 hq_=>?_) hs rfl))
 obtain⟨vs,H1,I1,r1,v,ev,O1,d,S1,w,st1,ok1,rep⟩:=hq_
 subst ev
 obtain⟨u,rfl,ru⟩:=vals1 r1
 cases rep with
 | @lst a xs ds h1 q1=>
   cases ru
   obtain⟨its,rv,pl,hz⟩:=I1.list h1.sq
   refine call_enumerate_list pl.isList λ h' he hi _ kp=>DR (Uv X.prog X.w X.K) I1 he hi kp ⟨O1,_,S1,w,st1,ok1,oh _ λ O' H' cv=>⟨xs,(h1.conv cv).sq,q1.conv cv⟩⟩
 | @tup a xs ds h1 q1=>
   cases ru
   obtain⟨its,rv,pl,hz⟩:=I1.tuple h1.sq
   obtain⟨⟨c,dct,dt,sl⟩,hl,hc,n,hd⟩:=pl
   replace hc:c=.type "tuple":=hc
   replace hd:dt=.seq its.toArray n:=hd
   subst hc hd
   refine callType_new F.called_enumerate (by decide) (F.typeCall_enumerate_1 _) (F.newCall_enumerate_1 _) (λ obj=>F.args_object_init_2 obj _) F.entry_enumerate_new (HY a its.toArray n dct sl) ⟨hl,?_⟩
   have hz:(s1.heap.push {cls:=.type "tuple_iterator",data:=.fields #[.ref a,.int 0 0]}).objs.size=s1.heap.objs.size+1:=Heap.size_push ..
   show _/\_
   rw[hz]
   have he:IsEnum ((s1.heap.push {cls:=.type "tuple_iterator",data:=.fields #[.ref a,.int 0 0]}).push {cls:=.type "enumerate",data:=.fields #[.none,.bool false,.ref s1.heap.objs.size,rawInt 0,.none,.none]}) (s1.heap.objs.size+1) s1.heap.objs.size 0 .none:=by
    have:=Heap.get?_push_size (s1.heap.push {cls:=.type "tuple_iterator",data:=.fields #[.ref a,.int 0 0]}) (o:={cls:=.type "enumerate",data:=.fields #[.none,.bool false,.ref s1.heap.objs.size,rawInt 0,.none,.none]}) rfl
    rw[hz]at this
    exact this
   have hi:Heap.IsTupleIter ((s1.heap.push {cls:=.type "tuple_iterator",data:=.fields #[.ref a,.int 0 0]}).push {cls:=.type "enumerate",data:=.fields #[.none,.bool false,.ref s1.heap.objs.size,rawInt 0,.none,.none]}) s1.heap.objs.size a 0:=
    ⟨_,Heap.get?_push_of_some _ (Heap.get?_push_size _ rfl),rfl,rfl⟩
   exact⟨⟨_,he,rfl⟩,DR (KZ X.prog X.w X.K) I1 he hi (λ b o e=>Heap.get?_push_of_some _ (Heap.get?_push_of_some _ e)) ⟨O1,_,S1,w,st1,ok1,oh _ λ O' H' cv=>⟨xs,(h1.conv cv).sq,q1.conv cv⟩⟩⟩
 | _=>exact w.elim
end
variable {Ω : Wd}
noncomputable def Itb.enm(hm:Ω.mg "enumerate"=none)(a:Ex Ω):Itb Ω where
 lev:=a.lev
 chk top N nm tg e:=match tg,e with | .Tuple ..,.Call (.Name y _) [b] [] _=>(y==("enumerate":Str))&&(glb nm "enumerate"&&(okE b&&a.chk top N nm b)) | _,_=>false
 wp Γ S W:=a.wp Γ S λ d S1=>match d with | .lst ds=>W (ds.mapIdx λ i d=>.tup [.int i,d]) S1 | .tup ds=>W (ds.mapIdx λ i d=>.tup [.int i,d]) S1 | _=>False
 sound:=by
  intro X r top N nm tg e Γ S W A hl hc hw
  split at hc
  . obtain⟨h1,h2⟩:=aa hc
    obtain⟨h2,h3⟩:=aa h2
    obtain⟨h3,h4⟩:=aa h3
    have e:=eq_of_beq h1
    subst e
    exact PN (a.sound A hl h4 hw) (by rw[A.g];exact hm) (A.glb h2) (aC h3 [] _)
  . exact fE hc
noncomputable def Itb.zip(hm:Ω.mg "zip"=none)(a b:Ex Ω):Itb Ω where
 lev:=max a.lev b.lev
 chk top N nm tg e:=match tg,e with | .Tuple ..,.Call (.Name y _) [l,r] [] _=>(y==("zip":Str))&&(glb nm "zip"&&((okE l&&okE r)&&(a.chk top N nm l&&b.chk top N nm r))) | _,_=>false
 wp Γ S W:=a.wp Γ S λ d S1=>b.wp Γ S1 λ d' S2=>match d,d' with | .tup ds,.tup es=>W (List.zipWith (λ x y=>.tup [x,y]) ds es) S2 | _,_=>False
 sound:=by
  intro X r top N nm tg e Γ S W A hl hc hw
  obtain⟨l1,l2⟩:=lv2 hl
  split at hc
  . obtain⟨h1,h2⟩:=aa hc
    obtain⟨h2,h3⟩:=aa h2
    obtain⟨h3,h4⟩:=aa h3
    obtain⟨h5,h6⟩:=aa h3
    obtain⟨h7,h8⟩:=aa h4
    have e:=eq_of_beq h1
    subst e
    refine Kr ((a.sound A l1 h7 hw).mono λ d S1 q=>(b.sound A l2 h8 q).mono λ d' S2 q=>?_) (by rw[A.g];exact hm) (A.glb h2) (aC h5 _ _) (aC h6 [] _)
    cases d<;>first | exact q.elim | (cases d'<;>first | exact⟨_,_,rfl,rfl,q⟩ | exact q.elim)
  . exact fE hc
end RF
namespace RF
theorem ff{P:Prop}(h:false=true):P:=(y6 h).elim
theorem tf{P:Prop}(h:true=false):P:=(y6 h.symm).elim
end RF
namespace RF
open PySem PySem.Spec L2 DL
open PyProof.Rows
noncomputable abbrev Cal(Ω:Wd)(x:Str)(k n:Nat)(F:Ct):Prop:=Callee Ω.P Ω.w Ω.K Ω.mg Ω.base x k n F
noncomputable abbrev Ok(Ω:Wd)(k:Nat)(f:Addr)(fd:FuncData)(ps:List Str)(F:Ct):Prop:=FnOk Ω.P Ω.w Ω.K Ω.mg Ω.base CX0 k f fd ps (spC Ω.K ps.length F)
noncomputable def mW:Ct:=λ ds S W=>∃ns,ds=[.lst (List.map .int ns)]/\ns.length≤63/\(∀S',W (.bl true) S')/\S=[]
theorem Rq{K:PySem.W.Frag}{H:Hp}{a:Addr}{ns:List Int}{E:XK}(hl:ns.length≤63)(hS:SqL K H a (ns.map V.int)):spC K 1 mW [.ref a] H (λ v _=>v=.bl true) E:=by
 refine⟨⟨[],[]⟩,[.lst (ns.map .int)],[],λ d _=>d=.bl true,rfl,.cons (.lst (xs:=ns.map V.int) ?_ (Reps.of_ints ns)) .nil,?_,⟨ns,rfl,hl,λ _=>rfl,rfl⟩,λ v H' q=>?_⟩
 . rcases hS with h | h
   . exact .inl ⟨λ z=>by rcases z with z | z<;>exact absurd (show a∈([]:List Addr)from z) (by simp),h⟩
   . exact .inr (.inr h)
 . exact⟨List.nodup_nil,rfl,λ k a ds e=>by simp at e,λ k a ds e=>by simp at e,λ a h=>absurd (show a∈([]:List Addr)from h) (by simp),λ a h=>absurd (show a∈([]:List Addr)from h) (by simp)⟩
 . obtain⟨O',d,S',w,_,_,r⟩:=q
   subst w
   cases r
   rfl
theorem walk{lev:Nat}{x:Str}{l:PySem.W.OpenLaw}{q:Program}{loose:List Str}{XP:(Str->Option Value)->Heap->Prop}{YP:World->Heap->Prop}{d:DefRec}{K:Params->PySem.W.Frag}(hn:l.most=some 63)(hdf:d.params.defaults=[])(hr:Room lev callerA)
 (hY:∀(w:World)(h:Heap),YP w h->(K w.params).In h)
 (F:∀(w:World)(mg:Str->Option Value)(fa:Addr)(h:Heap),(K w.params).In h->h.Ns mainGlobals mg->mg d.name=some (.ref fa)->
  ∃fd:FuncData,(∀(s:Shared)(u:Value),BindsTo s fd ⟨[u],[]⟩ [(x,u)])/\∀base:Heap,(K w.params).In base->base.Ns mainGlobals mg->FnOk l.prog w (K w.params) mg base CX0 lev fa fd [x] (spC (K w.params) 1 mW)):
 PySem.W.WalkO q loose XP YP l.row.toRowW d [] (λ f vs=>PySem.call f vs):=
 L2.walk_of (n:=63) (k:=lev) (x:=x) (CX:=λ _=>CX0) (sp:=λ w=>spC (K w.params) 1 mW) hn (by decide) hdf hr hY F (λ _ _ a ns hl _ hS=>Rq hl hS) λ _ _ _ _ _ z=>z
theorem Tg.mono{t:Tg}{d:D}{Γ:Gam}{W W':Gam->Prop}(h:t.wp d Γ W)(k:∀G,W G->W' G):t.wp d Γ W':=by
 cases t with
 | nm i=>exact k _ h
 | tup is=>
   cases d with
   | tup ds=>exact⟨h.1,k _ h.2⟩
   | _=>exact h.elim
section
variable {Ω : Wd} {cap : List (Option Nat)} {Γ : Gam} {elt : Ex Ω} {tg : Tg} {cd : Cd Ω} {W : WD} {ds : List D} {S1 : Store}
theorem dq(f:D->D)(hz:ds.length≤1000000)(h:∀(i:Nat)(d:D),ds[i]? =some d->∀Q:WD,Q (f d) S1->tg.wp d (capt cap Γ) λ Γ2=>elt.wp Γ2 S1 Q)(w:W (.lst (ds.map f)) S1):nu cap Γ elt tg (Cd.no (Ω:=Ω)) W ds S1:=by
 refine jj ⟨hz,λ i acc S'=>acc=(ds.take i).map f/\S'=S1,⟨rfl,rfl⟩,?_,?_⟩
 . rintro i d acc S' hd ⟨rfl,rfl⟩
   refine Tg.mono (h i d hd (λ y S4=>(ds.take i).map f++[y]=(ds.take (i+1)).map f/\S4=S') ⟨?_,rfl⟩) λ G q=>⟨λ _=>q,λ z=>tf z⟩
   rw[aM hd,v3];rfl
 . rintro acc S' ⟨rfl,rfl⟩
   rw[List.take_length];exact w
theorem lz(P:Nat->D->Prop)(Q:Store->Prop)(hz:ds.length≤1000000)(q0:Q S1)(h:∀(i:Nat)(d:D)(S':Store),ds[i]? =some d->Q S'->∀R:WD,(∀y S4,P i y->Q S4->R y S4)->tg.wp d (capt cap Γ) λ Γ2=>elt.wp Γ2 S' R)
 (w:∀(ys:List D)(S':Store),ys.length=ds.length->(∀i y,ys[i]? =some y->P i y)->Q S'->W (.lst ys) S'):nu cap Γ elt tg (Cd.no (Ω:=Ω)) W ds S1:=by
 refine jj ⟨hz,λ i acc S'=>(acc.length=i/\∀j y,acc[j]? =some y->P j y)/\Q S',⟨⟨rfl,λ j y e=>by simp at e⟩,q0⟩,?_,λ acc S' h=>w acc S' h.1.1 h.1.2 h.2⟩
 rintro i d acc S' hd ⟨⟨hl,ha⟩,q⟩
 refine Tg.mono (h i d S' hd q (λ y S4=>((acc++[y]).length=i+1/\∀j y',(acc++[y])[j]? =some y'->P j y')/\Q S4) λ y S4 hy q4=>⟨⟨by simp[hl],λ j y' e=>?_⟩,q4⟩) λ G q=>⟨λ _=>q,λ z=>tf z⟩
 by_cases hj:j<acc.length
 . rw[x8 hj]at e;exact ha j y' e
 . rw[List.getElem?_append_right (by omega)]at e
   have:j-acc.length=0:=by
    have:=(z0.mp e).1
    simp at this;omega
   rw[this]at e
   simp at e
   subst e
   have:j=i:=by omega
   rw[this];exact hy
end
theorem bT{A B:Prop}(h:A):(true=true->A)/\(true=false->B):=⟨λ _=>h,λ z=>tf z⟩
theorem bF{A B:Prop}(h:B):(false=true->A)/\(false=false->B):=⟨λ z=>ff z,λ _=>h⟩
theorem dT{A B:Prop}(h:B):(true=false->A)/\(true=true->B):=⟨λ z=>tf z,λ _=>h⟩
end RF
namespace RF
open PySem PySem.Spec L2 DL
open PyProof.Rows
variable {ds : List D} {W : WD} {Γ : Gam} {S : Store} {i : Int}
mutual
theorem cX{K:PySem.W.Frag}{O O':Own}{H:Hp}(h:∀a,¬O.has a->¬O'.has a):∀{v:V}{d:D},ao d=true->Rep K O H v d->Rep K O' H v d
 | _,_,_,.non=>.non
 | _,_,_,.bl b=>.bl b
 | _,_,_,.int i=>.int i
 | _,_,_,.str x=>.str x
 | _,_,n,.tup h1 r=>.tup ⟨h _ h1.1,h1.2⟩ (bK h (by simpa[ao]using n) r)
 | _,_,n,.lst h1 r=>.lst (h1.imp (λ q=>⟨h _ q.1,q.2⟩) id) (bK h (by simpa[ao]using n) r)
 | _,_,n,.loc _=>by simp[ao]at n
 | _,_,n,.dlo _=>by simp[ao]at n
 | _,_,_,.dic h1 e=>.dic (h _ h1) e
theorem bK{K:PySem.W.Frag}{O O':Own}{H:Hp}(h:∀a,¬O.has a->¬O'.has a):∀{vs:List V}{ds:List D},ak ds=true->Reps K O H vs ds->Reps K O' H vs ds
 | _,_,_,.nil=>.nil
 | _,_,n,.cons r t=>by
   simp only[ak,Bool.and_eq_true]at n
   exact .cons (cX h n.1 r) (bK h n.2 t)
end
theorem wN{K:PySem.W.Frag}{O O':Own}{H:Hp}(h:∀a,¬O.has a->¬O'.has a):∀{vs:List (List Key×V)}{ds:List D},ak ds=true->Kps K O H vs ds->Kps K O' H vs ds
 | _,_,_,.nil=>.nil
 | _,_,n,.cons r t=>by
   simp only[ak,ao,Bool.and_eq_true]at n
   exact .cons (cX h n.1.2.1 r) (wN h n.2 t)
theorem yO{K:PySem.W.Frag}{O O':Own}{H:Hp}(h:∀a,¬O.has a->¬O'.has a):∀{vs:Cy}{ds:List D},ak ds=true->Kcs K O H vs ds->Kcs K O' H vs ds
 | _,_,_,.nil=>.nil
 | _,_,n,.cons e rk rv r t=>by
   simp only[ak,ao,Bool.and_eq_true]at n
   exact .cons e (cX h n.1.1 rk) rv (cX h n.1.2.1 r) (yO h n.2 t)
theorem yX{K:PySem.W.Frag}{O O':Own}{H:Hp}(h:∀a,¬O.has a->¬O'.has a):∀{vs:Oy}{ds:List D},ak ds=true->Kos K O H vs ds->Kos K O' H vs ds
 | _,_,_,.nil=>.nil
 | _,_,n,.cons e rv r t=>by
   simp only[ak,ao,Bool.and_eq_true]at n
   exact .cons e rv (cX h n.1.2.1 r) (yX h n.2 t)
theorem pD{K:PySem.W.Frag}{O O':Own}{H:Hp}{a:Addr}(h:∀a,¬O.has a->¬O'.has a)(n:ak ds=true)(b:DOb K O H a ds):DOb K O' H a ds:=by
 cases b with
 | t kvs e r=>exact .t kvs e (wN h n r)
 | c ys z e r=>exact .c ys z e (yO h n r)
 | o ys z e r=>exact .o ys z e (yX h n r)
noncomputable def flat(S:Store):Prop:=∀l∈S,ak l=true
theorem gK{A:List (Addr×Bool)}{n:Nat}{a:Addr}(h:a∈adr (A.take n)):a∈adr A:=by
 obtain⟨x,hx,rfl⟩:=List.mem_map.mp h
 exact List.mem_map.mpr ⟨x,List.mem_of_mem_take hx,rfl⟩
theorem eO{K:PySem.W.Frag}{O O':Own}{H H':Hp}{S':Store}{J:List (List D)}(st:Step O O' H H')(ok:StOk K O' H' (S'++J))(hl:O.A.length≤S'.length)(hS:flat S'):
 Step O ⟨O'.A.take S'.length,O'.B⟩ H H'/\StOk K ⟨O'.A.take S'.length,O'.B⟩ H' S'/\(∀b,¬O'.has b->¬(⟨O'.A.take S'.length,O'.B⟩:Own).has b)/\∀j a,S'.length≤j->∀{q:Bool},O'.A[j]? =some (a,q)->¬(⟨O'.A.take S'.length,O'.B⟩:Own).has a:=by
 obtain⟨N,eA,fN⟩:=st.ext
 have len:O'.A.length=S'.length+J.length:=by have:=ok.len;simpa using this
 have sub:∀b,¬O'.has b->¬(⟨O'.A.take S'.length,O'.B⟩:Own).has b:=λ b hb z=>hb (z.imp gK id)
 have nd:(adr (O'.A.take S'.length)).Nodup:=by
  show(List.map _ (List.take _ _)).Nodup
  rw[List.map_take]
  exact ok.nd.sublist (List.take_sublist _ _)
 refine⟨⟨st.kept,st.dom,⟨N.take (S'.length-O.A.length),by
  show O'.A.take S'.length=_
  rw[eA,List.take_append,List.take_of_length_le (by omega)],λ b hb=>fN b (gK hb)⟩,st.hid⟩,⟨nd,by simp[len],λ k b es e1 e2=>?_,λ k b es e1 e2=>?_,λ b hb=>ok.apart b (gK hb),ok.hidden⟩,sub,λ j a hj q ha z=>?_⟩
 . have hk:k<S'.length:=(z0.mp e2).1
   have e1':(O'.A.take S'.length)[k]? =some (b,false):=e1
   rw[List.getElem?_take,if_pos hk]at e1'
   obtain⟨ys,hy,r'⟩:=ok.obj k b es e1' (by rw[x8 hk];exact e2)
   exact⟨ys,hy,bK sub (hS es (y4 e2)) r'⟩
 . have hk:k<S'.length:=(z0.mp e2).1
   have e1':(O'.A.take S'.length)[k]? =some (b,true):=e1
   rw[List.getElem?_take,if_pos hk]at e1'
   exact pD sub (hS es (y4 e2)) (ok.dob k b es e1' (by rw[x8 hk];exact e2))
 . rcases z with z | z
   . obtain⟨⟨a',q'⟩,hm,rfl⟩:=List.mem_map.mp z
     obtain⟨i,hi⟩:=List.getElem?_of_mem hm
     rw[List.getElem?_take]at hi
     split at hi
     . rename_i hlt
       exact qP ok.nd hi ha (by omega) rfl
     . cases hi
   . exact ok.apart a (bH ha) z
noncomputable def Frz(n:Nat)(W:WD):WD:=λ d S1=>W d S1∨∃ds S',d=.loc S'.length/\S1=S'++[ds]/\n≤S'.length/\ak ds=true/\flat S'/\W (.lst ds) S'
theorem QG.frz{K:PySem.W.Frag}{O:Own}{H H':Hp}{v:V}{n:Nat}(hn:O.A.length=n)(q:QG K O H (Frz n W) v H'):QG K O H W v H':=by
 obtain⟨O',d,S1,w,st,ok,r⟩:=q
 rcases w with w | ⟨ds,S',rfl,rfl,hl,hd,hS,w⟩
 . exact⟨O',d,S1,w,st,ok,r⟩
 . obtain⟨st2,ok2,sub,na⟩:=eO st ok (by omega) hS
   cases r with
   | @loc a _ ha=>
     obtain⟨xs,hx,q1⟩:=ok.obj S'.length a ds ha (by simp)
     exact⟨_,.lst ds,S',w,st2,ok2,.lst (.inl ⟨na _ a (y9 _) ha,.inl hx⟩) (bK sub hd q1)⟩
theorem Qj{X:Cx}{sts:List Stmt}{W:DL.Fin}(h:Rns X Γ S sts {W with rt:=Frz S.length W.rt}):Rns X Γ S sts W:=λ pins s σ H O I env ok=>
 thn (h pins s σ H O I env ok) λ f s' q=>by
  cases f with
  | next=>exact q
  | brk=>exact q
  | cont=>exact q
  | ret u=>obtain⟨v,σ',H',I',r,q⟩:=q;exact⟨v,σ',H',I',r,QG.frz ok.len q⟩
variable {Ω : Wd}
noncomputable def Bl.frz(b:Bl Ω):Bl Ω where
 lev:=b.lev
 chk:=b.chk
 wp Γ S W:=b.wp Γ S {W with rt:=Frz S.length W.rt}
 sound:=by
  intro X r top N nm sts Γ S W A hl hc hw
  exact Qj (b.sound A hl hc hw)
noncomputable def hand(W:WD)(ds:List D)(S:Store):Prop:=W (.lst ds) S∨W (.loc S.length) (S++[ds])
theorem pU(h:hand W ds S)(hd:ak ds=true)(hS:flat S):Frz S.length W (.loc S.length) (S++[ds]):=by
 rcases h with h | h
 . exact .inr ⟨ds,S,rfl,rfl,y9 _,hd,hS,h⟩
 . exact .inl h
theorem HN{X:Cx}{o e:Expr}{apos cpos:Pos}(h:Ev X Γ S o λ x S1=>∃k,x=.loc k/\Ev X Γ S1 e λ d S2=>∃ds,S2[k]? =some ds/\ds.length<1000000/\W .non (S2.set k (ds++[d])))
 (hbase:attributeBase o "append" X.env (eval o X.env)=eval o X.env)(hs:starEach [e] X.env=[(false,eval e X.env)])(hline:(apos.endLine==cpos.line)=true):Ev X Γ S (.Call (.Attribute o "append" apos) [e] [] cpos) W:=by
 intro pins s σ H O I env st
 have hty:∀(O1:Own)(x:D)(v:V)(H1:Hp)(S1:Store),(∃k,x=.loc k)->StOk X.K O1 H1 S1->Rep X.K O1 H1 v x->tyV X.K "list" v H1:=by
  rintro O1 x v H1 S1 ⟨k,rfl⟩ ok r
  cases r with
  | @loc a _ ha=>
    have hl:k<S1.length:=by rw[←ok.len];exact(z0.mp ha).1
    obtain⟨xs,hx,_⟩:=ok.obj k a S1[k] ha (y3 hl)
    exact .inl ⟨rfl,xs,SqL.of hx⟩
 have hA:PA X [e] (λ σ H Q=>∃O Γ S W',EnvOk X.K O H σ Γ/\StOk X.K O H S/\Ev X Γ S e W'/\∀v H',QG X.K O H W' v H'->Q [v] H'):=by
  rintro pos pins s σ H Q I ⟨O,Γ,S,W',env,st,he,k⟩
  rw[hs]
  show wpAny _ _ (spliced ((false,eval e X.env)::backTo pos (starEach [] X.env))) _ _ s
  refine Calls.spliced_cons (thn (he pins s σ H O I env st) λ u s1 hq_=>?_)
  obtain⟨v,H1,I1,r1,q⟩:=hq_
  exact Calls.spliced_nil ⟨[v],H1,I1,.cons r1 .nil,k v H1 q⟩
 refine FZ (T:="list") PySem.F.plainAttrs_list PySem.F.slot_list_append PySem.F.type_list_append uH (h.pe) hA hbase (by rw[hs];rfl) hline hs rfl pins s σ H _ I ⟨O,env,st,λ v H' q=>?_⟩
 obtain⟨O1,x,S1,⟨k,rfl,he⟩,st1,ok1,rep1⟩:=q
 refine⟨hty O1 _ v H' S1 ⟨k,rfl⟩ ok1 rep1,O1,Γ,S1,_,env.mono st1,ok1,he,λ v2 H2 q2=>?_⟩
 obtain⟨O2,d,S2,⟨ds,hk,hz,w⟩,st2,ok2,rep2⟩:=q2
 have r:=rep1.mono st2
 cases r with
 | @loc a _ ha=>
   obtain⟨xs,hx,q1⟩:=ok2.obj k a ds ha hk
   exact⟨a,xs,v2,rfl,rfl,hx,by rw[q1.length];exact x9 hz (by decide),O2,.non,_,w,(st1.trans st2).trans (Step.put (bH ha) _),ok2.put ha (q1.append (.cons rep2 .nil)),.non⟩
noncomputable def nameE:Expr->Bool
 | .Name .. =>true
 | _=>false
noncomputable def Ex.m_append(o a:Ex Ω):Ex Ω where
 lev:=max o.lev a.lev
 chk top N nm e:=match e with | .Call (.Attribute x m p) [y] [] q=>(m==("append":Str))&&(nameE x&&((p.endLine==q.line)&&(okE y&&(o.chk top N nm x&&a.chk top N nm y)))) | _=>false
 wp Γ S W:=o.wp Γ S λ x S1=>match x with | .loc k=>a.wp Γ S1 λ d S2=>∃ds,S2[k]? =some ds/\ds.length<1000000/\W .non (S2.set k (ds++[d])) | _=>False
 sound:=by
  intro X r top N nm e Γ S W A hl hc hw
  obtain⟨l1,l2⟩:=lv2 hl
  split at hc
  . rename_i x m p y q
    obtain⟨h1,g⟩:=aa hc
    obtain⟨h2,g⟩:=aa g
    obtain⟨h3,g⟩:=aa g
    obtain⟨h4,g⟩:=aa g
    obtain⟨h5,h6⟩:=aa g
    have e:=eq_of_beq h1
    subst e
    refine HN ((o.sound A l1 h5 hw).mono λ x S1 q=>?_) ?_ (aC h4 [] _) h3
    . cases x<;>first | exact q.elim | exact⟨_,rfl,a.sound A l2 h6 q⟩
    . cases x<;>first | rfl | exact ff h2
  . exact ff hc
theorem Oa{X:Cx}{c:Expr}{body:List Stmt}{pos:Pos}{W:DL.Fin}(h:∃(Pv:Nat->Gam->Store->Prop) (m0:Nat),Pv m0 Γ S/\∀m Γ' S',Pv m Γ' S'->
 Ts X Γ' S' c λ k S1=>(k=true->Rns X Γ' S1 body {W with nx:=λ G T=>∃m',m'<m/\Pv m' G T,ct:=λ G T=>∃m',m'<m/\Pv m' G T,bk:=W.nx})/\(k=false->W.nx Γ' S1))
 (hp:PassesOwn (model X.prog X.w) X.A X.env X.xe):Rn X Γ S (.While c body [] pos) W:=by
 intro pins s σ H O I env ok
 obtain⟨Pv,m0,p0,turn⟩:=h
 refine wpAny_While (codeAny_whileLoop (λ n s'=>∃σ' H' O' Γ' S',Inv X pins σ' H' s'/\Pv n Γ' S'/\Step O O' H H'/\StOk X.K O' H' S'/\EnvOk X.K O' H' σ' Γ') ?_ m0 ⟨σ,H,O,Γ,S,I,p0,Step.refl _ _,ok,env⟩)
 rintro n s1 ⟨σ1,H1,O1,Γ1,S1,I1,p1,st1,ok1,env1⟩
 refine wpAny_passesOwn hp (thn (turn n Γ1 S1 p1 pins s1 σ1 H1 O1 I1 env1 ok1) λ b s2 hq_=>?_)
 obtain⟨H2,I2,O2,S2,w2,st2,ok2⟩:=hq_
 cases b with
 | true=>
   rw[if_pos rfl]
   refine wpAny_passesOwn hp (thn (w2.1 rfl pins s2 σ1 H2 O2 I2 (env1.mono st2) ok2) λ f s3 q3=>?_)
   cases f with
   | next=>
     obtain⟨σ3,H3,I3,O3,Γ3,S3,⟨m',hm,p3⟩,st3,ok3,env3⟩:=q3
     exact⟨m',hm,σ3,H3,O3,Γ3,S3,I3,p3,(st1.trans st2).trans st3,ok3,env3⟩
   | cont=>
     obtain⟨σ3,H3,I3,O3,Γ3,S3,⟨m',hm,p3⟩,st3,ok3,env3⟩:=q3
     exact⟨m',hm,σ3,H3,O3,Γ3,S3,I3,p3,(st1.trans st2).trans st3,ok3,env3⟩
   | brk=>
     obtain⟨σ3,H3,I3,q⟩:=q3
     exact⟨σ3,H3,I3,QN.pre (st1.trans st2) q⟩
   | ret v=>
     obtain⟨x,σ3,H3,I3,r3,q⟩:=q3
     exact⟨x,σ3,H3,I3,r3,QG.pre (st1.trans st2) q⟩
 | false=>
   rw[if_neg y6]
   exact wpAny_execs_nil ⟨σ1,H2,I2,O2,Γ1,S2,w2.2 rfl,st1.trans st2,ok2,env1.mono st2⟩
@[irreducible] noncomputable def qF(c:Te Ω)(body:Bl Ω)(Γ:Gam)(S:Store)(W:DL.Fin):Prop:=∃(Pv:Nat->Gam->Store->Prop) (m0:Nat),Pv m0 Γ S/\∀m Γ' S',Pv m Γ' S'->
 c.wp Γ' S' λ k S1=>(k=true->body.wp Γ' S1 {W with nx:=λ G T=>∃m',m'<m/\Pv m' G T,ct:=λ G T=>∃m',m'<m/\Pv m' G T,bk:=W.nx})/\(k=false->W.nx Γ' S1)
theorem pg{c:Te Ω}{body:Bl Ω}{W:DL.Fin}(h:∃(Pv:Nat->Gam->Store->Prop) (m0:Nat),Pv m0 Γ S/\∀m Γ' S',Pv m Γ' S'->
 c.wp Γ' S' λ k S1=>(k=true->body.wp Γ' S1 {W with nx:=λ G T=>∃m',m'<m/\Pv m' G T,ct:=λ G T=>∃m',m'<m/\Pv m' G T,bk:=W.nx})/\(k=false->W.nx Γ' S1)):qF c body Γ S W:=by unfold qF;exact h
noncomputable def Sm.while(c:Te Ω)(body:Bl Ω):Sm Ω where
 lev:=max c.lev body.lev
 chk top N nm st:=match st with | .While t b [] _=>c.chk top N nm t&&body.chk top N nm b | _=>false
 wp Γ S W:=qF c body Γ S W
 sound:=by
  intro X r top N nm st Γ S W A hl hc hw
  obtain⟨l1,l2⟩:=lv2 hl
  split at hc
  . obtain⟨h1,h2⟩:=aa hc
    unfold qF at hw
    obtain⟨Pv,m0,p0,turn⟩:=hw
    exact Oa ⟨Pv,m0,p0,λ m Γ' S' p=>Ts.mono (c.sound A l1 h1 (turn m Γ' S' p)) λ k S1 q=>⟨λ hk=>body.sound A l2 h2 (q.1 hk),q.2⟩⟩ (by rw[A.xe];exact PassesOwn.never)
  . exact ff hc
noncomputable def Sm.never:Sm Ω where
 lev:=0
 chk _ _ _ st:=match st with | .Raise _ _ _=>true | _=>false
 wp _ _ _:=False
 sound:=λ _ _ _ h=>h.elim
theorem b8(S:Store)(x:List D):(S++[x])[S.length]? =some x:=by simp
theorem cB(S:Store)(x y:List D):(S++[x]).set S.length y=S++[y]:=by simp
theorem cJ{α β:Type}{xs:List α}{f:α->β}{i:Nat}{e:β}(h:(xs.map f)[i]? =some e):∃x,xs[i]? =some x/\e=f x:=by
 rw[y8]at h
 cases e1:xs[i]? with
 | none=>rw[e1]at h;cases h
 | some x=>rw[e1]at h;cases h;exact⟨x,rfl,rfl⟩
theorem mZ{α β:Type}{xs:List α}{f:Nat->α->β}{i:Nat}{e:β}(h:(xs.mapIdx f)[i]? =some e):∃x,xs[i]? =some x/\e=f i x:=by
 rw[List.getElem?_mapIdx]at h
 cases e1:xs[i]? with
 | none=>rw[e1]at h;cases h
 | some x=>rw[e1]at h;cases h;exact⟨x,rfl,rfl⟩
theorem fO{cap:List (Option Nat)}{elt:Ex Ω}{tg:Tg}{S1:Store}{α:Type}{xs:List α}{enc:α->D}(f:α->D)(hz:xs.length≤1000000)(h:∀(i:Nat)(x:α),xs[i]? =some x->∀Q:WD,Q (f x) S1->tg.wp (enc x) (capt cap Γ) λ Γ2=>elt.wp Γ2 S1 Q)
 (w:W (.lst (xs.map f)) S1):nu cap Γ elt tg (Cd.no (Ω:=Ω)) W (xs.map enc) S1:=by
 refine jj ⟨by rw[y7];exact hz,λ i acc S'=>acc=(xs.take i).map f/\S'=S1,⟨rfl,rfl⟩,?_,?_⟩
 . rintro i d acc S' hd ⟨rfl,rfl⟩
   obtain⟨x,hx,rfl⟩:=cJ hd
   refine Tg.mono (h i x hx (λ y S4=>(xs.take i).map f++[y]=(xs.take (i+1)).map f/\S4=S') ⟨?_,rfl⟩) λ G q=>⟨λ _=>q,λ z=>tf z⟩
   rw[aM hx,v3];rfl
 . rintro acc S' ⟨rfl,rfl⟩
   rw[y7,List.take_length];exact w
theorem wM1{j:Int}{P:Prop}(h:L2.CMul i j)(p:P):L2.CMul i j/\P:=⟨h,p⟩
theorem wM2{j:Int}{P:Prop}(h:L2.CPow i j)(p:P):L2.CPow i j/\P:=⟨h,p⟩
theorem wM3{j:Int}{P:Prop}(h:0<i/\i<j)(p:P):(0<i/\i<j)/\P:=⟨h,p⟩
theorem wM4{P:Prop}(h:0<i)(p:P):0<i/\P:=⟨h,p⟩
theorem wM5{α:Type}{l:List α}{P:Prop}(h:l.length≤1000000)(p:P):l.length≤1000000/\P:=⟨h,p⟩
theorem wM6{α β:Type}{l:List α}{k:List β}{P:Prop}(h:l.length+k.length≤1000000)(p:P):l.length+k.length≤1000000/\P:=⟨h,p⟩
theorem wM7{k j:Nat}{n:Int}{Q:List D->Nat->Prop}(h:S[k]? =some ds)(g:L2.ixN ds.length n=some j)(q:Q ds j):∃ds j,S[k]? =some ds/\L2.ixN ds.length n=some j/\Q ds j:=⟨ds,j,h,g,q⟩
theorem wM8{k:Nat}{n:Int}{d:D}{Q:List D->D->Prop}(h:S[k]? =some ds)(g:L2.atI ds n=some d)(q:Q ds d):∃ds d,S[k]? =some ds/\L2.atI ds n=some d/\Q ds d:=⟨ds,d,h,g,q⟩
theorem wM9{n:Int}{d:D}{Q:D->Prop}(g:L2.atI ds n=some d)(q:Q d):∃d,L2.atI ds n=some d/\Q d:=⟨d,g,q⟩
end RF
namespace RF
open PySem PySem.Spec L2 DL
open PyProof.Rows
section
variable {prog : Program} {w : World} {A : Around} {E : Value -> Shared -> Prop} {s : Shared}
noncomputable def ltF(fin:Bool):List Int->List Int->Bool
 | x::xs,y::ys=>if x=y then ltF fin xs ys else decide (x<y)
 | _,_=>fin
noncomputable def ltI(xs ys:List Int):Bool:=ltF (decide (xs.length<ys.length)) xs ys
theorem Qd{flag:Bool}{a b:Int}{t u:Tok}{Q:Bool->Shared->Prop}(h:Q (decide (a<b)) s):wpAny (model prog w) A (oneLt' flag (.int a t) (.int b u)) Q E s:=by
 cases flag with
 | true=>exact oneLt_int h
 | false=>exact PySem.W.kat_one _ _ (wpAny_lt_int h)
noncomputable def dU(h:Heap)(v:Value)(ns:List Int):Prop:=∃b o xs k,v=.ref b/\h.get? b=some o/\o.cls=.type "tuple"/\o.data=.seq xs k/\IntsAre xs.toList ns
end
noncomputable def rY(k:Nat)(ds:List D):Option D->Option D
 | some (.loc j)=>if j=k then some (.lst ds)else some (.loc j)
 | o=>o
noncomputable def atTop(Γ:Gam):Prop:=∀(i:Nat)(d:D),Γ[i]? =some (some d)->ao d=true∨∃j,d=.loc j
noncomputable def QC(n:Nat)(W:Gam->Store->Prop):Gam->Store->Prop:=λ Γ S1=>W Γ S1∨∃ds S',S1=S'++[ds]/\n≤S'.length/\ak ds=true/\flat S'/\atTop Γ/\W (Γ.map (rY S'.length ds)) S'
theorem QN.frz {K:PySem.W.Frag}{O:Own}{H H':Hp}{W:Gam->Store->Prop}{σ:DL.St}{n:Nat}(hn:O.A.length=n)(q:QN K O H (QC n W) σ H'):QN K O H W σ H':=by
 obtain⟨O',Γ,S1,w,st,ok,r⟩:=q
 rcases w with w | ⟨ds,S',rfl,hl,hd,hS,ht,w⟩
 . exact⟨O',Γ,S1,w,st,ok,r⟩
 . obtain ⟨st2,ok2,sub,na⟩:=eO st ok (by omega) hS
   have len:O'.A.length=S'.length+1:=by have:=ok.len;simpa using this
   refine⟨⟨O'.A.take S'.length,O'.B⟩,_,S',w,st2,ok2,⟨by rw[y7];exact r.len,λ i d e=>?_⟩⟩
   . rw [y8] at e
     cases e1:Γ[i]? with
     | none=>rw[e1]at e;cases e
     | some o=>
       rw[e1]at e
       cases o with
       | none=>cases e
       | some d0=>
         obtain⟨v,hv,rv⟩:=r.at_ i d0 e1
         rcases ht i d0 e1 with nl | ⟨j,rfl⟩
         . have e2:d0=d:=by
            cases d0 with
            | loc j=>simp[ao]at nl
            | _=>simpa[rY]using e
           subst e2
           exact⟨v,hv,cX sub nl rv⟩
         . cases rv with
           | @loc a _ ha=>
             by_cases hj:j=S'.length
             . subst hj
               have e2:d=.lst ds:=by simpa[rY]using e.symm
               subst e2
               obtain⟨xs,hx,q1⟩:=ok.obj S'.length a ds ha (by simp)
               exact⟨_,hv,.lst (.inl ⟨na _ a (y9 _) ha,.inl hx⟩) (bK sub hd q1)⟩
             . have e2:d=.loc j:=by simpa[rY,hj]using e.symm
               subst e2
               refine⟨_,hv,.loc ?_⟩
               have:j<O'.A.length:=(z0.mp ha).1
               show(O'.A.take S'.length)[j]? =some (a,false)
               rw[List.getElem?_take,if_pos (by omega)];exact ha
section
variable {Ω : Wd}
noncomputable def Bl.fzl(b:Bl Ω):Bl Ω where
 lev:=b.lev
 chk:=b.chk
 wp Γ S W:=b.wp Γ S {W with nx:=QC S.length W.nx}
 sound:=by
  intro X r top N nm sts Γ S W A hl hc hw pins s σ H O I env ok
  refine thn (b.sound A hl hc hw pins s σ H O I env ok) λ f s' q=>?_
  cases f with
  | next=>obtain⟨σ,H',I,q⟩:=q;exact⟨σ,H',I,QN.frz ok.len q⟩
  | brk=>exact q
  | cont=>exact q
  | ret u=>exact q
end
end RF
namespace RF
open PySem PySem.Spec L2 DL
open PyProof.Rows
variable {Γ : Gam}
theorem Gu{K:PySem.W.Frag}{O:Own}{H:Hp}{a:Addr}{k:Nat}{ds:List D}(h:O.A[k]? =some (a,false)):tU K (Itl K a) O H (λ S=>S[k]? =some ds) ds:=by
 intro O' H' S' st ok hS i
 have h':O'.A[k]? =some (a,false):=st.lc k _ h
 obtain⟨xs,hx,r⟩:=ok.obj k a ds h' hS
 have hq:SqL K H' a xs:=SqL.of hx
 refine⟨λ d hd=>?_,λ hi=>⟨xs,hq,by rw[r.length];exact Nat.le_of_eq hi.symm⟩⟩
 obtain⟨v,hv,rv⟩:=r.get hd
 refine⟨⟨xs,v,hq,hv⟩,λ x H'' y=>?_⟩
 obtain⟨e,y⟩:=y
 subst e
 have e:=y xs hq
 rw[hv]at e
 cases e
 exact⟨dD.refl _,rv⟩
noncomputable abbrev itC(W:List D->(Store->Prop)->Store->Prop):WD:=λ d S1=>match d with
 | .lst ds=>W ds (λ _=>True) S1
 | .tup ds=>W ds (λ _=>True) S1
 | .loc k=>∃ds,S1[k]? =some ds/\W ds (λ S=>S[k]? =some ds) S1
 | _=>False
theorem RT{X:Cx}{S:Store}{tg e:Expr}{W:List D->(Store->Prop)->Store->Prop}(h:Ev X Γ S e (itC W)):ItC X Γ S tg e W:=by
 intro pins s σ H O I env st
 refine thn (h pins s σ H O I env st) λ u s1 hq_=>?_
 obtain⟨v,H1,I1,r1,O1,d,S1,w,st1,ok1,rep⟩:=hq_
 cases rep with
 | @lst a xs ds h1 q1=>
   cases r1
   obtain⟨its,rv,p,hz⟩:=I1.list h1.sq
   refine wpAny_pyIter_list p.isList ?_
   refine⟨s1.heap.objs.size,[s1.heap.objs.size],_,_,H1,rfl,I1.kept (t':=s1.toks) λ b o e=>Heap.get?_push_of_some _ e,mH a _,⟨_,Heap.get?_push_size _ rfl,rfl,rfl⟩,λ b hb=>?_,O1,ds,_,S1,w,st1,ok1,oN (oJ h1 q1)⟩
   have e:b=s1.heap.objs.size:=by simpa using hb
   subst e
   exact I1.fpOk (y9 _) (I1.hok.fresh (y9 _))
 | @tup a xs ds h1 q1=>
   cases r1
   obtain⟨its,rv,p,hz⟩:=I1.tuple h1.sq
   refine wpAny_pyIter_tuple (show s1.heap.IsTuple a its.toArray from p) ?_
   refine⟨s1.heap.objs.size,[s1.heap.objs.size],_,_,H1,rfl,I1.kept (t':=s1.toks) λ b o e=>Heap.get?_push_of_some _ e,qQ a _,⟨_,Heap.get?_push_size _ rfl,rfl,rfl⟩,λ b hb=>?_,O1,ds,_,S1,w,st1,ok1,oN (ql h1 q1)⟩
   have e:b=s1.heap.objs.size:=by simpa using hb
   subst e
   exact I1.fpOk (y9 _) (I1.hok.fresh (y9 _))
 | @loc a k h1=>
   cases r1
   obtain⟨ds,hk,w⟩:=w
   obtain⟨xs,hx,q1⟩:=ok1.obj k a ds h1 hk
   obtain⟨its,rv,p,hz⟩:=I1.list (SqL.of hx)
   refine wpAny_pyIter_list p.isList ?_
   refine⟨s1.heap.objs.size,[s1.heap.objs.size],_,_,H1,rfl,I1.kept (t':=s1.toks) λ b o e=>Heap.get?_push_of_some _ e,mH a _,⟨_,Heap.get?_push_size _ rfl,rfl,rfl⟩,λ b hb=>?_,O1,ds,_,S1,w,st1,ok1,Gu h1⟩
   have e:b=s1.heap.objs.size:=by simpa using hb
   subst e
   exact I1.fpOk (y9 _) (I1.hok.fresh (y9 _))
 | _=>exact w.elim
theorem Rr{X:Cx}{S:Store}{W:DL.Fin}{pos:Pos}{tg iter:Expr}{body:List Stmt}(h:ItC X Γ S tg iter λ ds C S1=>∃Pv:Nat->Gam->Store->Prop,Pv 0 Γ S1/\(∀i Γ' S',Pv i Γ' S'->C S')/\
 (∀i d Γ' S',ds[i]? =some d->Pv i Γ' S'->BdW X tg d Γ' S' λ Γ2 S2=>Rns X Γ2 S2 body {W with nx:=Pv (i+1),ct:=Pv (i+1),bk:=W.nx})/\(∀Γ' S',Pv ds.length Γ' S'->W.nx Γ' S'))
 (hp:PassesOwn (model X.prog X.w) X.A X.env X.xe)(hc:X.calm=true)(hs:∀x,foldedSetIterable iter X.env x=pure x):Rn X Γ S (.For tg iter body [] pos) W:=by
 intro pins s σ H O I env ok
 let WI:List D->(Store->Prop)->Store->Prop:=λ ds C S1=>∃Pv:Nat->Gam->Store->Prop,Pv 0 Γ S1/\(∀i Γ' S',Pv i Γ' S'->C S')/\
     (∀i d Γ' S',ds[i]? =some d->Pv i Γ' S'->BdW X tg d Γ' S' λ Γ2 S2=>Rns X Γ2 S2 body {W with nx:=Pv (i+1),ct:=Pv (i+1),bk:=W.nx})/\(∀Γ' S',Pv ds.length Γ' S'->W.nx Γ' S')
 have hI:PI X tg iter (λ σ H R=>∃O,EnvOk X.K O H σ Γ/\StOk X.K O H S/\∀J H',QIc X.K O H WI J H'->R J H'):=λ pins s σ H R I hh=>by
  obtain⟨O,env,st,k⟩:=hh
  refine thn (h pins s σ H O I env st) λ _ _ q=>thn q λ _ _ q2=>?_
  obtain⟨it,fp,tn,J,H',e1,e2,e3,e4,e5,e6⟩:=q2
  exact⟨it,fp,tn,J,H',e1,e2,e3,e4,e5,k J H' e6⟩
 have hG:PG X tg (λ v σ H Q=>∃O d Γ S W',EnvOk X.K O H σ Γ/\StOk X.K O H S/\Rep X.K O H v d/\BdW X tg d Γ S W'/\∀σ' H',QN X.K O H W' σ' H'->Q σ' H'):=λ pins s σ H v u Q I ru hh=>by
  obtain⟨O,d,Γ,S,W',env,st,r,b,k⟩:=hh
  refine thn (b pins s σ H O v u I env st r ru) λ _ _ q2=>?_
  obtain⟨σ',H',I',q⟩:=q2
  exact⟨σ',H',I',k σ' H' q⟩
 have hB:PSs X body (λ D σ H=>∃O Γ S W',EnvOk X.K O H σ Γ/\StOk X.K O H S/\Rns X Γ S body W'/\(∀σ' H',QN X.K O H W'.nx σ' H'->D.nx σ' H')/\(∀v H',QG X.K O H W'.rt v H'->D.rt v H')/\(∀σ' H',QN X.K O H W'.bk σ' H'->D.bk σ' H')/\∀σ' H',QN X.K O H W'.ct σ' H'->D.ct σ' H'):=
  λ pins s σ H D I hh=>by
   obtain⟨O,Γ,S,W',env,st,b,k1,k2,k3,k4⟩:=hh
   refine thn (b pins s σ H O I env st) λ f s' q=>?_
   cases f with
   | next=>obtain⟨σ',H',I',q⟩:=q;exact⟨σ',H',I',k1 σ' H' q⟩
   | brk=>obtain⟨σ',H',I',q⟩:=q;exact⟨σ',H',I',k3 σ' H' q⟩
   | cont=>obtain⟨σ',H',I',q⟩:=q;exact⟨σ',H',I',k4 σ' H' q⟩
   | ret u=>obtain⟨v,σ',H',I',r,q⟩:=q;exact⟨v,σ',H',I',r,k2 v H' q⟩
 refine HW hp hc hI hG hB hs pins s σ H _ I ⟨O,env,ok,λ J H1 q=>?_⟩
 obtain⟨O1,ds,C,S1,⟨Pv,p0,pC,pt,pe⟩,st1,ok1,yl⟩:=q
 refine⟨λ i m σ' H'=>m=ds.length-i/\i≤ds.length/\∃O' Γ' S',Pv i Γ' S'/\Step O1 O' H1 H'/\StOk X.K O' H' S'/\EnvOk X.K O' H' σ' Γ',⟨ds.length,by simp,Nat.zero_le _,O1,Γ,S1,p0,Step.refl _ _,ok1,env.mono st1⟩,?_⟩
 rintro i m σ2 H2 ⟨rfl,hi,O2,Γ2,S2,p2,st2,ok2,env2⟩
 obtain⟨y1,y2⟩:=yl O2 H2 S2 st2.conv ok2 (pC _ _ _ p2) i
 by_cases hlt:i<ds.length
 . obtain⟨go,yy⟩:=y1 ds[i] (y3 hlt)
   refine .inr ⟨go,λ σ' H'=>i+1≤ds.length/\∃O' Γ' S',Pv (i+1) Γ' S'/\Step O1 O' H1 H'/\StOk X.K O' H' S'/\EnvOk X.K O' H' σ' Γ',λ σ' H' q=>⟨ds.length-(i+1),by omega,rfl,q.1,q.2⟩,λ x H3 y=>?_⟩
   obtain⟨sm,rx⟩:=yy x H3 y
   have st3:=Step.same (O:=O2) sm
   refine⟨O2,ds[i],Γ2,S2,_,env2.mono st3,ok2.same sm,rx,pt i ds[i] Γ2 S2 (y3 hlt) p2,λ σ4 H4 q4=>?_⟩
   obtain⟨O4,Γ4,S4,w4,st4,ok4,env4⟩:=q4
   have stA:=(st2.trans st3).trans st4
   refine⟨O4,Γ4,S4,_,env4,ok4,w4,?_,?_,?_,?_⟩
   . rintro σ5 H5 ⟨O5,Γ5,S5,w5,st5,ok5,env5⟩
     exact⟨hlt,O5,Γ5,S5,w5,stA.trans st5,ok5,env5⟩
   . exact λ v H' q=>QG.pre (st1.trans stA) q
   . exact λ σ' H' q=>QN.pre (st1.trans stA) q
   . rintro σ5 H5 ⟨O5,Γ5,S5,w5,st5,ok5,env5⟩
     exact⟨hlt,O5,Γ5,S5,w5,stA.trans st5,ok5,env5⟩
 . have e:i=ds.length:=by omega
   subst e
   exact .inl ⟨y2 rfl,O2,Γ2,S2,pe Γ2 S2 p2,st1.trans st2,ok2,env2⟩
section
variable {Ω : Wd}
@[irreducible] noncomputable def Eh(Γ:Gam)(tg:Tg)(body:Bl Ω)(W:DL.Fin)(k:Nat)(ds:List D)(S1:Store):Prop:=
  ∃Pv:Nat->Gam->Store->Prop,Pv 0 Γ S1/\(∀i Γ' S',Pv i Γ' S'->S'[k]? =some ds)/\(∀i d Γ' S',ds[i]? =some d->Pv i Γ' S'->tg.wp d Γ' λ Γ2=>body.wp Γ2 S' {W with nx:=Pv (i+1),ct:=Pv (i+1),bk:=W.nx})/\(∀Γ' S',Pv ds.length Γ' S'->W.nx Γ' S')
theorem NK{tg:Tg}{body:Bl Ω}{W:DL.Fin}{k:Nat}{ds:List D}{S1:Store}(h:∃Pv:Nat->Gam->Store->Prop,Pv 0 Γ S1/\(∀i Γ' S',Pv i Γ' S'->S'[k]? =some ds)/\(∀i d Γ' S',ds[i]? =some d->Pv i Γ' S'->tg.wp d Γ' λ Γ2=>body.wp Γ2 S' {W with nx:=Pv (i+1),ct:=Pv (i+1),bk:=W.nx})/\(∀Γ' S',Pv ds.length Γ' S'->W.nx Γ' S')):Eh Γ tg body W k ds S1:=by unfold Eh;exact h
noncomputable def Sm.forL(tg:Tg)(it:Ex Ω)(body:Bl Ω):Sm Ω where
 lev:=max it.lev body.lev
 chk top N nm st:=match st with | .For t i b [] _=>okE i&&(tg.chk top N nm t&&(it.chk top N nm i&&body.chk top N nm b)) | _=>false
 wp Γ S W:=it.wp Γ S λ d S1=>match d with
  | .lst ds=>iT Γ tg body W ds S1
  | .tup ds=>iT Γ tg body W ds S1
  | .loc k=>∃ds,S1[k]? =some ds/\Eh Γ tg body W k ds S1
  | _=>False
 sound:=by
  intro X r top N nm st Γ S W A hl hc hw
  obtain⟨l1,l2⟩:=lv2 hl
  split at hc
  . rename_i t i b pos
    obtain⟨h1,hc⟩:=aa hc
    obtain⟨h2,hc⟩:=aa hc
    obtain⟨h3,h4⟩:=aa hc
    have step:∀(Pv:Nat->Gam->Store->Prop)(ds:List D),(∀i d Γ' S',ds[i]? =some d->Pv i Γ' S'->tg.wp d Γ' λ Γ2=>body.wp Γ2 S' {W with nx:=Pv (i+1),ct:=Pv (i+1),bk:=W.nx})->∀i d Γ' S',ds[i]? =some d->Pv i Γ' S'->BdW X t d Γ' S' λ Γ2 S2=>Rns X Γ2 S2 b {W with nx:=Pv (i+1),ct:=Pv (i+1),bk:=W.nx}:=
     λ Pv ds pt i d Γ' S' hd hp=>BdW.mono (Tg.sound A (W:=λ Γ2 S2=>body.wp Γ2 S2 {W with nx:=Pv (i+1),ct:=Pv (i+1),bk:=W.nx}) h2 (pt i d Γ' S' hd hp)) λ Γ2 S2 q=>body.sound A l2 h4 q
    refine Rr (RT (Ev.mono (it.sound A l1 h3 hw) λ d S1 q=>?_)) (by rw[A.xe];exact PassesOwn.never) A.calm (mY h1 _)
    cases d with
    | lst ds=>
      have q:iT Γ tg body W ds S1:=q
      unfold iT at q
      obtain⟨Pv,p0,pt,pe⟩:=q
      exact⟨Pv,p0,λ _ _ _ _=>trivial,step Pv ds pt,pe⟩
    | tup ds=>
      have q:iT Γ tg body W ds S1:=q
      unfold iT at q
      obtain⟨Pv,p0,pt,pe⟩:=q
      exact⟨Pv,p0,λ _ _ _ _=>trivial,step Pv ds pt,pe⟩
    | loc k=>
      obtain⟨ds,hk,q⟩:=q
      unfold Eh at q
      obtain⟨Pv,p0,pC,pt,pe⟩:=q
      exact⟨ds,hk,Pv,p0,pC,step Pv ds pt,pe⟩
    | _=>exact(show False from q).elim
  . exact fE hc
end
theorem Dj{Ω:Wd}{cap:List (Option Nat)}{elt:Ex Ω}{tg:Tg}{W:WD}{S1:Store}{C0:Store->Prop}{α:Type}{xs:List α}{enc:α->D}(f:α->D)(hz:xs.length≤1000000)(hC:C0 S1)(h:∀(i:Nat)(x:α),xs[i]? =some x->∀Q:WD,Q (f x) S1->tg.wp (enc x) (capt cap Γ) λ Γ2=>elt.wp Γ2 S1 Q)
 (w:W (.lst (xs.map f)) S1∨W (.loc S1.length) (S1++[xs.map f])):m8 cap Γ elt tg (Cd.no (Ω:=Ω)) W (xs.map enc) C0 S1:=by
 refine zW ⟨by rw[y7];exact hz,λ i acc S'=>acc=(xs.take i).map f/\S'=S1,⟨rfl,rfl⟩,λ i acc S' q=>by rw[q.2];exact hC,?_,?_⟩
 . rintro i d acc S' hd ⟨rfl,rfl⟩
   obtain⟨x,hx,rfl⟩:=cJ hd
   refine Tg.mono (h i x hx (λ y S4=>(xs.take i).map f++[y]=(xs.take (i+1)).map f/\S4=S') ⟨?_,rfl⟩) λ G q=>⟨λ _=>q,λ z=>tf z⟩
   rw[aM hx,v3];rfl
 . rintro acc S' ⟨rfl,rfl⟩
   rw[y7,List.take_length];exact w
end RF
namespace RF
open PySem PySem.Spec L2 DL
open PyProof.Rows
variable {ds : List D}
noncomputable def iz(S:Store):D->Option (List D)
 | .lst ds=>some ds
 | .loc k=>S[k]?
 | _=>none
noncomputable def putL(own:Bool)(W:WD)(ds:List D)(S:Store):Prop:=match own with
 | true=>W (.loc S.length) (S++[ds])
 | false=>W (.lst ds) S
section
variable {X : Cx} {S : Store} {W : WD}
theorem wA{pins:Pins}{s:Shared}{σ:DL.St}{H:Hp}{O:Own}{v:V}{d:D}(st:StOk X.K O H S)(r:Rep X.K O H v d)(h:iz S d=some ds):∃a xs,v=.ref a/\SqL X.K H a xs/\Reps X.K O H xs ds:=by
 cases r with
 | @lst a xs _ h1 q1=>cases h;exact⟨a,xs,rfl,h1.sq,q1⟩
 | @loc a k h1=>
   obtain⟨xs,hx,q1⟩:=st.obj k a ds h1 h
   exact⟨a,xs,rfl,SqL.of hx,q1⟩
 | _=>cases h
theorem JM{own:Bool}{K:PySem.W.Frag}{O:Own}{H:Hp}{p:Addr}{xs:List V}(w:putL own W ds S)(st:StOk K O H S)(h:H p=none)(r:Reps K O H xs ds):QG K O H W (.ref p) (upd H p (.lst xs)):=by
 cases own with
 | true=>exact qj w st h r
 | false=>exact dO w st h r
theorem Qq{own:Bool}{x y:D}{es:List D}(hx:iz S x=some ds)(hy:iz S y=some es)(hz:ds.length+es.length≤1000000)(w:putL own W (ds++es) S):dg X .Add x y S W:=by
 intro pins s σ H O v w' u u' I st r1 r2 r3 r4
 obtain⟨a,xs,rfl,h1,q1⟩:=wA (pins:=pins) (s:=s) (σ:=σ) st r1 hx
 obtain⟨b,ys,rfl,h2,q2⟩:=wA (pins:=pins) (s:=s) (σ:=σ) st r2 hy
 cases r3
 cases r4
 obtain⟨its,v1,p1,_⟩:=I.list h1
 obtain⟨its2,v2,p2,_⟩:=I.list h2
 obtain⟨⟨cls,dd,data,sl⟩,n,ho,hc,hdd,hd⟩:=id p1
 obtain⟨⟨cls2,dd2,data2,sl2⟩,n2,ho2,hc2,hdd2,hd2⟩:=id p2
 simp only at hc hd hc2 hd2
 subst hc hd hc2 hd2
 have z:its.length+its2.length≤sizeLine:=by rw[←v1.length,←v2.length,q1.length,q2.length];exact small hz
 refine concat_meets ⟨_,ho,rfl⟩ ⟨_,ho2,rfl⟩ noFill_list_add seq_list_add PySem.F.slot_list_add PySem.F.entry_list_add (PySem.F.args_list_add_2 _ _)
  (list_addW a b its.toArray its2.toArray n n2 dd dd2 sl sl2 (by simpa using z)) ⟨ho,ho2,?_⟩
 have ea:its.toArray++its2.toArray=(its++its2).toArray:=by simp
 rw[ea]
 exact⟨.ref s.heap.objs.size,_,I.lnew (t':=s.toks) (v1.append v2) (by rw[x6,q1.length,q2.length];exact small hz),rfl,JM w st I.fresh (q1.append q2)⟩
theorem Q6{own:Bool}{x:D}{k:Int}(hx:iz S x=some ds)(hk: -(2 ^ 63)≤k/\k<2 ^ 63)(hz:ds.length*k.toNat≤1000000)(w:putL own W (List.replicate k.toNat ds).flatten S):dg X .Mult x (.int k) S W:=by
 intro pins s σ H O v w' u u' I st r1 r2 r3 r4
 obtain⟨a,xs,rfl,h1,q1⟩:=wA (pins:=pins) (s:=s) (σ:=σ) st r1 hx
 cases r2
 cases r3
 obtain⟨t,rfl⟩:=r4
 obtain⟨its,v1,p1,_⟩:=I.list h1
 obtain⟨⟨cls,dd,data,sl⟩,n,ho,hc,hdd,hd⟩:=id p1
 simp only at hc hd
 subst hc hd
 have l1:its.length=ds.length:=by rw[←v1.length,q1.length]
 have big:its.length*k.toNat≤1000000:=by rw[l1];exact hz
 have sz:(1000000:Nat)≤sizeLine:=by decide
 refine PySem.wpAny_binaryOp_repeat_ref (T:="list") (U:="int") (by decide) ⟨_,ho,rfl⟩ (λ s'=>typeIs_int s' k t) PySem.noFill_list_mul F.fills_int_mul F.slot_int_rmul PySem.repeat_list F.slot_int_index.lookup
  (call_meets F.slot_int_rmul (typeIs_int s k t) F.entry_int_rmul (F.args_int_rmul_2 _ _) (PySem.lm_int_rmul_list_any k t a its.toArray n dd sl) ⟨ho,rfl,⟨_,ho,rfl⟩,?_⟩)
 refine call_meets F.slot_list_mul ⟨_,ho,rfl⟩ F.entry_list_mul (F.args_list_mul_2 _ _) (PySem.lm_list_mul_any a its.toArray n dd sl k t ?_ ?_ ?_) ⟨ho,?_⟩
 . have c1:Builtin.List.listFitsIndex k=true:=by
    unfold Builtin.List.listFitsIndex
    rw[decide_eq_true (by omega),decide_eq_true (by omega)];rfl
   rw[c1];decide
 . rw[x4];omega
 . rw[x4]
   unfold Builtin.List.listTooLong
   rw[decide_eq_true_eq];omega
 . have ez:(List.replicate (if its.toArray.isEmpty=true then 0 else k.toNat) its.toArray).foldl (λ x1 x2=>x1++x2) #[]=(List.replicate k.toNat its).flatten.toArray:=by
    have fz:∀m:Nat,(List.replicate m its.toArray).foldl (λ x1 x2=>x1++x2) #[]=(List.replicate m its).flatten.toArray:=λ m=>by
     have:=foldl_rep its m []
     rw[List.nil_append]at this
     exact this
    rw[fz]
    by_cases e:its=[]
    . subst e;simp
    . have:its.toArray.isEmpty=false:=by simpa using e
      rw[this];rfl
   rw[ez]
   exact⟨.ref s.heap.objs.size,_,I.lnew (t':=s.toks) (v1.rep _) (by rw[len_rep,q1.length,Nat.mul_comm];exact small hz),rfl,JM w st I.fresh (Reps.rep q1 _)⟩
theorem Rw{ns:List Int}(w:W (.int ns.sum) S)(hc:X.calm=true):dm X (.builtin "sum") [.tup (ns.map .int)] S W:=by
 intro pins s σ H O vs us I st r ru
 obtain⟨v,rfl,r'⟩:=cR r
 obtain⟨u,rfl,ru'⟩:=vals1 ru
 cases r' with
 | @tup a xs _ h1 q1=>
   cases ru'
   obtain⟨its,rv,pl,hz⟩:=I.tuple h1.sq
   have ex:=q1.ints
   subst ex
   have hi:IntsAre its ns:=intsAre_of rv
   obtain⟨zs,ez⟩:=hi.allInts.items
   have hT:s.heap.IsTuple a its.toArray:=pl
   rw[ez]at hT
   have hlt:a<s.heap.objs.size:=by obtain⟨_,e,_⟩:=hT;exact Heap.lt_size e
   refine call_sum_walkG (wpAny_pyIter_tuple hT ?_)
   refine⟨_,_,_,_,_,_,numAt zs,rfl,Walks.tuple (A:=X.A.in1) (I.ok.hd hc) _ a (w9 hlt) (intItems zs),⟨⟨_,Heap.get?_push_size _ rfl,rfl,rfl⟩,hT.push _⟩,(λ b hb=>?_),(λ _ _=>intItems_at),λ h' tk t' hk=>?_⟩
   . show b<(s.heap.push _).objs.size
     rw[Heap.size_push]
     rcases List.mem_cons.mp hb with rfl | hb
     . exact Nat.lt_succ_self _
     . rcases List.mem_cons.mp hb with rfl | hb
       . exact Nat.lt_succ_of_lt hlt
       . cases hb
   . have e:preSum (numAt zs) (intItems zs).size=ns.sum:=by
      rw[show(intItems zs).size=zs.size by simp[intItems],preSum_eq,List.take_of_length_le (by simp),←nums_intItems,←ez]
      exact congrArg List.sum hi.numsOf
     rw[e]
     refine⟨.int _,H,I.kept (λ b o q=>hk b o (λ z=>?_) (Heap.get?_push_of_some _ q)),⟨_,rfl⟩,QG.here w st (.int _)⟩
     have z':b=s.heap.objs.size:=by simpa using z
     exact absurd (Heap.lt_size q) (by rw[z'];exact Nat.lt_irrefl _)
end
noncomputable def v6:Bf where
 x:="sum"
 id:="sum"
 boot:=by decide+kernel
 wp ds S W:=match ds with
  | [.lst ds]=>∃ns:List Int,ds=ns.map .int/\W (.int ns.sum) S
  | [.tup ds]=>∃ns:List Int,ds=ns.map .int/\W (.int ns.sum) S
  | _=>False
 sound:=by
  intro X ds S W hc hr h
  split at h
  . obtain⟨bs,rfl,h⟩:=h;exact Uw h hc
  . obtain⟨bs,rfl,h⟩:=h;exact Rw h hc
  . exact h.elim
noncomputable def wO(own:Bool)(op:Operator)(x y:D)(S:Store)(W:WD):Prop:=match op with
 | .Add=>∃ds es,iz S x=some ds/\iz S y=some es/\ds.length+es.length≤1000000/\putL own W (ds++es) S
 | .Mult=>∃ds k,iz S x=some ds/\y=.int k/\(-(2 ^ 63)≤k/\k<2 ^ 63)/\ds.length*k.toNat≤1000000/\putL own W (List.replicate k.toNat ds).flatten S
 | _=>False
theorem Jh{X:Cx}{own:Bool}{op:Operator}{x y:D}{S:Store}{W:WD}(h:wO own op x y S W):dg X op x y S W:=by
 unfold wO at h
 split at h
 . obtain⟨ds,es,h1,h2,h3,h4⟩:=h;exact Qq h1 h2 h3 h4
 . obtain⟨ds,k,h1,rfl,h3,h4,h5⟩:=h;exact Q6 h1 h3 h4 h5
 . exact h.elim
section
variable {Ω : Wd}
noncomputable def Ex.binL(own:Bool)(op:Operator)(a b:Ex Ω):Ex Ω where
 lev:=max a.lev b.lev
 chk top N nm e:=match e with | .BinOp l o r _=>(o==op)&&(a.chk top N nm l&&b.chk top N nm r) | _=>false
 wp Γ S W:=a.wp Γ S λ x S1=>b.wp Γ S1 λ y S2=>wO own op x y S2 W
 sound:=by
  intro X r top N nm e Γ S W A hl hc hw
  obtain⟨l1,l2⟩:=lv2 hl
  cases e with
  | BinOp l o r' pos=>
    obtain⟨h1,h2⟩:=aa hc
    obtain⟨h2,h3⟩:=aa h2
    have e:o=op:=eq_of_beq h1
    subst e
    exact xW ((a.sound A l1 h2 hw).mono λ x S1 q=>(b.sound A l2 h3 q).mono λ y S2 q=>Jh q)
  | _=>exact fE hc
noncomputable def Ex.fdiv(a b:Ex Ω):Ex Ω where
 lev:=max a.lev b.lev
 chk top N nm e:=match e with | .BinOp l o r _=>(o==.FloorDiv)&&(a.chk top N nm l&&b.chk top N nm r) | _=>false
 wp Γ S W:=a.wp Γ S λ x S1=>b.wp Γ S1 λ y S2=>match x,y with
  | .int i,.int j=>(0<j/\j<1000000000000000000000000000000000000000000000000000000000000)/\W (.int (i/j)) S2
  | _,_=>False
 sound:=by
  intro X r top N nm e Γ S W A hl hc hw
  obtain⟨l1,l2⟩:=lv2 hl
  cases e with
  | BinOp l o r' pos=>
    obtain⟨h1,h2⟩:=aa hc
    obtain⟨h2,h3⟩:=aa h2
    have e:o=.FloorDiv:=eq_of_beq h1
    subst e
    refine xW ((a.sound A l1 h2 hw).mono λ x S1 q=>(b.sound A l2 h3 q).mono λ y S2 q=>?_)
    split at q
    . rename_i i j
      refine jb (C:=λ _ j=>0<j/\j<1000000000000000000000000000000000000000000000000000000000000) (g:=λ i j=>i/j) (opI λ i j _ _ _ _ _ hc q=>?_) q.1 q.2
      have h1:(0:Int)<j:=hc.1
      have h2:j<1000000000000000000000000000000000000000000000000000000000000:=hc.2
      refine floordiv_int (by omega) (by rw[Int.fdiv_eq_ediv_of_nonneg i (by omega)];exact q) (.inl (PyProof.noPylong_of_log2 ?_))
      have h3:j.natAbs<2 ^ 200:=by omega
      have:j.natAbs.log2<200:=(Nat.log2_lt (by omega)).mpr h3
      omega
    . exact q.elim
  | _=>exact fE hc
end
end RF
namespace RF
open PySem PySem.Spec L2 DL
open PyProof.Rows
noncomputable def iw(n:Nat)(J:List (List D)):Option D->Option D
 | some (.loc j)=>if j<n then some (.loc j)else(J[j-n]?).map .lst
 | o=>o
noncomputable def yR(n:Nat)(W:Gam->Store->Prop):Gam->Store->Prop:=λ Γ S1=>W Γ S1∨∃J S',S1=S'++J/\n≤S'.length/\flat J/\flat S'/\atTop Γ/\W (Γ.map (iw S'.length J)) S'
theorem QN.frzJ{K:PySem.W.Frag}{O:Own}{H H':Hp}{W:Gam->Store->Prop}{σ:DL.St}{n:Nat}(hn:O.A.length=n)(q:QN K O H (yR n W) σ H'):QN K O H W σ H':=by
 obtain⟨O',Γ,S1,w,st,ok,r⟩:=q
 rcases w with w | ⟨J,S',rfl,hl,hd,hS,ht,w⟩
 . exact⟨O',Γ,S1,w,st,ok,r⟩
 . obtain ⟨st2,ok2,sub,na⟩:=eO st ok (by omega) hS
   refine⟨_,_,S',w,st2,ok2,⟨by rw[y7];exact r.len,λ i d e=>?_⟩⟩
   rw[y8]at e
   cases e1:Γ[i]? with
   | none=>rw[e1]at e;cases e
   | some o=>
     rw[e1]at e
     cases o with
     | none=>cases e
     | some d0 =>
       obtain⟨v,hv,rv⟩:=r.at_ i d0 e1
       rcases ht i d0 e1 with nl | ⟨j,rfl⟩
       . have e2:d0=d:=by
          cases d0 with
          | loc j=>simp[ao]at nl
          | _=>simpa[iw]using e
         subst e2
         exact⟨v,hv,cX sub nl rv⟩
       . cases rv with
         | @loc a _ ha=>
           by_cases hj:j<S'.length
           . have e2:d=.loc j:=by simpa[iw,hj]using e.symm
             subst e2
             refine⟨_,hv,.loc ?_⟩
             show(O'.A.take S'.length)[j]? =some (a,false)
             rw[List.getElem?_take,if_pos hj];exact ha
           . cases e3:J[j-S'.length]? with
             | none=>simp[iw,hj,e3]at e
             | some ds=>
               have e2:d=.lst ds:=by simpa[iw,hj,e3]using e.symm
               subst e2
               obtain⟨xs,hx,q1⟩:=ok.obj j a ds ha (by rw[List.getElem?_append_right (by omega)];exact e3)
               exact⟨_,hv,.lst (.inl ⟨na j a (by omega) ha,.inl hx⟩) (bK sub (hd ds (y4 e3)) q1)⟩
noncomputable def Drp(n:Nat)(W:WD):WD:=λ d S1=>W d S1∨∃J S',S1=S'++J/\n≤S'.length/\ao d=true/\flat S'/\W d S'
theorem QG.drp{K:PySem.W.Frag}{O:Own}{H H':Hp}{W:WD}{v:V}{n:Nat}(hn:O.A.length=n)(q:QG K O H (Drp n W) v H'):QG K O H W v H':=by
 obtain⟨O',d,S1,w,st,ok,r⟩:=q
 rcases w with w | ⟨J,S',rfl,hl,hd,hS,w⟩
 . exact⟨O',d,S1,w,st,ok,r⟩
 . obtain⟨st2,ok2,sub,na⟩:=eO st ok (by omega) hS
   exact⟨_,d,S',w,st2,ok2,cX sub hd r⟩
section
variable {Ω : Wd}
noncomputable def Bl.fza(b:Bl Ω):Bl Ω where
 lev:=b.lev
 chk:=b.chk
 wp Γ S W:=b.wp Γ S {W with nx:=yR S.length W.nx}
 sound:=by
  intro X r top N nm sts Γ S W A hl hc hw pins s σ H O I env ok
  refine thn (b.sound A hl hc hw pins s σ H O I env ok) λ f s' q=>?_
  cases f with
  | next=>obtain⟨σ,H',I,q⟩:=q;exact⟨σ,H',I,QN.frzJ ok.len q⟩
  | brk=>exact q
  | cont=>exact q
  | ret u=>exact q
noncomputable def Bl.drp(b:Bl Ω):Bl Ω where
 lev:=b.lev
 chk:=b.chk
 wp Γ S W:=b.wp Γ S {W with rt:=Drp S.length W.rt}
 sound:=by
  intro X r top N nm sts Γ S W A hl hc hw pins s σ H O I env ok
  refine thn (b.sound A hl hc hw pins s σ H O I env ok) λ f s' q=>?_
  cases f with
  | next=>exact q
  | brk=>exact q
  | cont=>exact q
  | ret u=>obtain⟨v,σ',H',I',r,q⟩:=q;exact⟨v,σ',H',I',r,QG.drp ok.len q⟩
end
end RF
namespace RF
open PySem PySem.Spec L2 DL
open PyProof.Rows
variable {v : Value} {c : Int × List Int} {b : Addr} {ns : List Int} {n : Nat} {Q : Bool -> Shared -> Prop}
noncomputable def aZ(h:Heap)(v:Value)(c:Int×List Int):Prop:=
 ∃b o k tk u,v=.ref b/\h.get? b=some o/\o.cls=.type "tuple"/\o.data=.seq #[.int c.1 tk,u] k/\dU h u c.2
theorem aZ.keep{h h':Heap}(k:∀b o,h.get? b=some o->o.cls=.type "tuple"->h'.get? b=some o)(hc:aZ h v c):aZ h' v c:=by
 obtain⟨b,o,n,tk,u,e1,e2,e3,e4,b',o',xs,n',e5,e6,e7,e8,e9⟩:=hc
 exact⟨b,o,n,tk,u,e1,k _ _ e2 e3,e3,e4,b',o',xs,n',e5,k _ _ e6 e7,e7,e8,e9⟩
section
variable {prog : Program} {w : World} {A : Around} {E : Value -> Shared -> Prop} {s : Shared}
theorem jX:∀{vs:List Value}{ns:List Int},IntsAre vs ns->ItemsAre (intKind prog w) ns vs
 | _,_,.nil=>.nil
 | _,_,.cons n t r=>.cons (intKind_is _ _ _ _) (jX r)
theorem yV{h:Heap}(ht:dU h (.ref b) ns):IsTupleKey (intKind prog w) h ns b:=by
 obtain⟨b',o,xs,k,e,e1,e2,e3,e4⟩:=ht
 cases e
 exact⟨o,xs,k,e1,e2,e3,jX e4⟩
theorem oK:∀{vs:List Value}{ns ms:List Int},IntsAre vs ns->IntsAre vs ms->ns=ms
 | _,_,_,.nil,.nil=>rfl
 | _,_,_,.cons _ _ r,.cons _ _ r'=>by rw[oK r r']
theorem J6{h:Heap}{ms:List Int}(x:dU h v ns)(y:dU h v ms):ns=ms:=by
 obtain⟨b,o,xs,k,rfl,e1,e2,e3,e4⟩:=x
 obtain⟨b',o',xs',k',e,e1',e2',e3',e4'⟩:=y
 cases e
 obtain rfl:o=o':=Option.some.inj (e1.symm.trans e1')
 have e5:=e3.symm.trans e3'
 injection e5 with e5 _
 subst e5
 exact oK e4 e4'
noncomputable def hC(prog:Program)(w:World)(c:Int×List Int):Int:=reduceHash (Builtin.Tuple.tupleHashOf [(intKind prog w).hash c.1,tupleKeyHash (intKind prog w) c.2])
theorem Jt{Q:Int->Shared->Prop}(hu:A.units+5<cLine)(hc:aZ s.heap v c)(h:Q (hC prog w c) {s with toks:=s.toks+(c.2.length+3)}):wpAny (model prog w) A (pyHash v) Q E s:=by
 obtain⟨a,o,n,tk,u,rfl,ho,hcl,hd,hu'⟩:=hc
 have hT:s.TypeIs (.ref a) "tuple":=⟨o,ho,hcl⟩
 have hk:∀b,u=.ref b->IsTupleKey (intKind prog w) s.heap c.2 b:=λ b e=>yV (e▸hu')
 obtain⟨b,_,_,_,rfl,_⟩:=id hu'
 have hk:=hk b rfl
 unfold pyHash
 first | unfold pyHashByItsType | skip
 first | refine wpAny_bind (wpAny_cRoomFor_or (.inr (by omega)) ?_) | skip
 refine wpAny_bind (wpAny_specialOf hT F.slot_tuple_hash.lookup ?_)
 show wpAny _ _ (if(some (Value.builtin "tuple.__hash__")==some Value.none)=true then _ else _) Q E s
 rw[if_neg (by rw[beq_builtin_none];exact y6)]
 refine wpAny_bind (wpAny_specialOf hT F.slot_tuple_hash.lookup ?_)
 show wpAny _ _ (callSpecialIfBoundUnlessNone? (.ref a) "__hash__" _>>=_) Q E s
 refine wpAny_bind (wpAny_callSpecialIfBoundUnlessNone?_slot hT F.slot_tuple_hash (wpAny_call_entry F.slot_tuple_hash hT F.entry_tuple_hash ?_ (F.args_tuple_hash_1 _)))
 show wpAny _ _ (Builtin.Tuple.tupleItemsOf (.ref a)>>=_) _ _ s
 refine wpAny_bind (wpAny_tupleItemsOf ho hd ?_)
 refine wpAny_bind ?_
 rw[←Array.forIn_toList]
 refine wpAny_forIn_list _
  (λ rest (b':Array Int) s'=>∃n,s'={s with toks:=s.toks+n}/\((rest=[.int c.1 tk,.ref b]/\b'=#[]/\n=0)∨(rest=[.ref b]/\b'=#[(intKind prog w).hash c.1]/\n=1)∨(rest=[]/\n=c.2.length+2/\b'=#[(intKind prog w).hash c.1,tupleKeyHash (intKind prog w) c.2])))
  _ ?_ ?_ _ _ ⟨0,rfl,.inl ⟨rfl,rfl,rfl⟩⟩
 . rintro x rest b' s' ⟨n,rfl,⟨e,rfl,rfl⟩ | ⟨e,rfl,rfl⟩ | ⟨e,rfl,rfl⟩⟩
   . cases e
     refine wpAny_bind ((intKind prog w).pyHash (intKind_is _ _ _ _) ?_)
     first
      | exact wpAny_pure ⟨1,rfl,.inr (.inl ⟨rfl,rfl,rfl⟩)⟩
      | exact wpAny_bind (wpAny_pure (wpAny_pure ⟨1,rfl,.inr (.inl ⟨rfl,rfl,rfl⟩)⟩))
   . cases e
     refine wpAny_bind (wpAny_pyHash_tuple (knd:=intKind prog w) ?_ hk ?_)
     . show A.units+1<cLine
       omega
     . first
       | exact wpAny_pure ⟨1+(c.2.length+1),by simp[Nat.add_assoc],.inr (.inr ⟨rfl,by omega,rfl⟩)⟩
       | exact wpAny_bind (wpAny_pure (wpAny_pure ⟨1+(c.2.length+1),by simp[Nat.add_assoc],.inr (.inr ⟨rfl,by omega,rfl⟩)⟩))
   . cases e
 . rintro b' s' ⟨n,rfl,⟨e,rfl,rfl⟩ | ⟨e,rfl,rfl⟩ | ⟨e,rfl,rfl⟩⟩
   . cases e
   . cases e
   show wpAny _ _ (retInt (Builtin.Tuple.tupleHashOf [(intKind prog w).hash c.1,tupleKeyHash (intKind prog w) c.2])) _ _ _
   refine wpAny_ret_mkInt ?_
   show wpAny _ _ (if(decide (-(2:Int) ^ 63≤Builtin.Tuple.tupleHashOf _)&&decide (Builtin.Tuple.tupleHashOf _<2 ^ 63))=true then _ else _) Q E _
   unfold hC reduceHash at h
   split
   . rename_i hr
     rw[if_pos hr]at h
     exact wpAny_pure h
   . rename_i hr
     rw[if_neg hr]at h
     exact wpAny_bind (wpAny_rule (wpAny_pure h))
theorem yg{Q:Int->Shared->Prop}(hu:A.units+5<cLine)(hc:aZ s.heap v c)(h:∀n,Q (hC prog w c) {s with toks:=s.toks+n}):wpAny (model prog w) A (pyHash v) Q E s:=Jt hu hc (h _)
theorem lZ{h:Heap}(ht:dU h (.ref b) ns):∃o xs k,h.get? b=some o/\o.cls=.type "tuple"/\o.data=.seq xs k/\∀v∈xs.toList,∃i t,v=Value.int i t:=by
 obtain⟨b',o,xs,k,e,e1,e2,e3,e4⟩:=ht
 cases e
 refine⟨o,xs,k,e1,e2,e3,λ v hv=>?_⟩
 obtain⟨i,hi⟩:=List.getElem?_of_mem hv
 obtain⟨t,e⟩:=IntsAre.int_at e4 i v hi
 exact⟨_,t,e⟩
theorem Hv(ht:dU s.heap (.ref b) ns)(h:Q true s):wpAny (model prog w) A (eqIsQuiet (n+1) (.ref b)) Q E s:=by
 obtain⟨o,xs,k,ho,hc,hd,hi⟩:=lZ ht
 have hT:s.TypeIs (.ref b) "tuple":=⟨o,ho,hc⟩
 unfold eqIsQuiet
 refine wpAny_bind (wpAny_specialOf hT F.slot_tuple_eq.lookup ?_)
 show wpAny _ _ (isInstance (.ref b) (.type "tuple")>>=_) _ _ s
 refine wpAny_bind (wpAny_isInstance hT isSubtype_tuple_tuple ?_)
 simp only[Bool.not_true,Bool.false_eq_true,if_false]
 refine wpAny_bind (wpAny_seqItems ho hd ?_)
 refine wpAny_bind ?_
 show wpAny _ _ (forIn xs _ _) _ _ s
 rw[←Array.forIn_toList]
 refine wpAny_forIn_list _ (λ rest r s'=>r.1=none/\s'=s/\∀v∈rest,∃i t,v=Value.int i t) _ ?_ ?_ _ _ ⟨rfl,rfl,hi⟩
 . rintro v rest r s' ⟨hr,rfl,hall⟩
   obtain⟨i,t,rfl⟩:=hall v x5
   rw[eqIsQuiet_byValue _ (by rfl)]
   refine wpAny_bind (wpAny_pure ?_)
   simp only[Bool.not_true,Bool.false_eq_true,if_false]
   exact wpAny_pure ⟨rfl,rfl,λ u hu'=>hall u (x3 _ hu')⟩
 . rintro⟨r1,r2⟩ s' ⟨hr,rfl,_⟩
   simp only at hr
   subst hr
   exact wpAny_pure h
theorem uA(ht:aZ s.heap (.ref b) c)(h:Q true s):wpAny (model prog w) A (eqIsQuiet (n+2) (.ref b)) Q E s:=by
 obtain⟨a,o,k,tk,u,e,ho,hc,hd,hu'⟩:=ht
 cases e
 obtain⟨b',_,_,_,rfl,_⟩:=id hu'
 have hT:s.TypeIs (.ref b) "tuple":=⟨o,ho,hc⟩
 unfold eqIsQuiet
 refine wpAny_bind (wpAny_specialOf hT F.slot_tuple_eq.lookup ?_)
 show wpAny _ _ (isInstance (.ref b) (.type "tuple")>>=_) _ _ s
 refine wpAny_bind (wpAny_isInstance hT isSubtype_tuple_tuple ?_)
 simp only[Bool.not_true,Bool.false_eq_true,if_false]
 refine wpAny_bind (wpAny_seqItems ho hd ?_)
 refine wpAny_bind ?_
 show wpAny _ _ (forIn #[Value.int c.1 tk,.ref b'] _ _) _ _ s
 rw[←Array.forIn_toList]
 refine wpAny_forIn_list _ (λ rest r s'=>r.1=none/\s'=s/\∀v∈rest,v=Value.int c.1 tk∨v=.ref b') _ ?_ ?_ _ _ ⟨rfl,rfl,by simp⟩
 . rintro v rest r s' ⟨hr,rfl,hall⟩
   rcases hall v x5 with rfl | rfl
   . rw[eqIsQuiet_byValue _ (by rfl)]
     refine wpAny_bind (wpAny_pure ?_)
     simp only[Bool.not_true,Bool.false_eq_true,if_false]
     exact wpAny_pure ⟨rfl,rfl,λ u hu'=>hall u (x3 _ hu')⟩
   . refine wpAny_bind (Hv hu' ?_)
     simp only[Bool.not_true,Bool.false_eq_true,if_false]
     exact wpAny_pure ⟨rfl,rfl,λ u hu'=>hall u (x3 _ hu')⟩
 . rintro⟨r1,r2⟩ s' ⟨hr,rfl,_⟩
   simp only at hr
   subst hr
   exact wpAny_pure h
theorem CK(n:Nat)(i:Int)(t:Tok):hashByValue n (.int i t)=pure true:=by cases n<;>rfl
theorem Nt(ht:dU s.heap (.ref b) ns)(h:Q true s):wpAny (model prog w) A (hashByValue (n+1) (.ref b)) Q E s:=by
 obtain⟨o,xs,k,ho,hc,hd,hi⟩:=lZ ht
 have hT:s.TypeIs (.ref b) "tuple":=⟨o,ho,hc⟩
 unfold hashByValue
 refine wpAny_bind (wpAny_specialOf hT F.slot_tuple_hash.lookup ?_)
 show wpAny _ _ (seqItems? (.ref b)>>=_) _ _ s
 refine wpAny_bind (wpAny_seqItems ho hd ?_)
 refine wpAny_bind ?_
 show wpAny _ _ (forIn xs _ _) _ _ s
 rw[←Array.forIn_toList]
 refine wpAny_forIn_list _ (λ rest r s'=>r.1=none/\s'=s/\∀v∈rest,∃i t,v=Value.int i t) _ ?_ ?_ _ _ ⟨rfl,rfl,hi⟩
 . rintro v rest r s' ⟨hr,rfl,hall⟩
   obtain⟨i,t,rfl⟩:=hall v x5
   rw[CK]
   refine wpAny_bind (wpAny_pure ?_)
   simp only[Bool.not_true,Bool.false_eq_true,if_false]
   exact wpAny_pure ⟨rfl,rfl,λ u hu'=>hall u (x3 _ hu')⟩
 . rintro⟨r1,r2⟩ s' ⟨hr,rfl,_⟩
   simp only at hr
   subst hr
   exact wpAny_pure h
theorem rH(ht:aZ s.heap (.ref b) c)(h:Q true s):wpAny (model prog w) A (hashByValue (n+2) (.ref b)) Q E s:=by
 obtain⟨a,o,k,tk,u,e,ho,hc,hd,hu'⟩:=ht
 cases e
 obtain⟨b',_,_,_,rfl,_⟩:=id hu'
 have hT:s.TypeIs (.ref b) "tuple":=⟨o,ho,hc⟩
 unfold hashByValue
 refine wpAny_bind (wpAny_specialOf hT F.slot_tuple_hash.lookup ?_)
 show wpAny _ _ (seqItems? (.ref b)>>=_) _ _ s
 refine wpAny_bind (wpAny_seqItems ho hd ?_)
 refine wpAny_bind ?_
 show wpAny _ _ (forIn #[Value.int c.1 tk,.ref b'] _ _) _ _ s
 rw[←Array.forIn_toList]
 refine wpAny_forIn_list _ (λ rest r s'=>r.1=none/\s'=s/\∀v∈rest,v=Value.int c.1 tk∨v=.ref b') _ ?_ ?_ _ _ ⟨rfl,rfl,by simp⟩
 . rintro v rest r s' ⟨hr,rfl,hall⟩
   rcases hall v x5 with rfl | rfl
   . rw[CK]
     refine wpAny_bind (wpAny_pure ?_)
     simp only[Bool.not_true,Bool.false_eq_true,if_false]
     exact wpAny_pure ⟨rfl,rfl,λ u hu'=>hall u (x3 _ hu')⟩
   . refine wpAny_bind (Nt hu' ?_)
     simp only[Bool.not_true,Bool.false_eq_true,if_false]
     exact wpAny_pure ⟨rfl,rfl,λ u hu'=>hall u (x3 _ hu')⟩
 . rintro⟨r1,r2⟩ s' ⟨hr,rfl,_⟩
   simp only at hr
   subst hr
   exact wpAny_pure h
theorem CT(n:Nat)(i:Int)(t:Tok):ofAClassStatement n (.int i t)=pure false:=by cases n<;>rfl
theorem OJ(ht:dU s.heap (.ref b) ns)(h:Q false s):wpAny (model prog w) A (ofAClassStatement (n+1) (.ref b)) Q E s:=by
 obtain⟨o,xs,k,ho,hc,hd,hi⟩:=lZ ht
 have hT:s.TypeIs (.ref b) "tuple":=⟨o,ho,hc⟩
 unfold ofAClassStatement
 refine wpAny_bind (wpAny_typeOf hT ?_)
 show wpAny _ _ ((pure true:Sem Bool)>>=_) _ _ s
 refine wpAny_bind (wpAny_pure ?_)
 simp only[Bool.not_true,Bool.false_eq_true,if_false]
 refine wpAny_bind (wpAny_seqItems ho hd ?_)
 refine wpAny_bind ?_
 show wpAny _ _ (forIn xs _ _) _ _ s
 rw[←Array.forIn_toList]
 refine wpAny_forIn_list _ (λ rest r s'=>r.1=none/\s'=s/\∀v∈rest,∃i t,v=Value.int i t) _ ?_ ?_ _ _ ⟨rfl,rfl,hi⟩
 . rintro v rest r s' ⟨hr,rfl,hall⟩
   obtain⟨i,t,rfl⟩:=hall v x5
   rw[CT]
   refine wpAny_bind (wpAny_pure ?_)
   simp only[Bool.false_eq_true,if_false]
   exact wpAny_pure ⟨rfl,rfl,λ u hu'=>hall u (x3 _ hu')⟩
 . rintro⟨r1,r2⟩ s' ⟨hr,rfl,_⟩
   simp only at hr
   subst hr
   exact wpAny_pure h
theorem CZ(ht:aZ s.heap (.ref b) c)(h:Q false s):wpAny (model prog w) A (ofAClassStatement (n+2) (.ref b)) Q E s:=by
 obtain⟨a,o,k,tk,u,e,ho,hc,hd,hu'⟩:=ht
 cases e
 obtain⟨b',_,_,_,rfl,_⟩:=id hu'
 have hT:s.TypeIs (.ref b) "tuple":=⟨o,ho,hc⟩
 unfold ofAClassStatement
 refine wpAny_bind (wpAny_typeOf hT ?_)
 show wpAny _ _ ((pure true:Sem Bool)>>=_) _ _ s
 refine wpAny_bind (wpAny_pure ?_)
 simp only[Bool.not_true,Bool.false_eq_true,if_false]
 refine wpAny_bind (wpAny_seqItems ho hd ?_)
 refine wpAny_bind ?_
 show wpAny _ _ (forIn #[Value.int c.1 tk,.ref b'] _ _) _ _ s
 rw[←Array.forIn_toList]
 refine wpAny_forIn_list _ (λ rest r s'=>r.1=none/\s'=s/\∀v∈rest,v=Value.int c.1 tk∨v=.ref b') _ ?_ ?_ _ _ ⟨rfl,rfl,by simp⟩
 . rintro v rest r s' ⟨hr,rfl,hall⟩
   rcases hall v x5 with rfl | rfl
   . rw[CT]
     refine wpAny_bind (wpAny_pure ?_)
     simp only[Bool.false_eq_true,if_false]
     exact wpAny_pure ⟨rfl,rfl,λ u hu'=>hall u (x3 _ hu')⟩
   . refine wpAny_bind (OJ hu' ?_)
     simp only[Bool.false_eq_true,if_false]
     exact wpAny_pure ⟨rfl,rfl,λ u hu'=>hall u (x3 _ hu')⟩
 . rintro⟨r1,r2⟩ s' ⟨hr,rfl,_⟩
   simp only at hr
   subst hr
   exact wpAny_pure h
theorem KJ{x:Value}{ys:List Value}(hx:aZ s.heap x c)(hy:∀y∈ys,∃d,aZ s.heap y d)(h:Q false s):wpAny (model prog w) A (searchCouldBeSeen x ys) Q E s:=by
 have hx0:=hx
 obtain⟨a,_,_,_,_,rfl,_⟩:=hx
 unfold searchCouldBeSeen
 refine wpAny_bind ?_
 refine wpAny_forIn_list _ (λ rest r s'=>r.1=none/\s'=s/\∀v∈rest,∃d,aZ s.heap v d) _ ?_ ?_ _ _ ⟨rfl,rfl,hy⟩
 . rintro v rest r s' ⟨hr,rfl,hall⟩
   obtain⟨d,hd⟩:=hall v x5
   have hd0:=hd
   obtain⟨b,_,_,_,_,rfl,_⟩:=hd
   have tl:∀v∈rest,∃d,aZ s'.heap v d:=λ u hu'=>hall u (x3 _ hu')
   dsimp only
   split
   . exact wpAny_pure ⟨rfl,rfl,tl⟩
   . refine wpAny_bind (uA hx0 ?_)
     simp only[Bool.not_true,Bool.false_eq_true,if_false]
     refine wpAny_bind (uA hd0 ?_)
     simp only[Bool.not_true,Bool.false_eq_true,if_false]
     refine wpAny_bind (CZ hx0 ?_)
     simp only[Bool.false_eq_true,if_false]
     refine wpAny_bind (CZ hd0 ?_)
     simp only[Bool.false_eq_true,if_false]
     exact wpAny_pure ⟨rfl,rfl,tl⟩
 . rintro⟨r1,r2⟩ s' ⟨hr,rfl,_⟩
   simp only at hr
   subst hr
   exact wpAny_pure h
theorem xM{u:Value}{ms:List Int}(hu:A.units<cLine)(hx:dU s.heap u ns)(hy:dU s.heap v ms):SeqAt.EqAt A s u v (decide (ns=ms)):=by
 intro prog w E Q h
 obtain⟨a,_,_,_,rfl,_⟩:=id hx
 obtain⟨b,_,_,_,rfl,_⟩:=id hy
 exact wpAny_eqBool_tuple (knd:=intKind prog w) hu (yV hx) (yV hy) h
theorem My{u:Value}{d:Int×List Int}(hu:A.units+2<cLine)(hx:aZ s.heap u c)(hy:aZ s.heap v d):SeqAt.EqAt A s u v (decide (c=d)):=by
 obtain⟨a,o,k,tk,u,rfl,ho,hc,hd,hu'⟩:=hx
 obtain⟨a2,o2,k2,tk2,u2,rfl,ho2,hc2,hd2,hu2⟩:=hy
 by_cases e:a=a2
 . subst e
   obtain rfl:o=o2:=Option.some.inj (ho.symm.trans ho2)
   have e1:=hd.symm.trans hd2
   injection e1 with e1 _
   have e2:[Value.int c.1 tk,u]=[Value.int d.1 tk2,u2]:=congrArg Array.toList e1
   injection e2 with e3 e4
   injection e3 with e3 _
   injection e4 with e4 _
   subst e4
   obtain⟨b,_,_,_,rfl,_⟩:=id hu'
   have e5:c.2=d.2:=J6 hu' hu2
   have e6:c=d:=Prod.ext e3 e5
   rw[decide_eq_true e6]
   exact SeqAt.EqAt.same _
 . have key:=SeqAt.RcAt.tuples (A:=A) (s:=s) (e:=λ j=>if j=0 then decide (c.1=d.1)else decide (c.2=d.2)) ⟨o,ho,hc,k,hd⟩ ⟨o2,ho2,hc2,k2,hd2⟩ (by omega) (λ j h1 h2=>by
    match j,h1,h2 with
    | 0,_,_=>
      have:=SeqAt.EqAt.int_int (A:=A.in1) (s:=s) c.1 tk d.1 tk2
      rw[show(c.1==d.1)=decide (c.1=d.1)from by rw[Bool.eq_iff_iff];simp]at this
      exact this
    | 1,_,_=>exact xM (by show A.units+1<_;omega) hu' hu2
    | j+2,h1,_=>exact absurd h1 (by simp))
   have e2:((List.range (min #[Value.int c.1 tk,u].size #[Value.int d.1 tk2,u2].size)).all (λ j=>if j=0 then decide (c.1=d.1)else decide (c.2=d.2))&&#[Value.int c.1 tk,u].size==#[Value.int d.1 tk2,u2].size)=decide (c=d):=by
    rw[Bool.eq_iff_iff]
    simp[List.range_succ,Prod.ext_iff]
   rw[e2]at key
   exact SeqAt.EqAt.of_refs e key
end
end RF
namespace RF
open PySem PySem.Spec L2 DL
open PyProof.Rows
variable {ps : List Nat} {j0 ep : Nat} {h : Int} {a : Addr} {v v0 : Value} {c c0 : Int × List Int}
noncomputable abbrev tbl(led:Bool)(ps:List Nat):SetTable:={mask:=7,place:=ps.toArray,dummies:=#[],finger:=0,led:=led,moves:=0,plain:=true}
noncomputable abbrev bO(led:Bool)(es:List (Int×Value))(ps:List Nat)(ep:Nat):Obj:={cls:=.type "set",dict:=none,data:=.set es.toArray ep (tbl led ps),slots:=#[]}
theorem qO(j0 j:Nat):SetTable.below #[j0] j=if j0<j then 1 else 0:=by
 simp[SetTable.below,SetTable.below.go]
theorem pH(led:Bool)(j0 j:Nat):(tbl led [j0]).slot j=if j=j0 then .live 0 else .empty:=by
 unfold SetTable.slot
 show(if(#[j0][SetTable.below #[j0] j]? ==some j)=true then SetTable.Slot.live (SetTable.below #[j0] j)else if SetTable.has #[] j=true then .dummy else .empty)=_
 rw[qO]
 by_cases h:j=j0
 . subst h
   rw[if_neg (Nat.lt_irrefl _),if_pos rfl,if_pos (by simp)]
 . rw[if_neg h]
   have hd:SetTable.has #[] j=false:=rfl
   rw[hd]
   by_cases h2:j0<j
   . rw[if_pos h2];simp
   . rw[if_neg h2]
     have:¬j0=j:=λ e=>h e.symm
     simp[this]
structure Std(p:SetTable.Probe)(k:Nat):Prop where
 ji:p.j=p.i
 lt:p.i<8
 more:p.more=0
 dummy:p.dummy=none
 small:p.perturb<32 ^ k
theorem J5(i:Nat):SetTable.runEnd 7 i=i:=by unfold SetTable.runEnd;rw[if_neg (by omega)]
theorem uz(led:Bool)(ps:List Nat)(h:Int):Std ((tbl led ps).probeStart h) 13:=by
 have hb:SetTable.bits h<2 ^ 64:=by
  unfold SetTable.bits
  have h1:=Int.emod_nonneg h (b:=2 ^ 64) (by decide)
  have h2:=Int.emod_lt_of_pos h (b:=2 ^ 64) (by decide)
  omega
 refine⟨rfl,Nat.mod_lt _ (Nat.succ_pos _),?_,rfl,?_⟩
 . show SetTable.runEnd 7 _-_=0
   rw[J5];omega
 . show SetTable.bits h<32 ^ 13
   exact x9 hb (by decide)
theorem zp{led:Bool}{p:SetTable.Probe}{k:Nat}(s:Std p (k+1)):Std ((tbl led ps).advance p) k:=by
 unfold SetTable.advance
 rw[if_neg (by rw[s.more];exact Nat.lt_irrefl _)]
 refine⟨rfl,Nat.mod_lt _ (Nat.succ_pos _),?_,s.dummy,?_⟩
 . show SetTable.runEnd 7 _-_=0
   rw[J5];omega
 . show p.perturb/32<32 ^ k
   have:=s.small
   rw[Nat.pow_succ]at this
   exact Nat.div_lt_of_lt_mul (by omega)
theorem z8{led:Bool}{p:SetTable.Probe}(s:Std p 0):Std ((tbl led ps).advance p) 0/\((tbl led ps).advance p).j≠p.j:=by
 have hp:p.perturb=0:=by have:=s.small;simpa using this
 unfold SetTable.advance
 rw[if_neg (by rw[s.more];exact Nat.lt_irrefl _)]
 refine⟨⟨rfl,Nat.mod_lt _ (Nat.succ_pos _),?_,s.dummy,?_⟩,?_⟩
 . show SetTable.runEnd 7 _-_=0
   rw[J5];omega
 . show p.perturb/32<32 ^ 0
   rw[hp];decide
 . show(p.i*5+1+p.perturb/32) % (7+1)≠p.j
   rw[s.ji,hp]
   have:=s.lt
   omega
theorem jh{led:Bool}{n:Nat}{hs:Nat->Int}{p:SetTable.Probe}(hj:p.j≠j0):SetTable.probe.go (tbl led [j0]) hs h (n+1) p=some (.empty p.j p.dummy):=by
 unfold SetTable.probe.go
 rw[pH,if_neg hj]
theorem je{led:Bool}{n:Nat}{hs:Nat->Int}{p:SetTable.Probe}(hj:p.j=j0):SetTable.probe.go (tbl led [j0]) hs h (n+1) p=if hs 0==h then some (.candidate p.j 0 ((tbl led [j0]).advance p))else SetTable.probe.go (tbl led [j0]) hs h n ((tbl led [j0]).advance p):=by
 conv=>lhs;unfold SetTable.probe.go
 rw[pH,if_pos hj]
theorem zM{led:Bool}{j0:Nat}{hs:Nat->Int}{h:Int}(hne:(hs 0==h)=false):∀(k n:Nat)(p:SetTable.Probe),Std p k->k+2≤n->∃j,j≠j0/\j<8/\SetTable.probe.go (tbl led [j0]) hs h n p=some (.empty j none)
 | k,0,p,s,hn=>by omega
 | 0,n+1,p,s,hn=>by
   by_cases hj:p.j=j0
   . obtain⟨s1,ne⟩:=z8 (led:=led) (ps:=[j0]) s
     obtain⟨m,rfl⟩:∃m,n=m+1:=⟨n-1,by omega⟩
     refine⟨((tbl led [j0]).advance p).j,by rw[←hj];exact ne,by rw[s1.ji];exact s1.lt,?_⟩
     rw[je hj,hne]
     show SetTable.probe.go _ _ _ _ _=_
     rw[jh (by rw[←hj];exact ne),s1.dummy]
   . exact⟨p.j,hj,by rw[s.ji];exact s.lt,by rw[jh hj,s.dummy]⟩
 | k +1,n+1,p,s,hn=>by
   by_cases hj:p.j=j0
   . obtain⟨j,h1,h2,h3⟩:=zM hne k n _ (zp (led:=led) (ps:=[j0]) s) (by omega)
     refine⟨j,h1,h2,?_⟩
     rw[je hj,hne]
     exact h3
   . exact⟨p.j,hj,by rw[s.ji];exact s.lt,by rw[jh hj,s.dummy]⟩
theorem K1{led:Bool}{hs:Nat->Int}{n:Nat}{p:SetTable.Probe}(hne:(hs 0==h)=false):SetTable.probe.go (tbl led [j0]) hs h n p=SetTable.probe.go (tbl led [j0]) (λ _=>h+1) h n p:=by
 induction n generalizing p with
 | zero=>rfl
 | succ n ih=>
   by_cases hj:p.j=j0
   . have h1:(h+1==h)=false:=by simp;omega
     rw[je hj,je hj,hne,h1]
     exact ih
   . rw[jh hj,jh hj]
section
variable {prog : Program} {w : World} {A : Around} {E : Value -> Shared -> Prop} {s : Shared}
theorem gB{led:Bool}{es:List (Int×Value)}(h:ps.length=es.length)(h7:ps.length≤7):(tbl led ps).fits es.toArray.size=true:=by
 unfold SetTable.fits SetTable.fill
 simp[h]
 omega
theorem bL{led:Bool}{es:List (Int×Value)}{Q:(Array (Int×Value)×Nat×SetTable)->Shared->Prop}(ho:s.heap.get? a=some (bO led es ps ep))(h:ps.length=es.length)(h7:ps.length≤7)(hq:Q (es.toArray,ep,tbl led ps) s):
 wpAny (model prog w) A (setState a) Q E s:=wpAny_setState_of ho rfl (gB h h7) hq
theorem wC{M:Model}{b:Addr}{Q:Bool->Shared->Prop}(h:Q true s):wpAny M A (isSame (.ref b) (.ref b)) Q E s:=by
 unfold isSame
 dsimp only
 rw[if_pos (beq_self_eq_true b)]
 exact wpAny_pure h
theorem iR{led:Bool}{m:Nat}{st:Option SetTable.Probe}{Q:SetFound->Shared->Prop}(hu:A.units+2<cLine)(ho:s.heap.get? a=some (bO led [(h,v0)] [j0] ep))(hv:aZ s.heap v c)(hv0:aZ s.heap v0 c0)
 (hd:(st.getD ((tbl led [j0]).probeStart h)).dummy=none)
 (h0:(st.getD ((tbl led [j0]).probeStart h)).j≠j0->Q (.free (st.getD ((tbl led [j0]).probeStart h)).j false) s)
 (h1:c=c0->Q (.there none) s)
 (h2:c≠c0->(st.getD ((tbl led [j0]).probeStart h)).j=j0->wpAny (model prog w) A (setSearchFrom a v h true m (some ((tbl led [j0]).advance (st.getD ((tbl led [j0]).probeStart h))))) Q E s):
 wpAny (model prog w) A (setSearchFrom a v h true (m+1) st) Q E s:=by
 have hv1:=hv0
 obtain⟨b0,_,_,_,_,rfl,_⟩:=hv1
 have state:∀{Q:(Array (Int×Value)×Nat×SetTable)->Shared->Prop},Q ([(h,Value.ref b0)].toArray,ep,tbl led [j0]) s->wpAny (model prog w) A (setState a) Q E s:=λ hq=>bL ho rfl (Nat.le_of_ble_eq_true rfl) hq
 unfold setSearchFrom
 refine wpAny_bind (state ?_)
 dsimp only
 rw[if_neg (show ¬(SetTable.gaveWay (tbl led [j0])=true)from by simp[SetTable.gaveWay])]
 unfold SetTable.probe
 rw[show 10*SetTable.turns (tbl led [j0]).mask=219+1 from rfl]
 by_cases hj:(st.getD ((tbl led [j0]).probeStart h)).j=j0
 . rw [je hj,if_pos (by show(h==h)=true;exact beq_self_eq_true h)]
   dsimp only
   have hs:∀y∈List.map (λ x:Int×Value=>x.2) (Array.filter (λ x=>x.fst==h) #[(h,Value.ref b0)]).toList,∃d,aZ s.heap y d:=by
    intro y hy
    rw[List.mem_map]at hy
    obtain⟨e,he,rfl⟩:=hy
    have:e∈#[(h,Value.ref b0)]:=(Array.mem_filter.mp (Array.mem_toList_iff.mp he)).1
    have:e=(h,Value.ref b0):=by simpa using this
    subst this
    exact⟨c0,hv0⟩
   have eqq:SeqAt.EqAt A s (Value.ref b0) v (decide (c0=c)):=My hu hv0 hv
   have slq:(tbl led [j0]).slot (st.getD ((tbl led [j0]).probeStart h)).j=.live 0:=by rw[pH,if_pos hj]
   cases led
   . rw[if_pos (show(!false)=true from rfl)]
     refine wpAny_bind (KJ hv hs ?_)
     rw[if_neg y6]
     have e0:#[(h,Value.ref b0)][0]? =some (h,Value.ref b0):=rfl
     rw[e0]
     dsimp only
     refine wpAny_bind (wpAny_holding (eqq prog w E _ ?_))
     refine wpAny_bind (state ?_)
     by_cases ec:c0=c
     . rw[decide_eq_true ec]
       exact wpAny_pure (h1 ec.symm)
     . rw[decide_eq_false ec]
       dsimp only
       rw[if_neg (show ¬((true&&false)=true)from y6)]
       have e1:SetTable.sameMemory (tbl false [j0]) 0 7=some true:=rfl
       rw[e1]
       dsimp only
       rw[if_pos rfl,slq]
       dsimp only
       rw[e0]
       dsimp only
       refine wpAny_bind (wC ?_)
       refine wpAny_bind (wpAny_pure ?_)
       exact h2 (λ e=>ec e.symm) hj
   . rw[if_neg (show ¬(!true)=true from y6)]
     have e0:#[(h,Value.ref b0)][0]? =some (h,Value.ref b0):=rfl
     rw[e0]
     dsimp only
     refine wpAny_bind (wpAny_holding (eqq prog w E _ ?_))
     refine wpAny_bind (state ?_)
     by_cases ec:c0=c
     . rw[decide_eq_true ec]
       exact wpAny_pure (h1 ec.symm)
     . rw[decide_eq_false ec]
       dsimp only
       rw[if_neg (show ¬((true&&false)=true)from y6)]
       have e1:SetTable.sameMemory (tbl true [j0]) 0 7=some true:=rfl
       rw[e1]
       dsimp only
       rw[if_pos rfl,slq]
       dsimp only
       rw[e0]
       dsimp only
       refine wpAny_bind (wC ?_)
       refine wpAny_bind (wpAny_pure ?_)
       exact h2 (λ e=>ec e.symm) hj
 . rw[jh hj,hd]
   dsimp only
   exact wpAny_pure (h0 hj)
theorem Bh{led:Bool}{Q:SetFound->Shared->Prop}(hu:A.units+2<cLine)(ho:s.heap.get? a=some (bO led [(h,v0)] [j0] ep))(hv:aZ s.heap v c)(hv0:aZ s.heap v0 c0)
 (h1:c=c0->Q (.there none) s)(h2:c≠c0->∀j,j≠j0->j<8->Q (.free j false) s)(ne:c=c0->((tbl led [j0]).probeStart h).j=j0):
 ∀(k fuel:Nat)(st:Option SetTable.Probe),Std (st.getD ((tbl led [j0]).probeStart h)) k->(st.isSome=true->c≠c0)->k+2≤fuel->wpAny (model prog w) A (setSearchFrom a v h true fuel st) Q E s:=by
 intro k
 induction k with
 | zero=>
   intro fuel st sd hst hf
   obtain⟨m,rfl⟩:∃m,fuel=m+1+1:=⟨fuel-2,by omega⟩
   refine iR hu ho hv hv0 sd.dummy (λ hj=>?_) h1 λ nc hj=>?_
   . by_cases ec:c=c0
     . cases st with
       | none=>exact absurd (ne ec) hj
       | some p=>exact absurd ec (hst rfl)
     . exact h2 ec _ hj (by rw[sd.ji];exact sd.lt)
   . obtain⟨s1,ne⟩:=z8 (led:=led) (ps:=[j0]) sd
     rw[hj]at ne
     exact iR hu ho hv hv0 s1.dummy (λ hj=>h2 nc _ hj (by rw[Option.getD_some,s1.ji];exact s1.lt)) h1 λ _ hj=>absurd hj ne
 | succ k ih=>
   intro fuel st sd hst hf
   obtain⟨m,rfl⟩:∃m,fuel=m+1:=⟨fuel-1,by omega⟩
   refine iR hu ho hv hv0 sd.dummy (λ hj=>?_) h1 λ nc hj=>?_
   . by_cases ec:c=c0
     . cases st with
       | none=>exact absurd (ne ec) hj
       | some p=>exact absurd ec (hst rfl)
     . exact h2 ec _ hj (by rw[sd.ji];exact sd.lt)
   . exact ih m _ (zp sd) (λ _=>nc) (by omega)
theorem Av{led:Bool}{h0:Int}{Q:SetFound->Shared->Prop}(hu:A.units+2<cLine)(hj0:j0=SetTable.bits h0 % 8)(hh:c=c0->h0=h)(ho:s.heap.get? a=some (bO led [(h0,v0)] [j0] ep))(hv:aZ s.heap v c)(hv0:aZ s.heap v0 c0)
 (h1:c=c0->Q (.there none) s)(h2:c≠c0->∀j,j≠j0->j<8->Q (.free j false) s):wpAny (model prog w) A (setSearch a v h true) Q E s:=by
 unfold setSearch
 generalize hf:(100000:Nat)=fuel
 by_cases he:h0=h
 . subst he
   exact Bh hu ho hv hv0 h1 h2 (λ _=>hj0.symm) 13 fuel none (uz _ _ _) (λ h=>nomatch h) (by omega)
 . have nc:c≠c0:=λ e=>he (hh e)
   obtain⟨m,rfl⟩:∃m,fuel=m+1:=⟨fuel-1,by omega⟩
   unfold setSearchFrom
   refine wpAny_bind (bL ho rfl (Nat.le_of_ble_eq_true rfl) ?_)
   dsimp only
   rw[if_neg (show ¬(SetTable.gaveWay (tbl led [j0])=true)from by simp[SetTable.gaveWay])]
   unfold SetTable.probe
   rw[K1 (by show(h0==h)=false;simpa using he)]
   obtain⟨j,h3,h4,h5⟩:=zM (led:=led) (j0:=j0) (hs:=λ _=>h+1) (h:=h) (by simp;omega) 13 (10*SetTable.turns (tbl led [j0]).mask) _ (uz led [j0] h) (by show 15≤220;decide)
   simp only[Option.getD_none]
   rw[h5]
   exact wpAny_pure (h2 nc j h3 h4)
theorem Gj{led:Bool}{Q:SetFound->Shared->Prop}(ho:s.heap.get? a=some (bO led [] [] ep))
 (h1:Q (.free (SetTable.bits h % 8) false) s):wpAny (model prog w) A (setSearch a v h true) Q E s:=by
 unfold setSearch
 generalize hf:(100000:Nat)=fuel
 obtain⟨m,rfl⟩:∃m,fuel=m+1:=⟨fuel-1,by omega⟩
 unfold setSearchFrom
 refine wpAny_bind (bL ho rfl (Nat.zero_le _) ?_)
 dsimp only
 rw[if_neg (show ¬(SetTable.gaveWay (tbl led [])=true)from by simp[SetTable.gaveWay])]
 exact wpAny_pure h1
theorem lG{led:Bool}{es:List (Int×Value)}{es':List (Int×Value)}{ps':List Nat}{Q:Unit->Shared->Prop}(ho:s.heap.get? a=some (bO led es ps ep))(hz:es'.length≤7)
 (h:∀h',Heap.SameBut a s.heap h'->h'.get? a=some (bO led es' ps' (ep+1))->Q () {s with heap:=h'}):wpAny (model prog w) A (storeSet a es'.toArray (tbl led ps')) Q E s:=by
 refine wpAny_storeSet_of ho rfl (h _ (Heap.SameBut.update s.heap a _) ?_) (Nat.le_trans (by rw[x4];exact hz) (by decide:7≤sizeLine))
 have:=Heap.get?_update_self (Obj.putSet es'.toArray (tbl led ps')) ho (by rw[putSet_of _ _ rfl];rfl)
 rw[putSet_of _ _ rfl]at this
 exact this
theorem N7{led:Bool}{Q:Bool->Shared->Prop}(hu:A.units+5<cLine)(ho:s.heap.get? a=some (bO led [] [] ep))(hv:aZ s.heap v c)
 (h:∀h' tk b,Heap.SameBut a s.heap h'->h'.get? a=some (bO led [(hC prog w c,v)] [SetTable.bits (hC prog w c) % 8] (ep+1))->Q b {s with heap:=h',toks:=s.toks+tk}):
 wpAny (model prog w) A (setAdd a v) Q E s:=by
 unfold setAdd
 refine wpAny_holding (wpAny_bind (yg hu hv λ n=>?_))
 unfold setAddHashed
 refine wpAny_holding ?_
 generalize hf:(100000:Nat)=fuel
 obtain⟨m,rfl⟩:∃m,fuel=m+1:=⟨fuel-1,by omega⟩
 unfold setAddHashedIn
 refine wpAny_bind (bL (s:={s with toks:=s.toks+n}) ho rfl (Nat.zero_le _) ?_)
 have hv1:=hv
 obtain⟨b0,_,_,_,_,rfl,_⟩:=hv1
 dsimp only
 rw[if_neg (show ¬(byScan (.ref b0) _=true)from y6)]
 refine wpAny_bind (Gj (s:={s with toks:=s.toks+n}) ho ?_)
 dsimp only
 refine wpAny_bind (bL (s:={s with toks:=s.toks+n}) ho rfl (Nat.zero_le _) ?_)
 have e1:(tbl led []).put (SetTable.bits (hC prog w c) % 8)=(tbl led [SetTable.bits (hC prog w c) % 8],0):=rfl
 rw[e1]
 dsimp only
 rw[if_pos rfl]
 refine wpAny_bind (rH (s:={s with toks:=s.toks+n}) (n:=6) hv ?_)
 rw[if_pos rfl]
 refine wpAny_bind (lG (s:={s with toks:=s.toks+n}) (es':=[(hC prog w c,Value.ref b0)]) ho (by simp) λ h' k1 k2=>?_)
 rw[if_neg (by simp[SetTable.tooFull,SetTable.fill])]
 exact wpAny_pure (h h' n true k1 k2)
theorem Nv(led:Bool)(j0 j:Nat)(hj:j≠j0):(tbl led [j0]).put j=if j0<j then(tbl led [j0,j],1)else(tbl led [j,j0],0):=by
 unfold SetTable.put
 show((⟨7,SetTable.insertAt #[j0] (SetTable.below #[j0] j) j,if SetTable.has #[] j=true then _ else #[],0,led,0,true⟩:SetTable),SetTable.below #[j0] j)=_
 rw[if_neg (show ¬SetTable.has #[] j=true from y6),qO]
 by_cases h:j0<j
 . rw[if_pos h,if_pos h];rfl
 . rw[if_neg h,if_neg h];rfl
theorem PB{led:Bool}{Q:Bool->Shared->Prop}(hu:A.units+5<cLine)(ho:s.heap.get? a=some (bO led [(hC prog w c0,v0)] [SetTable.bits (hC prog w c0) % 8] ep))(hv:aZ s.heap v c)(hv0:aZ s.heap v0 c0)
 (h1:c=c0->∀tk b,Q b {s with toks:=s.toks+tk})
 (h2:c≠c0->∀h' tk b es ps,Heap.SameBut a s.heap h'->h'.get? a=some (bO led es ps (ep+1))->(∃e1 e2 v1 v2 j1 j2,es=[(e1,v1),(e2,v2)]/\ps=[j1,j2]/\j1<j2/\j2<8/\(v1=v0/\v2=v∨v1=v/\v2=v0))->Q b {s with heap:=h',toks:=s.toks+tk}):
 wpAny (model prog w) A (setAdd a v) Q E s:=by
 unfold setAdd
 refine wpAny_holding (wpAny_bind (yg hu hv λ n=>?_))
 unfold setAddHashed
 refine wpAny_holding ?_
 generalize hf:(100000:Nat)=fuel
 obtain⟨m,rfl⟩:∃m,fuel=m+1:=⟨fuel-1,by omega⟩
 have hh:c=c0->hC prog w c0=hC prog w c:=λ e=>by rw[e]
 generalize hC prog w c=h at hh ⊢
 generalize hC prog w c0=h0 at hh ho ⊢
 unfold setAddHashedIn
 refine wpAny_bind (bL (s:={s with toks:=s.toks+n}) ho rfl (Nat.le_of_ble_eq_true rfl) ?_)
 have hv1:=hv
 obtain⟨b0,_,_,_,_,rfl,_⟩:=hv1
 dsimp only
 rw[if_neg (show ¬(byScan (.ref b0) _=true)from y6)]
 refine wpAny_bind (Av (s:={s with toks:=s.toks+n}) (by omega) rfl hh ho hv hv0 (λ e=>?_) λ nc j hj h8=>?_)
 . exact wpAny_pure (h1 e n false)
 dsimp only
 refine wpAny_bind (bL (s:={s with toks:=s.toks+n}) ho rfl (Nat.le_of_ble_eq_true rfl) ?_)
 have hb0:SetTable.bits h0 % 8<8:=Nat.mod_lt _ (by decide)
 generalize SetTable.bits h0 % 8=j0 at ho hj hb0 ⊢
 dsimp only
 rw[Nv led j0 j hj]
 by_cases hlt:j0<j
 . rw[if_pos hlt]
   dsimp only
   rw[if_pos rfl]
   refine wpAny_bind (rH (s:={s with toks:=s.toks+n}) (n:=6) hv ?_)
   rw[if_pos rfl]
   refine wpAny_bind (lG (s:={s with toks:=s.toks+n}) (es':=[(h0,v0),(h,Value.ref b0)]) ho (by simp) λ h' k1 k2=>?_)
   rw[if_neg (by simp[SetTable.tooFull,SetTable.fill])]
   exact wpAny_pure (h2 nc h' n true _ _ k1 k2 ⟨_,_,_,_,_,_,rfl,rfl,hlt,h8,.inl ⟨rfl,rfl⟩⟩)
 . rw[if_neg hlt]
   dsimp only
   rw[if_pos rfl]
   refine wpAny_bind (rH (s:={s with toks:=s.toks+n}) (n:=6) hv ?_)
   rw[if_pos rfl]
   refine wpAny_bind (lG (s:={s with toks:=s.toks+n}) (es':=[(h,Value.ref b0),(h0,v0)]) ho (by simp) λ h' k1 k2=>?_)
   rw[if_neg (by simp[SetTable.tooFull,SetTable.fill])]
   exact wpAny_pure (h2 nc h' n true _ _ k1 k2 ⟨_,_,_,_,_,_,rfl,rfl,by omega,hb0,.inr ⟨rfl,rfl⟩⟩)
end
end RF
namespace RF
open PySem PySem.Spec L2 DL
open PyProof.Rows
section
variable {prog : Program} {w : World} {A : Around} {R : Result -> Shared -> Prop} {I : Addr} {fp wr : List Addr} {G : Array GenState -> Array GenState -> Prop} {n : Nat} {P : Nat -> Value -> Prop} {St : Nat -> Shared -> Prop}
theorem Ly(W:WalksS prog w A.in1 I fp wr G n P St)(S:Addr)(hSf:S∉fp)(SS:Nat->Heap->Prop)
 (hframe:∀i h h',SS i h->(∀b o,b∉wr->h.get? b=some o->h'.get? b=some o)->SS i h')
 (hadd:∀i v(s:Shared)(Q:Bool->Shared->Prop)(E:Value->Shared->Prop),i<n->P i v->SS i s.heap->(∀b h' tk,Heap.SameBut S s.heap h'->SS (i+1) h'->Q b {s with heap:=h',toks:=s.toks+tk})->wpAny (model prog w) A.in1 (setAdd S v) Q E s):
 ∀ (k i:Nat)(s:Shared),n-i=k->i≤n->St i s->SS i s.heap->
   (∀s',Moved (S::wr) G s s'->SS n s'.heap->R (.ok (.ret .none)) s')->
   codeAny (model prog w) A (.builtin "set.update.loop" ⟨[.ref S,.ref I],[]⟩) R s:=by
 have hSw:S∉wr:=λ h=>hSf (W.sub _ h)
 have hsub:∀b∈wr,b∈S::wr:=λ b hb=>x3 _ hb
 intro k
 induction k with
 | zero=>
   intro i s hk hi hst hS hR
   have hin:i=n:=by omega
   subst hin
   refine codeAny_builtin F.entry_set_update_loop ?_
   rw[Around.under_plainId F.plain_set_update_loop _]
   show wpAny _ A.in1 (pyNext (.ref I)>>=_) _ _ s
   refine wpAny_bind (W.done s _ _ hst λ s' hm=>?_)
   show wpAny _ A.in1 (ret Value.none) _ _ s'
   exact wpAny_pure (hR s' (hm.mono hsub) (hframe _ _ _ hS hm.heap))
 | succ k ih=>
   intro i s hk hi hst hS hR
   have hlt:i<n:=by omega
   refine codeAny_builtin F.entry_set_update_loop ?_
   rw[Around.under_plainId F.plain_set_update_loop _]
   show wpAny _ A.in1 (pyNext (.ref I)>>=_) _ _ s
   refine wpAny_bind (W.item i s _ _ hlt hst λ v s' hP hst' hm=>?_)
   have hS':=hframe _ _ _ hS hm.heap
   show wpAny _ A.in1 (holding [v] (setAdd S v)>>=_) _ _ s'
   refine wpAny_bind (wpAny_holding (hadd i v s' _ _ hlt hP hS' λ b h' tk hsb hS2=>?_))
   refine wpAny_pure ⟨plainId_quiet F.plain_set_update_loop _,ih (i+1) _ (by omega) hlt (W.frame _ s' _ _ hst' (Nat.le_add_right _ _) λ b hb o e=>?_) hS2 λ s'' hm'' hS''=>?_⟩
   . rw[hsb.2 b (λ h:b=S=>hSf (by rw[←h];exact hb))];exact e
   . refine hR s'' (Moved.trans W.gtrans ((hm.mono hsub).then_heap (Nat.le_add_right _ _) λ b o hb e=>?_) hm'') hS''
     rw[hsb.2 b (λ h:b=S=>hb (by rw[h];exact x5))];exact e
end
noncomputable def Lies(prog:Program)(w:World)(its:List Value)(cs:List (Int×List Int))(i:Nat)(es:List (Int×Value))(ps:List Nat):Prop:=
 match i with
 | 0=>es=[]/\ps=[]
 | 1=>∃v c,its[0]? =some v/\cs[0]? =some c/\es=[(hC prog w c,v)]/\ps=[SetTable.bits (hC prog w c) % 8]
 | _ =>∃v0 v c0 c,its=[v0,v]/\cs=[c0,c]/\((c=c0/\es=[(hC prog w c0,v0)]/\ps=[SetTable.bits (hC prog w c0) % 8])∨
     (c≠c0/\∃e1 e2 v1 v2 j1 j2,es=[(e1,v1),(e2,v2)]/\ps=[j1,j2]/\j1<j2/\j2<8/\(v1=v0/\v2=v∨v1=v/\v2=v0)))
section
variable {prog : Program} {w : World} {A : Around} {E : Value -> Shared -> Prop} {s : Shared}
noncomputable abbrev dB(w:World):Bool:=!(w.params.followText "set-order")
theorem xN(a:Value){Q₁:Value->Shared->Prop}
 (h:Q₁ (.ref s.heap.objs.size) {s with heap:=s.heap.push {cls:=.type "set",dict:=none,data:=.set #[] 0 (.fresh 0 0 (dB w))}}):
 codeAny (model prog w) A (.call (.builtin "set.__new__") ⟨[.type "set",a],[]⟩) (wants Q₁ E) s:=by
 refine codeAny_of_tree ?_
 show wpAny _ A.in1 (do checkBuiltinCall "set.__new__" ⟨[.type "set",a],[]⟩;again (.builtin "set.__new__" ⟨[.type "set",a],[]⟩)) _ _ s
 refine wpAny_bind (wpAny_of_eq (F.newCall_set_1 a) (wpAny_pure ⟨plainId_quiet F.plain_set_new _,codeAny_builtin F.entry_set_new ?_⟩))
 rw[Around.under_plainId F.plain_set_new _]
 unfold Builtin.«set.__new__» Builtin.Frozenset.newClass
 have hsub:=sub_set_self
 obtain⟨hp,g,d,tk,os⟩:=s
 dsimp only
 wp_walk
 refine wpAny_askSetting (wpAny_pure ?_)
 dsimp only
 simp only[newObj]
 refine wpAny_bind (wpAny_alloc (wpAny_pure ?_))
 exact wpAny_pure h
set_option maxHeartbeats 8000000 in
theorem xu {l:Addr}{its:List Value}{cs:List (Int×List Int)}{Q:Value->Shared->Prop}
 (hh:A.handled=none)(hu:A.units+12<cLine)(hl:s.heap.IsList l its.toArray)(hlen:its.length=cs.length)(hc:∀(i:Nat)(v:Value)(c:Int×List Int),its[i]? =some v->cs[i]? =some c->aZ s.heap v c)(hb:its.length≤2)
 (h:∀(h':Heap)(tk:Nat)(es:List (Int×Value))(ps:List Nat)(ep:Nat),h'.get? s.heap.objs.size=some (bO (dB w) es ps ep)->Lies prog w its cs its.length es ps->
  (∀b o,b<s.heap.objs.size->s.heap.get? b=some o->h'.get? b=some o)->Q (.ref s.heap.objs.size) {s with heap:=h',toks:=tk}):
 wpAny (model prog w) A (call (.type "set") [.ref l]) Q E s:=by
 obtain⟨c,tl,hmro⟩:=F.called_set.mro
 have hmade:=F.called_set.made
 have hsub:=F.called_set.sub
 refine wpAny_call (codeAny_of_tree ?_)
 show wpAny _ _ (callAny (.type "set") _) _ _ _
 refine wpAny_pure ⟨Code.quiet_builtin _ (by decide+kernel),codeAny_builtin F.entry_type_call ?_⟩
 rw[Around.under_plain (weight_type_call_type "set" [.ref l] []) rfl]
 have h1:=F.called_set.notType
 have h2:=F.called_set.canCreate
 have hct:=F.typeCall_set_1 (.ref l)
 repeat(any_goals (first | assumption | wp_step))
 refine codeAny_mono (xN (.ref l) (E:=E) (Q₁:=λ obj s₁=>∃led:Bool,led=dB w/\obj=.ref s.heap.objs.size/\s₁={s with heap:=s.heap.push {cls:=.type "set",dict:=none,data:=.set #[] 0 (.fresh 0 0 led)}}) ⟨_,rfl,rfl,rfl⟩) λ r s₁ hr=>?_
 cases r with
 | error e=>exact hr
 | ok fl =>
   cases fl with
   | next=>exact hr.elim
   | brk=>exact hr.elim
   | cont=>exact hr.elim
   | ret obj=>
     obtain⟨led,hled,rfl,rfl⟩:=hr
     have hS:(s.heap.push {cls:=.type "set",dict:=none,data:=.set #[] 0 (.fresh 0 0 led)}).get? s.heap.objs.size=some {cls:=.type "set",dict:=none,data:=.set #[] 0 (.fresh 0 0 led)}:=Heap.get?_push_size _ rfl
     have hT:Shared.TypeIs {s with heap:=s.heap.push {cls:=.type "set",dict:=none,data:=.set #[] 0 (.fresh 0 0 led)}} (.ref s.heap.objs.size) "set":=⟨_,hS,rfl⟩
     have hli:=F.called_set.init.lookup
     have hbi:=F.called_set.init.bind (.ref s.heap.objs.size)
     repeat(any_goals (first | assumption | wp_step))
     refine codeAny_mono (codeAny_call_builtin (R:=wants (λ r s₂=>r=.none/\∃h' tk es ps ep,s₂={s with heap:=h',toks:=tk}/\
      h'.get? s.heap.objs.size=some (bO led es ps ep)/\Lies prog w its cs its.length es ps/\
      (∀b o,b<s.heap.objs.size->s.heap.get? b=some o->h'.get? b=some o)) E) F.called_set.init.plain F.entry_set_init (check_set_init_1 hT ?_)) λ r₂ s₂ hr₂=>?_
     . obtain⟨ol,hol,hcl,nl,hdl⟩:=hl
       obtain⟨ocls,odict,odata,oslots⟩:=ol
       simp only at hcl hdl
       subst hcl;subst hdl
       have hol':(s.heap.push {cls:=.type "set",dict:=none,data:=.set #[] 0 (.fresh 0 0 led)}).get? l=some {cls:=.type "list",dict:=odict,data:=.seq its.toArray nl,slots:=oslots}:=Heap.get?_push_of_some _ hol
       have hsls:=F.sub_list_set
       have hslf:=F.sub_list_frozenset
       have hne:(Value.type "list"==Value.type "dict")=false:=by decide
       have hl1:(s.heap.push {cls:=.type "set",dict:=none,data:=.set #[] 0 (.fresh 0 0 led)}).IsList l its.toArray:=⟨_,hol',rfl,nl,rfl⟩
       unfold Builtin.«set.__init__» noKeywords Builtin.Frozenset.updateFrom
       generalize hPI:pyIter=PI
       wp_walk
       subst hPI
       refine wpAny_pyIter_list hl1 ?_
       refine wpAny_bind (wpAny_runValue ?_)
       have hlS:l<s.heap.objs.size:=Heap.lt_size hol
       have hh3:A.in1.in1.in1.handled=none:=by simp[hh]
       have hneI:l≠(s.heap.push {cls:=.type "set",dict:=none,data:=.set #[] 0 (.fresh 0 0 led)}).objs.size:=by
        rw[Heap.size_push];exact w9 (Nat.lt_succ_of_lt hlS)
       have hSf:s.heap.objs.size∉[(s.heap.push {cls:=.type "set",dict:=none,data:=.set #[] 0 (.fresh 0 0 led)}).objs.size,l]:=by
        rw[Heap.size_push];simp only[List.mem_cons,List.mem_singleton,List.not_mem_nil,or_false,not_or]
        exact⟨w9 (Nat.lt_succ_self _),Nat.ne_of_gt hlS⟩
       have hI:(s.heap.push {cls:=.type "set",dict:=none,data:=.set #[] 0 (.fresh 0 0 led)}).objs.size=s.heap.objs.size+1:=by rw[Heap.size_push]
       refine Ly ((Walks.list hh3 _ l hneI its.toArray).toS) s.heap.objs.size hSf
        (λ i h'=>(∀b o,b<s.heap.objs.size->s.heap.get? b=some o->h'.get? b=some o)/\∃es ps ep,h'.get? s.heap.objs.size=some (bO led es ps ep)/\Lies prog w its cs i es ps)
        ?hfr ?hadd (its.toArray.size-0) 0 _ (by omega) (Nat.zero_le _)
        ⟨⟨_,Heap.get?_push_size _ rfl,rfl,rfl⟩,(hl1.push _)⟩ ?hS0 ?hR
       case hfr=>
        rintro i h1 h2 ⟨k1,es,ps,ep,k2,k3⟩ k
        refine⟨λ b o hb e=>k b o ?_ (k1 b o hb e),es,ps,ep,k _ _ ?_ k2,k3⟩
        . intro z;have:=List.mem_singleton.mp z;rw[hI]at this;exact absurd this (w9 (Nat.lt_succ_of_lt hb))
        . intro z;have:=List.mem_singleton.mp z;rw[hI]at this;exact absurd this (w9 (Nat.lt_succ_self _))
       case hadd=>
        rintro i v s1 Q1 E1 hi hv ⟨k1,es,ps,ep,k2,k3⟩ hq
        have hi':i<its.length:=by simpa using hi
        have hv':its[i]? =some v:=by simpa using hv
        obtain⟨c,hci⟩:∃c,cs[i]? =some c:=⟨_,y3 (by omega)⟩
        have cel:∀(i:Nat)(v:Value)(c:Int×List Int),its[i]? =some v->cs[i]? =some c->aZ s1.heap v c:=λ i v c e1 e2=>(hc i v c e1 e2).keep λ b o e _=>k1 b o (Heap.lt_size e) e
        have hu1:A.in1.in1.in1.in1.units+5<cLine:=by show A.units+1+1+1+1+5<cLine;omega
        match i,hi',k3 with
        | 0,_,k3=>
          obtain⟨rfl,rfl⟩:=k3
          refine N7 (by first | exact hu1 | (show A.units+1+1+1+5<cLine;omega)) k2 (cel 0 v c hv' hci) λ h' tk b sb g=>hq b h' tk sb ⟨λ b' o' hb' e'=>?_,_,_,_,g,v,c,hv',hci,rfl,rfl⟩
          rw[sb.2 b' (w9 hb')];exact k1 b' o' hb' e'
        | 1,hi',k3=>
          obtain⟨v0,c0,e1,e2,rfl,rfl⟩:=k3
          have e3:its=[v0,v]:=by
           match its,hb,e1,hv' with
           | [x,y],_,e1,e2=>simp at e1 e2;rw[e1,e2]
           | [x],_,_,e2=>simp at e2
           | _::_::_::_,hb,_,_=>simp at hb
          have e4:cs=[c0,c]:=by
           have:cs.length=2:=by rw[←hlen,e3];rfl
           match cs,this,e2,hci with
           | [x,y],_,e1,e2=>simp at e1 e2;rw[e1,e2]
          refine PB (by first | exact hu1 | (show A.units+1+1+1+5<cLine;omega)) k2 (cel 1 v c hv' hci) (cel 0 v0 c0 e1 e2) (λ ec tk b=>?_) λ nc h' tk b es ps sb g z=>?_
          . exact hq b s1.heap tk (Heap.SameBut.refl _ _) ⟨k1,_,_,_,k2,v0,v,c0,c,e3,e4,.inl ⟨ec,rfl,rfl⟩⟩
          . refine hq b h' tk sb ⟨λ b' o' hb' e'=>?_,_,_,_,g,v0,v,c0,c,e3,e4,.inr ⟨nc,z⟩⟩
            rw[sb.2 b' (w9 hb')];exact k1 b' o' hb' e'
        | i+2,hi',_=>omega
       case hS0=>
        refine⟨λ b o hb e=>Heap.get?_push_of_some _ (Heap.get?_push_of_some _ e),[],[],0,Heap.get?_push_of_some _ hS,rfl,rfl⟩
       case hR=>
        intro s' hm hS'
        obtain⟨h',g',d',tk',os'⟩:=s'
        have eg:g'=s.gens:=hm.gens
        have ed:d'=s.drawn:=hm.drawn
        have eo:os'=s.os:=hm.os
        subst eg;subst ed;subst eo
        obtain⟨k1,es,ps,ep,k2,k3⟩:=hS'
        show wpAny _ _ _ _ _ _
        refine wpAny_pure ?_
        show wpAny _ _ (ret Value.none) _ _ _
        refine wpAny_pure ⟨rfl,h',tk',es,ps,ep,rfl,k2,by simpa using k3,k1⟩
     . cases r₂ with
       | error e=>exact hr₂
       | ok fl₂=>
         cases fl₂ with
         | next=>exact hr₂.elim
         | brk=>exact hr₂.elim
         | cont=>exact hr₂.elim
         | ret r=>
           obtain⟨rfl,h',tk,es,ps,ep,rfl,k2,k3,k1⟩:=hr₂
           repeat(any_goals (first | assumption | wp_step))
           exact h _ _ _ _ _ (hled▸k2) k3 k1
end
end RF
namespace RF
open PySem PySem.Spec L2 DL
open PyProof.Rows
variable {es : List (Int × Value)} {ps : List Nat} {S I : Addr} {ep : Nat}
theorem rJ:entryFor table "set.__iter__"=some Builtin.«frozenset.__iter__»:=
 entryFor_alias (id':="frozenset.__iter__") (by kernel_rfl) rfl (by decide+kernel) (by kernel_rfl)
theorem aW:Slot "set_iterator" "__next__" "set_iterator.__next__":=
 .of (owner:="set_iterator") (n:="__next__") (by rw[typeLookup_type,builtinLookup_eq_fast];kernel_rfl) (by decide+kernel) (by decide+kernel) (by decide+kernel)
  (by first | exact .inl (by decide+kernel) | exact .inr (by decide+kernel)) (by rw[isSubtype_type];kernel_rfl)
theorem c7:entryFor table "set_iterator.__next__"=some Builtin.«set_iterator.__next__»:=entryFor_of_tree (by kernel_rfl)
theorem fQ:Manifest.owners.lookup (String.ofList ['r','o','t','a','r','e','t','i','_','t','e','s'].reverse)=some Manifest.sig_set_iterator:=by kernel_rfl
theorem cY(a:Value):argsOk "set_iterator.__next__" ⟨[a],[]⟩:=by
 unfold argsOk;rw[signature?_of (id:="set_iterator.__next__") (n:=['_','_','t','x','e','n','_','_']) (o:=['r','o','t','a','r','e','t','i','_','t','e','s']) (by kernel_rfl) fQ];kernel_rfl
theorem du:Slot "set_iterator" "__iter__" "set_iterator.__iter__":=
 .of (owner:="set_iterator") (n:="__iter__") (by rw[typeLookup_type,builtinLookup_eq_fast];kernel_rfl) (by decide+kernel) (by decide+kernel) (by decide+kernel)
  (by first | exact .inl (by decide+kernel) | exact .inr (by decide+kernel)) (by rw[isSubtype_type];kernel_rfl)
theorem ik:entryFor table "set_iterator.__iter__"=some Builtin.«dict_keyiterator.__iter__»:=
 entryFor_alias (id':="dict_keyiterator.__iter__") (by kernel_rfl) rfl (by decide+kernel) (by kernel_rfl)
theorem gR(a:Value):argsOk "set_iterator.__iter__" ⟨[a],[]⟩:=by
 unfold argsOk;rw[signature?_of (id:="set_iterator.__iter__") (n:=['_','_','r','e','t','i','_','_']) (o:=['r','o','t','a','r','e','t','i','_','t','e','s']) (by kernel_rfl) fQ];kernel_rfl
noncomputable def slotAt(ps:List Nat):Nat->Nat
 | 0=>0
 | i+1=>ps.getD i 0+1
theorem Fp:∀(ps:List Nat)(i:Nat),(ps=[]∨(∃j,ps=[j])∨∃j k,ps=[j,k]/\j<k)->i≤ps.length->SetTable.below ps.toArray (slotAt ps i)=i:=by
 rintro ps i (rfl | ⟨j,rfl⟩ | ⟨j,k,rfl,hjk⟩) hi
 . have:i=0:=by simpa using hi
   subst this
   rfl
 . match i,hi with
   | 0,_=>rw[show([j].toArray:Array Nat)=#[j]from rfl,qO];simp[slotAt]
   | 1,_=>rw[show([j].toArray:Array Nat)=#[j]from rfl,qO];simp[slotAt]
   | i+2,h=>simp at h
 . match i,hi with
   | 0,_=>simp[slotAt,SetTable.below,SetTable.below.go]
   | 1,_=>
     have h1:¬k<j+1:=by omega
     simp[slotAt,SetTable.below,SetTable.below.go,h1]
   | 2,_=>simp[slotAt,SetTable.below,SetTable.below.go]
   | i+3,h=>simp at h
noncomputable def bx(w:World)(a:Addr)(ep:Nat)(es:List (Int×Value)):Array (Int×Value):=
 if w.params.followText "set-order"=true then pickOrder (w.params.setOrder a ep) es.toArray else es.toArray
noncomputable abbrev cg(w:World)(ps:List Nat)(S:Addr)(n ep i:Nat):Obj:={cls:=.type "set_iterator",dict:=none,data:=.fields #[rawInt (if w.params.followText "set-order"=true then 0 else slotAt ps i:Nat),rawInt (i:Nat),.ref S,rawInt (n:Nat),rawInt (ep:Nat)],slots:=#[]}
structure Rise(es:List (Int×Value))(ps:List Nat):Prop where
 len:ps.length=es.length
 sh:ps=[]∨(∃j,ps=[j])∨∃j k,ps=[j,k]/\j<k
theorem Rise.seven(r:Rise es ps):ps.length≤7:=by
 rcases r.sh with rfl | ⟨j,rfl⟩ | ⟨j,k,rfl,_⟩<;>simp
section
variable {prog : Program} {w : World} {A : Around} {E : Value -> Shared -> Prop} {s : Shared}
theorem yD{i:Nat}{Q:Option (Value×Nat)->Shared->Prop}(r:Rise es ps)(hi:i≤es.length)(ho:s.heap.get? S=some (bO (dB w) es ps ep))
 (h:Q (((bx w S ep es)[i]?).map λ e=>(e.2,if w.params.followText "set-order"=true then 0 else slotAt ps (i+1))) s):
 wpAny (model prog w) A (setNext S (if w.params.followText "set-order"=true then 0 else slotAt ps i) i ep) Q E s:=by
 unfold setNext
 refine wpAny_bind (bL ho r.len r.seven ?_)
 unfold setsByText
 dsimp only
 refine wpAny_bind (wpAny_bind (wpAny_askSetting (wpAny_pure ?_)))
 show wpAny _ _ (if w.params.followText "set-order"=true then _ else _) _ _ _
 unfold bx at h
 by_cases bt:w.params.followText "set-order"=true
 . rw[if_pos bt]
   rw[if_pos bt]at h
   simp only[if_pos bt]at h
   rw[if_neg (by simp)]
   unfold setWalk
   refine wpAny_bind (wpAny_bind (bL ho r.len r.seven ?_))
   unfold setsByText
   dsimp only
   refine wpAny_bind (wpAny_bind (wpAny_askSetting (wpAny_pure ?_)))
   show wpAny _ _ (if w.params.followText "set-order"=true then _ else _) _ _ _
   rw[if_pos bt]
   refine wpAny_bind (wpAny_askSetting (wpAny_pure (wpAny_pure ?_)))
   simp only[if_pos bt]
   exact h
 . rw [if_neg bt]
   rw[if_neg bt]at h
   simp only[if_neg bt]at h ⊢
   have hled:dB w=true:=by simp[dB,bt]
   split
   . exact absurd (by assumption) y6
   . refine wpAny_bind ?_
     show wpAny _ _ (if(!(dB w)&& !(es.toArray.isEmpty))=true then _ else pure PUnit.unit) _ _ _
     rw[hled,if_neg (show ¬((!true&& !(es.toArray.isEmpty))=true)from y6)]
     refine wpAny_pure ?_
     rw[Fp ps i r.sh (by rw[r.len];exact hi)]
     refine wpAny_pure ?_
     have e2:slotAt ps (i+1)=ps.getD i 0+1:=rfl
     rw[e2]at h
     rw[List.getElem?_toArray]at h
     rw[List.getElem?_toArray,List.getElem?_toArray]
     cases he:es[i]? with
     | none=>rw[he]at h;exact h
     | some e=>
       rw[he]at h
       have hlt:i<ps.length:=by rw[r.len];exact(z0.mp he).1
       rw[y3 hlt]
       rw[List.getD_eq_getElem?_getD,y3 hlt]at h
       exact h
theorem jO{n i:Nat}(ho:s.heap.get? I=some (cg w ps S n ep i)):s.TypeIs (.ref I) "set_iterator":=⟨_,ho,rfl⟩
theorem jE{h:Heap}{vs:Array Value}{k:Nat}{x:Value}(ho:h.get? I=some {cls:=.type "set_iterator",dict:=none,data:=.fields vs,slots:=#[]}):
 (h.update I (Obj.mapFields (·.setIfInBounds k x))).get? I=some {cls:=.type "set_iterator",dict:=none,data:=.fields (vs.setIfInBounds k x),slots:=#[]}:=Heap.get?_update_self _ ho rfl
theorem Jc{i:Nat}{e:Int×Value}{Q:Option Value->Shared->Prop}(hne:S≠I)(r:Rise es ps)(hi:i<es.length)(hI:s.heap.get? I=some (cg w ps S es.length ep i))(ho:s.heap.get? S=some (bO (dB w) es ps ep))
 (he:(bx w S ep es)[i]? =some e)(h:∀h',Heap.SameBut I s.heap h'->h'.get? I=some (cg w ps S es.length ep (i+1))->Q (some e.2) {s with heap:=h'}):
 wpAny (model prog w) A (pyNext (.ref I)) Q E s:=by
 have hT:=jO hI
 unfold pyNext
 refine wpAny_bind (wpAny_attempt (wpAny_callSpecial?_slot (name:=Str.ofString "__next__") hT aW
  (wpAny_call_entry aW hT c7 ?_ (cY _))))
 unfold Builtin.«set_iterator.__next__»
 refine wpAny_bind (wpAny_pure ?_)
 refine wpAny_bind (wpAny_fieldsOf hI rfl ?_)
 dsimp only
 refine wpAny_bind (wpAny_setEntries_of ho rfl (gB r.len r.seven) ?_)
 rw[if_neg (by simp)]
 refine wpAny_bind ?_
 simp only[rawInt,Int.toNat_natCast]
 refine yD r (Nat.le_of_lt hi) ho ?_
 rw[he]
 dsimp only[Option.map]
 refine wpAny_bind (wpAny_setField hI rfl (by simp) ?_)
 refine wpAny_bind (wpAny_setField (s:={s with heap:=_}) (jE hI) rfl (by simp) ?_)
 exact wpAny_pure ⟨_,rfl,wpAny_pure (h _ ((Heap.SameBut.update ..).trans (Heap.SameBut.update ..)) (by
  have:=jE (k:=1) (x:=rawInt (i+1)) (jE (k:=0) (x:=rawInt (if w.params.followText "set-order"=true then 0 else slotAt ps (i+1):Nat)) hI)
  exact this))⟩
theorem Jz{Q:Option Value->Shared->Prop}(hh:A.handled=none)(hne:S≠I)(r:Rise es ps)(hI:s.heap.get? I=some (cg w ps S es.length ep es.length))(ho:s.heap.get? S=some (bO (dB w) es ps ep))
 (he:(bx w S ep es)[es.length]? =none)(h:∀h',Heap.ExtBut I s.heap h'->Q none {s with heap:=h'}):
 wpAny (model prog w) A (pyNext (.ref I)) Q E s:=by
 have hT:=jO hI
 unfold pyNext
 refine wpAny_bind (wpAny_attempt (wpAny_callSpecial?_slot (name:=Str.ofString "__next__") hT aW
  (wpAny_call_entry aW hT c7 ?_ (cY _))))
 unfold Builtin.«set_iterator.__next__»
 refine wpAny_bind (wpAny_pure ?_)
 refine wpAny_bind (wpAny_fieldsOf hI rfl ?_)
 dsimp only
 refine wpAny_bind (wpAny_setEntries_of ho rfl (gB r.len r.seven) ?_)
 rw[if_neg (by simp)]
 refine wpAny_bind ?_
 simp only[rawInt,Int.toNat_natCast]
 refine yD r (y9 _) ho ?_
 rw[he]
 dsimp only[Option.map]
 refine wpAny_bind (wpAny_setField hI rfl (by simp) ?_)
 show wpAny _ _ (newExc (.type "StopIteration") []>>=_) _ _ _
 refine wpAny_bind ?_
 simp only[newExc,newTuple]
 refine wpAny_bind (wpAny_newObj_type ?_ (by size_fits))
 refine wpAny_bind (m:=firstArgMember _ _) (wpAny_of_eq (a:=Value.none) (by first | rfl | (simp only[firstArgMember];rfl)) ?_)
 refine wpAny_newObj_type ?_ (by size_fits)
 simp only[raiseNew]
 refine wpAny_bind (wpAny_handled ?_)
 rw[show A.in1.handled=none from hh]
 refine wpAny_bind (wpAny_pure (wpAny_throw ?_))
 refine wpAny_bind (wpAny_isInstance (T:="StopIteration") (b:=true) ⟨_,Heap.get?_push_size _ rfl,rfl⟩ isSubtype_stop ?_)
 exact wpAny_pure (h _ (((Heap.SameBut.update ..).extBut.push _).push _))
theorem fP(w:World)(S:Addr)(ep:Nat){es:List (Int×Value)}{ps:List Nat}(r:Rise es ps):
 (es=[]/\bx w S ep es=#[])∨(∃e,es=[e]/\bx w S ep es=#[e])∨∃e1 e2,es=[e1,e2]/\(bx w S ep es=#[e1,e2]∨bx w S ep es=#[e2,e1]):=by
 have hl:=r.len
 unfold bx
 rcases r.sh with rfl | ⟨j,rfl⟩ | ⟨j,k,rfl,_⟩
 . have:es=[]:=List.length_eq_zero_iff.mp hl.symm
   subst this
   exact .inl ⟨rfl,by split<;>rfl⟩
 . obtain⟨e,rfl⟩:∃e,es=[e]:=List.length_eq_one_iff.mp hl.symm
   refine .inr (.inl ⟨e,rfl,?_⟩)
   split
   . simp[pickOrder,pickOrder.go,Nat.mod_one]
   . rfl
 . obtain⟨e1,e2,rfl⟩:∃e1 e2,es=[e1,e2]:=by
    match es,hl with
    | [e1,e2],_=>exact⟨_,_,rfl⟩
   refine .inr (.inr ⟨e1,e2,rfl,?_⟩)
   split
   . rcases Nat.mod_two_eq_zero_or_one (w.params.setOrder S ep 0)with h | h
     . left;simp[pickOrder,pickOrder.go,h,Nat.mod_one]
     . right;simp[pickOrder,pickOrder.go,h,Nat.mod_one]
   . exact .inl rfl
theorem ju(w:World)(S:Addr)(ep:Nat){es:List (Int×Value)}{ps:List Nat}(r:Rise es ps):(bx w S ep es).size=es.length:=by
 rcases fP w S ep r with⟨h1,h2⟩ | ⟨e,h1,h2⟩ | ⟨e1,e2,h1,h2 | h2⟩<;>rw[h2,h1]<;>rfl
theorem Jr(hh:A.handled=none)(I S:Addr)(hne:S≠I)(es:List (Int×Value))(ps:List Nat)(ep:Nat)(r:Rise es ps):
 Walks prog w A I [I,S] [I] es.length (λ i v=>∃e,(bx w S ep es)[i]? =some e/\e.2=v) (λ i h=>h.get? I=some (cg w ps S es.length ep i)/\h.get? S=some (bO (dB w) es ps ep)) where
 sub:=λ b hb=>by simp at hb;simp[hb]
 frame:=λ _ _ _ st hk=>⟨hk I (by simp) _ st.1,hk S (by simp) _ st.2⟩
 item:=λ i s Q E hi st hQ=>by
  obtain⟨e,he⟩:∃e,(bx w S ep es)[i]? =some e:=⟨_,Array.getElem?_eq_getElem (by rw[ju w S ep r];exact hi)⟩
  refine Jc hne r hi st.1 st.2 he λ h' sb g=>hQ e.2 h' s.toks ⟨e,he,rfl⟩ ⟨g,?_⟩ λ b o hb e=>sb.extBut b o (λ h=>hb (by simp[h])) e
  rw[sb.2 S hne];exact st.2
 done:=λ s Q E st hQ=>Jz hh hne r st.1 st.2 (Array.getElem?_eq_none (by rw[ju w S ep r];exact y9 _)) λ h' he'=>hQ h' s.toks λ b o hb e=>he' b o (λ h=>hb (by simp[h])) e
 self:=λ _ s Q E st hQ=>by
  have hT:=jO (s:=s) st.1
  refine wpAny_pyIter_slot hT du (wpAny_call_entry du hT ik ?_ (gR _))
  show wpAny _ _ (ret (.ref I)) _ _ s
  exact wpAny_pure ⟨_,rfl,"set_iterator",_,hT,aW.lookup,hQ⟩
theorem Kc{Q:Value->Shared->Prop}(r:Rise es ps)(ho:s.heap.get? S=some (bO (dB w) es ps ep))
 (h:Q (.ref s.heap.objs.size) {s with heap:=s.heap.push (cg w ps S es.length ep 0)}):wpAny (model prog w) A (pyIter (.ref S)) Q E s:=by
 have hT:s.TypeIs (.ref S) "set":=⟨_,ho,rfl⟩
 refine wpAny_pyIter_slot hT F.slot_set_iter (wpAny_call_entry F.slot_set_iter hT rJ ?_ (F.args_set_iter_1 _))
 unfold Builtin.«frozenset.__iter__» Builtin.Frozenset.slot0 Builtin.Frozenset.sizeOf setDrawn
 refine wpAny_bind (wpAny_bind (wpAny_pure (wpAny_pure ?_)))
 refine wpAny_bind (wpAny_bind (wpAny_setEntries_of ho rfl (gB r.len r.seven) (wpAny_pure ?_)))
 refine wpAny_bind (wpAny_bind (bL ho r.len r.seven ?_))
 unfold setsByText
 dsimp only
 refine wpAny_bind (wpAny_bind (wpAny_askSetting (wpAny_pure (wpAny_pure ?_))))
 split
 . rename_i hx
   rw[Bool.and_eq_true]at hx
   exact absurd hx.2 y6
 . refine wpAny_bind (wpAny_pure ?_)
   refine wpAny_bind (wpAny_setEpoch_of ho rfl (gB r.len r.seven) ?_)
   refine wpAny_bind (wpAny_newObj_type ?_ (by size_fits))
   have hz:es.toArray.size=es.length:=x4
   have e1:((if w.params.followText "set-order"=true then 0 else slotAt ps 0:Nat))=0:=by split<;>rfl
   have key:cg w ps S es.length ep 0={cls:=.type "set_iterator",dict:=none,data:=.fields [rawInt 0,rawInt 0,.ref S,rawInt (es.toArray.size:Nat),rawInt (ep:Nat)].toArray,slots:=#[]}:=by
    unfold cg
    rw[e1,hz]
    rfl
   rw[key]at h
   exact wpAny_pure ⟨_,rfl,"set_iterator",_,⟨_,Heap.get?_push_size _ rfl,rfl⟩,aW.lookup,h⟩
theorem Bv{Q:List Value->Shared->Prop}(hh:A.handled=none)(r:Rise es ps)(ho:s.heap.get? S=some (bO (dB w) es ps ep))
 (h:∀h' tk,(∀b o,b<s.heap.objs.size->s.heap.get? b=some o->h'.get? b=some o)->s.heap.objs.size≤h'.objs.size->Q ((bx w S ep es).toList.map (·.2)) {s with heap:=h',toks:=tk}):wpAny (model prog w) A (collect (.ref S)) Q E s:=by
 have hS:S<s.heap.objs.size:=Heap.lt_size ho
 have hSL:s.heap.objs.size≠S:=Nat.ne_of_gt hS
 unfold collect
 refine wpAny_bind (wpAny_runValue (codeAny_builtin F.entry_proto_collect ?_))
 rw[Around.under_plainId F.plain_proto_collect _]
 show wpAny _ A.in1 (newList []>>=λ l=>again (.builtin "list.__iadd__" ⟨[l,.ref S],[]⟩)) _ _ s
 refine wpAny_bind (wpAny_newObj_type ?_)
 refine wpAny_pure ⟨plainId_quiet F.plain_list_iadd _,codeAny_builtin F.entry_list_iadd ?_⟩
 rw[Around.under_plainId F.plain_list_iadd _]
 have ho1:(s.heap.push {cls:=.type "list",data:=.seq ([]:List Value).toArray}).get? S=some (bO (dB w) es ps ep):=Heap.get?_push_of_some _ ho
 have hT1:Shared.TypeIs {s with heap:=s.heap.push {cls:=.type "list",data:=.seq ([]:List Value).toArray}} (.ref S) "set":=⟨_,ho1,rfl⟩
 show wpAny _ A.in1 (Builtin.List.listExtendWith (.ref s.heap.objs.size) (.ref S) (.ref s.heap.objs.size)) _ _ _
 unfold Builtin.List.listExtendWith
 refine wpAny_bind (wpAny_typeOf hT1 ?_)
 have h1:Builtin.List.listSameRef (.ref s.heap.objs.size) (.ref S)=false:=by simp[Builtin.List.listSameRef,hSL]
 have h2:(Value.type "set"==Value.type "list")=false:=by decide
 have h3:(Value.type "set"==Value.type "tuple")=false:=by decide
 simp only[h1,h2,h3,Bool.or_false,Bool.false_eq_true,if_false]
 refine wpAny_bind (Kc (s:={s with heap:=s.heap.push {cls:=.type "list",data:=.seq ([]:List Value).toArray}}) r ho1 ?_)
 refine wpAny_bind (wpAny_holding ?_)
 have sz1:(s.heap.push {cls:=.type "list",data:=.seq ([]:List Value).toArray}).objs.size=s.heap.objs.size+1:=size_push' _ _
 have ho2:((s.heap.push {cls:=.type "list",data:=.seq ([]:List Value).toArray}).push (cg w ps S es.length ep 0)).get? S=some (bO (dB w) es ps ep):=Heap.get?_push_of_some _ ho1
 have hI2:((s.heap.push {cls:=.type "list",data:=.seq ([]:List Value).toArray}).push (cg w ps S es.length ep 0)).get? (s.heap.objs.size+1)=some (cg w ps S es.length ep 0):=by
  rw[←sz1];exact Heap.get?_push_size _ rfl
 have hT2:Shared.TypeIs {s with heap:=(s.heap.push {cls:=.type "list",data:=.seq ([]:List Value).toArray}).push (cg w ps S es.length ep 0)} (.ref S) "set":=⟨_,ho2,rfl⟩
 have hS₁:((s.heap.push {cls:=.type "list",data:=.seq ([]:List Value).toArray}).push (cg w ps S es.length ep 0)).get? s.heap.objs.size=some {cls:=.type "list",data:=.seq ([]:List Value).toArray}:=Heap.get?_push_of_some _ (Heap.get?_push_size _ rfl)
 show wpAny (model prog w) A.in1 (Builtin.List.listLengthHint (.ref S)) _ _ {s with heap:=(s.heap.push {cls:=.type "list",data:=.seq ([]:List Value).toArray}).push (cg w ps S es.length ep 0)}
 unfold Builtin.List.listLengthHint
 refine wpAny_bind (wpAny_specialOf hT2 F.slot_set_len.lookup ?_)
 have hsp:splitId "set.__len__"=some ("set","__len__"):=by kernel_rfl
 dsimp only
 rw[hsp]
 dsimp only
 refine wpAny_bind (wpAny_isInstance hT2 sub_set_self ?_)
 rw[if_neg (show ¬((!true)=true)from y6)]
 rw[if_pos]
 . refine wpAny_bind (wpAny_typeOf hT2 ?_)
   dsimp only
   refine wpAny_pure ?_
   rw[if_pos]
   . refine wpAny_bind (wpAny_rule ?_)
     refine wpAny_bind ?_
     show wpAny _ A.in1 (updateSeq s.heap.objs.size (·.push .none)>>=λ _=>updateSeq s.heap.objs.size (·.pop)) _ _ _
     refine wpAny_bind (wpAny_updateSeq hS₁ rfl ?_)
     have hS₂:=Heap.get?_update_self (Obj.mapSeq (·.push Value.none)) hS₁ rfl
     refine wpAny_updateSeq hS₂ rfl ?_
     have hS₃:=Heap.get?_update_self (Obj.mapSeq (·.pop)) hS₂ rfl
     have oth:∀b o,b≠s.heap.objs.size->((s.heap.push {cls:=.type "list",data:=.seq ([]:List Value).toArray}).push (cg w ps S es.length ep 0)).get? b=some o->
      ((((s.heap.push {cls:=.type "list",data:=.seq ([]:List Value).toArray}).push (cg w ps S es.length ep 0)).update s.heap.objs.size (Obj.mapSeq (·.push Value.none))).update s.heap.objs.size (Obj.mapSeq (·.pop))).get? b=some o:=
      λ b o hb e=>(Heap.get?_update_other _ _ (Ne.symm hb)).trans ((Heap.get?_update_other _ _ (Ne.symm hb)).trans e)
     have hSI:S≠s.heap.objs.size+1:=w9 (Nat.lt_succ_of_lt hS)
     have hLf:s.heap.objs.size∉[s.heap.objs.size+1,S]:=by
      intro z
      rcases List.mem_cons.mp z with z | z
      . exact absurd z (w9 (Nat.lt_succ_self _))
      . exact hSL (List.mem_singleton.mp z)
     have hn:es.length≤sizeLine:=by rw[←r.len];exact Nat.le_trans r.seven (by decide)
     rw[sz1]
     refine wpAny_pure ⟨plainId_quiet F.plain_extend_loop _,codeAny_extend_loopS (Jr (prog:=prog) (A:=A.in1) (by simpa using hh) (s.heap.objs.size+1) S hSI es ps ep r).toS hn _ hLf _ es.length 0 _ _ _ rfl (Nat.zero_le _)
      ⟨oth _ _ (Nat.ne_of_gt (Nat.lt_succ_self _)) hI2,oth _ _ hSL.symm ho2⟩ hS₃ (ItemsOf.nil _) λ s' acc' c' hm hS' hacc=>?_⟩
     show wpAny _ A (load s.heap.objs.size>>=_) _ _ s'
     refine wpAny_bind (wpAny_load hS' ?_)
     obtain⟨h',g',d',tk',os'⟩:=s'
     have eg:g'=s.gens:=hm.gens
     have ed:d'=s.drawn:=hm.drawn
     have eo:os'=s.os:=hm.os
     subst eg;subst ed;subst eo
     have eacc:acc'.toList=(bx w S ep es).toList.map (·.2):=by
      apply List.ext_getElem?
      intro j
      rw[y8,Array.getElem?_toList,Array.getElem?_toList]
      by_cases hj:j<es.length
      . have hj1:j<acc'.size:=by rw[hacc.1];exact hj
        obtain⟨e,he,hv⟩:=hacc.2 j acc'[j] (Array.getElem?_eq_getElem hj1)
        rw[Array.getElem?_eq_getElem hj1,he,←hv];rfl
      . rw[Array.getElem?_eq_none (by rw[hacc.1];omega),Array.getElem?_eq_none (by rw[ju w S ep r];omega)];rfl
     refine wpAny_pure ?_
     show Q acc'.toList _
     rw[eacc]
     refine h h' tk' (λ b o hb e=>?_) ?_
     . refine hm.heap b o ?_ (oth b o (w9 hb) (Heap.get?_push_of_some _ (Heap.get?_push_of_some _ e)))
       intro z
       rcases List.mem_cons.mp z with z | z
       . exact absurd z (w9 hb)
       . exact absurd (List.mem_singleton.mp z) (w9 (Nat.lt_succ_of_lt hb))
     . exact Nat.le_of_lt (Heap.lt_size hS')
   . decide
 . decide
end
end RF
namespace RF
open PySem PySem.Spec L2 DL
open PyProof.Rows
theorem zq(fin:Bool):∀ns:List Int,ltF fin ns ns=fin
 | []=>rfl
 | n::ns=>by unfold ltF;rw[if_pos rfl];exact zq fin ns
theorem Lb(ns:List Int):ltI ns ns=false:=by unfold ltI;rw[zq];simp
noncomputable def ltC(c d:Int×List Int):Bool:=if c.1=d.1 then ltI c.2 d.2 else decide (c.1<d.1)
section
variable {prog : Program} {w : World} {A : Around} {E : Value -> Shared -> Prop} {s : Shared}
theorem Og{a b:Addr}{ns ms:List Int}{P:PySem.Fin->Shared->Prop}(hx:dU s.heap (.ref a) ns)(hy:dU s.heap (.ref b) ms)(h:P (.done (.ret (.bool (ltI ns ms)))) s):
 wpAny (model prog w) A (Builtin.«tuple.__lt__» ⟨[.ref a,.ref b],[]⟩) P E s:=by
 obtain⟨a',oa,xs,na,e,hoa,hca,hda,hia⟩:=hx
 cases e
 obtain⟨b',ob,ys,nb,e,hob,hcb,hdb,hib⟩:=hy
 cases e
 have hTb:s.TypeIs (.ref b) "tuple":=⟨ob,hob,hcb⟩
 show wpAny _ _ (isInstance (.ref b) (.type "tuple")>>=_) _ _ s
 refine wpAny_bind (wpAny_isInstance hTb isSubtype_tuple_tuple ?_)
 simp only[Bool.not_true,Bool.false_eq_true,if_false]
 refine wpAny_bind (wpAny_tupleItemsOf hoa hda ?_)
 refine wpAny_bind (wpAny_tupleItemsOf hob hdb ?_)
 refine wpAny_bind ?_
 have l1:xs.size=ns.length:=by rw[←Array.length_toList];exact hia.length
 have l2:ys.size=ms.length:=by rw[←Array.length_toList];exact hib.length
 refine wpAny_forIn_list _
  (λ rest r s'=>r.1=none/\s'=s/\∃ns' ms' xs' ys',rest=List.zip xs' ys'/\IntsAre xs' ns'/\IntsAre ys' ms'/\ltF (decide (ns.length<ms.length)) ns' ms'=ltI ns ms)
  _ ?_ ?_ _ _ ⟨rfl,rfl,ns,ms,xs.toList,ys.toList,rfl,hia,hib,rfl⟩
 . rintro⟨u,v⟩ rest r s' ⟨hr,rfl,ns',ms',xs',ys',hz,hx',hy',hdec⟩
   cases hx' with
   | nil=>simp at hz
   | @cons k1 t1 xs'' ns'' hx''=>
     cases hy' with
     | nil=>simp at hz
     | @cons k2 t2 ys'' ms'' hy''=>
       simp only[List.zip_cons_cons,List.cons.injEq,Prod.mk.injEq]at hz
       obtain⟨⟨rfl,rfl⟩,rfl⟩:=hz
       refine wpAny_bind (wpAny_eqBool_int ?_)
       unfold ltF at hdec
       by_cases hk:k1=k2
       . subst hk
         rw[beq_self_eq_true]
         simp only[Bool.not_true,Bool.false_eq_true,if_false]
         rw[if_pos rfl]at hdec
         exact wpAny_pure ⟨rfl,rfl,_,_,_,_,rfl,hx'',hy'',hdec⟩
       . rw[if_neg hk]at hdec
         rw[show(k1==k2)=false from by simpa using hk]
         simp only[Bool.not_false,if_true]
         rw[←hdec]at h
         refine wpAny_bind (wpAny_rule ?_)
         refine wpAny_bind (show wpAny _ _ (compareOp .Lt _ _) _ _ _ from wpAny_lt_int ?_)
         exact wpAny_bind (wpAny_pure (wpAny_pure (wpAny_pure h)))
 . rintro⟨r1,r2⟩ s' ⟨hr,rfl,ns',ms',xs',ys',hz,hx',hy',hdec⟩
   simp only at hr
   subst hr
   refine wpAny_pure ?_
   have hfin:decide (xs.size<ys.size)=ltI ns ms:=by
    rw[←hdec,l1,l2]
    cases hx' with
    | nil=>rfl
    | cons _ _ _=>
      cases hy' with
      | nil=>rfl
      | cons _ _ _=>simp at hz
   show P (.done (.ret (.bool (decide (xs.size<ys.size))))) s'
   rw[hfin];exact h
theorem En{u v:Value}{ns ms:List Int}{Q:Value->Shared->Prop}(hu:A.units<cLine)(hx:dU s.heap u ns)(hy:dU s.heap v ms)(h:Q (.bool (ltI ns ms)) s):wpAny (model prog w) A (compareOp .Lt u v) Q E s:=by
 obtain⟨a,oa,_,_,rfl,hoa,hca,_⟩:=id hx
 obtain⟨b,ob,_,_,rfl,hob,hcb,_⟩:=id hy
 exact wpAny_richCompare_same_room (op:=.Lt) ⟨oa,hoa,hca⟩ ⟨ob,hob,hcb⟩ F.slot_tuple_lt
  (wpAny_call_entry F.slot_tuple_lt ⟨oa,hoa,hca⟩ F.entry_tuple_lt (Og hx hy ⟨_,rfl,(λ e=>nomatch e),h⟩) (F.args_tuple_lt_2 _ _)) hu
theorem QB{b:Bool}{v u:Value}{c d:Int×List Int}{Q:Bool->Shared->Prop}(hu:A.units+2<cLine)(hv:aZ s.heap v c)(hw:aZ s.heap u d)(h:Q (ltC c d) s):wpAny (model prog w) A (keyLt' (tuples' b) v u) Q E s:=by
 obtain⟨a,o,k,tk,x,rfl,ho,hc,hd,hx⟩:=hv
 obtain⟨a2,o2,k2,tk2,x2,rfl,ho2,hc2,hd2,hx2⟩:=hw
 refine PySem.W.kat_lt ho hd ho2 hd2 ?_
 show PySem.W.KatLex prog w A b _ Q [(Value.int c.1 tk,Value.int d.1 tk2),(x,x2)] 0 s
 refine PySem.W.kat_cons (wpAny_eqBool_int ?_)
 unfold ltC at h
 by_cases e:c.1=d.1
 . rw[e,beq_self_eq_true]
   rw[if_pos e]at h
   refine PySem.W.kat_yes (PySem.W.kat_cons (xM (by omega) hx hx2 prog w _ _ ?_))
   by_cases e2:c.2=d.2
   . rw[decide_eq_true e2]
     refine PySem.W.kat_yes (PySem.W.kat_nil ?_)
     rw[e2,Lb]at h
     exact h
   . rw[decide_eq_false e2]
     refine PySem.W.kat_no ?_
     rw[show(b&&0+1==0)=false from by cases b<;>rfl]
     exact PySem.W.kat_one _ _ (En (by omega) hx hx2 h)
 . rw[show(c.1==d.1)=false from by simpa using e]
   rw[if_neg e]at h
   exact PySem.W.kat_no (Qd h)
noncomputable def iI:List Value->List (Int×List Int)->List Value
 | [v1,v2],[c1,c2]=>if ltC c2 c1=true then[v2,v1]else[v1,v2]
 | vs,_=>vs
theorem vO{a:Addr}{vs:List Value}{n:Nat}{cs:List (Int×List Int)}{P:PySem.Fin->Shared->Prop}(hu:A.units+2<cLine)(ho:s.heap.get? a=some (seqObj "list" vs.toArray n))
 (hl:vs.length=cs.length)(hr:∀(i:Nat)(v:Value)(c:Int×List Int),vs[i]? =some v->cs[i]? =some c->aZ s.heap v c)(hsm:vs.length≤2)
 (h:P (.done (.ret .none)) {s with heap:=sortedHeap s.heap a vs (iI vs cs).toArray}):
 wpAny (model prog w) A (Builtin.«list.sort» ⟨[.ref a],[]⟩) P E s:=by
 rw[list_sort_plain]
 have hla:a<s.heap.objs.size:=Heap.lt_size ho
 have hsl:vs.length≤sizeLine:=Nat.le_trans hsm (by decide)
 refine wpAny_bind (listItems_at ho rfl ?_)
 refine wpAny_bind (listUpdate_at ho rfl ?_ (by rw[x4];exact hsl) (Nat.zero_le _))
 obtain⟨e1,ho1⟩:∃e1,(s.heap.update a (Obj.mapSeq λ _=>#[])).get? a=some (seqObj "list" #[] e1):=⟨_,get?_update_seq ho (λ _=>#[])⟩
 refine wpAny_bind (seqEpoch_at ho1 rfl ?_)
 refine wpAny_bind (wpAny_newTuple ?_ (by show vs.length≤_;exact hsl))
 refine wpAny_bind (wpAny_newList ?_ (Nat.zero_le _))
 refine wpAny_holding ?_
 have ho6:(((s.heap.update a (Obj.mapSeq λ _=>#[])).push (seqObj "tuple" vs.toArray 0)).push (seqObj "list" #[] 0)).get? a=some (seqObj "list" #[] e1):=by
  rw[Heap.get?_push_ne _ _ _ (by rw[size_push',Heap.size_update];exact w9 (Nat.lt_succ_of_lt hla)),Heap.get?_push_ne _ _ _ (by rw[Heap.size_update];exact w9 hla)]
  exact ho1
 show wpAny (model prog w) A _ P E {s with heap:=((s.heap.update a (Obj.mapSeq λ _=>#[])).push (seqObj "tuple" vs.toArray 0)).push (seqObj "list" #[] 0)}
 dsimp only
 have hout:(vs.toArray.zip vs.toArray).map (·.2)=vs.toArray:=by
  apply Array.toList_inj.mp
  simp[List.map_snd_zip]
 have hr':∀(i:Nat)(v:Value)(c:Int×List Int),vs[i]? =some v->cs[i]? =some c->aZ (((s.heap.update a (Obj.mapSeq λ _=>#[])).push (seqObj "tuple" vs.toArray 0)).push (seqObj "list" #[] 0)) v c:=λ i v c q1 q2=>(hr i v c q1 q2).keep λ b o e c=>by
  have hba:b≠a:=by
   rintro rfl
   rw[ho]at e;cases e
   exact absurd (show Value.type "list"=Value.type "tuple" from c) (by decide)
  have hlb:b<s.heap.objs.size:=Heap.lt_size e
  rw[Heap.get?_push_ne _ _ _ (by rw[size_push',Heap.size_update];exact w9 (Nat.lt_succ_of_lt hlb)),Heap.get?_push_ne _ _ _ (by rw[Heap.size_update];exact w9 hlb),Heap.get?_update_ne _ _ _ _ hba]
  exact e
 by_cases h2:vs.toArray.size<2
 . rw[if_pos h2,if_pos h2]
   refine wpAny_bind (wpAny_pure ?_)
   rw[StateT.run_pure]
   refine wpAny_bind (wpAny_pure ?_)
   dsimp only
   refine wpAny_bind (seqEpoch_at ho6 rfl ?_)
   rw[show arrOf (SortSt.mk' general' (vs.toArray.zip vs.toArray) #[] 7 none)=vs.toArray.zip vs.toArray from rfl,hout]
   refine wpAny_bind (listUpdate_at ho6 rfl ?_ (Nat.zero_le _) (by rw[x4];omega))
   simp only[bne_self_eq_false,Bool.false_eq_true,if_false]
   have es:iI vs cs=vs:=by
    match vs,cs,h2 with
    | [],_,_=>unfold iI;simp
    | [v],_,_=>unfold iI;simp
    | _::_::_,_,h2=>simp at h2;omega
   rw[es]at h
   exact wpAny_pure h
 . rw [if_neg h2,if_neg h2]
   obtain⟨v1,v2,c1,c2,rfl,rfl⟩:∃v1 v2 c1 c2,vs=[v1,v2]/\cs=[c1,c2]:=by
    match vs,cs,hl,hsm,h2 with
    | [v1,v2],[c1,c2],_,_,_=>exact⟨_,_,_,_,rfl,rfl⟩
    | [],_,_,_,h2=>simp at h2
    | [_],_,_,_,h2=>simp at h2
    | _::_::_::_,_,_,h,_=>simp at h
   have q1:=hr' 0 v1 c1 rfl rfl
   have q2:=hr' 1 v2 c2 rfl rfl
   have q1':=q1
   have q2':=q2
   obtain⟨b1,o1,k1,tk1,u1,rfl,g1,g2,g3,g4⟩:=q1'
   obtain⟨b2,o2,k2,tk2,u2,rfl,f1,f2,f3,f4⟩:=q2'
   refine wpAny_bind (PySem.W.kat_kind (T:=.type "int") (PySem.W.KatTups.cons (f:=.int c1.1 tk1) g1 g2 g3 rfl (PySem.W.KatTups.cons (f:=.int c2.1 tk2) f1 f2 f3 rfl PySem.W.KatTups.nil)) (Nat.succ_pos _) (λ v hv=>?_) (by decide) ?_)
   . rcases List.mem_cons.mp hv with rfl | hv
     . exact .now
     . rcases List.mem_cons.mp hv with rfl | hv
       . exact .now
       . cases hv
   have hw:(PySem.W.kas_sort 2).kasWp (PySem.W.kas_ask prog w A (tuples' (Value.type "int" !=Value.type "tuple")) [Value.ref b1,Value.ref b2]) (λ p s'=>s'={s with heap:=((s.heap.update a (Obj.mapSeq λ _=>#[])).push (seqObj "tuple" [Value.ref b1,Value.ref b2].toArray 0)).push (seqObj "list" #[] 0)}/\p=if ltC c2 c1=true then #[1,0]else #[0,1]) {s with heap:=((s.heap.update a (Obj.mapSeq λ _=>#[])).push (seqObj "tuple" [Value.ref b1,Value.ref b2].toArray 0)).push (seqObj "list" #[] 0)}:=by
    show PySem.W.kas_ask prog w A _ [Value.ref b1,Value.ref b2] 1 0 _ _
    unfold PySem.W.kas_ask
    refine QB (s:={s with heap:=((s.heap.update a (Obj.mapSeq λ _=>#[])).push (seqObj "tuple" [Value.ref b1,Value.ref b2].toArray 0)).push (seqObj "list" #[] 0)}) hu q2 q1 ?_
    cases hlt:ltC c2 c1 with
    | true=>exact⟨rfl,rfl⟩
    | false=>exact⟨rfl,rfl⟩
   refine wpAny_bind (wpAny_mono (PySem.W.kat_run (Q:=λ st' s'=>s'={s with heap:=((s.heap.update a (Obj.mapSeq λ _=>#[])).push (seqObj "tuple" [Value.ref b1,Value.ref b2].toArray 0)).push (seqObj "list" #[] 0)}/\failedOf st'=none/\(arrOf st').map (·.2)=(iI [Value.ref b1,Value.ref b2] [c1,c2]).toArray) rfl (y9 2) (by show 2<64;decide) (λ p st' s' a1 a2 a3 a4=>⟨a4.1,a3,?_⟩) hw) ?_ λ _ _ e=>e)
   . rw[PySem.W.kat_snds rfl a2,a4.2]
     show _=(if ltC c2 c1=true then[Value.ref b2,Value.ref b1]else[Value.ref b1,Value.ref b2]).toArray
     by_cases hlt:ltC c2 c1=true
     . rw[if_pos hlt,if_pos hlt];rfl
     . rw[if_neg hlt,if_neg hlt];rfl
   . rintro⟨⟨⟩,st'⟩ s' ⟨rfl,hf,hp⟩
     dsimp only
     refine wpAny_bind (seqEpoch_at ho6 rfl ?_)
     rw[hp]
     have hz:(iI [Value.ref b1,Value.ref b2] [c1,c2]).length=2:=by
      show(if ltC c2 c1=true then[Value.ref b2,Value.ref b1]else[Value.ref b1,Value.ref b2]).length=2
      split<;>rfl
     refine wpAny_bind (listUpdate_at ho6 rfl ?_ (Nat.zero_le _) (by rw[x4,hz];exact Nat.le_succ_of_le hsl))
     rw[hf]
     simp only[bne_self_eq_false,Bool.false_eq_true,if_false]
     exact wpAny_pure h
end
end RF
namespace RF
open PySem PySem.Spec L2 DL
open PyProof.Rows
theorem uQ{f g:Bool}(hfg:f=true->g=false):∀{ns ms:List Int},ltF f ns ms=true->ltF g ms ns=false
 | [],[],h=>by unfold ltF at h ⊢;exact hfg h
 | [],_::_,h=>by unfold ltF at h ⊢;exact hfg h
 | _::_,[],h=>by unfold ltF at h ⊢;exact hfg h
 | n ::ns,m::ms,h=>by
   unfold ltF at h ⊢
   by_cases e:n=m
   . rw[if_pos e]at h;rw[if_pos e.symm];exact uQ hfg h
   . rw[if_neg e]at h;rw[if_neg (λ z=>e z.symm)]
     have:=of_decide_eq_true h
     exact decide_eq_false (by omega)
theorem Hy{ns ms:List Int}(h:ltI ns ms=true):ltI ms ns=false:=by
 unfold ltI at h ⊢
 exact uQ (λ h1=>decide_eq_false (by have:=of_decide_eq_true h1;omega)) h
theorem uR{f g:Bool}:∀{ns ms:List Int},(ns.length<ms.length->f=true)->(ms.length<ns.length->g=true)->ltF f ns ms=false->ltF g ms ns=false->ns=ms
 | [],[],_,_,_,_=>rfl
 | [],_::_,hf,_,h,_=>by unfold ltF at h;rw[hf (by simp)]at h;cases h
 | _::_,[],_,hg,_,h=>by unfold ltF at h;rw[hg (by simp)]at h;cases h
 | n ::ns,m::ms,hf,hg,h1,h2=>by
   unfold ltF at h1 h2
   by_cases e:n=m
   . rw[if_pos e]at h1;rw[if_pos e.symm]at h2
     rw[e,uR (λ z=>hf (by simpa using z)) (λ z=>hg (by simpa using z)) h1 h2]
   . rw[if_neg e]at h1;rw[if_neg (λ z=>e z.symm)]at h2
     have a:=of_decide_eq_false h1
     have b:=of_decide_eq_false h2
     omega
theorem Hl{ns ms:List Int}(h1:ltI ns ms=false)(h2:ltI ms ns=false):ns=ms:=by
 unfold ltI at h1 h2
 exact uR (λ h=>decide_eq_true h) (λ h=>decide_eq_true h) h1 h2
theorem JN{c d:Int×List Int}(h:ltC c d=true):ltC d c=false:=by
 unfold ltC at h ⊢
 by_cases e:c.1=d.1
 . rw[if_pos e]at h;rw[if_pos e.symm];exact Hy h
 . rw[if_neg e]at h;rw[if_neg (λ z=>e z.symm)]
   have:=of_decide_eq_true h
   exact decide_eq_false (by omega)
theorem Hf{c d:Int×List Int}(h1:ltC c d=false)(h2:ltC d c=false):c=d:=by
 unfold ltC at h1 h2
 by_cases e:c.1=d.1
 . rw[if_pos e]at h1;rw[if_pos e.symm]at h2
   exact Prod.ext e (Hl h1 h2)
 . rw[if_neg e]at h1;rw[if_neg (λ z=>e z.symm)]at h2
   have a:=of_decide_eq_false h1
   have b:=of_decide_eq_false h2
   exact absurd (by omega) e
noncomputable def sset{α:Type}(f:α->Int×List Int):List α->List α
 | [x,y]=>if f y=f x then[x]else if ltC (f y) (f x)=true then[y,x]else[x,y]
 | xs=>xs
section
variable {prog : Program} {w : World} {A : Around} {E : Value -> Shared -> Prop} {s : Shared}
theorem BV{S:Addr}{ep:Nat}{its:List Value}{cs:List (Int×List Int)}{es:List (Int×Value)}{ps:List Nat}(hl:its.length=cs.length)(h2:its.length≤2)(h:Lies prog w its cs its.length es ps):
 Rise es ps/\∃ds:List (Int×List Int),((bx w S ep es).toList.map (·.2)).length=ds.length/\(∀(i:Nat)(v:Value)(c:Int×List Int),((bx w S ep es).toList.map (·.2))[i]? =some v->ds[i]? =some c->(v,c)∈its.zip cs)/\
  iI ((bx w S ep es).toList.map (·.2)) ds=(sset (·.2) (its.zip cs)).map (·.1):=by
 match its,cs,hl,h2,h with
 | [],[],_,_,h=>
   obtain⟨rfl,rfl⟩:=h
   have r:Rise [] []:=⟨rfl,.inl rfl⟩
   refine⟨r,[],?_⟩
   rcases fP w S ep r with⟨_,h2⟩ | ⟨e,h1,_⟩ | ⟨e1,e2,h1,_⟩
   . rw[h2];exact⟨rfl,λ i v c e=>by simp at e,rfl⟩
   . cases h1
   . cases h1
 | [v],[c],_,_,h=>
   obtain⟨v',c',e1,e2,rfl,rfl⟩:=h
   cases e1;cases e2
   have r:Rise [(hC prog w c,v)] [SetTable.bits (hC prog w c) % 8]:=⟨rfl,.inr (.inl ⟨_,rfl⟩)⟩
   refine⟨r,[c],?_⟩
   rcases fP w S ep r with⟨h1,_⟩ | ⟨e,h1,h2⟩ | ⟨e1,e2,h1,_⟩
   . cases h1
   . cases h1
     rw[h2]
     refine⟨rfl,λ i v' c' e1 e2=>?_,rfl⟩
     match i with
     | 0=>simp at e1 e2;simp[e1,e2]
     | i+1=>simp at e1
   . cases h1
 | [v0, v], [c0,c],_,_,h=>
   obtain⟨v0',v',c0',c',e1,e2,h⟩:=h
   cases e1;cases e2
   rcases h with⟨rfl,rfl,rfl⟩ | ⟨nc,e1,e2,v1,v2,j1,j2,rfl,rfl,hj,h8,hv⟩
   . have r:Rise [(hC prog w c,v0)] [SetTable.bits (hC prog w c) % 8]:=⟨rfl,.inr (.inl ⟨_,rfl⟩)⟩
     refine⟨r,[c],?_⟩
     rcases fP w S ep r with⟨h1,_⟩ | ⟨e,h1,h2⟩ | ⟨e1,e2,h1,_⟩
     . cases h1
     . cases h1
       rw[h2]
       refine⟨rfl,λ i v' c' e1 e2=>?_,?_⟩
       . match i with
         | 0=>simp at e1 e2;simp[e1,e2]
         | i+1=>simp at e1
       . show[v0]=_
         simp[sset]
     . cases h1
   . have r :Rise [(e1,v1),(e2,v2)] [j1,j2]:=⟨rfl,.inr (.inr ⟨_,_,rfl,hj⟩)⟩
     refine⟨r,?_⟩
     have key:∀(x y:Value)(p q:Int×List Int),(bx w S ep [(e1,v1),(e2,v2)]).toList.map (·.2)=[x,y]->((x,p)=(v0,c0)/\(y,q)=(v,c)∨(x,p)=(v,c)/\(y,q)=(v0,c0))->
      ∃ ds:List (Int×List Int),((bx w S ep [(e1,v1),(e2,v2)]).toList.map (·.2)).length=ds.length/\(∀(i:Nat)(v':Value)(c':Int×List Int),((bx w S ep [(e1,v1),(e2,v2)]).toList.map (·.2))[i]? =some v'->ds[i]? =some c'->(v',c')∈[v0,v].zip [c0,c])/\
        iI ((bx w S ep [(e1,v1),(e2,v2)]).toList.map (·.2)) ds=(sset (·.2) ([v0,v].zip [c0,c])).map (·.1):=by
      intro x y p q hm hxy
      rw[hm]
      refine⟨[p,q],rfl,λ i v' c' g1 g2=>?_,?_⟩
      . match i with
        | 0=>
          simp at g1 g2;subst g1 g2
          rcases hxy with⟨a,b⟩ | ⟨a,b⟩<;>(rw[a];simp)
        | 1=>
          simp at g1 g2;subst g1 g2
          rcases hxy with⟨a,b⟩ | ⟨a,b⟩<;>(rw[b];simp)
        | i+2=>simp at g1
      . show(if ltC q p=true then[y,x]else[x,y])=(if c=c0 then[(v0,c0)]else if ltC c c0=true then[(v,c),(v0,c0)]else[(v0,c0),(v,c)]).map (·.1)
        rw[if_neg nc]
        rcases hxy with⟨a,b⟩ | ⟨a,b⟩
        . cases a;cases b
          split<;>rfl
        . cases a;cases b
          cases h1:ltC c0 c with
          | true=>rw[JN h1];rfl
          | false=>
            cases h2:ltC c c0 with
            | true=>rfl
            | false=>exact absurd (Hf h2 h1) nc
     rcases fP w S ep r with⟨h1,_⟩ | ⟨e,h1,_⟩ | ⟨f1,f2,h1,h2⟩
     . cases h1
     . cases h1
     . cases h1
       rcases hv with⟨rfl,rfl⟩ | ⟨rfl,rfl⟩
       . rcases h2 with h2 | h2
         . exact key v1 v2 c0 c (by rw[h2];rfl) (.inl ⟨rfl,rfl⟩)
         . exact key v2 v1 c c0 (by rw[h2];rfl) (.inr ⟨rfl,rfl⟩)
       . rcases h2 with h2 | h2
         . exact key v1 v2 c c0 (by rw[h2];rfl) (.inr ⟨rfl,rfl⟩)
         . exact key v2 v1 c0 c (by rw[h2];rfl) (.inl ⟨rfl,rfl⟩)
 | _::_::_::_,_,_,h2,_=>simp at h2
theorem EY{S:Addr}{vs:List Value}{cs:List (Int×List Int)}{es:List (Int×Value)}{ps:List Nat}{ep:Nat}{Q:Value->Shared->Prop}(hh:A.handled=none)(hu:A.units+8<cLine)(r:Rise es ps)(ho:s.heap.get? S=some (bO (dB w) es ps ep))
 (hvs:vs=(bx w S ep es).toList.map (·.2))(hl:vs.length=cs.length)(h2:vs.length≤2)(hc:∀(i:Nat)(v:Value)(c:Int×List Int),vs[i]? =some v->cs[i]? =some c->aZ s.heap v c)
 (h:∀h' tk a e,(∀b o,b<s.heap.objs.size->s.heap.get? b=some o->h'.get? b=some o)->s.heap.objs.size≤a->h'.get? a=some (seqObj "list" (iI vs cs).toArray e)->Q (.ref a) {s with heap:=h',toks:=tk}):
 wpAny (model prog w) A (call (.builtin "sorted") [.ref S]) Q E s:=by
 refine Calls.call_function_entry kind_sorted plain_sorted entry_sorted (args_sorted1 _) ?_
 unfold Builtin.«sorted»
 refine wpAny_bind (m:=checkCount "sorted" 1 1 _) (wpAny_pure ?_)
 refine wpAny_bind (Bv (by simpa using hh) r ho λ h' tk k1 k2=>?_)
 rw[←hvs]
 have hsl:vs.length≤sizeLine:=Nat.le_trans h2 (by decide)
 refine wpAny_bind (wpAny_newList ?_ hsl)
 have hoL:(h'.push (seqObj "list" vs.toArray 0)).get? h'.objs.size=some (seqObj "list" vs.toArray 0):=Heap.get?_push_size _ rfl
 have keep:∀b o,s.heap.get? b=some o->(h'.push (seqObj "list" vs.toArray 0)).get? b=some o:=λ b o q=>Heap.get?_push_of_some _ (k1 b o (Heap.lt_size q) q)
 show wpAny _ _ _ _ _ {s with heap:=h'.push (seqObj "list" vs.toArray 0),toks:=tk}
 refine wpAny_bind (wpAny_holding (wpAny_call_entry slot_list_sort ⟨_,hoL,rfl⟩ entry_list_sort (vO ?_ hoL hl (λ i v c e1 e2=>(hc i v c e1 e2).keep λ b o e _=>keep b o e) h2 ⟨_,rfl,?_⟩) (args_list_sort _)))
 . show A.units+1+1+2<cLine
   omega
 . obtain⟨e,he⟩:=sortedHeap_at (out:=(iI vs cs).toArray) hoL
   refine wpAny_pure ⟨_,rfl,h _ tk _ e (λ b o hb q=>?_) k2 he⟩
   have hlt:b<h'.objs.size:=x9 hb k2
   rw[sortedHeap_old (w9 hlt) (by rw[size_push'];exact Nat.lt_succ_of_lt hlt)]
   exact keep b o q
end
end RF
namespace RF
open PySem PySem.Spec L2 DL
open PyProof.Rows
noncomputable def cD(c:Int×List Int):D:=.tup [.int c.1,.tup (c.2.map .int)]
section
variable {X : Cx}
theorem Ro {pins:List (Addr×Obj)}{σ:DL.St}{H:Hp}{s:Shared}{O:Own}(I:Inv X pins σ H s){y:V}{u:Value}{c:Int×List Int}(r:Rep X.K O H y (cD c))(ru:RelV y u):aZ s.heap u c:=by
 unfold cD at r
 cases r with
 | @tup a xs _ h1 q1=>
   cases ru
   obtain⟨js,rv,⟨o,p1,p2,n,p3⟩,hz⟩:=I.tuple h1.sq
   cases q1 with
   | cons r1 t1=>
     cases t1 with
     | cons r2 t2=>
       cases t2
       cases rv with
       | cons a1 b1=>
         cases b1 with
         | cons a2 b2=>
           cases b2
           cases r1
           obtain⟨tk,rfl⟩:=a1
           cases r2 with
           | @tup a' xs' _ h1' q1'=>
             cases a2
             obtain⟨js',rv',⟨o',p1',p2',n',p3'⟩,hz'⟩:=I.tuple h1'.sq
             have ex:=q1'.ints
             subst ex
             exact⟨a,o,n,tk,_,rfl,p1,p2,p3,_,o',_,n',rfl,p1',p2',p3',intsAre_of rv'⟩
theorem Il {K :PySem.W.Frag}{O:Own}{H:Hp}{cs:List (Int×List Int)}{its:List Value}{xs:List V}(h2:cs.length≤2)(rv:Vals xs its)(hq:Reps K O H xs (cs.map cD)):
 ∃ys,Vals ys ((sset (·.2) (its.zip cs)).map (·.1))/\Reps K O H ys ((sset id cs).map cD)/\ys.length≤2:=by
 rcases cs with _ | ⟨c0,_ | ⟨c,_ | ⟨c',cs⟩⟩⟩
 . cases hq;cases rv;exact⟨[],.nil,.nil,Nat.zero_le _⟩
 . cases hq with
   | cons b1 t=>
     cases t
     cases rv with
     | cons a1 t=>
       cases t
       exact⟨[_],.cons a1 .nil,.cons b1 .nil,Nat.le_succ _⟩
 . cases hq with
   | cons b1 t=>
     cases t with
     | cons b2 t=>
       cases t
       cases rv with
       | cons a1 t=>
         cases t with
         | cons a2 t=>
           cases t
           rename_i y0 y x0 x
           have key:∃ys,Vals ys ((if c=c0 then[(x0,c0)]else if ltC c c0=true then[(x,c),(x0,c0)]else[(x0,c0),(x,c)]).map (·.1))/\Reps K O H ys ((if c=c0 then[c0]else if ltC c c0=true then[c,c0]else[c0,c]).map cD)/\ys.length≤2:=by
            by_cases e1:c=c0
            . rw[if_pos e1,if_pos e1];exact⟨[y0],.cons a1 .nil,.cons b1 .nil,Nat.le_succ _⟩
            . rw[if_neg e1,if_neg e1]
              by_cases e2:ltC c c0=true
              . rw[if_pos e2,if_pos e2];exact⟨[y,y0],.cons a2 (.cons a1 .nil),.cons b2 (.cons b1 .nil),y9 _⟩
              . rw[if_neg e2,if_neg e2];exact⟨[y0,y],.cons a1 (.cons a2 .nil),.cons b1 (.cons b2 .nil),y9 _⟩
           exact key
 . simp at h2
theorem Bu{cs:List (Int×List Int)}{S:Store}{W:WD}{d:D}(hc:X.calm=true)(hu:X.A.units+60<cLine)(h2:cs.length≤2)(hd:d=.lst (cs.map cD)∨∃k,d=.loc k/\S[k]? =some (cs.map cD))
 (w:∀(O:Own)(H:Hp)(p:Addr)(ys:List V),StOk X.K O H S->H p=none->Reps X.K O H ys ((sset id cs).map cD)->QG X.K O H W (.ref p) (upd H p (.lst ys)))
 {pins:Pins}{s:Shared}{σ:DL.St}{H:Hp}{O:Own}{v:V}{u:Value}(I:Inv X pins σ H s)(st:StOk X.K O H S)(r':Rep X.K O H v d)(ru':RelV v u):
 wpAny (model X.prog X.w) X.A (call (.type "set") [u]) (λ u1 s1=>wpAny (model X.prog X.w) X.A (call (.builtin "sorted") [u1]) (EP X pins σ (QG X.K O H W)) X.xe s1) X.xe s:=by
 have main:∀(a:Addr)(xs:List V),v=.ref a->SqL X.K H a xs->Reps X.K O H xs (cs.map cD)->wpAny (model X.prog X.w) X.A (call (.type "set") [u]) (λ u1 s1=>wpAny (model X.prog X.w) X.A (call (.builtin "sorted") [u1]) (EP X pins σ (QG X.K O H W)) X.xe s1) X.xe s:=by
  rintro a xs rfl hs hq
  cases ru'
  obtain⟨its,rv,pl,hz⟩:=I.list hs
  have l1:xs.length=cs.length:=by rw[hq.length,y7]
  have l2:its.length=cs.length:=by rw[←rv.length,l1]
  have cel:∀(i:Nat)(x:Value)(c:Int×List Int),its[i]? =some x->cs[i]? =some c->aZ s.heap x c:=by
   intro i x c e1 e2
   have e3:(cs.map cD)[i]? =some (cD c):=by rw[y8,e2];rfl
   obtain⟨y,hy,ry⟩:=hq.get e3
   obtain⟨x',hx',rx⟩:=jP rv hy
   rw[e1]at hx';cases hx'
   exact Ro I ry rx
  refine xu (I.ok.hd hc) (by omega) pl.isList l2 cel (by omega) λ h1 tk es ps ep g1 lies k1=>?_
  obtain⟨rise,ds,m1,m2,m3⟩:=BV (S:=s.heap.objs.size) (ep:=ep) l2 (by omega) lies
  have hlt:∀b o,s.heap.get? b=some o->h1.get? b=some o:=λ b o e=>k1 b o (Heap.lt_size e) e
  have sz1:s.heap.objs.size≤h1.objs.size:=Nat.le_of_lt (Heap.lt_size g1)
  have m4:((bx X.w s.heap.objs.size ep es).toList.map (·.2)).length≤2:=by
   rw[y7,Array.length_toList,ju _ _ _ rise]
   rcases rise.sh with e | ⟨j,e⟩ | ⟨j,k,e,_⟩<;>(have:=rise.len;rw[e]at this;simp at this;omega)
  refine EY (s:={s with heap:=h1,toks:=tk}) (I.ok.hd hc) (by omega) rise g1 rfl m1 m4 (λ i x c e1 e2=>?_) λ h2' tk2 p e k2 hp he=>?_
  . have hm:=m2 i x c e1 e2
    obtain⟨j,hj⟩:=List.getElem?_of_mem hm
    rw[List.getElem?_zip_eq_some]at hj
    exact(cel j x c hj.1 hj.2).keep λ b o e _=>hlt b o e
  . rw[m3]at he
    have hp':s.heap.objs.size≤p:=Nat.le_trans sz1 hp
    have hpn:H p=none:=I.hok.fresh hp'
    obtain⟨ys,vy,ry,ly⟩:=Il h2 rv hq
    have hys:ys.length≤sizeLine:=Nat.le_trans ly (by decide)
    refine⟨.ref p,_,I.laid (t':=tk2) (λ b o q=>k2 b o (x9 (Heap.lt_size q) sz1) (hlt b o q)) hp' (show aX X.prog X.w _ _ _ (.lst ys)from⟨hys,_,e,vy,he⟩),rfl,w O H p ys st hpn ry⟩
 rcases hd with rfl | ⟨k,rfl,hk⟩
 . cases r' with
   | @lst a xs _ h1 q1=>exact main a xs rfl h1.sq q1
 . cases r' with
   | @loc p _ h1=>
     obtain⟨xs,hx,q1⟩:=st.obj k p _ h1 hk
     exact main p xs rfl (SqL.of hx) q1
end
end RF
namespace RF
open PySem PySem.Spec L2 DL
open PyProof.Rows
section
variable {Ω : Wd}
noncomputable def Te.lval(a:Ex Ω):Te Ω where
 lev:=a.lev
 chk top N nm e:=KD e&&a.chk top N nm e
 wp Γ S W:=a.wp Γ S λ d S1=>∃ds,vw S1 d=.lst ds/\(d=.lst ds∨∃k,d=.loc k/\S1[k]? =some ds)/\ds.length≤1000000/\W (!ds.isEmpty) S1
 sound:=by
  intro X r top N nm e Γ S W A hl hc hw
  obtain⟨h1,h2⟩:=aa hc
  intro pins s σ H O I env st
  refine isTrue_plain (thn (a.sound A hl h2 hw pins s σ H O I env st) λ u s3 hq_=>?_) (Ja h1 _ _)
  obtain⟨z,H3,I3,r3,O3,d,S3,⟨ds,_,hd,hz,wc⟩,st3,ok3,rep3⟩:=hq_
  have main:∀(p:Addr)(xs:List V),z=.ref p->SqL X.K H3 p xs->xs.length=ds.length->wpAny (model X.prog X.w) X.A (truthy u) (TP X pins σ (QT X.K O H W)) X.xe s3:=by
   rintro p xs rfl hs hlen
   cases r3
   obtain⟨its,rv,pl,hzz⟩:=I3.list hs
   have hl2:its.length=ds.length:=by rw[←rv.length,hlen]
   refine wpAny_truthy_list pl.isList (by rw[x4];omega) ?_
   have e:(!its.toArray.isEmpty)= !ds.isEmpty:=by
    cases its with
    | nil=>cases ds with
      | nil=>rfl
      | cons _ _=>simp at hl2
    | cons _ _=>cases ds with
      | nil=>simp at hl2
      | cons _ _=>rfl
   rw[e]
   exact⟨H3,I3.tok _,O3,S3,wc,st3,ok3⟩
  rcases hd with rfl | ⟨k,rfl,hk⟩
  . cases rep3 with
    | @lst p xs _ g1 q1=>exact main p xs rfl g1.sq q1.length
  . cases rep3 with
    | @loc p _ g1=>
      obtain⟨xs,hx,q1⟩:=ok3.obj k p _ g1 hk
      exact main p xs rfl (SqL.of hx) q1.length
end
section
variable {Ω : Wd}
noncomputable def Ex.ssetO(hm:Ω.mg "sorted"=none)(hm2:Ω.mg "set"=none)(a:Ex Ω):Ex Ω where
 lev:=a.lev
 chk top N nm e:=match e with
  | .Call (.Name y _) [.Call (.Name z _) [b] [] _] [] _=>(y=="sorted")&&((z=="set")&&(glb nm "sorted"&&(glb nm "set"&&(okE b&&a.chk top N nm b))))
  | _=>false
 wp Γ S W:=a.wp Γ S λ d S1=>∃cs:List (Int×List Int),cs.length≤2/\(d=.lst (cs.map cD)∨∃k,d=.loc k/\S1[k]? =some (cs.map cD))/\W (.loc S1.length) (S1++[(RF.sset id cs).map cD])
 sound:=by
  intro X r top N nm e Γ S W A hl hc hw
  split at hc
  . rename_i y p z p' b pos' pos
    obtain⟨h1,hc⟩:=aa hc
    obtain⟨h2,hc⟩:=aa hc
    obtain⟨h3,hc⟩:=aa hc
    obtain⟨h4,hc⟩:=aa hc
    obtain⟨h5,h6⟩:=aa hc
    have e1:=eq_of_beq h1
    have e2:=eq_of_beq h2
    subst e1 e2
    intro pins s σ H O I env st
    refine wpAny_Call_Name_kw (bY I (A.glb h3) (by rw[A.g];exact hm) (show bootBuiltins "sorted"=some (.builtin "sorted")from by decide+kernel) ?_ (by decide) (by decide))
    refine PyProof.Rows.callWith_builtin1 ?_ rfl rfl
    show wpAny _ _ (spliced ((false,eval _ X.env)::backTo pos (starEach [] X.env))) _ _ s
    refine Calls.spliced_cons ?_
    refine wpAny_Call_Name_kw (bY I (A.glb h4) (by rw[A.g];exact hm2) (show bootBuiltins "set"=some (.type "set")from by decide+kernel) ?_ (by decide) (by decide))
    refine PyProof.Rows.callWith_type1 ?_ (aC h5 _ _) rfl
    rw[aC h5 [] X.env]
    show wpAny _ _ (spliced ((false,eval b X.env)::backTo pos' (starEach [] X.env))) _ _ s
    refine Calls.spliced_cons (thn (a.sound A hl h6 hw pins s σ H O I env st) λ u s1 hq_=>?_)
    obtain⟨v,H1,I1,r1,O1,x,S1,hb,st1,ok1,rep1⟩:=hq_
    obtain⟨cs,c1,c2,c3⟩:=hb
    refine Calls.spliced_nil ?_
    refine thn (Bu (W:=W) A.calm A.hu c1 c2 (λ O H p ys st hp r=>qj c3 st hp r) I1 ok1 rep1 r1) λ u2 s2 q=>?_
    refine Calls.spliced_nil ?_
    exact thn q λ _ _ q=>cZ st1 q
  . exact fE hc
end
mutual
noncomputable def vwD(S:Store):D->D
 | .loc k=>match S[k]? with | some ds=>.lst ds | none=>.loc k
 | .tup ds=>.tup (gC S ds)
 | .lst ds=>.lst (gC S ds)
 | d=>d
noncomputable def gC(S:Store):List D->List D
 | []=>[]
 | d::ds=>vwD S d::gC S ds
end
noncomputable def vwT(S:Store):D->D
 | .loc k=>match S[k]? with | some ds=>.lst (gC S ds) | none=>.loc k
 | d=>vwD S d
mutual
theorem dR{K:PySem.W.Frag}{O:Own}{H:Hp}{S:Store}(st:StOk K O H S):∀{v:V}{x:D},Rep K O H v x->okD (vwD S x)=true->Sn K H v (vwD S x)
 | _,_,.non,_=>by simp only[vwD];exact .non
 | _,_,.bl b,_=>by simp only[vwD];exact .bl b
 | _,_,.int i,_=>by simp only[vwD];exact .int i
 | _,_,.str i,_=>by simp only[vwD];exact .str i
 | _,_,.tup h1 q1,h=>by simp only[vwD,okD]at h ⊢;exact .tup h1.sq (mX st q1 h)
 | _,_,.lst h1 q1,h=>by simp only[vwD,okD]at h ⊢;exact .lst h1.sq (mX st q1 h)
 | _,_,.loc (a:=a) (k:=k) hk,h=>by
   have hl:k<S.length:=by rw[←st.len];exact(z0.mp hk).1
   obtain⟨xs,hx,q⟩:=st.obj k a S[k] hk (y3 hl)
   have e:vwD S (.loc k)=.lst S[k]:=by simp only[vwD];rw[y3 hl]
   rw[e]at h ⊢
   exact .lst (SqL.of hx) (jk (by simpa[okD]using h) q)
 | _,_,.dic h1 e1,h=>by simp[vwD,okD]at h
 | _,_,.dlo h1,h=>by simp[vwD,okD]at h
theorem mX{K:PySem.W.Frag}{O:Own}{H:Hp}{S:Store}(st:StOk K O H S):∀{vs:List V}{xs:List D},Reps K O H vs xs->bJ (gC S xs)=true->Sns K H vs (gC S xs)
 | _,_,.nil,_=>by simp only[gC];exact .nil
 | _,_,.cons r t,h=>by
   simp only[gC,bJ,Bool.and_eq_true]at h ⊢
   exact .cons (dR st r h.1) (mX st t h.2)
end
theorem IV{K:PySem.W.Frag}{O:Own}{H:Hp}{S:Store}{v:V}{x:D}(st:StOk K O H S)(r:Rep K O H v x)(h:okD (vwT S x)=true):Sn K H v (vwT S x):=by
 cases r with
 | @loc a k hk=>
   have hl:k<S.length:=by rw[←st.len];exact(z0.mp hk).1
   obtain⟨xs,hx,q⟩:=st.obj k a S[k] hk (y3 hl)
   have e:vwT S (.loc k)=.lst (gC S S[k]):=by simp only[vwT];rw[y3 hl]
   rw[e]at h ⊢
   exact .lst (SqL.of hx) (mX st q (by simpa[okD]using h))
 | non=>exact dR st .non h
 | bl b=>exact dR st (.bl b) h
 | int i=>exact dR st (.int i) h
 | str i=>exact dR st (.str i) h
 | tup h1 q1=>exact dR st (.tup h1 q1) h
 | lst h1 q1=>exact dR st (.lst h1 q1) h
 | dic h1 e1=>exact dR st (.dic h1 e1) h
 | dlo h1=>exact dR st (.dlo h1) h
theorem TQ{X:Cx}{x y:D}{S:Store}{W:Bool->Store->Prop}(hu:X.A.units+60<cLine)(h1:okD (vwT S x)=true)(h2:okD (vwT S y)=true)(h3:deep (vwT S x)≤50)(w:W (!eqD (vwT S x) (vwT S y)) S):bh X .NotEq x y S (asB W):=by
 intro pins s σ H O v w' u u' I st r1 r2 r3 r4
 have:=(m5 (n:=50) (A:=X.A) (xZ 50) (vwT S x) (vwT S y) (by omega) I (IV st r1 h1) (IV st r2 h2) r3 r4 (by omega)).2
 exact this _ _ _ _ ⟨.bl _,H,I,rfl,QG.here ⟨_,rfl,w⟩ st (.bl _)⟩
section
variable {Ω : Wd}
noncomputable def Te.neV(a b:Ex Ω):Te Ω where
 lev:=max a.lev b.lev
 chk top N nm e:=match e with | .Compare l [o] [r] _=>(o==CmpOp.NotEq)&&(okE r&&(a.chk top N nm l&&b.chk top N nm r)) | _=>false
 wp Γ S W:=a.wp Γ S λ x S1=>b.wp Γ S1 λ y S2=>okD (vwT S2 x)=true/\okD (vwT S2 y)=true/\deep (vwT S2 x)≤50/\W (!eqD (vwT S2 x) (vwT S2 y)) S2
 sound:=by
  intro X r top N nm e Γ S W A hl hc hw
  obtain⟨l1,l2⟩:=lv2 hl
  cases e with
  | Compare l os rs pos=>
    match os,rs,hc with
    | [o],[r'],hc=>
      obtain⟨h1,h2⟩:=aa hc
      obtain⟨h0,h2⟩:=aa h2
      obtain⟨h2,h3⟩:=aa h2
      have e:o=.NotEq:=eq_of_beq h1
      subst e
      exact zz ((a.sound A l1 h2 hw).mono λ x S1 q=>(b.sound A l2 h3 q).mono λ y S2 q=>TQ A.hu q.1 q.2.1 q.2.2.1 q.2.2.2) (eQ h0)
    | [],_,hc=>exact fE hc
    | [_],[],hc=>exact fE hc
    | [_],_::_::_,hc=>exact fE hc
    | _::_::_,_,hc=>exact fE hc
  | _=>exact fE hc
end
end RF
namespace RF
open PySem PySem.Spec L2 DL
open PyProof.Rows
noncomputable def tB:V->List V->Hp->VK->Prop:=λ x vs H Q=>∃l xs i y,x=.ref l/\vs=[.int i,y]/\H l=some (.lst xs)/\0≤i/\i<2 ^ 62/\xs.length<sizeLine/\Q .non (upd H l (.lst (xs.take i.toNat++y::xs.drop i.toNat)))
section
variable {X : Cx}
theorem JZ{xs:List V}{us:List Value}(r:Vals xs us)(n:Nat):Vals (xs.take n) (us.take n):=by
 induction r generalizing n with
 | nil=>simp;exact .nil
 | cons a _ ih=>cases n with
   | zero=>simp;exact .nil
   | succ n=>exact .cons a (ih n)
theorem Jf{xs:List V}{us:List Value}(r:Vals xs us)(n:Nat):Vals (xs.drop n) (us.drop n):=by
 induction r generalizing n with
 | nil=>simp;exact .nil
 | cons a t ih=>cases n with
   | zero=>exact .cons a t
   | succ n=>exact ih n
theorem Ie:MtM X "list.insert" tB:=by
 intro pins s σ H x vs v us Q I rx rv h
 obtain⟨l,xs,i,y,rfl,rfl,hH,h0,h1,hz,q⟩:=h
 cases rx
 cases rv with
 | cons a1 t=>
   cases t with
   | cons a2 t=>
     cases t
     obtain⟨tk,rfl⟩:=a1
     obtain⟨z,its,n,r,hl,e⟩:=I.lstM hH
     rename_i u
     refine call_meets F.slot_list_insert ⟨_,e,rfl⟩ F.entry_list_insert (F.args_list_insert_3 _ _ _) (AutoSeq1.list_insert_list_int_val_1 l its.toArray n i tk u (by rw[fitsIndex_both (by omega) (by omega)];decide) (by rw[x4];omega)) ⟨e,?_⟩
     refine⟨.non,_,I.lset (its':=its.take i.toNat++u::its.drop i.toNat) hH e ?_ ((JZ r _).append (.cons a2 (Jf r _))) ?_,rfl,q⟩
     . apply Array.toList_inj.mp
       simp only[if_neg (show ¬i<0 by omega)]
       by_cases hle:i.toNat≤its.length
       . simp[Nat.min_eq_left hle]
         exact List.take_of_length_le (by simp)
       . have e2:min i.toNat its.length=its.length:=by omega
         have e3:its.take i.toNat=its:=List.take_of_length_le (by omega)
         have e4:its.drop i.toNat=[]:=List.drop_eq_nil_of_le (by omega)
         simp[e2,e3,e4]
     . rw[x6,List.length_cons,List.length_take,List.length_drop]
       omega
theorem uw{K:PySem.W.Frag}{O:Own}{H:Hp}{vs:List V}{ds:List D}(r:Reps K O H vs ds)(n:Nat):Reps K O H (vs.take n) (ds.take n):=by
 match vs,ds,r,n with
 | [],[],.nil,_=>simp;exact .nil
 | _::_,_::_,.cons a t,0=>simp;exact .nil
 | _::_,_::_,.cons a t,n+1=>exact .cons a (uw t n)
theorem uT{K:PySem.W.Frag}{O:Own}{H:Hp}{vs:List V}{ds:List D}(r:Reps K O H vs ds)(n:Nat):Reps K O H (vs.drop n) (ds.drop n):=by
 match vs,ds,r,n with
 | [],[],.nil,_=>simp;exact .nil
 | _::_,_::_,.cons a t,0=>exact .cons a t
 | _::_,_::_,.cons a t,n+1=>exact uT t n
theorem qi{K:PySem.W.Frag}{O:Own}{H:Hp}{vs:List V}{ds:List D}(r:Reps K O H vs ds)(n:Nat):Reps K O H (vs.eraseIdx n) (ds.eraseIdx n):=by
 match vs,ds,r,n with
 | [],[],.nil,_=>simp;exact .nil
 | _::_,_::_,.cons a t,0=>exact t
 | _::_,_::_,.cons a t,n+1=>exact .cons a (qi t n)
theorem G6{Γ:Gam}{S:Store}{o e:Expr}{es:List Expr}{name:Str}{id:String}{r:V->List V->Hp->VK->Prop}{apos cpos:Pos}{W:WD}(slot:Slot "list" name id)(hty:typeOf (.builtin id)=pure (.type "method_descriptor"))(hm:MtM X id r)(hmo:∀{x:V}{vs:List V}{H:Hp}{Q Q':VK},r x vs H Q->(∀v H',Q v H'->Q' v H')->r x vs H Q')
 (h:Ev X Γ S o λ x S1=>∃k,x=.loc k/\EvA X Γ S1 (e::es) λ ds S2=>∃ds0,S2[k]? =some ds0/\∀(O:Own)(H:Hp)(a:Addr)(xs vs:List V),O.A[k]? =some (a,false)->H a=some (.lst xs)->Reps X.K O H xs ds0->Reps X.K O H vs ds->StOk X.K O H S2->r (.ref a) vs H (QG X.K O H W))
 (hbase:attributeBase o name X.env (eval o X.env)=eval o X.env)
 (hfew:((backTo cpos (starEach (e::es) X.env)).all (λ x=>!x.1)&&(backToKw cpos (keywordEach [] X.env)).all (λ x=>x.1.isSome)
  &&decide ((e::es).length+([]:List Keyword).length+(if([]:List Keyword).isEmpty then 0 else 1)<30))=true)
 (hline:(apos.endLine==cpos.line)=true)(hs:starEach (e::es) X.env=(false,eval e X.env)::starEach es X.env)(hplain:(backTo cpos (starEach es X.env)).any (·.1)=false):Ev X Γ S (.Call (.Attribute o name apos) (e::es) [] cpos) W:=by
 intro pins s σ H O I env st
 have hty':∀(O1:Own)(x:D)(v:V)(H1:Hp)(S1:Store),(∃k,x=.loc k)->StOk X.K O1 H1 S1->Rep X.K O1 H1 v x->tyV X.K "list" v H1:=by
  rintro O1 x v H1 S1 ⟨k,rfl⟩ ok r
  cases r with
  | @loc a _ ha=>
    have hl:k<S1.length:=by rw[←ok.len];exact(z0.mp ha).1
    obtain⟨xs,hx,_⟩:=ok.obj k a S1[k] ha (y3 hl)
    exact .inl ⟨rfl,xs,SqL.of hx⟩
 have hA:PA X (e::es) (λ σ H Q=>∃O Γ S W',EnvOk X.K O H σ Γ/\StOk X.K O H S/\EvA X Γ S (e::es) W'/\∀vs H',QA X.K O H W' vs H'->Q vs H'):=by
  rintro pos pins s σ H Q I ⟨O,Γ,S,W',env,st,he,k⟩
  exact thn (he pos pins s σ H O I env st) λ us s1 ⟨vs,H1,I1,r1,q⟩=>⟨vs,H1,I1,r1,k vs H1 q⟩
 refine FZ (T:="list") PySem.F.plainAttrs_list slot hty hm (h.pe) hA hbase hfew hline hs hplain pins s σ H _ I ⟨O,env,st,λ v H' q=>?_⟩
 obtain⟨O1,x,S1,⟨k,rfl,he⟩,st1,ok1,rep1⟩:=q
 refine⟨hty' O1 _ v H' S1 ⟨k,rfl⟩ ok1 rep1,O1,Γ,S1,_,env.mono st1,ok1,he,λ vs H2 q2=>?_⟩
 obtain⟨O2,ds,S2,⟨ds0,hk,w⟩,st2,ok2,rep2⟩:=q2
 have r':=rep1.mono st2
 cases r' with
 | @loc a _ ha=>
   obtain⟨xs,hx,q1⟩:=ok2.obj k a ds0 ha hk
   exact hmo (w O2 H2 a xs vs ha hx q1 rep2 ok2) λ v' H3 q3=>q3.pre (st1.trans st2)
theorem yQ{x:V}{vs:List V}{H:Hp}{Q Q':VK}(h:tB x vs H Q)(k:∀v H',Q v H'->Q' v H'):tB x vs H Q':=by
 obtain⟨l,xs,i,y,e1,e2,e3,e4,e5,e6,q⟩:=h
 exact⟨l,xs,i,y,e1,e2,e3,e4,e5,e6,k _ _ q⟩
theorem Aj{x:V}{vs:List V}{H:Hp}{Q Q':VK}(h:yJ x vs H Q)(k:∀v H',Q v H'->Q' v H'):yJ x vs H Q':=by
 obtain⟨l,xs,i,j,y,e1,e2,e3,e4,e5,e6,e7,q⟩:=h
 exact⟨l,xs,i,j,y,e1,e2,e3,e4,e5,e6,e7,k _ _ q⟩
end
section
variable {Ω : Wd}
theorem Ve{e:Expr}{env:Env}{cpos:Pos}(h:okE e=true):((backTo cpos (starEach [e] env)).all (λ x=>!x.1)&&(backToKw cpos (keywordEach [] env)).all (λ x=>x.1.isSome)
 &&decide ([e].length+([]:List Keyword).length+(if([]:List Keyword).isEmpty then 0 else 1)<30))=true:=by
 rw[aC h [] env];rfl
theorem U0{e f:Expr}{env:Env}{cpos:Pos}(h:okE e=true)(h':okE f=true):((backTo cpos (starEach [e,f] env)).all (λ x=>!x.1)&&(backToKw cpos (keywordEach [] env)).all (λ x=>x.1.isSome)
 &&decide ([e,f].length+([]:List Keyword).length+(if([]:List Keyword).isEmpty then 0 else 1)<30))=true:=by
 rw[aC h [f] env,aC h' [] env];rfl
noncomputable def Ex.m_insert(o a b:Ex Ω):Ex Ω where
 lev:=max o.lev (max a.lev b.lev)
 chk top N nm e:=match e with | .Call (.Attribute x m p) [y,z] [] q=>(m==("insert":Str))&&(nameE x&&((p.endLine==q.line)&&(okE y&&(okE z&&(o.chk top N nm x&&(a.chk top N nm y&&b.chk top N nm z)))))) | _=>false
 wp Γ S W:=o.wp Γ S λ x S1=>match x with | .loc k=>a.wp Γ S1 λ d S2=>b.wp Γ S2 λ d' S3=>∃(i:Nat) (ds:List D),d=.int i/\S3[k]? =some ds/\i≤ds.length/\ds.length<1000000/\W .non (S3.set k (ds.take i++d'::ds.drop i)) | _=>False
 sound := by
  intro X r top N nm e Γ S W A hl hc hw
  obtain⟨l1,l2⟩:=lv2 hl
  obtain⟨l2,l3⟩:=lv2 l2
  split at hc
  . rename_i x m p y z q
    obtain⟨h1,g⟩:=aa hc
    obtain⟨h2,g⟩:=aa g
    obtain⟨h3,g⟩:=aa g
    obtain⟨h4,g⟩:=aa g
    obtain⟨h5,g⟩:=aa g
    obtain⟨h6,g⟩:=aa g
    obtain⟨h7,h8⟩:=aa g
    have e:=eq_of_beq h1
    subst e
    refine G6 F.slot_list_insert F.type_list_insert Ie yQ ((o.sound A l1 h6 hw).mono λ x S1 q=>?_) ?_ (U0 h4 h5) h3 (aC h4 _ _) (by rw[aC h5 [] _];rfl)
    . cases x<;>first | exact q.elim | skip
      refine⟨_,rfl,cC ((a.sound A l2 h7 q).mono λ d S2 q=>cC ((b.sound A l3 h8 q).mono λ d' S3 q=>gh ?_) (aC h5 _ _)) (aC h4 _ _)⟩
      obtain⟨i,ds,rfl,hk,hi,hz,w⟩:=q
      refine⟨ds,hk,λ O H a xs vs ha hx rx rv st=>?_⟩
      cases rv with
      | cons r1 t=>
        cases t with
        | cons r2 t=>
          cases t
          cases r1
          refine⟨a,xs,_,_,rfl,rfl,hx,by omega,by omega,by rw[rx.length];exact x9 hz (by decide),O,.non,_,w,Step.put (bH ha) _,?_,.non⟩
          rw[Int.toNat_natCast]
          exact st.put ha ((uw rx i).append (.cons r2 (uT rx i)))
    . cases x<;>first | rfl | exact ff h2
  . exact ff hc
noncomputable def Ex.m_pop(o a:Ex Ω):Ex Ω where
 lev:=max o.lev a.lev
 chk top N nm e:=match e with | .Call (.Attribute x m p) [y] [] q=>(m==("pop":Str))&&(nameE x&&((p.endLine==q.line)&&(okE y&&(o.chk top N nm x&&a.chk top N nm y)))) | _=>false
 wp Γ S W:=o.wp Γ S λ x S1=>match x with | .loc k=>a.wp Γ S1 λ d S2=>∃(i:Nat) (ds:List D) (y:D),d=.int i/\S2[k]? =some ds/\ds[i]? =some y/\ds.length≤1000000/\W y (S2.set k (ds.eraseIdx i)) | _=>False
 sound:=by
  intro X r top N nm e Γ S W A hl hc hw
  obtain⟨l1,l2⟩:=lv2 hl
  split at hc
  . rename_i x m p y q
    obtain⟨h1,g⟩:=aa hc
    obtain⟨h2,g⟩:=aa g
    obtain⟨h3,g⟩:=aa g
    obtain⟨h4,g⟩:=aa g
    obtain⟨h6,h7⟩:=aa g
    have e:=eq_of_beq h1
    subst e
    refine G6 F.slot_list_pop F.type_list_pop K3 Aj ((o.sound A l1 h6 hw).mono λ x S1 q=>?_) ?_ (Ve h4) h3 (aC h4 _ _) rfl
    . cases x<;>first | exact q.elim | skip
      refine⟨_,rfl,cC ((a.sound A l2 h7 q).mono λ d S2 q=>gh ?_) (aC h4 _ _)⟩
      obtain⟨i,ds,y,rfl,hk,hi,hz,w⟩:=q
      refine⟨ds,hk,λ O H a xs vs ha hx rx rv st=>?_⟩
      cases rv with
      | cons r1 t=>
        cases t
        cases r1
        obtain⟨v,hv,rv⟩:=rx.get hi
        have hlt:i<xs.length:=(z0.mp hv).1
        have hxz:xs.length=ds.length:=rx.length
        refine⟨a,xs,_,i,v,rfl,rfl,hx,by omega,by omega,?_,hv,O,y,_,w,Step.put (bH ha) _,st.put ha (qi rx i),rv.mono (Step.put (bH ha) _)⟩
        unfold seqIndex?
        rw[if_neg (show ¬(i:Int)<0 by omega)]
        show(if(decide (0≤(i:Int))&&decide ((i:Int)<(xs.length:Int)))=true then some (i:Int).toNat else none)=some i
        rw[decide_eq_true (show 0≤(i:Int) by omega),decide_eq_true (show(i:Int)<(xs.length:Int) by omega)]
        rfl
    . cases x<;>first | rfl | exact ff h2
  . exact ff hc
end
end RF
namespace RF
open PySem PySem.Spec L2 DL
open PyProof.Rows
section
variable {prog : Program} {w : World} {A : Around} {E : Value -> Shared -> Prop} {s : Shared}
theorem Ph(n:Nat):Builtin.Slice.sliceAdjust none none (-1) (n:Int)=((n:Int)-1,-1):=by
 unfold Builtin.Slice.sliceAdjust
 simp
theorem FT(n:Nat):Builtin.Slice.slicePlaces ((n:Int)-1) (-1) (-1)=n:=by
 unfold Builtin.Slice.slicePlaces
 simp
 omega
theorem oR{sl:Addr}{t:Tok}{n:Nat}{Q:Int×Int×Nat->Shared->Prop}(hs:s.heap.IsSliceOf sl .none .none (.int (-1) t))
 (h:Q ((n:Int)-1,-1,n) s):wpAny (model prog w) A (Builtin.Slice.sliceApplied (.ref sl) (pure (n:Int))) Q E s:=by
 obtain⟨os,hos,hcs,hds⟩:=id hs
 unfold Builtin.Slice.sliceApplied Builtin.Slice.sliceFields
 refine wpAny_bind (wpAny_bind (wpAny_field hos hds (x:=.none) rfl (wpAny_bind (wpAny_field hos hds (x:=.none) rfl (wpAny_bind (wpAny_field hos hds (x:=.int (-1) t) rfl (wpAny_pure ?_)))))))
 refine wpAny_bind (slicePart_int ?_)
 show wpAny _ _ (if((-1:Int)==0)=true then _ else _) _ _ s
 rw[if_neg (by decide)]
 refine wpAny_bind (slicePart_none (wpAny_bind (slicePart_none (wpAny_bind (wpAny_pure ?_)))))
 show wpAny _ _ (match Builtin.Slice.sliceAdjust none none (-1) (n:Int)with | (lo,hi)=>pure (lo,(-1:Int),Builtin.Slice.slicePlaces lo hi (-1))) _ _ s
 rw[Ph n]
 show wpAny _ _ (pure ((n:Int)-1,(-1:Int),Builtin.Slice.slicePlaces ((n:Int)-1) (-1) (-1))) _ _ s
 rw[FT]
 exact wpAny_pure h
theorem yU(xs:Array Value):((List.range xs.size).filterMap λ(m:Nat)=>xs[(((xs.size:Int)-1)+(m:Int)*(-1)).toNat]?).toArray=xs.toList.reverse.toArray:=by
 congr 1
 refine List.ext_getElem? λ i=>?_
 have e:∀(l:List Nat),(∀m∈l,m<xs.size)->l.filterMap (λ(m:Nat)=>xs[(((xs.size:Int)-1)+(m:Int)*(-1)).toNat]?)=l.map λ m=>xs.toList[xs.size-1-m]! :=by
  intro l
  induction l with
  | nil=>intro _;rfl
  | cons m l ih=>
    intro h
    have hm:=h m x5
    have e1:(((xs.size:Int)-1)+(m:Int)*(-1)).toNat=xs.size-1-m:=by omega
    have e2:xs[xs.size-1-m]? =some xs.toList[xs.size-1-m]! :=by
     have hl:xs.size-1-m<xs.size:=by omega
     rw[Array.getElem?_eq_getElem hl]
     simp[hl]
    rw[List.filterMap_cons,e1,e2,List.map_cons,ih λ k hk=>h k (x3 _ hk)]
 rw[e _ λ m hm=>List.mem_range.mp hm,y8]
 by_cases hi:i<xs.size
 . have hl:xs.size-1-i<xs.size:=by omega
   rw[List.getElem?_range hi,List.getElem?_reverse (by simpa using hi)]
   simp[hl]
 . rw[List.getElem?_eq_none (by simpa using hi),List.getElem?_eq_none (by simpa using hi)]
   rfl
theorem nG{t sl:Addr}{items:Array Value}{tk:Tok}{Q:Value->Shared->Prop}(ht:IsTup s.heap t items)(hs:s.heap.IsSliceOf sl .none .none (.int (-1) tk))(hsz:items.size≤sizeLine)
 (h:Q (.ref s.heap.objs.size) {s with heap:=s.heap.push {cls:=.type "tuple",data:=.seq items.toList.reverse.toArray}}):wpAny (model prog w) A (getItem (.ref t) (.ref sl)) Q E s:=by
 have htake:sizeOk (.seq items.toList.reverse.toArray):=by
  show items.toList.reverse.toArray.size≤sizeLine
  simpa using hsz
 obtain⟨os,hos,hcs,hds⟩:=id hs
 have isS:s.TypeIs (.ref sl) "slice":=⟨os,hos,hcs⟩
 unfold getItem
 try with_reducible refine wpAny_holding ?_
 first | refine wpAny_bind (wpAny_pure ?_) | skip
 refine wpAny_bind (wpAny_sequenceKey ht.typeIs (by decide) ?_)
 refine wpAny_bind (wpAny_callSpecial?_slot (name:=Str.ofString "__getitem__") ht.typeIs PyProof.Rows.slot_tuple_getitem
  (wpAny_call_entry PyProof.Rows.slot_tuple_getitem ht.typeIs entry_tuple_getitem ?_ (args_tuple_getitem _ _)))
 show wpAny _ _ (Builtin.Tuple.tupleItemsOf (.ref t)>>=_) _ _ s
 refine wpAny_bind (tupleItemsOf_ ht (wpAny_bind (wpAny_typeOf isS ?_)))
 rw[if_pos (by decide)]
 refine wpAny_bind (oR hs ?_)
 show wpAny _ _ (if(((items.size:Int)-1)==0&&(-1:Int)==1&&items.size==items.size)=true then _ else _) _ _ s
 rw[if_neg (by simp),yU]
 first
  | exact wpAny_bind (m:=Builtin.Tuple.tupleExact _) (wpAny_newObj_type (wpAny_pure ⟨_,rfl,wpAny_pure h⟩) htake)
  | exact wpAny_bind (m:=Builtin.Tuple.tupleExact _) (wpAny_newObj_type (wpAny_bind (wpAny_pure (wpAny_pure ⟨_,rfl,wpAny_pure h⟩))) htake)
  | exact wpAny_bind (wpAny_bind (m:=Builtin.Tuple.tupleExact _) (wpAny_newObj_type (wpAny_pure (wpAny_pure ⟨_,rfl,wpAny_pure h⟩)) htake))
  | exact wpAny_bind (wpAny_bind (m:=Builtin.Tuple.tupleExact _) (wpAny_newObj_type (wpAny_pure ⟨_,rfl,wpAny_pure h⟩) htake))
end
theorem vK(items:Array Value):slicePick items none none (some (-1))=items.toList.reverse.toArray:=by
 rw[←yU]
 unfold slicePick
 have e:sliceBounds none none (some (-1)) items.size=((items.size:Int)-1,-1,-1):=by
  simp[sliceBounds]
 rw[e]
 unfold sliceRange
 have e2:(if(-1:Int)>0 then(if((items.size:Int)-1)<(-1)then((-1)-((items.size:Int)-1)+(-1)-1)/(-1)else 0)else(if((items.size:Int)-1)>(-1)then(((items.size:Int)-1)-(-1)-(-1)-1)/(-(-1))else 0))=(items.size:Int):=by
  rw[if_neg (by decide)]
  split
  . rw[show(-(-1):Int)=1 from rfl,Int.ediv_one];omega
  . omega
 simp only[e2,Int.toNat_natCast]
 rw[List.filterMap_map]
 congr 2
 funext m
 show items[((items.size:Int)-1+(-1)*(m:Int)).toNat]? =items[((items.size:Int)-1+(m:Int)*(-1)).toNat]?
 rw[Int.mul_comm]
section
variable {X : Cx}
theorem Reps.rev{K:PySem.W.Frag}{O:Own}{H:Hp}:∀{vs:List V}{ds:List D},Reps K O H vs ds->Reps K O H vs.reverse ds.reverse
 | _,_,.nil=>.nil
 | _,_,.cons r t=>by rw[List.reverse_cons,List.reverse_cons];exact(Reps.rev t).append (.cons r .nil)
noncomputable def RD(x:D)(S:Store)(W:WD):Prop:=match x with
 | .tup ds=>W (.tup ds.reverse) S
 | .lst ds=>W (.lst ds.reverse) S
 | .loc k=>∃ds,S[k]? =some ds/\W (.lst ds.reverse) S
 | _=>False
theorem Qc{x:D}{S:Store}{W:WD}(w:RD x S W){pins:Pins}{s:Shared}{σ:DL.St}{H:Hp}{O:Own}{v:V}{u:Value}{sl:Addr}{tk:Tok}(I:Inv X pins σ H s)(st:StOk X.K O H S)(r1:Rep X.K O H v x)(r3:RelV v u)(hs:s.heap.IsSliceOf sl .none .none (.int (-1) tk)):
 ∃T id,typeLookup (.type T) "__getitem__"=pure (some (.builtin id))/\s.TypeIs u T/\wpAny (model X.prog X.w) X.A (getItem u (.ref sl)) (EP X pins σ (QG X.K O H W)) X.xe s:=by
 have ls:∀(p:Addr)(xs:List V)(ds:List D),v=.ref p->SqL X.K H p xs->Reps X.K O H xs ds->W (.lst ds.reverse) S->∃T id,typeLookup (.type T) "__getitem__"=pure (some (.builtin id))/\s.TypeIs u T/\wpAny (model X.prog X.w) X.A (getItem u (.ref sl)) (EP X pins σ (QG X.K O H W)) X.xe s:=by
  rintro p xs ds rfl h1 q1 w
  cases r3
  obtain⟨its,r,ht,hz⟩:=I.list h1
  have hlen:=r.length
  refine⟨"list",_,slot_list_getitem.lookup,ht.isList.typeIs,?_⟩
  refine wpAny_getItem_list_slice ht.isList hs .none .none (.int (-1) tk) (by simp) ?_ (by rw[x4]<;>omega)
  rw[vK]
  refine⟨.ref s.heap.objs.size,_,I.laid (t':=s.toks) (o:=.lst xs.reverse) (λ b ob q=>Heap.get?_push_of_some _ q) (y9 _) ?_,rfl,dO w st (I.hok.fresh (y9 _)) (Reps.rev q1)⟩
  exact⟨by simpa using hz,its.reverse,0,by simpa using r.reverse,by simpa using Heap.get?_push_size s.heap (o:={cls:=.type "list",data:=.seq its.reverse.toArray}) rfl⟩
 cases r1 with
 | @tup p xs ds h1 q1=>
   cases r3
   obtain⟨its,r,ht,hz⟩:=I.tuple h1.sq
   have hlen:=r.length
   refine⟨"tuple",_,PyProof.Rows.slot_tuple_getitem.lookup,ht.typeIs,nG ht hs (by rw[x4];omega) ?_⟩
   refine⟨.ref s.heap.objs.size,_,I.laid (t':=s.toks) (o:=.tup xs.reverse) (λ b ob q=>Heap.get?_push_of_some _ q) (y9 _) ?_,rfl,gw w st (I.hok.fresh (y9 _)) (Reps.rev q1)⟩
   exact⟨by simpa using hz,its.reverse,r.reverse,by simpa using IsTup.new _ _⟩
 | @lst p xs ds h1 q1=>exact ls p xs ds rfl h1.sq q1 w
 | @loc p k h1=>
   obtain⟨ds,hk,w⟩:=w
   obtain⟨xs,hx,q1⟩:=st.obj k p ds h1 hk
   exact ls p xs ds rfl (SqL.of hx) q1 w
 | _=>exact(show False from w).elim
end
section
variable {Ω : Wd}
noncomputable def Ex.rev(a:Ex Ω):Ex Ω where
 lev:=a.lev
 chk top N nm e:=match e with | .Subscript l (.Slice none none (some (.UnaryOp .USub (.Constant (.int 1) _ _) _)) _) _=>a.chk top N nm l | _=>false
 wp Γ S W:=a.wp Γ S λ x S1=>RD x S1 W
 sound:=by
  intro X r top N nm e Γ S W A hl hc hw
  split at hc
  . rename_i l j p1 p2 p3 p4
    intro pins s σ H O I env st
    refine Subscript_ (thn (a.sound A hl hc hw pins s σ H O I env st) λ v s1 hq_=>?_)
    obtain⟨y,H1,I1,r1,O1,x,S1,hb,st1,ok1,rep1⟩:=hq_
    refine wpAny_Slice ?_
    refine wpAny_evalPart_none (wpAny_evalPart_none (wpAny_evalPart_some ?_))
    have hn:Ev X Γ S1 (.UnaryOp .USub (.Constant (.int 1) j p1) p2) λ d S'=>d=.int (-1)/\S'=S1:=Hz (J0 ⟨1,rfl,rfl,rfl⟩)
    refine thn (hn pins s1 σ H1 O1 I1 (env.mono st1) ok1) λ vs s3 hq_=>?_
    obtain⟨z,H3,I3,r3,O3,d,S3,⟨rfl,rfl⟩,st3,ok3,rep3⟩:=hq_
    cases rep3
    obtain⟨tk,rfl⟩:=r3
    have I4:Inv X pins σ H3 {s3 with heap:=s3.heap.push {cls:=.type "slice",data:=.fields #[.none,.none,.int (-1) tk]}}:=I3.kept (t':=s3.toks) λ b ob q=>Heap.get?_push_of_some _ q
    obtain⟨T,id,hT,ht,hg⟩:=Qc hb I4 ok3 (rep1.mono st3) r1 (Heap.IsSliceOf.new ..)
    exact tail_any (ops:=[v,.ref s3.heap.objs.size]) ht hT (thn hg λ _ _ q=>cZ (st1.trans st3) q) (by with_unfolding_all rfl)
  . exact fE hc
end
end RF
namespace XE
open PySem PySem.Spec L2 DL RF
open PyProof.Rows
noncomputable abbrev WX:=Str->Store->Prop
end XE
namespace XE
open PySem PySem.Spec L2 DL RF
open PyProof.Rows
variable {Ω : Wd}
end XE
set_option maxHeartbeats 400000
set_option maxHeartbeats 1000000
namespace XE
open PySem PySem.Spec L2 DL RF
open PyProof.Rows
variable {Ω : Wd}
end XE
namespace RF
open PySem PySem.Spec L2 DL
open PyProof.Rows
section
variable {Ω : Wd}
noncomputable def unl(ns:List Int):Nat:=(firstMet (λ i=>ns.getD i 0) ns.length).length
theorem wJ{X:Cx}{ns:List Int}{S:Store}{W:WD}{d:D}(hc:X.calm=true)(hb:ns.length+1<scanBound)(hd:iz S d=some (ns.map .int))(w:W (.int (unl ns)) S)
 {pins:Pins}{s:Shared}{σ:DL.St}{H:Hp}{O:Own}{v:V}{u:Value}(I:Inv X pins σ H s)(st:StOk X.K O H S)(r':Rep X.K O H v d)(ru':RelV v u):
 wpAny (model X.prog X.w) X.A (call (.type "set") [u]) (λ u1 s1=>wpAny (model X.prog X.w) X.A (call (.builtin "len") [u1]) (EP X pins σ (QG X.K O H W)) X.xe s1) X.xe s:=by
 obtain⟨a,xs,rfl,hs,hq⟩:=wA (pins:=pins) (s:=s) (σ:=σ) (X:=X) st r' hd
 cases ru'
 obtain⟨its,rv,pl,hz⟩:=I.list hs
 have ex:xs=ns.map V.int:=hq.ints
 have hi:IntsAre its ns:=by
  rw[ex]at rv
  clear pl hz hs hq ex w hb hd
  induction ns generalizing its with
  | nil=>cases rv;exact .nil
  | cons n ns ih=>
    cases rv with
    | cons r1 r2=>obtain⟨t,rfl⟩:=r1;constructor;exact ih _ r2
 have hl:its.length=ns.length:=IntsAre.length hi
 refine call_set_list (items:=its.toArray) (ns:=ns) (I.ok.hd hc) pl.isList (by simpa using hi) (by rw[x4,hl];exact hb) λ h' tk hS hk=>?_
 have ez:its.toArray.size=ns.length:=by rw[x4,hl]
 rw[ez]at hS
 obtain⟨o,es,ep,t,ho,hex,hd',_,_,hsz,hf,hn⟩:=hS
 have I1:Inv X pins σ H {s with heap:=h',toks:=tk}:=I.kept (t':=tk) λ b o e=>hk b o (Heap.lt_size e) e
 refine call_len_set (s:={s with heap:=h',toks:=tk}) ho hex hd' hf (by unfold scanBound at hsz;omega) ?_
 rw[hn]
 exact⟨.int _,H,I1.tok _,⟨_,rfl⟩,QG.here w st (.int _)⟩
noncomputable def Ex.lset(hm:Ω.mg "len"=none)(hm2:Ω.mg "set"=none)(a:Ex Ω):Ex Ω where
 lev:=a.lev
 chk top N nm e:=match e with
  | .Call (.Name y _) [.Call (.Name z _) [b] [] _] [] _=>(y=="len")&&((z=="set")&&(glb nm "len"&&(glb nm "set"&&(okE b&&a.chk top N nm b))))
  | _=>false
 wp Γ S W:=a.wp Γ S λ d S1=>∃ns:List Int,iz S1 d=some (ns.map .int)/\ns.length+1<scanBound/\W (.int (unl ns)) S1
 sound:=by
  intro X r top N nm e Γ S W A hl hc hw
  split at hc
  . rename_i y p z p' b pos' pos
    obtain⟨h1,hc⟩:=aa hc
    obtain⟨h2,hc⟩:=aa hc
    obtain⟨h3,hc⟩:=aa hc
    obtain⟨h4,hc⟩:=aa hc
    obtain⟨h5,h6⟩:=aa hc
    have e1:=eq_of_beq h1
    have e2:=eq_of_beq h2
    subst e1 e2
    intro pins s σ H O I env st
    refine wpAny_Call_Name_kw (bY I (A.glb h3) (by rw[A.g];exact hm) (show bootBuiltins "len"=some (.builtin "len")from by decide+kernel) ?_ (by decide) (by decide))
    refine PyProof.Rows.callWith_builtin1 ?_ rfl rfl
    show wpAny _ _ (spliced ((false,eval _ X.env)::backTo pos (starEach [] X.env))) _ _ s
    refine Calls.spliced_cons ?_
    refine wpAny_Call_Name_kw (bY I (A.glb h4) (by rw[A.g];exact hm2) (show bootBuiltins "set"=some (.type "set")from by decide+kernel) ?_ (by decide) (by decide))
    refine PyProof.Rows.callWith_type1 ?_ (aC h5 _ _) rfl
    rw[aC h5 [] X.env]
    show wpAny _ _ (spliced ((false,eval b X.env)::backTo pos' (starEach [] X.env))) _ _ s
    refine Calls.spliced_cons (thn (a.sound A hl h6 hw pins s σ H O I env st) λ u s1 hq_=>?_)
    obtain⟨v,H1,I1,r1,O1,x,S1,hb,st1,ok1,rep1⟩:=hq_
    obtain⟨ns,c1,c2,c3⟩:=hb
    refine Calls.spliced_nil ?_
    refine thn (wJ A.calm c2 c1 c3 I1 ok1 rep1 r1) λ u2 s2 q=>?_
    refine Calls.spliced_nil ?_
    exact thn q λ _ _ q=>cZ st1 q
  . exact fE hc
end
end RF
namespace XE
open PySem PySem.Spec L2 DL RF
open PyProof.Rows
variable {Ω : Wd}
end XE
namespace RF
open PySem PySem.Spec L2 DL
open PyProof.Rows
variable {Ω : Wd}
end RF
namespace RF
open PySem PySem.Spec L2 DL
open PyProof.Rows
variable {Ω : Wd}
end RF
namespace RF
open PySem PySem.Spec L2 DL
open PyProof.Rows
variable {Ω : Wd}
noncomputable def FrO(n:Nat)(W:WD):WD:=λ d S1=>W d S1∨∃(J:List (List D)) (S':Store) (k:Nat) (ds:List D),d=.loc k/\S1=S'++J/\n≤S'.length/\S'.length≤k/\S1[k]? =some ds/\ak ds=true/\flat S'/\W (.lst ds) S'
theorem QG.fro{K:PySem.W.Frag}{O:Own}{H H':Hp}{W:WD}{v:V}{n:Nat}(hn:O.A.length=n)(q:QG K O H (FrO n W) v H'):QG K O H W v H':=by
 obtain⟨O',d,S1,w,st,ok,r⟩:=q
 rcases w with w | ⟨J,S',k,ds,rfl,rfl,hl,hk,he,hd,hS,w⟩
 . exact⟨O',d,S1,w,st,ok,r⟩
 . obtain⟨st2,ok2,sub,na⟩:=eO st ok (by omega) hS
   refine⟨_,.lst ds,S',w,st2,ok2,?_⟩
   cases r with
   | @loc a _ ha=>
     obtain⟨xs,hx,q1⟩:=ok.obj k a ds ha he
     exact .lst (.inl ⟨na k a (by omega) ha,.inl hx⟩) (bK sub hd q1)
noncomputable def Bl.fro(b:Bl Ω):Bl Ω where
 lev:=b.lev
 chk:=b.chk
 wp Γ S W:=b.wp Γ S {W with rt:=FrO S.length W.rt}
 sound:=by
  intro X r top N nm sts Γ S W A hl hc hw pins s σ H O I env ok
  refine thn (b.sound A hl hc hw pins s σ H O I env ok) λ f s' q=>?_
  cases f with
  | next=>exact q
  | brk=>exact q
  | cont=>exact q
  | ret u=>obtain⟨v,σ',H',I',r,q⟩:=q;exact⟨v,σ',H',I',r,QG.fro ok.len q⟩
end RF
namespace RF
open PySem PySem.Spec L2 DL
open PyProof.Rows
variable {Ω : Wd}
end RF
namespace RF
open PySem PySem.Spec L2 DL
open PyProof.Rows
variable {K : PySem.W.Frag} {O : Own} {H : Hp}
noncomputable abbrev Kd:=List (List Int×D)
noncomputable def encK(kv:List Int×D):D:=.tup [.tup (kv.1.map .int),kv.2]
noncomputable def bw{α:Type}[DecidableEq α](kvs:List (α×D))(ns:α):Option D:=(kvs.find? λ kv=>decide (kv.1=ns)).map (·.2)
noncomputable def putD{α:Type}[DecidableEq α](kvs:List (α×D))(ns:α)(d:D):List (α×D):=if(kvs.any λ kv=>decide (kv.1=ns))=true then kvs.map λ kv=>if kv.1=ns then(kv.1,d)else kv else kvs++[(ns,d)]
theorem pY{a b:List Int}(h:eV a=eV b):a=b:=by
 unfold eV at h
 induction a generalizing b with
 | nil=>cases b with | nil=>rfl | cons=>cases h
 | cons x a ih=>
   cases b with
   | nil=>cases h
   | cons y b=>
     have h:=List.cons.inj h
     rw[Sum.inl.inj h.1,ih h.2]
theorem PJ(ns:List Int):(eV ns).map kV=ns.map V.int:=by unfold eV;rw[List.map_map];rfl
inductive KR(K:PySem.W.Frag)(O:Own)(H:Hp):List (List Key×V)->Kd->Prop
 | nil:KR K O H [] []
 | cons{ns:List Int}{v:V}{d:D}{kvs:List (List Key×V)}{ds:Kd}(r:Rep K O H v d)(t:KR K O H kvs ds):KR K O H ((eV ns,v)::kvs) ((ns,d)::ds)
theorem nY:∀{a b:List Int},a.map D.int=b.map D.int->a=b
 | [],[],_=>rfl
 | [],_::_,h=>by cases h
 | _::_,[],h=>by cases h
 | x::a,y::b,h=>by
   have h:=List.cons.inj h
   rw[D.int.inj h.1,nY h.2]
theorem wj{K:PySem.W.Frag}{O:Own}{H:Hp}:∀{kvs:List (List Key×V)}{ds:Kd},Kps K O H kvs (ds.map encK)->KR K O H kvs ds
 | _,[],h=>by cases h;exact .nil
 | _,(ns,d)::ds,h=>by
   have h:Kps K O H _ (.tup [.tup (ns.map .int),d]::ds.map encK):=h
   generalize hx:ns.map D.int=x at h
   cases h with
   | cons r t=>
     rw[nY hx]
     exact .cons r (wj t)
theorem _root_.DL.DOb.flt{a:Addr}{ds:Kd}(b:DOb K O H a (ds.map encK)):∃kvs,H a=some (.dT kvs)/\Kps K O H kvs (ds.map encK):=by
 cases b with
 | t kvs e r=>exact⟨kvs,e,r⟩
 | c ys n e r=>
   cases ds with
   | nil=>cases r;exact absurd rfl n
   | cons kv ds=>
     have r:Kcs K O H ys (.tup [.tup (kv.1.map .int),kv.2]::ds.map encK):=r
     generalize hx:D.tup (kv.1.map D.int)=x at r
     cases r with
     | cons e1 rk rv r t=>
       rw[←hx]at e1
       have e2:=D.tup.inj e1
       rcases hk:kv.1 with _ | ⟨n1,_ | ⟨n2,l⟩⟩
       . rw[hk]at e2;cases e2
       . rw[hk]at e2;cases e2
       . rw[hk]at e2
         have e3:=(List.cons.inj (List.cons.inj e2).2).1
         cases e3
 | o ys n e r=>
   cases ds with
   | nil=>cases r;exact absurd rfl n
   | cons kv ds=>
     have r:Kos K O H ys (.tup [.tup (kv.1.map .int),kv.2]::ds.map encK):=r
     generalize hx:D.tup (kv.1.map D.int)=x at r
     cases r with
     | @cons c _ _ _ _ _ _ e1 _ _ _=>
       rw[←hx]at e1
       cases c<;>cases e1
theorem KR.kps{kvs:List (List Key×V)}{ds:Kd}(h:KR K O H kvs ds):Kps K O H kvs (ds.map encK):=by
 induction h with
 | nil=>exact .nil
 | cons r t ih=>exact .cons r ih
theorem KR.length{kvs:List (List Key×V)}{ds:Kd}(h:KR K O H kvs ds):kvs.length=ds.length:=by
 induction h with
 | nil=>rfl
 | cons r t ih=>simp[ih]
theorem KR.look{kvs:List (List Key×V)}{ds:Kd}(h:KR K O H kvs ds)(ns:List Int):(bw ds ns=none/\dW kvs (eV ns)=none)∨∃d v,bw ds ns=some d/\dW kvs (eV ns)=some v/\Rep K O H v d:=by
 induction h with
 | nil=>exact .inl ⟨rfl,rfl⟩
 | @cons ms v d kvs ds r t ih=>
   by_cases e:ms=ns
   . subst e
     exact .inr ⟨d,v,by simp[bw],jB rfl,r⟩
   . have e1:bw ((ms,d)::ds) ns=bw ds ns:=by simp[bw,List.find?_cons,e]
     rw[e1,jV (λ z=>e (pY z))]
     exact ih
theorem KR.any{kvs:List (List Key×V)}{ds:Kd}(h:KR K O H kvs ds)(ns:List Int):(kvs.any λ kv=>decide (kv.1=eV ns))=ds.any λ kv=>decide (kv.1=ns):=by
 induction h with
 | nil=>rfl
 | @cons ms v d kvs ds r t ih=>
   rw[List.any_cons,List.any_cons,ih]
   congr 1
   by_cases e:ms=ns
   . subst e;simp
   . rw[decide_eq_false (λ z=>e (pY z)),decide_eq_false e]
theorem KR.put{kvs:List (List Key×V)}{ds:Kd}(h:KR K O H kvs ds)(ns:List Int){v:V}{d:D}(r:Rep K O H v d):KR K O H (putK kvs (eV ns) v) (putD ds ns d):=by
 unfold putK putD
 rw[h.any ns]
 split
 . rename_i hany
   clear hany
   induction h with
   | nil=>exact .nil
   | @cons ms v' d' kvs ds r' t ih=>
     rw[List.map_cons,List.map_cons]
     by_cases e:ms=ns
     . subst e
       rw[if_pos rfl,if_pos rfl]
       exact .cons r ih
     . rw[if_neg (λ z=>e (pY z)),if_neg e]
       exact .cons r' ih
 . rename_i hany
   clear hany
   induction h with
   | nil=>exact .cons r .nil
   | cons r' t ih=>exact .cons r' ih
section
variable {X : Cx} {Γ : Gam} {S : Store} {W : WD} {pos : Pos}
theorem Ow(h:W (.dlo S.length) (S++[[]])):Ev X Γ S (.Dict [] [] pos) W:=by
 intro pins s σ H O I env st
 refine Mj pins s σ H _ I λ p hp=>?_
 exact⟨O.more p true,.dlo S.length,S++[[]],h,Step.own hp _ true,st.ownD hp .nil,.dlo (by show(O.A++[(p,true)])[S.length]? =some (p,true);rw[←st.len];simp)⟩
noncomputable def U6(X:Cx)(e:Expr):TE:=λ σ H Q=>∃O Γ S W',EnvOk X.K O H σ Γ/\StOk X.K O H S/\Ev X Γ S e W'/\∀v H',QG X.K O H W' v H'->Q v H'
theorem Rk{X:Cx}(e:Expr):PE X e (U6 X e):=by
 rintro pins s σ H Q I ⟨O,Γ,S,W',env,st,h,k⟩
 exact thn (h pins s σ H O I env st) λ _ _ q=>Hs q k
theorem sW{v:V}{ns:List Int}(r:Rep K O H v (.tup (ns.map .int))):∃b,v=.ref b/\H b=some (.tup ((eV ns).map kV)):=by
 cases r with
 | @tup b xs _ h q=>
   rw[PJ,←q.ints]
   exact⟨b,rfl,h.2⟩
theorem KR.isSome{kvs:List (List Key×V)}{ds:Kd}(h:KR K O H kvs ds)(ns:List Int):(dW kvs (eV ns)).isSome=(bw ds ns).isSome:=by
 rcases h.look ns with⟨e1,e2⟩ | ⟨d,v,e1,e2,_⟩<;>rw[e1,e2]<;>rfl
theorem SX{k:Nat}{ns:List Int}{kvs:Kd}{W:Bool->Store->Prop}(hu:X.A.units+60<cLine)(hk:S[k]? =some (kvs.map encK))(w:W (bw kvs ns).isSome S):bh X .In (.tup (ns.map .int)) (.dlo k) S (asB W):=by
 intro pins s σ H O v w' u u' I st r1 r2 r3 r4
 obtain⟨b,rfl,hb⟩:=sW r1
 cases r2 with
 | @dlo a _ ha=>
   cases r4
   obtain⟨kv2,h2,q2⟩:=(st.dob k a _ ha hk).flt
   refine UL (by omega) I (rP.t h2 hb) r3 λ s3 I3=>⟨.bl _,H,I3,rfl,QG.here ⟨_,rfl,?_⟩ st (.bl _)⟩
   rw[(wj q2).isSome];exact w
theorem LC{k:Nat}{ns:List Int}{kvs:Kd}{W:Bool->Store->Prop}(hu:X.A.units+60<cLine)(hk:S[k]? =some (kvs.map encK))(w:W (!(bw kvs ns).isSome) S):bh X .NotIn (.tup (ns.map .int)) (.dlo k) S (asB W):=by
 intro pins s σ H O v w' u u' I st r1 r2 r3 r4
 obtain⟨b,rfl,hb⟩:=sW r1
 cases r2 with
 | @dlo a _ ha=>
   cases r4
   obtain⟨kv2,h2,q2⟩:=(st.dob k a _ ha hk).flt
   refine Oo (by omega) I (rP.t h2 hb) r3 λ s3 I3=>⟨.bl _,H,I3,rfl,QG.here ⟨_,rfl,?_⟩ st (.bl _)⟩
   rw[(wj q2).isSome];exact w
theorem R6{o i e:Expr}{tpos:Pos}{W:DL.Fin}(hu:X.A.units+1<cLine)(hs:swapsWith e (some (.Subscript o i tpos)) pos.line X.env=pure false)
 (h:Ev X Γ S e λ d S1=>Ev X Γ S1 o λ x S2=>Ev X Γ S2 i λ y S3=>∃k ns kvs,x=.dlo k/\y=.tup (List.map .int ns)/\S3[k]? =some (List.map encK kvs)/\kvs.length<1000000/\W.nx Γ (S3.set k ((putD kvs ns d).map encK))):Rn X Γ S (.Assign [.Subscript o i tpos] e pos) W:=by
 intro pins s σ H O I env st
 refine NT hu (Rk o) (Rk i) h.pe hs pins s σ H _ I ⟨O,env,st,λ v H1 q=>?_⟩
 obtain⟨O1,d,S1,h1,st1,ok1,rep1⟩:=q
 refine⟨O1,Γ,S1,_,env.mono st1,ok1,h1,λ x H2 q=>?_⟩
 obtain⟨O2,dx,S2,h2,st2,ok2,rep2⟩:=q
 refine⟨O2,Γ,S2,_,(env.mono st1).mono st2,ok2,h2,λ y H3 q=>?_⟩
 obtain⟨O3,dy,S3,⟨k,ns,kvs,rfl,rfl,hk,hz,w⟩,st3,ok3,rep3⟩:=q
 have rx:=rep2.mono st3
 cases rx with
 | @dlo a _ ha=>
   obtain⟨kv2,h3,q2⟩:=(ok3.dob k a _ ha hk).flt
   have kr:=wj q2
   obtain⟨b,rfl,hb⟩:=sW rep3
   have hl:kv2.length<sizeLine:=by rw[kr.length,sizeLine_eq];omega
   have rd:=(rep1.mono st2).mono st3
   refine⟨a,_,rfl,yF.t h3 hb hl,O3,Γ,_,w,((st1.trans st2).trans st3).trans (Step.put (bH ha) _),ok3.putD ha (kr.put ns rd).kps,(((env.mono st1).mono st2).mono st3).mono (Step.put (bH ha) _)⟩
end
section
variable {Ω : Wd}
noncomputable def Ex.dnew:Ex Ω where
 lev:=0
 chk top N nm e:=match e with | .Dict [] [] _=>true | _=>false
 wp Γ S W:=W (.dlo S.length) (S++[[]])
 sound:=by
  intro X r top N nm e Γ S W A hl hc hw
  cases e with
  | Dict ks vs pos=>
    match ks,vs,hc with
    | [],[],_=>exact Ow hw
    | [],_::_,hc=>exact fE hc
    | _::_,_,hc=>exact fE hc
  | _=>exact fE hc
noncomputable def Nb(y:D)(S:Store)(k:Nat)(W:Kd->List Int->Prop):Prop:=∃ns kvs,y=.tup (List.map .int ns)/\S[k]? =some (List.map encK kvs)/\W kvs ns
noncomputable def Sm.dput(o i a:Ex Ω):Sm Ω where
 lev:=max a.lev (max o.lev i.lev)
 chk top N nm st:=match st with | .Assign [.Subscript x y _] e _=>noC e&&(okE y&&(a.chk top N nm e&&(o.chk top N nm x&&i.chk top N nm y))) | _=>false
 wp Γ S W:=a.wp Γ S λ d S1=>o.wp Γ S1 λ x S2=>i.wp Γ S2 λ y S3=>match x with | .dlo k=>Nb y S3 k λ kvs ns=>kvs.length<1000000/\W.nx Γ (S3.set k ((putD kvs ns d).map encK)) | _=>False
 sound:=by
  intro X r top N nm st Γ S W A hl hc hw
  obtain⟨l1,l2⟩:=lv2 hl
  obtain⟨l2,l3⟩:=lv2 l2
  split at hc
  . rename_i x y p e spos
    obtain⟨h1,hc⟩:=aa hc
    obtain⟨h2,hc⟩:=aa hc
    obtain⟨h3,hc⟩:=aa hc
    obtain⟨h4,h5⟩:=aa hc
    refine R6 (by have:=A.hu;omega) ?_ ((a.sound A l1 h3 hw).mono λ d S1 q=>(o.sound A l2 h4 q).mono λ x S2 q=>(i.sound A l3 h5 q).mono λ y S3 q=>?_)
    . exact jC h1 _ _ _
    . cases x with
      | dlo k=>obtain⟨ns,kvs,e1,e2,e3,w⟩:=q;exact⟨k,ns,kvs,rfl,e1,e2,e3,w⟩
      | _=>exact(show False from q).elim
  . exact fE hc
noncomputable def Te.din(no:Bool)(a o:Ex Ω):Te Ω where
 lev:=max a.lev o.lev
 chk top N nm e:=match e with | .Compare l [p] [r] _=>(p==(if no then CmpOp.NotIn else CmpOp.In))&&(okE r&&(a.chk top N nm l&&o.chk top N nm r)) | _=>false
 wp Γ S W:=a.wp Γ S λ y S1=>o.wp Γ S1 λ x S2=>match x with | .dlo k=>Nb y S2 k λ kvs ns=>W (if no then !(bw kvs ns).isSome else(bw kvs ns).isSome) S2 | _=>False
 sound:=by
  intro X r top N nm e Γ S W A hl hc hw
  obtain⟨l1,l2⟩:=lv2 hl
  cases e with
  | Compare l os rs pos=>
    match os,rs,hc with
    | [o'],[r'],hc=>
      obtain⟨h1,h2⟩:=aa hc
      obtain⟨h0,h2⟩:=aa h2
      obtain⟨h2,h3⟩:=aa h2
      have e:=eq_of_beq h1
      subst e
      refine zz ((a.sound A l1 h2 hw).mono λ y S1 q=>(o.sound A l2 h3 q).mono λ x S2 q=>?_) (eQ h0)
      cases x with
      | dlo k=>
        obtain⟨ns,kvs,rfl,e2,w⟩:=q
        cases no with
        | false=>exact SX A.hu e2 w
        | true=>exact LC A.hu e2 w
      | _=>exact(show False from q).elim
    | [],_,hc=>exact fE hc
    | [_],[],hc=>exact fE hc
    | [_],_::_::_,hc=>exact fE hc
    | _::_::_,_,hc=>exact fE hc
  | _=>exact fE hc
end
end RF
namespace RF
open PySem PySem.Spec L2 DL
open PyProof.Rows
section
variable {K : PySem.W.Frag} {O : Own} {H : Hp}
theorem K7{α:Type}[DecidableEq α](kcs:List (α×D))(c:α):(kcs.any λ kv=>decide (kv.1=c))=(bw kcs c).isSome:=by
 induction kcs with
 | nil=>rfl
 | cons a l ih=>
   unfold bw at ih ⊢
   rw[List.any_cons,List.find?_cons,ih]
   cases decide (a.1=c)<;>rfl
end
end RF
namespace RF
open PySem PySem.Spec L2 DL
open PyProof.Rows
theorem fC:∀{vs:List Value}{ns:List Int},IntsAre vs ns->Vals (ns.map V.int) vs
 | _,_,.nil=>.nil
 | _,_,.cons n t r=>.cons ⟨t,rfl⟩ (fC r)
end RF
namespace RF
open PySem PySem.Spec L2 DL
open PyProof.Rows
section
variable {X : Cx}
theorem Th{x:D}{ds:List D}{pins:Pins}{s:Shared}{σ:DL.St}{H:Hp}{v w':V}{u u':Value}(hu:X.A.units+60<cLine)(I:Inv X pins σ H s)(sx:Sn X.K H v x)(sy:Sn X.K H w' (.lst ds))(r3:RelV v u)(r4:RelV w' u')(h3:aV ds≤50):
 ∃(l:Addr) (its:List Value) (e:Value->Bool),u'=.ref l/\PlainL s.heap l its.toArray/\its.length=ds.length/\its.length≤sizeLine/\(∀y,y∈its.toArray->SeqAt.EqAt X.A.in1 s y u (e y))/\∀(i:Nat)(y:Value)(d:D),its[i]? =some y->ds[i]? =some d->e y=eqD d x:=by
 classical
 cases sy with
 | @lst a xs _ h1 q1=>
   cases r4
   obtain⟨its,rv,pl,hz⟩:=I.list h1
   let e:Value->Bool:=λ y=>decide (∃(v':V) (d:D),RelV v' y/\Sn X.K H v' d/\eqD d x=true)
   have ev:∀(y:Value)(v':V)(d:D),RelV v' y->Sn X.K H v' d->e y=eqD d x:=by
    intro y v' d hr hs
    cases hd:eqD d x with
    | true=>exact decide_eq_true ⟨v',d,hr,hs,hd⟩
    | false=>
      refine decide_eq_false ?_
      rintro⟨v2,d2,hr2,hs2,hd2⟩
      have ev':=hr2.inj hr
      subst ev'
      have:=mD I hs2 hs
      subst this
      rw[hd]at hd2;cases hd2
   have at_:∀(i:Nat)(y:Value)(d:D),its[i]? =some y->ds[i]? =some d->e y=eqD d x/\SeqAt.EqAt X.A.in1 s y u (eqD d x):=by
    intro i y d hi hd
    obtain⟨v',hv',hs⟩:=q1.get hd
    obtain⟨y',hy2,hr⟩:=jP rv hv'
    rw[hi]at hy2;cases hy2
    exact⟨ev y v' d hr hs,xZ 50 d x (Nat.le_trans (cV hd) h3) I hs sx hr r3 (by show X.A.units+1+50<cLine;omega)⟩
   have hlen:its.length=ds.length:=by rw[←rv.length,q1.length]
   refine⟨a,its,e,rfl,pl,hlen,by rw[←rv.length];exact hz,λ y hy=>?_,λ i y d h h'=>(at_ i y d h h').1⟩
   have hy':y∈its:=by simpa using hy
   obtain⟨i,hi⟩:=List.getElem?_of_mem hy'
   obtain⟨d,hd⟩:∃d,ds[i]? =some d:=⟨_,y3 (by rw[←hlen];exact(z0.mp hi).1)⟩
   obtain⟨g1,g2⟩:=at_ i y d hi hd
   rw[g1]
   exact g2
noncomputable def Q4(X:Cx):V->List V->Hp->VK->Prop:=λ x vs H Q=>∃(w:V) (d:D) (ds:List D) (j:Nat) (y:D),vs=[w]/\Sn X.K H x (.lst ds)/\Sn X.K H w d/\aV ds≤50/\ds[j]? =some y/\eqD y d=true/\(∀(m:Nat)(z:D),m<j->ds[m]? =some z->eqD z d=false)/\Q (.int j) H
theorem KH(hu:X.A.units+60<cLine):MtM X "list.index" (Q4 X):=by
 intro pins s σ H x vs v us Q I rx rv h
 obtain⟨w,d,ds,j,y,rfl,sx,sd,h3,hj,hy,hn,q⟩:=h
 obtain⟨u,rfl,ru⟩:=rv.one
 obtain⟨l,its,e,rfl,pl,hlen,hz,he,hat⟩:=Th hu I sd sx ru rx h3
 obtain⟨⟨cls,dd,data,sl⟩,n,ho,hc,hd,hs⟩:=pl
 simp only at hc hd hs
 subst hc hd hs
 have hjl:j<its.length:=by rw[hlen];exact(z0.mp hj).1
 refine call_meets PySem.F.slot_list_index ⟨_,ho,rfl⟩ PySem.F.entry_list_index (PySem.F.args_list_index_2 _ _)
  (SeqAt.list_indexAt l its.toArray n _ sl u e j (by simpa using hjl) (by have:sizeLine<2 ^ 63-1:=by decide
                                                                          omega) ?_ ?_) ⟨ho,he,⟨.int j,H,I.tok _,⟨_,rfl⟩,q⟩⟩
 . rw[hat j _ y (by simp) hj]
   exact hy
 . intro m hm hlt
   have hml:m<its.length:=by simpa using hm
   obtain⟨z,hz⟩:∃z,ds[m]? =some z:=⟨_,y3 (by omega)⟩
   rw[hat m _ z (by simp[hml]) hz]
   exact hn m z hlt hz
theorem Lf(hu:X.A.units+60<cLine){Γ:Gam}{S:Store}{o e:Expr}{apos cpos:Pos}{W:WD}(h:Ev X Γ S o λ x S1=>∃ds,x=.lst ds/\Ev X Γ S1 e λ d S2=>bJ ds=true/\okD (vw S2 d)=true/\aV ds≤50/\∃(j:Nat) (y:D),ds[j]? =some y/\eqD y (vw S2 d)=true/\(∀(m:Nat)(z:D),m<j->ds[m]? =some z->eqD z (vw S2 d)=false)/\W (.int j) S2)
 (hbase:attributeBase o "index" X.env (eval o X.env)=eval o X.env)(hs:starEach [e] X.env=[(false,eval e X.env)])(hline:(apos.endLine==cpos.line)=true):Ev X Γ S (.Call (.Attribute o "index" apos) [e] [] cpos) W:=by
 intro pins s σ H O I env st
 have hA:PA X [e] (λ σ H Q=>∃O Γ S W',EnvOk X.K O H σ Γ/\StOk X.K O H S/\Ev X Γ S e W'/\∀v H',QG X.K O H W' v H'->Q [v] H'):=by
  rintro pos pins s σ H Q I ⟨O,Γ,S,W',env,st,he,k⟩
  rw[hs]
  show wpAny _ _ (spliced ((false,eval e X.env)::backTo pos (starEach [] X.env))) _ _ s
  refine Calls.spliced_cons (thn (he pins s σ H O I env st) λ u s1 hq_=>?_)
  obtain⟨v,H1,I1,r1,q⟩:=hq_
  exact Calls.spliced_nil ⟨[v],H1,I1,.cons r1 .nil,k v H1 q⟩
 refine FZ (T:="list") PySem.F.plainAttrs_list PySem.F.slot_list_index PySem.F.type_list_index (KH hu) (h.pe) hA hbase (by rw[hs];rfl) hline hs rfl pins s σ H _ I ⟨O,env,st,λ v H' q=>?_⟩
 obtain⟨O1,x,S1,⟨ds,rfl,he⟩,st1,ok1,rep1⟩:=q
 refine⟨?_,O1,Γ,S1,_,env.mono st1,ok1,he,λ v2 H2 q2=>?_⟩
 . cases rep1 with
   | lst hl _=>exact .inl ⟨rfl,_,hl.sq⟩
 . obtain⟨O2,d,S2,⟨g1,g2,g3,j,y,hj,hy,hn,w⟩,st2,ok2,rep2⟩:=q2
   exact⟨v2,_,ds,j,y,rfl,fB (x:=.lst ds) ok2 (rep1.mono st2) (by show bJ _=true;exact g1),fB ok2 rep2 g2,g3,hj,hy,hn,O2,_,S2,w,st1.trans st2,ok2,.int _⟩
end
section
variable {Ω : Wd}
noncomputable def Ex.m_index(o a:Ex Ω):Ex Ω where
 lev:=max o.lev a.lev
 chk top N nm e:=match e with | .Call (.Attribute x m p) [y] [] q=>(m==("index":Str))&&(nameE x&&((p.endLine==q.line)&&(okE y&&(o.chk top N nm x&&a.chk top N nm y)))) | _=>false
 wp Γ S W:=o.wp Γ S λ x S1=>match x with | .lst ds=>a.wp Γ S1 λ d S2=>bJ ds=true/\okD (vw S2 d)=true/\aV ds≤50/\∃(j:Nat) (y:D),ds[j]? =some y/\eqD y (vw S2 d)=true/\(∀(m:Nat)(z:D),m<j->ds[m]? =some z->eqD z (vw S2 d)=false)/\W (.int j) S2 | _=>False
 sound:=by
  intro X r top N nm e Γ S W A hl hc hw
  obtain⟨l1,l2⟩:=lv2 hl
  split at hc
  . rename_i x m p y q
    obtain⟨h1,g⟩:=aa hc
    obtain⟨h2,g⟩:=aa g
    obtain⟨h3,g⟩:=aa g
    obtain⟨h4,g⟩:=aa g
    obtain⟨h5,h6⟩:=aa g
    have e:=eq_of_beq h1
    subst e
    refine Lf A.hu ((o.sound A l1 h5 hw).mono λ x S1 q=>?_) ?_ (aC h4 [] _) h3
    . cases x<;>first | exact q.elim | exact⟨_,rfl,a.sound A l2 h6 q⟩
    . cases x<;>first | rfl | exact ff h2
  . exact ff hc
end
end RF
namespace RF
open PySem PySem.Spec L2 DL
open PyProof.Rows
theorem CN:∀(l:List Value)(ns:List Int),l.length=ns.length->(∀(j:Nat)(v:Value),l[j]? =some v->∃(n:Int) (t:Tok),ns[j]? =some n/\v=Value.int n t)->IntsAre l ns
 | [],[],_,_=>.nil
 | [],_::_,h,_=>nomatch h
 | _::_,[],h,_=>nomatch h
 | v::l,n::ns,h,k=>by
   obtain⟨m,t,e,rfl⟩:=k 0 v rfl
   cases e
   exact .cons n t (CN l ns (Nat.succ.inj h) λ j v e=>k (j+1) v e)
noncomputable def upI(n:Nat):List Int:=(List.range n).map λ(i:Nat)=>(0:Int)+(i:Int)
theorem Tv(n:Nat):DL.upTo 0 n=(upI n).map D.int:=by
 unfold DL.upTo upI
 rw[List.map_map];rfl
theorem uO(j:Int)(h:0≤j):Builtin.Range.rangeSize 0 j 1=(j.toNat:Nat):=by rw[rangeSize_one];split<;>omega
theorem Eu{j:Int}(h:0≤j)(h':j<1000000):Builtin.Range.small 0 j 1=true:=by
 unfold Builtin.Range.small
 rw[uO j h]
 by_cases h0:j≤0
 . have:j=0:=by omega
   subst this;rfl
 . simp only[Builtin.Range.rangeFitsLong,Bool.and_eq_true,Bool.or_eq_true,decide_eq_true_eq,beq_iff_eq,h0,if_false,show((1:Int)>0)from by decide,if_true]
   omega
section
variable {X : Cx} {Γ : Gam} {S : Store} {W : WD} {pos : Pos}
theorem PK{a:Expr}{p p2 pos2:Pos}(hcm:X.calm=true)(h:Ev X Γ S a λ d S1=>∃j:Int,d=.int j/\0≤j/\j<1000000/\(W (.lst (DL.upTo 0 j.toNat)) S1∨W (.loc S1.length) (S1++[DL.upTo 0 j.toNat])))(hm:X.mg "range"=none)(hm2:X.mg "list"=none)(hg:Gl X "range")(hg2:Gl X "list")(hs:starEach [a] X.env=[(false,eval a X.env)])
 (hs2:starEach [.Call (.Name "range" p) [a] [] pos] X.env=[(false,eval (.Call (.Name "range" p) [a] [] pos) X.env)]):Ev X Γ S (.Call (.Name "list" p2) [.Call (.Name "range" p) [a] [] pos] [] pos2) W:=by
 intro pins s σ H O I env st
 refine Call_ (bY I hg2 hm2 (show bootBuiltins "list"=some (.type "list")from by decide+kernel) (PyProof.Rows.callWith_type1 ?_ hs2 rfl))
 rw[show backTo pos2 (starEach [.Call (.Name "range" p) [a] [] pos] X.env)=[(false,eval (.Call (.Name "range" p) [a] [] pos) X.env)]from by rw[hs2];rfl]
 refine Calls.spliced_cons ?_
 have hA:EvA X Γ S [a] λ ds S1=>∃j:Int,ds=[.int j]/\0≤j/\j<1000000/\(W (.lst (DL.upTo 0 j.toNat)) S1∨W (.loc S1.length) (S1++[DL.upTo 0 j.toNat])):=
  cC (h.mono λ d S1 ⟨j,e,h1,h2,w⟩=>gh ⟨j,by rw[e],h1,h2,w⟩) hs
 refine Call_ (bY I hg hm boot_range (PyProof.Rows.callWith_type1 (thn (hA pos pins s σ H O I env st) λ us s1 hq_=>?_) hs rfl))
 obtain⟨vs,H1,I1,r1,q1⟩:=hq_
 obtain⟨O1,ds,S1,⟨j,rfl,h1,h2,w⟩,st1,ok1,rep⟩:=q1
 cases rep with
 | cons ra rb=>
   cases rb
   cases ra
   cases r1 with
   | cons r rr=>
     cases rr
     obtain⟨t,rfl⟩:=r
     refine call_range_1 (Calls.spliced_nil ?_)
     have I2:Inv X pins σ H1 {s1 with heap:=s1.heap.push {cls:=.type "range",data:=.fields #[.int 0 s1.toks,.int j t,.int 1 (s1.toks+1)]},toks:=s1.toks+1+1}:=I1.kept λ b o e=>Heap.get?_push_of_some _ e
     refine call_list_range (I2.ok.hd hcm) (IsRange.new ..) (Eu h1 h2) (uO j h1) (by omega) λ h' tk acc c' kp hget its=>?_
     have hp:=I2.hok.fresh (y9 _)
     have hI:IntsAre acc.toList (upI j.toNat):=CN _ _ (by have:=its.1;simp[upI];exact this) λ i v e=>by
      have e':acc[i]? =some v:=by simpa using e
      obtain⟨t,rfl⟩:=its.2 i v e'
      have hi:i<j.toNat:=by rw[←its.1];exact(Array.getElem?_eq_some_iff.mp e').1
      exact⟨_,t,by unfold upI;rw[y8,List.getElem?_range hi];rfl,by rw[Int.mul_one]⟩
     have zl:((upI j.toNat).map V.int).length≤sizeLine:=by simp[upI,sizeLine_eq];omega
     have I3:=I2.laid (t':=tk) (o:=.lst ((upI j.toNat).map V.int)) (λ b ob q=>kp b ob q) (y9 _) ⟨zl,acc.toList,c',fC hI,by simpa using hget⟩
     have rp:Reps X.K O1 H1 ((upI j.toNat).map V.int) (DL.upTo 0 j.toNat):=by rw[Tv];exact Reps.of_ints _
     refine cZ st1 ⟨.ref _,_,I3,rfl,?_⟩
     rcases w with w | w
     . exact dO w ok1 hp rp
     . exact qj w ok1 hp rp
end
theorem Ft(bs:List Bool):(List.range bs.length).any (λ i=>bs.getD i false)=bs.any id:=by
 rw[Bool.eq_iff_iff,List.any_eq_true,List.any_eq_true]
 constructor
 . rintro⟨i,hi,h⟩
   have hl:=List.mem_range.mp hi
   refine⟨bs[i],List.getElem_mem hl,?_⟩
   simpa[List.getD,hl]using h
 . rintro⟨b,hb,h⟩
   obtain⟨i,hi⟩:=List.getElem?_of_mem hb
   have hl:=(z0.mp hi).1
   exact⟨i,List.mem_range.mpr hl,by simp[List.getD,hi];exact h⟩
theorem Um{X:Cx}{S:Store}{W:WD}{bs:List Bool}(w:W (.bl (bs.any id)) S)(hc:X.calm=true):dm X (.builtin "any") [.lst (bs.map .bl)] S W:=by
 intro pins s σ H O vs us I st r ru
 obtain⟨v,rfl,r'⟩:=cR r
 obtain⟨u,rfl,ru'⟩:=vals1 ru
 cases r' with
 | @lst a xs _ h1 q1=>
   cases ru'
   obtain⟨its,rv,pl,hz⟩:=I.list h1.sq
   have ex:=q1.bools
   subst ex
   have hlen:its.length=bs.length:=by rw[←rv.length];simp
   refine call_any_walk (wpAny_pyIter_list pl.isList ?_)
   have ne:a≠s.heap.objs.size:=by obtain⟨o,e,_⟩:=pl.isList;exact w9 (Heap.lt_size e)
   refine⟨_,_,_,_,_,_,λ i=>bs.getD i false,rfl,Walks.list (A:=X.A.in1) (I.ok.hd hc) _ a ne its.toArray,⟨⟨_,Heap.get?_push_size _ rfl,rfl,rfl⟩,pl.isList.push _⟩,λ i v s' Q' E' hv hq=>?_,λ h' tk hk=>?_⟩
   . have hv:its[i]? =some v:=by simpa using hv
     have hi:i<bs.length:=by rw[←hlen];exact(z0.mp hv).1
     obtain⟨z,hz',rz⟩:=rv.get (i:=i) (x:=V.bl bs[i]) (by rw[y8,y3 hi];rfl)
     rw[hv]at hz'
     cases hz'
     cases rz
     have e:bs.getD i false=bs[i]:=by simp[List.getD,hi]
     have hq':Q' (bs.getD i false) s':=hq
     rw[e]at hq'
     exact wpAny_truthy_bool hq'
   . have e:(List.range its.toArray.size).any (λ i=>bs.getD i false)=bs.any id:=by rw[x4,hlen];exact Ft bs
     rw[e]
     refine⟨.bl _,H,I.kept (λ b o q=>hk b o (λ z=>?_) (Heap.get?_push_of_some _ q)),rfl,QG.here w st (.bl _)⟩
     have z':b=s.heap.objs.size:=by simpa using z
     exact absurd (Heap.lt_size q) (by rw[z'];exact Nat.lt_irrefl _)
noncomputable def Vn:Bf where
 x:="any"
 id:="any"
 boot:=by decide+kernel
 wp ds S W:=match ds with
  | [.lst ds]=>∃bs:List Bool,ds=bs.map .bl/\W (.bl (bs.any id)) S
  | _=>False
 sound:=by
  intro X ds S W hc hr h
  split at h
  . obtain⟨bs,rfl,h⟩:=h;exact Um h hc
  . exact h.elim
section
variable {Ω : Wd}
noncomputable def Ex.lrng(hm:Ω.mg "range"=none)(hm2:Ω.mg "list"=none)(a:Ex Ω):Ex Ω where
 lev:=a.lev
 chk top N nm e:=match e with | .Call (.Name z _) [.Call (.Name y _) [b] [] _] [] _=>(z==("list":Str))&&((y==("range":Str))&&(glb nm "list"&&(glb nm "range"&&(okE b&&a.chk top N nm b)))) | _=>false
 wp Γ S W:=a.wp Γ S λ d S1=>match d with | .int j=>(0≤j/\j<1000000)/\(W (.lst (DL.upTo 0 j.toNat)) S1∨W (.loc S1.length) (S1++[DL.upTo 0 j.toNat])) | _=>False
 sound:=by
  intro X r top N nm e Γ S W A hl hc hw
  split at hc
  . rename_i z p2 y p b pos pos2
    obtain⟨h0,g1⟩:=aa hc
    obtain⟨h1,g2⟩:=aa g1
    obtain⟨h2',g2⟩:=aa g2
    obtain⟨h2,g3⟩:=aa g2
    obtain⟨h3,h4⟩:=aa g3
    have e:=eq_of_beq h0
    subst e
    have e':=eq_of_beq h1
    subst e'
    refine PK A.calm ((a.sound A hl h4 hw).mono λ d S1 q=>?_) (by rw[A.g];exact hm) (by rw[A.g];exact hm2) (A.glb h2) (A.glb h2') (aC h3 [] _) rfl
    cases d<;>first | exact⟨_,rfl,q.1.1,q.1.2,q.2⟩ | exact q.elim
  . exact fE hc
end
end RF
namespace RF
open PySem PySem.Spec L2 DL
open PyProof.Rows
noncomputable def lq:Bool->Nat->D
 | true,k=>.dlo k
 | false,k=>.loc k
noncomputable def OwQ(n:Nat)(W:WD):WD:=λ d S1=>W d S1∨∃(q:Bool) (J:List (List D)) (S':Store) (k:Nat) (ds:List D),d=lq q k/\S1=S'++J/\n≤S'.length/\S'.length≤k/\S1[k]? =some ds/\ak ds=true/\flat S'/\W (lq q S'.length) (S'++[ds])
theorem QG.owq{K:PySem.W.Frag}{O:Own}{H H':Hp}{W:WD}{v:V}{n:Nat}(hn:O.A.length=n)(q:QG K O H (OwQ n W) v H'):QG K O H W v H':=by
 obtain⟨O',d,S1,w,st,ok,r⟩:=q
 rcases w with w | ⟨q,J,S',k,ds,rfl,rfl,hl,hk,he,hd,hS,w⟩
 . exact⟨O',d,S1,w,st,ok,r⟩
 . obtain⟨a,rfl,ha⟩:∃a,v=.ref a/\O'.A[k]? =some (a,q):=by
    cases q<;>(cases r;exact⟨_,rfl,by assumption⟩)
   . obtain⟨st2,_,_,na⟩:=eO st ok (by omega) hS
     have hna:=na k a (by omega) ha
     have lt:(O'.A.take S'.length).length=S'.length:=by have:=ok.len;simp at this ⊢;omega
     have sub:∀b,¬O'.has b->¬(⟨O'.A.take S'.length++[(a,q)],O'.B⟩:Own).has b:=λ b hb z=>hb (z.imp (λ z=>by
      rw[bN]at z
      rcases List.mem_append.mp z with z | z
      . exact gK z
      . rw[show b=a from by simpa using z];exact bH ha) id)
     have hAt:∀(j:Nat),j<S'.length->(O'.A.take S'.length++[(a,q)])[j]? =O'.A[j]?:=λ j hj=>by
      rw[x8 (by omega),List.getElem?_take,if_pos hj]
     have hEnd:(O'.A.take S'.length++[(a,q)])[S'.length]? =some (a,q):=by
      rw[List.getElem?_append_right (by omega),lt];simp
     have ran:∀(j:Nat)(es:List D),(S'++[ds])[j]? =some es->(j<S'.length/\S'[j]? =some es)∨(j=S'.length/\es=ds):=λ j es e=>by
      rcases Nat.lt_trichotomy j S'.length with h | h | h
      . rw[x8 h]at e;exact .inl ⟨h,e⟩
      . subst h;rw[List.getElem?_append_right (y9 _)]at e;simp at e;exact .inr ⟨rfl,e.symm⟩
      . rw[List.getElem?_eq_none (by simp;omega)]at e;cases e
     refine⟨⟨O'.A.take S'.length++[(a,q)],O'.B⟩,lq q S'.length,S'++[ds],w,⟨st2.kept,st2.dom,?_,st2.hid⟩,⟨?_,by simp[lt],λ j b es e1 e2=>?_,λ j b es e1 e2=>?_,λ b hb=>?_,ok.hidden⟩,by cases q<;>constructor<;>exact hEnd⟩
     . obtain⟨N,eN,fN⟩:=st2.ext
       obtain⟨N',eN',fN'⟩:=st.ext
       have eN:O'.A.take S'.length=O.A++N:=eN
       refine⟨N++[(a,q)],by show O'.A.take S'.length++[(a,q)]=_;rw[eN,List.append_assoc],λ b hb=>?_⟩
       rw[bN]at hb
       rcases List.mem_append.mp hb with hb | hb
       . exact fN b hb
       . rw[show b=a from by simpa using hb]
         rw[eN',List.getElem?_append_right (by omega)]at ha
         exact fN' a (bH ha)
     . show(adr (O'.A.take S'.length++[(a,q)])).Nodup
       rw[bN,List.nodup_append]
       refine⟨?_,by simp[adr],λ x hx y hy=>?_⟩
       . show(List.map _ (List.take _ _)).Nodup
         rw[List.map_take]
         exact ok.nd.sublist (List.take_sublist _ _)
       . rw[show y=a from by simpa using hy]
         exact λ z=>hna (.inl (z▸hx))
     . rcases ran j es e2 with⟨hj,e2⟩ | ⟨rfl,rfl⟩
       . have e1:(O'.A.take S'.length++[(a,q)])[j]? =some (b,false):=e1
         rw[hAt j hj]at e1
         obtain⟨ys,hy,r'⟩:=ok.obj j b es e1 (by rw[x8 hj];exact e2)
         exact⟨ys,hy,bK sub (hS es (y4 e2)) r'⟩
       . have e1:(O'.A.take S'.length++[(a,q)])[S'.length]? =some (b,false):=e1
         rw[hEnd]at e1
         cases e1
         obtain⟨xs,hx,q1⟩:=ok.obj k a es ha he
         exact⟨xs,hx,bK sub hd q1⟩
     . rcases ran j es e2 with⟨hj,e2⟩ | ⟨rfl,rfl⟩
       . have e1:(O'.A.take S'.length++[(a,q)])[j]? =some (b,true):=e1
         rw[hAt j hj]at e1
         exact pD sub (hS es (y4 e2)) (ok.dob j b es e1 (by rw[x8 hj];exact e2))
       . have e1:(O'.A.take S'.length++[(a,q)])[S'.length]? =some (b,true):=e1
         rw[hEnd]at e1
         cases e1
         exact pD sub hd (ok.dob k a es ha he)
     . have hb:b∈adr (O'.A.take S'.length++[(a,q)]):=hb
       rw[bN]at hb
       rcases List.mem_append.mp hb with hb | hb
       . exact ok.apart b (gK hb)
       . rw[show b=a from by simpa using hb];exact ok.apart a (bH ha)
section
variable {Ω : Wd}
noncomputable def Bl.owq(b:Bl Ω):Bl Ω where
 lev:=b.lev
 chk:=b.chk
 wp Γ S W:=b.wp Γ S {W with rt:=OwQ S.length W.rt}
 sound:=by
  intro X r top N nm sts Γ S W A hl hc hw pins s σ H O I env ok
  refine thn (b.sound A hl hc hw pins s σ H O I env ok) λ f s' q=>?_
  cases f with
  | next=>exact q
  | brk=>exact q
  | cont=>exact q
  | ret u=>obtain⟨v,σ',H',I',r,q⟩:=q;exact⟨v,σ',H',I',r,QG.owq ok.len q⟩
end
end RF
set_option maxHeartbeats 4000000
namespace K37
open PySem L2 DL RF
variable {Ω : Wd} {f : Addr} {fd : FuncData}
noncomputable def top(i:Nat):Stmt:=PySem.Challenge.pw_nestturn_k37_exchanges_looked_at.main.body.getD i (.Pass ⟨0,0,0,0⟩)
structure Bi(mg:Str->Option Value):Prop where
 MOST_STEPS_:∃t,mg "MOST_STEPS"=some (.int 60 t)
 abs_:mg "abs"=none
 all_:mg "all"=none
 any_:mg "any"=none
 bool_:mg "bool"=none
 enumerate_:mg "enumerate"=none
 int_:mg "int"=none
 isinstance_:mg "isinstance"=none
 len_:mg "len"=none
 list_:mg "list"=none
 max_:mg "max"=none
 min_:mg "min"=none
 range_:mg "range"=none
 set_:mg "set"=none
 sorted_:mg "sorted"=none
 sum_:mg "sum"=none
 tuple_:mg "tuple"=none
 zip_:mg "zip"=none
section
variable {Ω : Wd}
noncomputable abbrev gV:Stmt:=top 6
noncomputable abbrev zg:List Str:=["thing"]
noncomputable abbrev yH:List Str:=["thing"]
noncomputable def xg(B:Bi Ω.mg):Bl Ω:=
 Bl.cons (Sm.ret (Ex.and (Bo.cons (Ex.isi B.isinstance_ (Ex.var 0) .int B.int_) (Bo.one (Ex.not (Ex.isi B.isinstance_ (Ex.var 0) .bool B.bool_)))))) Bl.nil
noncomputable abbrev dY:Stmt:=top 7
noncomputable abbrev qw:List Str:=["thing","least","most"]
noncomputable abbrev qp:List Str:=["thing","least","most"]
noncomputable def qW(B:Bi Ω.mg):Bl Ω:=
 Bl.cons (Sm.ret (Ex.and (Bo.cons (Ex.isi B.isinstance_ (Ex.var 0) .tuple B.tuple_) (Bo.one (Ex.ch2 (Ex.var 1) .LtE (Ex.blt bu B.len_ (Ar.cons (Ex.var 0) Ar.nil)) .LtE (Ex.var 2)))))) Bl.nil
noncomputable abbrev iQ:Stmt:=top 8
noncomputable abbrev Ah:List Str:=["thing","d"]
noncomputable abbrev An:List Str:=["thing","d"]
noncomputable def Az(B:Bi Ω.mg){Fq39:Ct}(Cq39:Cal Ω "is_whole" 1 1 Fq39){Fq38:Ct}(Cq38:Cal Ω "is_tuple_of" 1 3 Fq38):Bl Ω:=
 Bl.cons (Sm.ret (Ex.and (Bo.cons (Ex.call Cq38 (Ar.cons (Ex.var 0) (Ar.cons (Ex.bin .Add (Ex.var 1) (Ex.int 1)) (Ar.cons (Ex.bin .Add (Ex.var 1) (Ex.int 1)) Ar.nil)))) (Bo.one (Ex.blt fX B.all_ (Ar.cons (Ex.comp ["number"] [none] (Ex.call Cq39 (Ar.cons (Ex.var 0) Ar.nil)) (Tg.nm 0) (Itb.seq (Ex.var 0)) Cd.no) Ar.nil)))))) Bl.nil
noncomputable abbrev gY:Stmt:=top 9
noncomputable abbrev zQ:List Str:=["form","counts"]
noncomputable abbrev zR:List Str:=["form","counts"]
noncomputable def zP(B:Bi Ω.mg):Bl Ω:=
 Bl.cons (Sm.ret (Ex.bin .Add (Ex.ix (Ex.var 0) (Ex.int 0)) (Ex.blt v6 B.sum_ (Ar.cons (Ex.comp ["number","count"] [none,none] (Ex.bin .Mult (Ex.var 0) (Ex.var 1)) (Tg.tup [0,1]) (Itb.zip B.zip_ (Ex.sl (Ex.var 0) (Po.so (Ex.int 1)) Po.no) (Ex.var 1)) Cd.no) Ar.nil)))) Bl.nil
noncomputable abbrev gW:Stmt:=top 10
noncomputable abbrev zL:List Str:=["thing","d"]
noncomputable abbrev zx:List Str:=["thing","d"]
noncomputable def rK(B:Bi Ω.mg){Fq26:Ct}(Cq26:Cal Ω "is_form" 2 2 Fq26):Bl Ω:=
 Bl.cons (Sm.ret (Ex.and (Bo.cons (Ex.ch2 (Ex.neg (Ex.int 9)) .LtE (Ex.ix (Ex.var 0) (Ex.int 0)) .LtE (Ex.int 9)) (Bo.one (Ex.blt fX B.all_ (Ar.cons (Ex.comp ["number"] [none] (Ex.ch2 (Ex.neg (Ex.int 2)) .LtE (Ex.var 0) .LtE (Ex.int 2)) (Tg.nm 0) (Itb.seq (Ex.sl (Ex.var 0) (Po.so (Ex.int 1)) Po.no)) Cd.no) Ar.nil)))))) Bl.nil
noncomputable def yf(B:Bi Ω.mg){Fq26:Ct}(Cq26:Cal Ω "is_form" 2 2 Fq26):Bl Ω:=
 Bl.cons (Sm.ite (Te.not (Te.val (Ex.call Cq26 (Ar.cons (Ex.var 0) (Ar.cons (Ex.var 1) Ar.nil))))) (Bl.cons (Sm.ret (Ex.bl false)) Bl.nil) Bl.nil) (rK B Cq26)
noncomputable abbrev iD:Stmt:=top 11
noncomputable abbrev BX:List Str:=["thing","d"]
noncomputable abbrev Ad:List Str:=["thing","d"]
noncomputable def Am{Fq38:Ct}(Cq38:Cal Ω "is_tuple_of" 1 3 Fq38){Fq24:Ct}(Cq24:Cal Ω "is_bound" 3 2 Fq24):Bl Ω:=
 Bl.cons (Sm.ret (Ex.and (Bo.cons (Ex.call Cq38 (Ar.cons (Ex.var 0) (Ar.cons (Ex.int 2) (Ar.cons (Ex.int 2) Ar.nil)))) (Bo.cons (Ex.call Cq24 (Ar.cons (Ex.ix (Ex.var 0) (Ex.int 0)) (Ar.cons (Ex.var 1) Ar.nil))) (Bo.one (Ex.call Cq24 (Ar.cons (Ex.ix (Ex.var 0) (Ex.int 1)) (Ar.cons (Ex.var 1) Ar.nil)))))))) Bl.nil
noncomputable abbrev gZ:Stmt:=top 12
noncomputable abbrev yp:List Str:=["thing"]
noncomputable abbrev xR:List Str:=["thing"]
noncomputable def yr(B:Bi Ω.mg){Fq38:Ct}(Cq38:Cal Ω "is_tuple_of" 1 3 Fq38){Fq27:Ct}(Cq27:Cal Ω "is_loop" 4 2 Fq27):Bl Ω:=
 Bl.cons (Sm.ret (Ex.and (Bo.cons (Ex.call Cq38 (Ar.cons (Ex.var 0) (Ar.cons (Ex.int 1) (Ar.cons (Ex.int 3) Ar.nil)))) (Bo.one (Ex.blt fX B.all_ (Ar.cons (Ex.comp ["k","loop"] [none,none] (Ex.call Cq27 (Ar.cons (Ex.var 1) (Ar.cons (Ex.var 0) Ar.nil))) (Tg.tup [0,1]) (Itb.enm B.enumerate_ (Ex.var 0)) Cd.no) Ar.nil)))))) Bl.nil
noncomputable abbrev cN:Stmt:=top 13
noncomputable abbrev j9:List Str:=["ahead","low","high","longer","counts","count"]
noncomputable abbrev kI:List Str:=["ahead","low","high"]
section
variable (B : Bi Ω.mg) {Fq20 : Ct} (Cq20 : Cal Ω "comes_to" 1 2 Fq20)
noncomputable def jc(B:Bi Ω.mg){Fq20:Ct}(Cq20:Cal Ω "comes_to" 1 2 Fq20):Bl Ω:=
 Bl.cons (Sm.ret (Ex.var 3)) Bl.nil
noncomputable def iY:Bl Ω:=
 Bl.cons (Sm.forL (Tg.nm 4) (Ex.var 0) (Bl.cons (Sm.for (Tg.nm 5) (Itb.rng2 B.range_ (Ex.call Cq20 (Ar.cons (Ex.var 1) (Ar.cons (Ex.var 4) Ar.nil))) (Ex.call Cq20 (Ar.cons (Ex.var 2) (Ar.cons (Ex.var 4) Ar.nil)))) (Bl.cons (Sm.expr (Ex.m_append (Ex.var 3) (Ex.bin .Add (Ex.var 4) (Ex.tup (Ar.cons (Ex.var 5) Ar.nil))))) Bl.nil)) Bl.nil)) (jc B Cq20)
noncomputable def kh:Bl Ω:=
 Bl.cons (Sm.set 3 (Ex.own Ar.nil)) (iY B Cq20)
end
noncomputable abbrev fU:Stmt:=top 14
noncomputable abbrev vP:List Str:=["loops","told","low","high"]
noncomputable abbrev vH:List Str:=["loops"]
section
variable {Fq50 : Ct} (Cq50 : Cal Ω "with_next_count" 2 3 Fq50)
noncomputable def rm{Fq50:Ct}(Cq50:Cal Ω "with_next_count" 2 3 Fq50):Bl Ω:=
 Bl.cons (Sm.ret (Ex.var 1)) Bl.nil
noncomputable def qT:Bl Ω:=
 Bl.cons (Sm.forL (Tg.tup [2,3]) (Ex.var 0) (Bl.cons (Sm.set 1 (Ex.call Cq50 (Ar.cons (Ex.var 1) (Ar.cons (Ex.var 2) (Ar.cons (Ex.var 3) Ar.nil))))) Bl.nil)) (rm Cq50)
noncomputable def vA:Bl Ω:=
 Bl.cons (Sm.set 1 (Ex.lst (Ar.cons (Ex.tup Ar.nil) Ar.nil))) (qT Cq50)
end
noncomputable abbrev cM:Stmt:=top 17
noncomputable abbrev km:List Str:=["number"]
noncomputable abbrev kJ:List Str:=["number"]
noncomputable def kE(B:Bi Ω.mg):Bl Ω:=
 Bl.cons (Sm.ret (Ex.cmp .Lt (Ex.blt RW B.abs_ (Ar.cons (Ex.var 0) Ar.nil)) (Ex.bin .Pow (Ex.int 10) (Ex.int 30)))) Bl.nil
noncomputable abbrev fV:Stmt:=top 18
noncomputable abbrev vh:List Str:=["thing"]
noncomputable abbrev vC:List Str:=["thing"]
noncomputable def vf(B:Bi Ω.mg){Fq39:Ct}(Cq39:Cal Ω "is_whole" 1 1 Fq39){Fq38:Ct}(Cq38:Cal Ω "is_tuple_of" 1 3 Fq38):Bl Ω:=
 Bl.cons (Sm.ret (Ex.and (Bo.cons (Ex.call Cq38 (Ar.cons (Ex.var 0) (Ar.cons (Ex.int 1) (Ar.cons (Ex.int 3) Ar.nil)))) (Bo.one (Ex.blt fX B.all_ (Ar.cons (Ex.comp ["width"] [none] (Ex.and (Bo.cons (Ex.call Cq39 (Ar.cons (Ex.var 0) Ar.nil)) (Bo.one (Ex.ch2 (Ex.int 1) .LtE (Ex.var 0) .LtE (Ex.int 2))))) (Tg.nm 0) (Itb.seq (Ex.var 0)) Cd.no) Ar.nil)))))) Bl.nil
noncomputable abbrev dh:Stmt:=top 19
noncomputable abbrev nF:List Str:=["thing","d"]
noncomputable abbrev nP:List Str:=["thing","d"]
noncomputable def nT(B:Bi Ω.mg){Fq26:Ct}(Cq26:Cal Ω "is_form" 2 2 Fq26):Bl Ω:=
 Bl.cons (Sm.ret (Ex.and (Bo.cons (Ex.call Cq26 (Ar.cons (Ex.var 0) (Ar.cons (Ex.var 1) Ar.nil))) (Bo.one (Ex.blt fX B.all_ (Ar.cons (Ex.comp ["number"] [none] (Ex.ch2 (Ex.neg (Ex.int 99)) .LtE (Ex.var 0) .LtE (Ex.int 99)) (Tg.nm 0) (Itb.seq (Ex.var 0)) Cd.no) Ar.nil)))))) Bl.nil
noncomputable abbrev ie:Stmt:=top 20
noncomputable abbrev zV:List Str:=["thing","d"]
noncomputable abbrev yc:List Str:=["thing","d"]
noncomputable def z7(B:Bi Ω.mg){Fq26:Ct}(Cq26:Cal Ω "is_form" 2 2 Fq26){Fq23:Ct}(Cq23:Cal Ω "has_few_figures" 1 1 Fq23):Bl Ω:=
 Bl.cons (Sm.ret (Ex.and (Bo.cons (Ex.call Cq26 (Ar.cons (Ex.var 0) (Ar.cons (Ex.var 1) Ar.nil))) (Bo.one (Ex.blt fX B.all_ (Ar.cons (Ex.comp ["number"] [none] (Ex.call Cq23 (Ar.cons (Ex.var 0) Ar.nil)) (Tg.nm 0) (Itb.seq (Ex.var 0)) Cd.no) Ar.nil)))))) Bl.nil
noncomputable abbrev bR:Stmt:=top 21
noncomputable abbrev ig:List Str:=["table","place","widths","d"]
noncomputable abbrev il:List Str:=["table","place","widths","d"]
noncomputable def f9(B:Bi Ω.mg){Fq39:Ct}(Cq39:Cal Ω "is_whole" 1 1 Fq39){Fq38:Ct}(Cq38:Cal Ω "is_tuple_of" 1 3 Fq38){Fq32:Ct}(Cq32:Cal Ω "is_place_form" 3 2 Fq32):Bl Ω:=
 Bl.cons (Sm.ret (Ex.and (Bo.cons (Ex.call Cq38 (Ar.cons (Ex.var 1) (Ar.cons (Ex.ix (Ex.var 2) (Ex.var 0)) (Ar.cons (Ex.ix (Ex.var 2) (Ex.var 0)) Ar.nil)))) (Bo.one (Ex.blt fX B.all_ (Ar.cons (Ex.comp ["form","d"] [none,some 3] (Ex.call Cq32 (Ar.cons (Ex.var 0) (Ar.cons (Ex.var 1) Ar.nil))) (Tg.nm 0) (Itb.seq (Ex.var 1)) Cd.no) Ar.nil)))))) Bl.nil
noncomputable def ir(B:Bi Ω.mg){Fq39:Ct}(Cq39:Cal Ω "is_whole" 1 1 Fq39){Fq38:Ct}(Cq38:Cal Ω "is_tuple_of" 1 3 Fq38){Fq32:Ct}(Cq32:Cal Ω "is_place_form" 3 2 Fq32):Bl Ω:=
 Bl.cons (Sm.ite (Te.or (Bt.cons (Te.not (Te.val (Ex.call Cq39 (Ar.cons (Ex.var 0) Ar.nil)))) (Bt.one (Te.not (Te.ch2 (Ex.int 0) .LtE (Ex.var 0) .Lt (Ex.blt bu B.len_ (Ar.cons (Ex.var 2) Ar.nil))))))) (Bl.cons (Sm.ret (Ex.bl false)) Bl.nil) Bl.nil) (f9 B Cq39 Cq38 Cq32)
noncomputable abbrev iJ:Stmt:=top 22
noncomputable abbrev BL:List Str:=["thing","widths","d"]
noncomputable abbrev BJ:List Str:=["thing","widths","d"]
section
variable {Fq39 : Ct} (Cq39 : Cal Ω "is_whole" 1 1 Fq39) {Fq38 : Ct} (Cq38 : Cal Ω "is_tuple_of" 1 3 Fq38) {Fq23 : Ct} (Cq23 : Cal Ω "has_few_figures" 1 1 Fq23) {Fq37 : Ct} (Cq37 : Cal Ω "is_table_with_place" 4 4 Fq37)
noncomputable def vZ{Fq39:Ct}(Cq39:Cal Ω "is_whole" 1 1 Fq39){Fq38:Ct}(Cq38:Cal Ω "is_tuple_of" 1 3 Fq38){Fq23:Ct}(Cq23:Cal Ω "has_few_figures" 1 1 Fq23){Fq37:Ct}(Cq37:Cal Ω "is_table_with_place" 4 4 Fq37):Bl Ω:=
 Bl.cons (Sm.ret (Ex.call Cq37 (Ar.cons (Ex.ix (Ex.var 0) (Ex.int 1)) (Ar.cons (Ex.ix (Ex.var 0) (Ex.int 2)) (Ar.cons (Ex.var 1) (Ar.cons (Ex.var 2) Ar.nil)))))) Bl.nil
noncomputable def vR:Bl Ω:=
 Bl.cons (Sm.ite (Te.or (Bt.cons (Te.not (Te.val (Ex.call Cq39 (Ar.cons (Ex.ix (Ex.var 0) (Ex.int 0)) Ar.nil)))) (Bt.one (Te.not (Te.val (Ex.call Cq23 (Ar.cons (Ex.ix (Ex.var 0) (Ex.int 0)) Ar.nil))))))) (Bl.cons (Sm.ret (Ex.bl false)) Bl.nil) Bl.nil) (vZ Cq39 Cq38 Cq23 Cq37)
noncomputable def Bb:Bl Ω:=
 Bl.cons (Sm.ite (Te.not (Te.val (Ex.call Cq38 (Ar.cons (Ex.var 0) (Ar.cons (Ex.int 3) (Ar.cons (Ex.int 3) Ar.nil)))))) (Bl.cons (Sm.ret (Ex.bl false)) Bl.nil) Bl.nil) (vR Cq39 Cq38 Cq23 Cq37)
end
noncomputable abbrev gO:Stmt:=top 23
noncomputable abbrev xX:List Str:=["thing","widths","d"]
noncomputable abbrev zJ:List Str:=["thing","widths","d"]
noncomputable def xx(B:Bi Ω.mg){Fq38:Ct}(Cq38:Cal Ω "is_tuple_of" 1 3 Fq38){Fq33:Ct}(Cq33:Cal Ω "is_read" 5 3 Fq33):Bl Ω:=
 Bl.cons (Sm.ret (Ex.and (Bo.cons (Ex.call Cq38 (Ar.cons (Ex.var 0) (Ar.cons (Ex.int 0) (Ar.cons (Ex.int 3) Ar.nil)))) (Bo.one (Ex.blt fX B.all_ (Ar.cons (Ex.comp ["read","widths","d"] [none,some 1,some 2] (Ex.call Cq33 (Ar.cons (Ex.var 0) (Ar.cons (Ex.var 1) (Ar.cons (Ex.var 2) Ar.nil)))) (Tg.nm 0) (Itb.seq (Ex.var 0)) Cd.no) Ar.nil)))))) Bl.nil
noncomputable abbrev iV:Stmt:=top 24
noncomputable abbrev Ab:List Str:=["thing","widths","d"]
noncomputable abbrev Ce:List Str:=["thing","widths","d"]
section
variable {Fq38 : Ct} (Cq38 : Cal Ω "is_tuple_of" 1 3 Fq38) {Fq36 : Ct} (Cq36 : Cal Ω "is_start" 3 2 Fq36) {Fq37 : Ct} (Cq37 : Cal Ω "is_table_with_place" 4 4 Fq37) {Fq34 : Ct} (Cq34 : Cal Ω "is_reads" 6 3 Fq34)
noncomputable def vM{Fq38:Ct}(Cq38:Cal Ω "is_tuple_of" 1 3 Fq38){Fq36:Ct}(Cq36:Cal Ω "is_start" 3 2 Fq36){Fq37:Ct}(Cq37:Cal Ω "is_table_with_place" 4 4 Fq37){Fq34:Ct}(Cq34:Cal Ω "is_reads" 6 3 Fq34):Bl Ω:=
 Bl.cons (Sm.ret (Ex.and (Bo.cons (Ex.call Cq36 (Ar.cons (Ex.ix (Ex.var 0) (Ex.int 2)) (Ar.cons (Ex.var 2) Ar.nil))) (Bo.one (Ex.call Cq34 (Ar.cons (Ex.ix (Ex.var 0) (Ex.int 3)) (Ar.cons (Ex.var 1) (Ar.cons (Ex.var 2) Ar.nil)))))))) Bl.nil
noncomputable def vd:Bl Ω:=
 Bl.cons (Sm.ite (Te.not (Te.val (Ex.call Cq37 (Ar.cons (Ex.ix (Ex.var 0) (Ex.int 0)) (Ar.cons (Ex.ix (Ex.var 0) (Ex.int 1)) (Ar.cons (Ex.var 1) (Ar.cons (Ex.var 2) Ar.nil))))))) (Bl.cons (Sm.ret (Ex.bl false)) Bl.nil) Bl.nil) (vM Cq38 Cq36 Cq37 Cq34)
noncomputable def Bd:Bl Ω:=
 Bl.cons (Sm.ite (Te.not (Te.val (Ex.call Cq38 (Ar.cons (Ex.var 0) (Ar.cons (Ex.int 4) (Ar.cons (Ex.int 4) Ar.nil)))))) (Bl.cons (Sm.ret (Ex.bl false)) Bl.nil) Bl.nil) (vd Cq38 Cq36 Cq37 Cq34)
end
noncomputable abbrev iK:Stmt:=top 25
noncomputable abbrev Bm:List Str:=["thing","widths","d"]
noncomputable abbrev Bg:List Str:=["thing","widths"]
section
variable (B : Bi Ω.mg) {Fq38 : Ct} (Cq38 : Cal Ω "is_tuple_of" 1 3 Fq38) {Fq28 : Ct} (Cq28 : Cal Ω "is_loops" 5 1 Fq28) {Fq25 : Ct} (Cq25 : Cal Ω "is_deed" 7 3 Fq25)
noncomputable def v4(B:Bi Ω.mg){Fq38:Ct}(Cq38:Cal Ω "is_tuple_of" 1 3 Fq38){Fq28:Ct}(Cq28:Cal Ω "is_loops" 5 1 Fq28){Fq25:Ct}(Cq25:Cal Ω "is_deed" 7 3 Fq25):Bl Ω:=
 Bl.cons (Sm.ret (Ex.and (Bo.cons (Ex.call Cq38 (Ar.cons (Ex.ix (Ex.var 0) (Ex.int 1)) (Ar.cons (Ex.int 1) (Ar.cons (Ex.int 4) Ar.nil)))) (Bo.one (Ex.blt fX B.all_ (Ar.cons (Ex.comp ["deed","widths","d"] [none,some 1,some 2] (Ex.call Cq25 (Ar.cons (Ex.var 0) (Ar.cons (Ex.var 1) (Ar.cons (Ex.var 2) Ar.nil)))) (Tg.nm 0) (Itb.seq (Ex.ix (Ex.var 0) (Ex.int 1))) Cd.no) Ar.nil)))))) Bl.nil
noncomputable def vY:Bl Ω:=
 Bl.cons (Sm.set 2 (Ex.blt bu B.len_ (Ar.cons (Ex.ix (Ex.var 0) (Ex.int 0)) Ar.nil))) (v4 B Cq38 Cq28 Cq25)
noncomputable def Bj:Bl Ω:=
 Bl.cons (Sm.ite (Te.or (Bt.cons (Te.not (Te.val (Ex.call Cq38 (Ar.cons (Ex.var 0) (Ar.cons (Ex.int 2) (Ar.cons (Ex.int 2) Ar.nil)))))) (Bt.one (Te.not (Te.val (Ex.call Cq28 (Ar.cons (Ex.ix (Ex.var 0) (Ex.int 0)) Ar.nil))))))) (Bl.cons (Sm.ret (Ex.bl false)) Bl.nil) Bl.nil) (vY B Cq38 Cq28 Cq25)
end
noncomputable abbrev gq:Stmt:=top 26
noncomputable abbrev wF:List Str:=["thing","widths"]
noncomputable abbrev xq:List Str:=["thing","widths"]
noncomputable def yI(B:Bi Ω.mg){Fq38:Ct}(Cq38:Cal Ω "is_tuple_of" 1 3 Fq38){Fq29:Ct}(Cq29:Cal Ω "is_nest" 8 2 Fq29):Bl Ω:=
 Bl.cons (Sm.ret (Ex.and (Bo.cons (Ex.call Cq38 (Ar.cons (Ex.var 0) (Ar.cons (Ex.int 1) (Ar.cons (Ex.int 3) Ar.nil)))) (Bo.one (Ex.blt fX B.all_ (Ar.cons (Ex.comp ["nest","widths"] [none,some 1] (Ex.call Cq29 (Ar.cons (Ex.var 0) (Ar.cons (Ex.var 1) Ar.nil))) (Tg.nm 0) (Itb.seq (Ex.var 0)) Cd.no) Ar.nil)))))) Bl.nil
noncomputable abbrev cO:Stmt:=top 27
noncomputable abbrev lg:List Str:=["nests"]
noncomputable abbrev kZ:List Str:=["nests"]
noncomputable def kY(B:Bi Ω.mg){Fq21:Ct}(Cq21:Cal Ω "counts_of" 3 1 Fq21):Bl Ω:=
 Bl.cons (Sm.ret (Ex.blt v6 B.sum_ (Ar.cons (Ex.comp ["loops","deeds"] [none,none] (Ex.bin .Mult (Ex.blt bu B.len_ (Ar.cons (Ex.call Cq21 (Ar.cons (Ex.var 0) Ar.nil)) Ar.nil)) (Ex.blt bu B.len_ (Ar.cons (Ex.var 1) Ar.nil))) (Tg.tup [0,1]) (Itb.seq (Ex.var 0)) Cd.no) Ar.nil))) Bl.nil
noncomputable abbrev eE:Stmt:=top 28
noncomputable abbrev rT:List Str:=["widths","nests"]
noncomputable abbrev tW:List Str:=["widths","nests"]
section
variable (B : Bi Ω.mg) {Fq40 : Ct} (Cq40 : Cal Ω "is_widths" 2 1 Fq40) {Fq30 : Ct} (Cq30 : Cal Ω "is_nests" 9 2 Fq30) {Fq42 : Ct} (Cq42 : Cal Ω "number_of_steps" 4 1 Fq42)
noncomputable def pZ(B:Bi Ω.mg){Fq40:Ct}(Cq40:Cal Ω "is_widths" 2 1 Fq40){Fq30:Ct}(Cq30:Cal Ω "is_nests" 9 2 Fq30){Fq42:Ct}(Cq42:Cal Ω "number_of_steps" 4 1 Fq42):Bl Ω:=
 Bl.cons (Sm.ret (Ex.tup (Ar.cons (Ex.var 0) (Ar.cons (Ex.var 1) Ar.nil)))) Bl.nil
noncomputable def pI:Bl Ω:=
 Bl.cons (Sm.ite (Te.cmp .Gt (Ex.call Cq42 (Ar.cons (Ex.var 1) Ar.nil)) (Ex.gint B.MOST_STEPS_)) (Bl.cons Sm.never Bl.nil) Bl.nil) (pZ B Cq40 Cq30 Cq42)
noncomputable def oO:Bl Ω:=
 Bl.cons (Sm.ite (Te.not (Te.val (Ex.call Cq30 (Ar.cons (Ex.var 1) (Ar.cons (Ex.var 0) Ar.nil))))) (Bl.cons Sm.never Bl.nil) Bl.nil) (pI B Cq40 Cq30 Cq42)
noncomputable def sr:Bl Ω:=
 Bl.cons (Sm.ite (Te.not (Te.val (Ex.call Cq40 (Ar.cons (Ex.var 0) Ar.nil)))) (Bl.cons Sm.never Bl.nil) Bl.nil) (oO B Cq40 Cq30 Cq42)
end
noncomputable abbrev gJ:Stmt:=top 29
noncomputable abbrev zK:List Str:=["program","steps","nest","loops_and_deeds","counts","deed"]
noncomputable abbrev zO:List Str:=["program"]
section
variable (B : Bi Ω.mg) {Fq21 : Ct} (Cq21 : Cal Ω "counts_of" 3 1 Fq21)
noncomputable def uf(B:Bi Ω.mg){Fq21:Ct}(Cq21:Cal Ω "counts_of" 3 1 Fq21):Bl Ω:=
 Bl.cons (Sm.ret (Ex.var 1)) Bl.nil
noncomputable def ud:Bl Ω:=
 Bl.cons (Sm.for (Tg.tup [2,3]) (Itb.enm B.enumerate_ (Ex.ix (Ex.var 0) (Ex.int 1))) (Bl.cons (Sm.forL (Tg.nm 4) (Ex.call Cq21 (Ar.cons (Ex.ix (Ex.var 3) (Ex.int 0)) Ar.nil)) (Bl.cons (Sm.for (Tg.nm 5) (Itb.rng1 B.range_ (Ex.blt bu B.len_ (Ar.cons (Ex.ix (Ex.var 3) (Ex.int 1)) Ar.nil))) (Bl.cons (Sm.expr (Ex.m_append (Ex.var 1) (Ex.tup (Ar.cons (Ex.var 2) (Ar.cons (Ex.var 4) (Ar.cons (Ex.var 5) Ar.nil)))))) Bl.nil)) Bl.nil)) Bl.nil)) (uf B Cq21)
noncomputable def wR:Bl Ω:=
 Bl.cons (Sm.set 1 (Ex.own Ar.nil)) (ud B Cq21)
end
noncomputable abbrev iG:Stmt:=top 30
noncomputable abbrev BW:List Str:=["program","step"]
noncomputable abbrev Ak:List Str:=["program","step"]
noncomputable def Ae:Bl Ω:=
 Bl.cons (Sm.ret (Ex.ix (Ex.ix (Ex.ix (Ex.ix (Ex.var 0) (Ex.int 1)) (Ex.ix (Ex.var 1) (Ex.int 0))) (Ex.int 1)) (Ex.ix (Ex.var 1) (Ex.int 2)))) Bl.nil
noncomputable abbrev iB:Stmt:=top 31
noncomputable abbrev Ci:List Str:=["table","place","counts"]
noncomputable abbrev Bk:List Str:=["table","place","counts"]
noncomputable def Ck(B:Bi Ω.mg){Fq20:Ct}(Cq20:Cal Ω "comes_to" 1 2 Fq20):Bl Ω:=
 Bl.cons (Sm.ret (Ex.tup (Ar.cons (Ex.var 0) (Ar.cons (Ex.typ bj B.tuple_ (Ar.cons (Ex.comp ["form","counts"] [none,some 2] (Ex.call Cq20 (Ar.cons (Ex.var 0) (Ar.cons (Ex.var 1) Ar.nil))) (Tg.nm 0) (Itb.seq (Ex.var 1)) Cd.no) Ar.nil)) Ar.nil)))) Bl.nil
noncomputable abbrev dj:Stmt:=top 32
noncomputable abbrev nJ:List Str:=["program","step","counts","deed","reads"]
noncomputable abbrev nQ:List Str:=["program","step"]
section
variable {Fq22 : Ct} (Cq22 : Cal Ω "deed_of" 1 2 Fq22) {Fq17 : Ct} (Cq17 : Cal Ω "cell_at" 2 3 Fq17)
noncomputable def kO{Fq22:Ct}(Cq22:Cal Ω "deed_of" 1 2 Fq22){Fq17:Ct}(Cq17:Cal Ω "cell_at" 2 3 Fq17):Bl Ω:=
 Bl.cons (Sm.ret (Ex.tup (Ar.cons (Ex.call Cq17 (Ar.cons (Ex.ix (Ex.var 3) (Ex.int 0)) (Ar.cons (Ex.ix (Ex.var 3) (Ex.int 1)) (Ar.cons (Ex.var 2) Ar.nil)))) (Ar.cons (Ex.var 4) Ar.nil)))) Bl.nil
noncomputable def j8:Bl Ω:=
 Bl.cons (Sm.setC 4 ["factor","table","place","counts"] [none,none,none,some 2] (Ex.call Cq17 (Ar.cons (Ex.var 1) (Ar.cons (Ex.var 2) (Ar.cons (Ex.var 3) Ar.nil)))) (Tg.tup [0,1,2]) (Itb.seq (Ex.ix (Ex.var 3) (Ex.int 3))) Cd.no) (kO Cq22 Cq17)
noncomputable def j7:Bl Ω:=
 Bl.cons (Sm.set 3 (Ex.call Cq22 (Ar.cons (Ex.var 0) (Ar.cons (Ex.var 1) Ar.nil)))) (j8 Cq22 Cq17)
noncomputable def nU:Bl Ω:=
 Bl.cons (Sm.set 2 (Ex.ix (Ex.var 1) (Ex.int 1))) (j7 Cq22 Cq17)
end
noncomputable abbrev gA:Stmt:=top 33
noncomputable abbrev xj:List Str:=["program"]
noncomputable abbrev yG:List Str:=["program"]
noncomputable def yo{Fq47:Ct}(Cq47:Cal Ω "steps_of" 4 1 Fq47){Fq19:Ct}(Cq19:Cal Ω "cells_of_step" 3 2 Fq19):Bl Ω:=
 Bl.cons (Sm.ret (Ex.comp ["step","program"] [none,some 0] (Ex.call Cq19 (Ar.cons (Ex.var 1) (Ar.cons (Ex.var 0) Ar.nil))) (Tg.nm 0) (Itb.seq (Ex.call Cq47 (Ar.cons (Ex.var 0) Ar.nil))) Cd.no)) Bl.nil
noncomputable abbrev mR:Stmt:=top 35
noncomputable abbrev Jw:List Str:=["program"]
noncomputable abbrev HD:List Str:=["program"]
noncomputable def Jv(B:Bi Ω.mg){Fq42:Ct}(Cq42:Cal Ω "number_of_steps" 4 1 Fq42):Bl Ω:=
 Bl.cons (Sm.ret (Ex.lrng B.range_ B.list_ (Ex.call Cq42 (Ar.cons (Ex.ix (Ex.var 0) (Ex.int 1)) Ar.nil)))) Bl.nil
noncomputable abbrev jW:Stmt:=top 36
noncomputable abbrev Gr:List Str:=["program","thing","number"]
noncomputable abbrev GP:List Str:=["program","thing"]
section
variable (B : Bi Ω.mg) {Fq39 : Ct} (Cq39 : Cal Ω "is_whole" 1 1 Fq39) {Fq42 : Ct} (Cq42 : Cal Ω "number_of_steps" 4 1 Fq42)
noncomputable def xQ(B:Bi Ω.mg){Fq39:Ct}(Cq39:Cal Ω "is_whole" 1 1 Fq39){Fq42:Ct}(Cq42:Cal Ω "number_of_steps" 4 1 Fq42):Bl Ω:=
 Bl.cons (Sm.ret (Ex.cmp .Eq (Ex.lset B.len_ B.set_ (Ex.var 1)) (Ex.blt bu B.len_ (Ar.cons (Ex.var 1) Ar.nil)))) Bl.nil
noncomputable def wI:Bl Ω:=
 Bl.cons (Sm.ite (Te.not (Te.val (Ex.blt fX B.all_ (Ar.cons (Ex.comp ["step","number"] [none,some 2] (Ex.and (Bo.cons (Ex.call Cq39 (Ar.cons (Ex.var 0) Ar.nil)) (Bo.one (Ex.ch2 (Ex.int 0) .LtE (Ex.var 0) .Lt (Ex.var 1))))) (Tg.nm 0) (Itb.seq (Ex.var 1)) Cd.no) Ar.nil)))) (Bl.cons (Sm.ret (Ex.bl false)) Bl.nil) Bl.nil) (xQ B Cq39 Cq42)
noncomputable def wK:Bl Ω:=
 Bl.cons (Sm.set 2 (Ex.call Cq42 (Ar.cons (Ex.ix (Ex.var 0) (Ex.int 1)) Ar.nil))) (wI B Cq39 Cq42)
noncomputable def Ep:Bl Ω:=
 Bl.cons (Sm.ite (Te.not (Te.val (Ex.isi B.isinstance_ (Ex.var 1) .list B.list_))) (Bl.cons (Sm.ret (Ex.bl false)) Bl.nil) Bl.nil) (wK B Cq39 Cq42)
end
noncomputable abbrev di:Stmt:=top 38
noncomputable abbrev nO:List Str:=["one","other","told"]
noncomputable abbrev nM:List Str:=["one","other"]
section
variable (B : Bi Ω.mg)
noncomputable def d8(B:Bi Ω.mg):Bl Ω:=
 Bl.cons (Sm.ret (Ex.ssetO B.sorted_ B.set_ (Ex.var 2))) Bl.nil
noncomputable def d7:Bl Ω:=
 Bl.cons (Sm.ite (Te.cmp .In (Ex.ix (Ex.var 1) (Ex.int 0)) (Ex.ix (Ex.var 0) (Ex.int 1))) (Bl.cons (Sm.expr (Ex.m_append (Ex.var 2) (Ex.ix (Ex.var 1) (Ex.int 0)))) Bl.nil) Bl.nil) (d8 B)
noncomputable def kj:Bl Ω:=
 Bl.cons (Sm.ite (Te.or (Bt.cons (Te.cmp .Eq (Ex.ix (Ex.var 0) (Ex.int 0)) (Ex.ix (Ex.var 1) (Ex.int 0))) (Bt.one (Te.cmp .In (Ex.ix (Ex.var 0) (Ex.int 0)) (Ex.ix (Ex.var 1) (Ex.int 1)))))) (Bl.cons (Sm.expr (Ex.m_append (Ex.var 2) (Ex.ix (Ex.var 0) (Ex.int 0)))) Bl.nil) Bl.nil) (d7 B)
noncomputable def nD:Bl Ω:=
 Bl.cons (Sm.set 2 (Ex.own Ar.nil)) (kj B)
end
noncomputable abbrev mJ:Stmt:=top 39
noncomputable abbrev Ip:List Str:=["program","cells","told","i","j","touched"]
noncomputable abbrev HQ:List Str:=["program"]
section
variable (B : Bi Ω.mg) {Fq18 : Ct} (Cq18 : Cal Ω "cells_of" 5 1 Fq18) {Fq48 : Ct} (Cq48 : Cal Ω "touched_cells" 1 2 Fq48)
noncomputable def sY(B:Bi Ω.mg){Fq18:Ct}(Cq18:Cal Ω "cells_of" 5 1 Fq18){Fq48:Ct}(Cq48:Cal Ω "touched_cells" 1 2 Fq48):Bl Ω:=
 Bl.cons (Sm.ite (Te.lval (Ex.var 5)) (Bl.cons (Sm.expr (Ex.m_append (Ex.var 2) (Ex.tup (Ar.cons (Ex.var 3) (Ar.cons (Ex.var 4) (Ar.cons (Ex.var 5) Ar.nil)))))) Bl.nil) Bl.nil) Bl.nil
noncomputable def yL:Bl Ω:=
 Bl.cons (Sm.set 5 (Ex.call Cq48 (Ar.cons (Ex.ix (Ex.var 1) (Ex.var 3)) (Ar.cons (Ex.ix (Ex.var 1) (Ex.var 4)) Ar.nil)))) (sY B Cq18 Cq48)
noncomputable def Be(B:Bi Ω.mg){Fq18:Ct}(Cq18:Cal Ω "cells_of" 5 1 Fq18){Fq48:Ct}(Cq48:Cal Ω "touched_cells" 1 2 Fq48):Bl Ω:=
 Bl.cons (Sm.ret (Ex.var 2)) Bl.nil
noncomputable def Bp:Bl Ω:=
 Bl.cons (Sm.for (Tg.nm 3) (Itb.rng1 B.range_ (Ex.blt bu B.len_ (Ar.cons (Ex.var 1) Ar.nil))) (Bl.cons (Sm.for (Tg.nm 4) (Itb.rng2 B.range_ (Ex.bin .Add (Ex.var 3) (Ex.int 1)) (Ex.blt bu B.len_ (Ar.cons (Ex.var 1) Ar.nil))) (yL B Cq18 Cq48)) Bl.nil)) (Be B Cq18 Cq48)
noncomputable def Ca:Bl Ω:=
 Bl.cons (Sm.set 2 (Ex.own Ar.nil)) (Bp B Cq18 Cq48)
noncomputable def Hm:Bl Ω:=
 Bl.cons (Sm.set 1 (Ex.call Cq18 (Ar.cons (Ex.var 0) Ar.nil))) (Ca B Cq18 Cq48)
end
noncomputable abbrev gn:Stmt:=top 41
noncomputable abbrev yh:List Str:=["program","thing"]
noncomputable abbrev yP:List Str:=["program","thing"]
noncomputable def yw(B:Bi Ω.mg){Fq42:Ct}(Cq42:Cal Ω "number_of_steps" 4 1 Fq42){Fq35:Ct}(Cq35:Cal Ω "is_row" 5 2 Fq35):Bl Ω:=
 Bl.cons (Sm.ret (Ex.and (Bo.cons (Ex.call Cq35 (Ar.cons (Ex.var 0) (Ar.cons (Ex.var 1) Ar.nil))) (Bo.one (Ex.cmp .Eq (Ex.blt bu B.len_ (Ar.cons (Ex.var 1) Ar.nil)) (Ex.call Cq42 (Ar.cons (Ex.ix (Ex.var 0) (Ex.int 1)) Ar.nil))))))) Bl.nil
noncomputable abbrev cQ:Stmt:=top 42
noncomputable abbrev j6:List Str:=["program","order"]
noncomputable abbrev kW:List Str:=["program","order"]
noncomputable def j5{Fq31:Ct}(Cq31:Cal Ω "is_order" 6 2 Fq31):Bl Ω:=
 Bl.cons (Sm.ite (Te.not (Te.val (Ex.call Cq31 (Ar.cons (Ex.var 0) (Ar.cons (Ex.var 1) Ar.nil))))) (Bl.cons Sm.never Bl.nil) Bl.nil) Bl.nil
noncomputable abbrev dJ:Stmt:=top 43
noncomputable abbrev qx:List Str:=["program","touching","i","j","cells"]
noncomputable abbrev qM:List Str:=["program"]
section
variable {Fq43 : Ct} (Cq43 : Cal Ω "pairs" 6 1 Fq43)
noncomputable def nR{Fq43:Ct}(Cq43:Cal Ω "pairs" 6 1 Fq43):Bl Ω:=
 Bl.cons (Sm.ret (Ex.var 1)) Bl.nil
noncomputable def nH:Bl Ω:=
 Bl.cons (Sm.forL (Tg.tup [2,3,4]) (Ex.call Cq43 (Ar.cons (Ex.var 0) Ar.nil)) (Bl.cons (Sm.dput (Ex.var 1) (Ex.tup (Ar.cons (Ex.var 2) (Ar.cons (Ex.var 3) Ar.nil))) (Ex.bl true)) Bl.nil)) (nR Cq43)
noncomputable def rD:Bl Ω:=
 Bl.cons (Sm.set 1 Ex.dnew) (nH Cq43)
end
noncomputable abbrev lX:Stmt:=top 44
noncomputable abbrev JL:List Str:=["program","exchanges","order","touching","steps","place","two"]
noncomputable abbrev G9:List Str:=["program","exchanges","order"]
section
variable (B : Bi Ω.mg) {Fq44 : Ct} (Cq44 : Cal Ω "plain" 5 1 Fq44) {Fq46 : Ct} (Cq46 : Cal Ω "refuse_no_order" 7 2 Fq46) {Fq49 : Ct} (Cq49 : Cal Ω "touching_of" 7 1 Fq49)
noncomputable def uh(B:Bi Ω.mg){Fq44:Ct}(Cq44:Cal Ω "plain" 5 1 Fq44){Fq46:Ct}(Cq46:Cal Ω "refuse_no_order" 7 2 Fq46){Fq49:Ct}(Cq49:Cal Ω "touching_of" 7 1 Fq49):Bl Ω:=
 Bl.cons (Sm.setIx (Ex.var 4) (Ex.bin .Add (Ex.var 5) (Ex.int 1)) (Ex.ix (Ex.var 6) (Ex.int 0))) Bl.nil
noncomputable def sX:Bl Ω:=
 Bl.cons (Sm.setIx (Ex.var 4) (Ex.var 5) (Ex.ix (Ex.var 6) (Ex.int 1))) (uh B Cq44 Cq46 Cq49)
noncomputable def rQ:Bl Ω:=
 Bl.cons (Sm.ite (Te.din false (Ex.var 6) (Ex.var 3)) (Bl.cons (Sm.ret (Ex.bl false)) Bl.nil) Bl.nil) (sX B Cq44 Cq46 Cq49)
noncomputable def tO:Bl Ω:=
 Bl.cons (Sm.set 6 (Ex.tup (Ar.cons (Ex.ix (Ex.var 4) (Ex.var 5)) (Ar.cons (Ex.ix (Ex.var 4) (Ex.bin .Add (Ex.var 5) (Ex.int 1))) Ar.nil)))) (rQ B Cq44 Cq46 Cq49)
noncomputable def wZ:Bl Ω:=
 Bl.cons (Sm.ite (Te.not (Te.ch2 (Ex.int 0) .LtE (Ex.var 5) .Lt (Ex.bin .Sub (Ex.blt bu B.len_ (Ar.cons (Ex.var 4) Ar.nil)) (Ex.int 1)))) (Bl.cons (Sm.ret (Ex.bl false)) Bl.nil) Bl.nil) (tO B Cq44 Cq46 Cq49)
noncomputable def BP(B:Bi Ω.mg){Fq44:Ct}(Cq44:Cal Ω "plain" 5 1 Fq44){Fq46:Ct}(Cq46:Cal Ω "refuse_no_order" 7 2 Fq46){Fq49:Ct}(Cq49:Cal Ω "touching_of" 7 1 Fq49):Bl Ω:=
 Bl.cons (Sm.ret (Ex.cmp .Eq (Ex.var 4) (Ex.var 2))) Bl.nil
noncomputable def BK:Bl Ω:=
 Bl.cons (Sm.forL (Tg.nm 5) (Ex.var 1) (wZ B Cq44 Cq46 Cq49)) (BP B Cq44 Cq46 Cq49)
noncomputable def Aw:Bl Ω:=
 Bl.cons (Sm.set 4 (Ex.call Cq44 (Ar.cons (Ex.var 0) Ar.nil))) (BK B Cq44 Cq46 Cq49)
noncomputable def Aq:Bl Ω:=
 Bl.cons (Sm.set 3 (Ex.call Cq49 (Ar.cons (Ex.var 0) Ar.nil))) (Aw B Cq44 Cq46 Cq49)
noncomputable def Jq:Bl Ω:=
 Bl.cons (Sm.expr (Ex.call Cq46 (Ar.cons (Ex.var 0) (Ar.cons (Ex.var 2) Ar.nil)))) (Aq B Cq44 Cq46 Cq49)
end
noncomputable abbrev pW:Stmt:=top 46
noncomputable abbrev Mu:List Str:=["_law_script","_law_k","_law_cell_here"]
noncomputable abbrev Ky:List Str:=["_law_script","_law_k"]
section
variable (B : Bi Ω.mg)
noncomputable def Gk(B:Bi Ω.mg):Bl Ω:=
 Bl.cons (Sm.ret (Ex.bin .Mod (Ex.bin .Mult (Ex.var 2) (Ex.bin .Add (Ex.bin .Add (Ex.bin .Mod (Ex.var 2) (Ex.int 65519)) (Ex.var 1)) (Ex.int 2))) (Ex.int 2147483629))) Bl.nil
noncomputable def qg:Bl Ω:=
 Bl.cons (Sm.set 2 (Ex.bin .Mod (Ex.bin .Mult (Ex.bin .Add (Ex.bin .Add (Ex.bin .Mod (Ex.var 2) (Ex.int 2147483629)) (Ex.bin .Mult (Ex.int 6151) (Ex.var 1))) (Ex.int 1)) (Ex.int 48271)) (Ex.int 2147483647))) (Gk B)
noncomputable def rC:Bl Ω:=
 Bl.cons (Sm.ite (Te.and (Bt.cons (Te.cmp .Lt (Ex.var 1) (Ex.blt bu B.len_ (Ar.cons (Ex.var 0) Ar.nil))) (Bt.one (Te.cmp .Eq (Ex.bin .Mod (Ex.ix (Ex.var 0) (Ex.int 0)) (Ex.int 2)) (Ex.int 0))))) (Bl.cons (Sm.ret (Ex.blt RW B.abs_ (Ar.cons (Ex.var 2) Ar.nil))) Bl.nil) Bl.nil) (qg B)
noncomputable def Fe:Bl Ω:=
 Bl.cons (Sm.ite (Te.cmp .Gt (Ex.blt bu B.len_ (Ar.cons (Ex.var 0) Ar.nil)) (Ex.int 0)) (Bl.cons (Sm.set 2 (Ex.ix (Ex.var 0) (Ex.bin .Mod (Ex.var 1) (Ex.blt bu B.len_ (Ar.cons (Ex.var 0) Ar.nil))))) Bl.nil) Bl.nil) (rC B)
noncomputable def LR:Bl Ω:=
 Bl.cons (Sm.set 2 (Ex.int 7)) (Fe B)
end
noncomputable abbrev rW:Stmt:=top 47
noncomputable abbrev Pk:List Str:=["_law_script","_law_k"]
noncomputable abbrev N6:List Str:=["_law_script","_law_k"]
noncomputable def Qf{Fq2:Ct}(Cq2:Cal Ω "_law_cell" 1 2 Fq2):Bl Ω:=
 Bl.cons (Sm.ret (Ex.own (Ar.cons (Ex.call Cq2 (Ar.cons (Ex.var 0) (Ar.cons (Ex.var 1) Ar.nil))) (Ar.cons (Ex.var 1) (Ar.cons (Ex.var 0) Ar.nil))))) Bl.nil
noncomputable abbrev oY:Stmt:=top 48
noncomputable abbrev MN:List Str:=["_law_pen_here","_law_many","_law_digit"]
noncomputable abbrev Ke:List Str:=["_law_pen_here","_law_many"]
section
variable {Fq2 : Ct} (Cq2 : Cal Ω "_law_cell" 1 2 Fq2)
noncomputable def vW{Fq2:Ct}(Cq2:Cal Ω "_law_cell" 1 2 Fq2):Bl Ω:=
 Bl.cons (Sm.setIx (Ex.var 0) (Ex.int 0) (Ex.call Cq2 (Ar.cons (Ex.ix (Ex.var 0) (Ex.int 2)) (Ar.cons (Ex.ix (Ex.var 0) (Ex.int 1)) Ar.nil)))) Bl.nil
noncomputable def Cg:Bl Ω:=
 Bl.cons (Sm.setIx (Ex.var 0) (Ex.int 1) (Ex.bin .Add (Ex.ix (Ex.var 0) (Ex.int 1)) (Ex.int 1))) (vW Cq2)
noncomputable def FQ{Fq2:Ct}(Cq2:Cal Ω "_law_cell" 1 2 Fq2):Bl Ω:=
 Bl.cons (Sm.ret (Ex.var 2)) Bl.nil
noncomputable def FP:Bl Ω:=
 Bl.cons (Sm.ite (Te.cmp .Eq (Ex.ix (Ex.var 0) (Ex.int 0)) (Ex.int 0)) (Cg Cq2) Bl.nil) (FQ Cq2)
noncomputable def Ez:Bl Ω:=
 Bl.cons (Sm.setIx (Ex.var 0) (Ex.int 0) (Ex.fdiv (Ex.ix (Ex.var 0) (Ex.int 0)) (Ex.var 1))) (FP Cq2)
noncomputable def Ms:Bl Ω:=
 Bl.cons (Sm.set 2 (Ex.bin .Mod (Ex.ix (Ex.var 0) (Ex.int 0)) (Ex.var 1))) (Ez Cq2)
end
noncomputable abbrev pF:Stmt:=top 49
noncomputable abbrev Mi:List Str:=["_law_pen_here","_law_many","_law_wide","_law_found","_law_k"]
noncomputable abbrev Kl:List Str:=["_law_pen_here","_law_many","_law_wide"]
section
variable (B : Bi Ω.mg) {Fq15 : Ct} (Cq15 : Cal Ω "_law_take" 2 2 Fq15)
noncomputable def Fz(B:Bi Ω.mg){Fq15:Ct}(Cq15:Cal Ω "_law_take" 2 2 Fq15):Bl Ω:=
 Bl.cons (Sm.ret (Ex.typ bj B.tuple_ (Ar.cons (Ex.var 3) Ar.nil))) Bl.nil
noncomputable def Gv:Bl Ω:=
 Bl.cons (Sm.for (Tg.nm 4) (Itb.rng1 B.range_ (Ex.var 1)) (Bl.cons (Sm.expr (Ex.m_append (Ex.var 3) (Ex.ix (Ex.lst (Ar.cons (Ex.int 0) (Ar.cons (Ex.int 1) (Ar.cons (Ex.int 1) (Ar.cons (Ex.int 0) (Ar.cons (Ex.neg (Ex.int 1)) (Ar.cons (Ex.int 2) (Ar.cons (Ex.int 0) (Ar.cons (Ex.int 1) Ar.nil))))))))) (Ex.call Cq15 (Ar.cons (Ex.var 0) (Ar.cons (Ex.int 8) Ar.nil)))))) Bl.nil)) (Fz B Cq15)
noncomputable def qJ:Bl Ω:=
 Bl.cons (Sm.set 3 (Ex.own (Ar.cons (Ex.bin .Sub (Ex.call Cq15 (Ar.cons (Ex.var 0) (Ar.cons (Ex.bin .Add (Ex.bin .Mult (Ex.int 2) (Ex.var 2)) (Ex.int 1)) Ar.nil))) (Ex.var 2)) Ar.nil))) (Gv B Cq15)
noncomputable def Mr:Bl Ω:=
 Bl.cons (Sm.ite (Te.and (Bt.cons (Te.cmp .Eq (Ex.var 2) (Ex.int 1)) (Bt.one (Te.cmp .Eq (Ex.call Cq15 (Ar.cons (Ex.var 0) (Ar.cons (Ex.int 16) Ar.nil))) (Ex.int 9))))) (Bl.cons (Sm.ret (Ex.typ bj B.tuple_ (Ar.cons (Ex.comp ["_law_k","_law_pen_here"] [none,some 0] (Ex.bin .Sub (Ex.call Cq15 (Ar.cons (Ex.var 1) (Ar.cons (Ex.int 199) Ar.nil))) (Ex.int 99)) (Tg.nm 0) (Itb.rng1 B.range_ (Ex.bin .Add (Ex.var 1) (Ex.int 1))) Cd.no) Ar.nil))) Bl.nil) Bl.nil) (qJ B Cq15)
end
noncomputable abbrev mQ:Stmt:=top 50
noncomputable abbrev Jd:List Str:=["_law_pen_here","_law_most","_law_loops_here","_law_room","_law_before","_law_k","_law_size","_law_low","_law_way","_law_none","_law_ahead","_law_stairs"]
noncomputable abbrev Im:List Str:=["_law_pen_here","_law_most"]
section
variable (B : Bi Ω.mg) {Fq15 : Ct} (Cq15 : Cal Ω "_law_take" 2 2 Fq15)
noncomputable def su(B:Bi Ω.mg){Fq15:Ct}(Cq15:Cal Ω "_law_take" 2 2 Fq15):Bl Ω:=
 Bl.cons (Sm.set 4 Ex.non) Bl.nil
noncomputable def rR:Bl Ω:=
 Bl.cons (Sm.set 6 (Ex.ix (Ex.var 4) (Ex.int 1))) (su B Cq15)
noncomputable def sJ:Bl Ω:=
 Bl.cons (Sm.expr (Ex.m_append (Ex.var 2) (Ex.ix (Ex.var 11) (Ex.var 8)))) (rR B Cq15)
noncomputable def t8:Bl Ω:=
 Bl.cons (Sm.expr (Ex.m_append (Ex.var 11) (Ex.tup (Ar.cons (Ex.typ bj B.tuple_ (Ar.cons (Ex.binL false .Add (Ex.lst (Ar.cons (Ex.int 0) Ar.nil)) (Ex.var 10)) Ar.nil)) (Ar.cons (Ex.typ bj B.tuple_ (Ar.cons (Ex.binL false .Add (Ex.lst (Ar.cons (Ex.blt v6 B.sum_ (Ar.cons (Ex.var 4) Ar.nil)) Ar.nil)) (Ex.var 9)) Ar.nil)) Ar.nil))))) (sJ B Cq15)
noncomputable def rM:Bl Ω:=
 Bl.cons (Sm.set 11 (Ex.own (Ar.cons (Ex.tup (Ar.cons (Ex.typ bj B.tuple_ (Ar.cons (Ex.binL false .Add (Ex.lst (Ar.cons (Ex.ix (Ex.var 4) (Ex.int 0)) Ar.nil)) (Ex.var 9)) Ar.nil)) (Ar.cons (Ex.typ bj B.tuple_ (Ar.cons (Ex.binL false .Add (Ex.lst (Ar.cons (Ex.int 1) Ar.nil)) (Ex.var 10)) Ar.nil)) Ar.nil))) Ar.nil))) (t8 B Cq15)
noncomputable def lK:Bl Ω:=
 Bl.cons (Sm.set 10 (Ex.binL true .Add (Ex.binL false .Mult (Ex.lst (Ar.cons (Ex.int 0) Ar.nil)) (Ex.bin .Sub (Ex.var 5) (Ex.int 1))) (Ex.lst (Ar.cons (Ex.int 1) Ar.nil)))) (rM B Cq15)
noncomputable def sI(B:Bi Ω.mg){Fq15:Ct}(Cq15:Cal Ω "_law_take" 2 2 Fq15):Bl Ω:=
 Bl.cons (Sm.set 4 Ex.non) Bl.nil
noncomputable def t6:Bl Ω:=
 Bl.cons (Sm.expr (Ex.m_append (Ex.var 2) (Ex.tup (Ar.cons (Ex.typ bj B.tuple_ (Ar.cons (Ex.binL false .Add (Ex.lst (Ar.cons (Ex.var 7) Ar.nil)) (Ex.var 10)) Ar.nil)) (Ar.cons (Ex.typ bj B.tuple_ (Ar.cons (Ex.binL false .Add (Ex.lst (Ar.cons (Ex.bin .Add (Ex.var 7) (Ex.var 6)) Ar.nil)) (Ex.var 10)) Ar.nil)) Ar.nil))))) (sI B Cq15)
noncomputable def tX:Bl Ω:=
 Bl.cons (Sm.setIx (Ex.var 10) (Ex.call Cq15 (Ar.cons (Ex.var 0) (Ar.cons (Ex.var 5) Ar.nil))) (Ex.ix (Ex.lst (Ar.cons (Ex.int 1) (Ar.cons (Ex.neg (Ex.int 1)) (Ar.cons (Ex.int 2) (Ar.cons (Ex.neg (Ex.int 2)) Ar.nil))))) (Ex.call Cq15 (Ar.cons (Ex.var 0) (Ar.cons (Ex.int 4) Ar.nil))))) (t6 B Cq15)
noncomputable def gG:Bl Ω:=
 Bl.cons (Sm.set 10 (Ex.binL true .Mult (Ex.lst (Ar.cons (Ex.int 0) Ar.nil)) (Ex.var 5))) (tX B Cq15)
noncomputable def rZ(B:Bi Ω.mg){Fq15:Ct}(Cq15:Cal Ω "_law_take" 2 2 Fq15):Bl Ω:=
 Bl.cons (Sm.set 4 (Ex.tup (Ar.cons (Ex.var 7) (Ar.cons (Ex.var 6) Ar.nil)))) Bl.nil
noncomputable def gm:Bl Ω:=
 Bl.cons (Sm.expr (Ex.m_append (Ex.var 2) (Ex.tup (Ar.cons (Ex.typ bj B.tuple_ (Ar.cons (Ex.binL false .Add (Ex.lst (Ar.cons (Ex.var 7) Ar.nil)) (Ex.var 9)) Ar.nil)) (Ar.cons (Ex.typ bj B.tuple_ (Ar.cons (Ex.binL false .Add (Ex.lst (Ar.cons (Ex.bin .Add (Ex.var 7) (Ex.bin .Mult (Ex.var 6) (Ex.typ U4 B.int_ (Ar.cons (Ex.or (Bo.cons (Ex.cmp .Lt (Ex.var 8) (Ex.int 7)) (Bo.one (Ex.cmp .Lt (Ex.var 7) (Ex.int 3))))) Ar.nil)))) Ar.nil)) (Ex.var 9)) Ar.nil)) Ar.nil))))) (rZ B Cq15)
noncomputable def bM(B:Bi Ω.mg){Fq15:Ct}(Cq15:Cal Ω "_law_take" 2 2 Fq15):Bl Ω:=
 Bl.cons (Sm.set 3 (Ex.fdiv (Ex.var 3) (Ex.var 6))) Bl.nil
noncomputable def t7:Bl Ω:=
 Bl.cons (Sm.ite (Te.and (Bt.cons (Te.cmp .Lt (Ex.var 8) (Ex.int 2)) (Bt.cons (Te.cmp .IsNot (Ex.var 4) Ex.non) (Bt.one (Te.cmp .LtE (Ex.ix (Ex.var 4) (Ex.int 1)) (Ex.var 3)))))) (lK B Cq15) (Bl.cons (Sm.ite (Te.and (Bt.cons (Te.cmp .Lt (Ex.var 8) (Ex.int 4)) (Bt.one (Te.cmp .Gt (Ex.var 5) (Ex.int 0))))) (gG B Cq15) (gm B Cq15)) Bl.nil)) (bM B Cq15)
noncomputable def sZ:Bl Ω:=
 Bl.cons (Sm.set 9 (Ex.binL false .Mult (Ex.lst (Ar.cons (Ex.int 0) Ar.nil)) (Ex.var 5))) (t7 B Cq15)
noncomputable def tV:Bl Ω:=
 Bl.cons (Sm.set 8 (Ex.call Cq15 (Ar.cons (Ex.var 0) (Ar.cons (Ex.int 8) Ar.nil)))) (sZ B Cq15)
noncomputable def rO:Bl Ω:=
 Bl.cons (Sm.set 7 (Ex.bin .Sub (Ex.call Cq15 (Ar.cons (Ex.var 0) (Ar.cons (Ex.int 7) Ar.nil))) (Ex.int 3))) (tV B Cq15)
noncomputable def lJ:Bl Ω:=
 Bl.cons (Sm.set 6 (Ex.bin .Add (Ex.int 1) (Ex.call Cq15 (Ar.cons (Ex.var 0) (Ar.cons (Ex.blt UT B.min_ (Ar.cons (Ex.int 4) (Ar.cons (Ex.var 3) Ar.nil))) Ar.nil))))) (rO B Cq15)
noncomputable def Cr(B:Bi Ω.mg){Fq15:Ct}(Cq15:Cal Ω "_law_take" 2 2 Fq15):Bl Ω:=
 Bl.cons (Sm.ret (Ex.typ bj B.tuple_ (Ar.cons (Ex.var 2) Ar.nil))) Bl.nil
noncomputable def Bs:Bl Ω:=
 Bl.cons (Sm.for (Tg.nm 5) (Itb.rng1 B.range_ (Ex.bin .Add (Ex.int 1) (Ex.call Cq15 (Ar.cons (Ex.var 0) (Ar.cons (Ex.int 3) Ar.nil))))) (Bl.fza (lJ B Cq15))) (Cr B Cq15)
noncomputable def BZ:Bl Ω:=
 Bl.cons (Sm.set 4 Ex.non) (Bs B Cq15)
noncomputable def Cm:Bl Ω:=
 Bl.cons (Sm.set 3 (Ex.var 1)) (BZ B Cq15)
noncomputable def GZ:Bl Ω:=
 Bl.cons (Sm.set 2 (Ex.own Ar.nil)) (Cm B Cq15)
end
noncomputable abbrev pA:Stmt:=top 51
noncomputable abbrev J8:List Str:=["_law_pen_here","_law_widths","_law_many","_law_table","_law_place","_law_start","_law_parts","_law_k","_law_other","_law_way","_law_factor"]
noncomputable abbrev Kq:List Str:=["_law_pen_here","_law_widths","_law_many"]
section
variable (B : Bi Ω.mg) {Fq15 : Ct} (Cq15 : Cal Ω "_law_take" 2 2 Fq15) {Fq7 : Ct} (Cq7 : Cal Ω "_law_form" 3 3 Fq7)
noncomputable def jY(B:Bi Ω.mg){Fq15:Ct}(Cq15:Cal Ω "_law_take" 2 2 Fq15){Fq7:Ct}(Cq7:Cal Ω "_law_form" 3 3 Fq7):Bl Ω:=
 Bl.cons (Sm.expr (Ex.m_append (Ex.var 6) (Ex.tup (Ar.cons (Ex.var 10) (Ar.cons (Ex.var 8) (Ar.cons (Ex.typ bj B.tuple_ (Ar.cons (Ex.comp ["_law_j","_law_pen_here","_law_many"] [none,some 0,some 2] (Ex.call Cq7 (Ar.cons (Ex.var 1) (Ar.cons (Ex.var 2) (Ar.cons (Ex.int 1) Ar.nil)))) (Tg.nm 0) (Itb.rng1 B.range_ (Ex.ix (Ex.var 1) (Ex.var 8))) Cd.no) Ar.nil)) Ar.nil)))))) Bl.nil
noncomputable def vN:Bl Ω:=
 Bl.cons (Sm.ite (Te.cmp .Eq (Ex.var 9) (Ex.int 7)) (Bl.cons (Sm.set 10 (Ex.bin .Add (Ex.bin .Sub (Ex.call Cq15 (Ar.cons (Ex.var 0) (Ar.cons (Ex.bin .Sub (Ex.bin .Mult (Ex.int 2) (Ex.bin .Pow (Ex.int 10) (Ex.int 30))) (Ex.int 1)) Ar.nil))) (Ex.bin .Pow (Ex.int 10) (Ex.int 30))) (Ex.int 1))) Bl.nil) Bl.nil) (jY B Cq15 Cq7)
noncomputable def uY:Bl Ω:=
 Bl.cons (Sm.set 10 (Ex.ix (Ex.lst (Ar.cons (Ex.int 1) (Ar.cons (Ex.neg (Ex.int 1)) (Ar.cons (Ex.int 2) (Ar.cons (Ex.int 3) (Ar.cons (Ex.int 0) (Ar.cons (Ex.int 1) (Ar.cons (Ex.neg (Ex.int 5)) (Ar.cons (Ex.int 0) Ar.nil))))))))) (Ex.var 9))) (vN B Cq15 Cq7)
noncomputable def vJ:Bl Ω:=
 Bl.cons (Sm.set 9 (Ex.call Cq15 (Ar.cons (Ex.var 0) (Ar.cons (Ex.int 8) Ar.nil)))) (uY B Cq15 Cq7)
noncomputable def oG:Bl Ω:=
 Bl.cons (Sm.set 8 (Ex.call Cq15 (Ar.cons (Ex.var 0) (Ar.cons (Ex.blt bu B.len_ (Ar.cons (Ex.var 1) Ar.nil)) Ar.nil)))) (vJ B Cq15 Cq7)
noncomputable def Ej(B:Bi Ω.mg){Fq15:Ct}(Cq15:Cal Ω "_law_take" 2 2 Fq15){Fq7:Ct}(Cq7:Cal Ω "_law_form" 3 3 Fq7):Bl Ω:=
 Bl.cons (Sm.ret (Ex.tup (Ar.cons (Ex.var 3) (Ar.cons (Ex.var 4) (Ar.cons (Ex.var 5) (Ar.cons (Ex.typ bj B.tuple_ (Ar.cons (Ex.var 6) Ar.nil)) Ar.nil)))))) Bl.nil
noncomputable def GD:Bl Ω:=
 Bl.cons (Sm.for (Tg.nm 7) (Itb.rng1 B.range_ (Ex.call Cq15 (Ar.cons (Ex.var 0) (Ar.cons (Ex.int 4) Ar.nil)))) (oG B Cq15 Cq7)) (Ej B Cq15 Cq7)
noncomputable def FJ:Bl Ω:=
 Bl.cons (Sm.set 6 (Ex.own Ar.nil)) (GD B Cq15 Cq7)
noncomputable def GK:Bl Ω:=
 Bl.cons (Sm.set 5 (Ex.call Cq7 (Ar.cons (Ex.var 0) (Ar.cons (Ex.var 2) (Ar.cons (Ex.ix (Ex.lst (Ar.cons (Ex.int 1) (Ar.cons (Ex.int 9) (Ar.cons (Ex.bin .Sub (Ex.bin .Pow (Ex.int 10) (Ex.int 30)) (Ex.int 1)) Ar.nil)))) (Ex.call Cq15 (Ar.cons (Ex.var 0) (Ar.cons (Ex.int 3) Ar.nil)))) Ar.nil))))) (FJ B Cq15 Cq7)
noncomputable def Ek:Bl Ω:=
 Bl.cons (Sm.set 4 (Ex.typ bj B.tuple_ (Ar.cons (Ex.comp ["_law_k","_law_pen_here","_law_many"] [none,some 0,some 2] (Ex.call Cq7 (Ar.cons (Ex.var 1) (Ar.cons (Ex.var 2) (Ar.cons (Ex.int 1) Ar.nil)))) (Tg.nm 0) (Itb.rng1 B.range_ (Ex.ix (Ex.var 1) (Ex.var 3))) Cd.no) Ar.nil))) (GK B Cq15 Cq7)
noncomputable def Km:Bl Ω:=
 Bl.cons (Sm.set 3 (Ex.call Cq15 (Ar.cons (Ex.var 0) (Ar.cons (Ex.blt bu B.len_ (Ar.cons (Ex.var 1) Ar.nil)) Ar.nil)))) (Ek B Cq15 Cq7)
end
noncomputable abbrev iy:Stmt:=top 52
noncomputable abbrev Ai:List Str:=["_law_pen_here","_law_most","_law_widths","_law_many","_law_nests","_law_k","_law_deeds","_law_loops_here"]
noncomputable abbrev Ag:List Str:=["_law_pen_here","_law_most"]
section
variable (B : Bi Ω.mg) {Fq15 : Ct} (Cq15 : Cal Ω "_law_take" 2 2 Fq15) {Fq8 : Ct} (Cq8 : Cal Ω "_law_loops" 3 2 Fq8) {Fq4 : Ct} (Cq4 : Cal Ω "_law_deed" 4 3 Fq4)
noncomputable def oZ(B:Bi Ω.mg){Fq15:Ct}(Cq15:Cal Ω "_law_take" 2 2 Fq15){Fq8:Ct}(Cq8:Cal Ω "_law_loops" 3 2 Fq8){Fq4:Ct}(Cq4:Cal Ω "_law_deed" 4 3 Fq4):Bl Ω:=
 Bl.cons (Sm.expr (Ex.m_append (Ex.var 4) (Ex.tup (Ar.cons (Ex.var 7) (Ar.cons (Ex.typ bj B.tuple_ (Ar.cons (Ex.comp ["_law_j","_law_pen_here","_law_widths","_law_loops_here"] [none,some 0,some 2,some 7] (Ex.call Cq4 (Ar.cons (Ex.var 1) (Ar.cons (Ex.var 2) (Ar.cons (Ex.blt bu B.len_ (Ar.cons (Ex.var 3) Ar.nil)) Ar.nil)))) (Tg.nm 0) (Itb.rng1 B.range_ (Ex.var 6)) Cd.no) Ar.nil)) Ar.nil))))) Bl.nil
noncomputable def pN:Bl Ω:=
 Bl.cons (Sm.set 7 (Ex.call Cq8 (Ar.cons (Ex.var 0) (Ar.cons (Ex.blt U8 B.max_ (Ar.cons (Ex.int 1) (Ar.cons (Ex.fdiv (Ex.fdiv (Ex.var 1) (Ex.var 3)) (Ex.var 6)) Ar.nil))) Ar.nil)))) (oZ B Cq15 Cq8 Cq4)
noncomputable def jd:Bl Ω:=
 Bl.cons (Sm.set 6 (Ex.bin .Add (Ex.int 1) (Ex.call Cq15 (Ar.cons (Ex.var 0) (Ar.cons (Ex.int 4) Ar.nil))))) (pN B Cq15 Cq8 Cq4)
noncomputable def vo(B:Bi Ω.mg){Fq15:Ct}(Cq15:Cal Ω "_law_take" 2 2 Fq15){Fq8:Ct}(Cq8:Cal Ω "_law_loops" 3 2 Fq8){Fq4:Ct}(Cq4:Cal Ω "_law_deed" 4 3 Fq4):Bl Ω:=
 Bl.cons (Sm.ret (Ex.tup (Ar.cons (Ex.var 2) (Ar.cons (Ex.typ bj B.tuple_ (Ar.cons (Ex.var 4) Ar.nil)) Ar.nil)))) Bl.nil
noncomputable def uU:Bl Ω:=
 Bl.cons (Sm.for (Tg.nm 5) (Itb.rng1 B.range_ (Ex.var 3)) (jd B Cq15 Cq8 Cq4)) (vo B Cq15 Cq8 Cq4)
noncomputable def uX:Bl Ω:=
 Bl.cons (Sm.set 4 (Ex.own Ar.nil)) (uU B Cq15 Cq8 Cq4)
noncomputable def vq:Bl Ω:=
 Bl.cons (Sm.set 3 (Ex.bin .Add (Ex.int 1) (Ex.call Cq15 (Ar.cons (Ex.var 0) (Ar.cons (Ex.int 3) Ar.nil))))) (uX B Cq15 Cq8 Cq4)
noncomputable def Af:Bl Ω:=
 Bl.cons (Sm.set 2 (Ex.typ bj B.tuple_ (Ar.cons (Ex.comp ["_law_k","_law_pen_here"] [none,some 0] (Ex.bin .Add (Ex.int 1) (Ex.call Cq15 (Ar.cons (Ex.var 1) (Ar.cons (Ex.int 2) Ar.nil)))) (Tg.nm 0) (Itb.rng1 B.range_ (Ex.bin .Add (Ex.int 1) (Ex.call Cq15 (Ar.cons (Ex.var 0) (Ar.cons (Ex.int 3) Ar.nil))))) Cd.no) Ar.nil))) (vq B Cq15 Cq8 Cq4)
end
noncomputable abbrev zZ:Stmt:=top 53
noncomputable abbrev Ry:List Str:=["_law_form_here","_law_counts_here"]
noncomputable abbrev RQ:List Str:=["_law_form_here","_law_counts_here"]
noncomputable def QR(B:Bi Ω.mg):Bl Ω:=
 Bl.cons (Sm.ret (Ex.bin .Add (Ex.ix (Ex.var 0) (Ex.int 0)) (Ex.blt v6 B.sum_ (Ar.cons (Ex.comp ["_law_k","_law_form_here","_law_counts_here"] [none,some 0,some 1] (Ex.bin .Mult (Ex.ix (Ex.var 1) (Ex.bin .Add (Ex.int 1) (Ex.var 0))) (Ex.ix (Ex.var 2) (Ex.var 0))) (Tg.nm 0) (Itb.rng1 B.range_ (Ex.blt bu B.len_ (Ar.cons (Ex.var 1) Ar.nil))) Cd.no) Ar.nil)))) Bl.nil
noncomputable abbrev jJ:Stmt:=top 54
noncomputable abbrev El:List Str:=["_law_loops_here","_law_found","_law_low","_law_high","_law_longer","_law_counts_here","_law_count"]
noncomputable abbrev Gb:List Str:=["_law_loops_here"]
section
variable (B : Bi Ω.mg) {Fq0 : Ct} (Cq0 : Cal Ω "_law_at" 1 2 Fq0)
noncomputable def qL(B:Bi Ω.mg){Fq0:Ct}(Cq0:Cal Ω "_law_at" 1 2 Fq0):Bl Ω:=
 Bl.cons (Sm.set 1 (Ex.var 4)) Bl.nil
noncomputable def qK:Bl Ω:=
 Bl.cons (Sm.forL (Tg.nm 5) (Ex.var 1) (Bl.cons (Sm.for (Tg.nm 6) (Itb.rng2 B.range_ (Ex.call Cq0 (Ar.cons (Ex.var 2) (Ar.cons (Ex.var 5) Ar.nil))) (Ex.call Cq0 (Ar.cons (Ex.var 3) (Ar.cons (Ex.var 5) Ar.nil)))) (Bl.cons (Sm.expr (Ex.m_append (Ex.var 4) (Ex.bin .Add (Ex.var 5) (Ex.tup (Ar.cons (Ex.var 6) Ar.nil))))) Bl.nil)) Bl.nil)) (qL B Cq0)
noncomputable def vQ:Bl Ω:=
 Bl.cons (Sm.set 4 (Ex.own Ar.nil)) (qK B Cq0)
noncomputable def zB(B:Bi Ω.mg){Fq0:Ct}(Cq0:Cal Ω "_law_at" 1 2 Fq0):Bl Ω:=
 Bl.cons (Sm.ret (Ex.var 1)) Bl.nil
noncomputable def zT:Bl Ω:=
 Bl.cons (Sm.forL (Tg.tup [2,3]) (Ex.var 0) (Bl.fzl (vQ B Cq0))) (zB B Cq0)
noncomputable def Gz:Bl Ω:=
 Bl.cons (Sm.set 1 (Ex.lst (Ar.cons (Ex.tup Ar.nil) Ar.nil))) (zT B Cq0)
end
noncomputable abbrev oX:Stmt:=top 55
noncomputable abbrev Ka:List Str:=["_law_table","_law_place","_law_counts_here"]
noncomputable abbrev Mz:List Str:=["_law_table","_law_place","_law_counts_here"]
noncomputable def LQ(B:Bi Ω.mg){Fq0:Ct}(Cq0:Cal Ω "_law_at" 1 2 Fq0):Bl Ω:=
 Bl.cons (Sm.ret (Ex.tup (Ar.cons (Ex.var 0) (Ar.cons (Ex.typ bj B.tuple_ (Ar.cons (Ex.comp ["_law_form_here","_law_counts_here"] [none,some 2] (Ex.call Cq0 (Ar.cons (Ex.var 0) (Ar.cons (Ex.var 1) Ar.nil))) (Tg.nm 0) (Itb.seq (Ex.var 1)) Cd.no) Ar.nil)) Ar.nil)))) Bl.nil
noncomputable abbrev lU:Stmt:=top 56
noncomputable abbrev GQ:List Str:=["_law_program_here","_law_steps_here","_law_loops_here","_law_deeds","_law_counts_here","_law_table","_law_place","_law_start","_law_parts","_law_some"]
noncomputable abbrev IK:List Str:=["_law_program_here"]
section
variable {Fq0 : Ct} (Cq0 : Cal Ω "_law_at" 1 2 Fq0) {Fq3 : Ct} (Cq3 : Cal Ω "_law_counts" 2 1 Fq3) {Fq13 : Ct} (Cq13 : Cal Ω "_law_spot" 2 3 Fq13)
noncomputable def tK{Fq0:Ct}(Cq0:Cal Ω "_law_at" 1 2 Fq0){Fq3:Ct}(Cq3:Cal Ω "_law_counts" 2 1 Fq3){Fq13:Ct}(Cq13:Cal Ω "_law_spot" 2 3 Fq13):Bl Ω:=
 Bl.cons (Sm.expr (Ex.m_append (Ex.var 1) (Ex.tup (Ar.cons (Ex.call Cq13 (Ar.cons (Ex.var 5) (Ar.cons (Ex.var 6) (Ar.cons (Ex.var 4) Ar.nil)))) (Ar.cons (Ex.call Cq0 (Ar.cons (Ex.var 7) (Ar.cons (Ex.var 4) Ar.nil))) (Ar.cons (Ex.var 9) Ar.nil)))))) Bl.nil
noncomputable def zr:Bl Ω:=
 Bl.cons (Sm.setC 9 ["_law_factor","_law_other","_law_there","_law_counts_here"] [none,none,none,some 4] (Ex.tup (Ar.cons (Ex.var 0) (Ar.cons (Ex.call Cq13 (Ar.cons (Ex.var 1) (Ar.cons (Ex.var 2) (Ar.cons (Ex.var 3) Ar.nil)))) Ar.nil))) (Tg.tup [0,1,2]) (Itb.seq (Ex.var 8)) Cd.no) (tK Cq0 Cq3 Cq13)
noncomputable def Ay{Fq0:Ct}(Cq0:Cal Ω "_law_at" 1 2 Fq0){Fq3:Ct}(Cq3:Cal Ω "_law_counts" 2 1 Fq3){Fq13:Ct}(Cq13:Cal Ω "_law_spot" 2 3 Fq13):Bl Ω:=
 Bl.cons (Sm.ret (Ex.var 1)) Bl.nil
noncomputable def Cq:Bl Ω:=
 Bl.cons (Sm.forL (Tg.tup [2,3]) (Ex.ix (Ex.var 0) (Ex.int 1)) (Bl.cons (Sm.forL (Tg.nm 4) (Ex.call Cq3 (Ar.cons (Ex.var 2) Ar.nil)) (Bl.cons (Sm.forL (Tg.tup [5,6,7,8]) (Ex.var 3) (zr Cq0 Cq3 Cq13)) Bl.nil)) Bl.nil)) (Ay Cq0 Cq3 Cq13)
noncomputable def Hw:Bl Ω:=
 Bl.cons (Sm.set 1 (Ex.own Ar.nil)) (Cq Cq0 Cq3 Cq13)
end
noncomputable abbrev mF:Stmt:=top 57
noncomputable abbrev Ih:List Str:=["_law_pen_here","_law_many","_law_found","_law_t"]
noncomputable abbrev JT:List Str:=["_law_pen_here","_law_many"]
section
variable (B : Bi Ω.mg) {Fq15 : Ct} (Cq15 : Cal Ω "_law_take" 2 2 Fq15)
noncomputable def Bw(B:Bi Ω.mg){Fq15:Ct}(Cq15:Cal Ω "_law_take" 2 2 Fq15):Bl Ω:=
 Bl.cons (Sm.ret (Ex.var 2)) Bl.nil
noncomputable def Cp:Bl Ω:=
 Bl.cons (Sm.for (Tg.nm 3) (Itb.rng1 B.range_ (Ex.var 1)) (Bl.cons (Sm.expr (Ex.m_insert (Ex.var 2) (Ex.call Cq15 (Ar.cons (Ex.var 0) (Ar.cons (Ex.bin .Add (Ex.blt bu B.len_ (Ar.cons (Ex.var 2) Ar.nil)) (Ex.int 1)) Ar.nil))) (Ex.var 3))) Bl.nil)) (Bw B Cq15)
noncomputable def JH:Bl Ω:=
 Bl.cons (Sm.set 2 (Ex.own Ar.nil)) (Cp B Cq15)
end
noncomputable abbrev lO:Stmt:=top 58
noncomputable abbrev Hg:List Str:=["_law_one","_law_other"]
noncomputable abbrev Ha:List Str:=["_law_one","_law_other"]
noncomputable def By:Bl Ω:=
 Bl.cons (Sm.ret (Ex.cmp .In (Ex.ix (Ex.var 1) (Ex.int 0)) (Ex.comp ["_law_factor","_law_spot_here"] [none,none] (Ex.var 1) (Tg.tup [0,1]) (Itb.seq (Ex.ix (Ex.var 0) (Ex.int 2))) Cd.no))) Bl.nil
noncomputable def JV:Bl Ω:=
 Bl.cons (Sm.ite (Te.or (Bt.cons (Te.cmp .Eq (Ex.ix (Ex.var 0) (Ex.int 0)) (Ex.ix (Ex.var 1) (Ex.int 0))) (Bt.one (Te.cmp .In (Ex.ix (Ex.var 0) (Ex.int 0)) (Ex.comp ["_law_factor","_law_spot_here"] [none,none] (Ex.var 1) (Tg.tup [0,1]) (Itb.seq (Ex.ix (Ex.var 1) (Ex.int 2))) Cd.no))))) (Bl.cons (Sm.ret (Ex.bl true)) Bl.nil) Bl.nil) (By)
noncomputable abbrev jM:Stmt:=top 59
noncomputable abbrev Fd:List Str:=["_law_pen_here","_law_steps_here","_law_order_here","_law_left","_law_at_here"]
noncomputable abbrev GC:List Str:=["_law_pen_here","_law_steps_here"]
section
variable (B : Bi Ω.mg) {Fq15 : Ct} (Cq15 : Cal Ω "_law_take" 2 2 Fq15) {Fq16 : Ct} (Cq16 : Cal Ω "_law_touch" 1 2 Fq16)
noncomputable def qX(B:Bi Ω.mg){Fq15:Ct}(Cq15:Cal Ω "_law_take" 2 2 Fq15){Fq16:Ct}(Cq16:Cal Ω "_law_touch" 1 2 Fq16):Bl Ω:=
 Bl.cons (Sm.expr (Ex.m_append (Ex.var 2) (Ex.m_pop (Ex.var 3) (Ex.var 4)))) Bl.nil
noncomputable def qD:Bl Ω:=
 Bl.cons (Sm.while (Te.val (Ex.blt Vn B.any_ (Ar.cons (Ex.comp ["_law_t","_law_steps_here","_law_left","_law_at_here"] [none,some 1,some 3,some 4] (Ex.call Cq16 (Ar.cons (Ex.ix (Ex.var 1) (Ex.var 0)) (Ar.cons (Ex.ix (Ex.var 1) (Ex.ix (Ex.var 2) (Ex.var 3))) Ar.nil))) (Tg.nm 0) (Itb.seq (Ex.sl (Ex.var 3) Po.no (Po.so (Ex.var 4)))) Cd.no) Ar.nil))) (Bl.cons (Sm.set 4 (Ex.call Cq15 (Ar.cons (Ex.var 0) (Ar.cons (Ex.var 4) Ar.nil)))) Bl.nil)) (qX B Cq15 Cq16)
noncomputable def vI:Bl Ω:=
 Bl.cons (Sm.set 4 (Ex.call Cq15 (Ar.cons (Ex.var 0) (Ar.cons (Ex.blt bu B.len_ (Ar.cons (Ex.var 3) Ar.nil)) Ar.nil)))) (qD B Cq15 Cq16)
noncomputable def yd(B:Bi Ω.mg){Fq15:Ct}(Cq15:Cal Ω "_law_take" 2 2 Fq15){Fq16:Ct}(Cq16:Cal Ω "_law_touch" 1 2 Fq16):Bl Ω:=
 Bl.cons (Sm.ret (Ex.var 2)) Bl.nil
noncomputable def yu:Bl Ω:=
 Bl.cons (Sm.while (Te.neV (Ex.var 3) (Ex.lst Ar.nil)) (vI B Cq15 Cq16)) (yd B Cq15 Cq16)
noncomputable def xU:Bl Ω:=
 Bl.cons (Sm.set 3 (Ex.lrng B.range_ B.list_ (Ex.blt bu B.len_ (Ar.cons (Ex.var 1) Ar.nil)))) (yu B Cq15 Cq16)
noncomputable def Fv:Bl Ω:=
 Bl.cons (Sm.set 2 (Ex.own Ar.nil)) (xU B Cq15 Cq16)
end
noncomputable abbrev fW:Stmt:=top 60
noncomputable abbrev v5:List Str:=["_law_order_here","_law_now","_law_found","_law_end","_law_at_here"]
noncomputable abbrev uW:List Str:=["_law_order_here"]
section
variable (B : Bi Ω.mg)
noncomputable def lY(B:Bi Ω.mg):Bl Ω:=
 Bl.cons (Sm.set 4 (Ex.bin .Sub (Ex.var 4) (Ex.int 1))) Bl.nil
noncomputable def lL:Bl Ω:=
 Bl.cons (Sm.set 1 (Ex.bin .Add (Ex.bin .Add (Ex.sl (Ex.var 1) Po.no (Po.so (Ex.bin .Sub (Ex.var 4) (Ex.int 1)))) (Ex.lst (Ar.cons (Ex.ix (Ex.var 1) (Ex.var 4)) (Ar.cons (Ex.ix (Ex.var 1) (Ex.bin .Sub (Ex.var 4) (Ex.int 1))) Ar.nil)))) (Ex.sl (Ex.var 1) (Po.so (Ex.bin .Add (Ex.var 4) (Ex.int 1))) Po.no))) (lY B)
noncomputable def oV:Bl Ω:=
 Bl.cons (Sm.expr (Ex.m_append (Ex.var 2) (Ex.bin .Sub (Ex.var 4) (Ex.int 1)))) (lL B)
noncomputable def lw(B:Bi Ω.mg):Bl Ω:=
 Bl.cons (Sm.while (Te.cmp .Gt (Ex.var 4) (Ex.var 3)) (oV B)) Bl.nil
noncomputable def pL:Bl Ω:=
 Bl.cons (Sm.set 4 (Ex.m_index (Ex.var 1) (Ex.ix (Ex.var 0) (Ex.var 3)))) (lw B)
noncomputable def rF(B:Bi Ω.mg):Bl Ω:=
 Bl.cons (Sm.ret (Ex.var 2)) Bl.nil
noncomputable def rA:Bl Ω:=
 Bl.cons (Sm.for (Tg.nm 3) (Itb.rng1 B.range_ (Ex.blt bu B.len_ (Ar.cons (Ex.var 0) Ar.nil))) (pL B)) (rF B)
noncomputable def qR:Bl Ω:=
 Bl.cons (Sm.set 2 (Ex.own Ar.nil)) (rA B)
noncomputable def vg:Bl Ω:=
 Bl.cons (Sm.set 1 (Ex.lrng B.range_ B.list_ (Ex.blt bu B.len_ (Ar.cons (Ex.var 0) Ar.nil)))) (qR B)
end
noncomputable abbrev sE:Stmt:=top 61
noncomputable abbrev Qh:List Str:=["_law_steps_here","_law_places","_law_order_here","_law_now","_law_place"]
noncomputable abbrev NZ:List Str:=["_law_steps_here","_law_places","_law_order_here"]
section
variable (B : Bi Ω.mg) {Fq16 : Ct} (Cq16 : Cal Ω "_law_touch" 1 2 Fq16)
noncomputable def zF(B:Bi Ω.mg){Fq16:Ct}(Cq16:Cal Ω "_law_touch" 1 2 Fq16):Bl Ω:=
 Bl.cons (Sm.set 3 (Ex.bin .Add (Ex.bin .Add (Ex.sl (Ex.var 3) Po.no (Po.so (Ex.var 4))) (Ex.lst (Ar.cons (Ex.ix (Ex.var 3) (Ex.bin .Add (Ex.var 4) (Ex.int 1))) (Ar.cons (Ex.ix (Ex.var 3) (Ex.var 4)) Ar.nil)))) (Ex.sl (Ex.var 3) (Po.so (Ex.bin .Add (Ex.var 4) (Ex.int 2))) Po.no))) Bl.nil
noncomputable def Gi:Bl Ω:=
 Bl.cons (Sm.ite (Te.or (Bt.cons (Te.not (Te.ch2 (Ex.int 0) .LtE (Ex.var 4) .Lt (Ex.bin .Sub (Ex.blt bu B.len_ (Ar.cons (Ex.var 3) Ar.nil)) (Ex.int 1)))) (Bt.one (Te.val (Ex.call Cq16 (Ar.cons (Ex.ix (Ex.var 0) (Ex.ix (Ex.var 3) (Ex.var 4))) (Ar.cons (Ex.ix (Ex.var 0) (Ex.ix (Ex.var 3) (Ex.bin .Add (Ex.var 4) (Ex.int 1)))) Ar.nil))))))) (Bl.cons (Sm.ret (Ex.bl false)) Bl.nil) Bl.nil) (zF B Cq16)
noncomputable def HX(B:Bi Ω.mg){Fq16:Ct}(Cq16:Cal Ω "_law_touch" 1 2 Fq16):Bl Ω:=
 Bl.cons (Sm.ret (Ex.cmp .Eq (Ex.var 3) (Ex.var 2))) Bl.nil
noncomputable def JB:Bl Ω:=
 Bl.cons (Sm.forL (Tg.nm 4) (Ex.var 1) (Gi B Cq16)) (HX B Cq16)
noncomputable def NQ:Bl Ω:=
 Bl.cons (Sm.set 3 (Ex.lrng B.range_ B.list_ (Ex.blt bu B.len_ (Ar.cons (Ex.var 0) Ar.nil)))) (JB B Cq16)
end
noncomputable abbrev oU:Stmt:=top 62
noncomputable abbrev La:List Str:=["_law_pen_here","_law_places","_law_many","_law_at_here","_law_odd","_law_some"]
noncomputable abbrev K9:List Str:=["_law_pen_here","_law_places","_law_many"]
section
variable (B : Bi Ω.mg) {Fq15 : Ct} (Cq15 : Cal Ω "_law_take" 2 2 Fq15)
noncomputable def Fw(B:Bi Ω.mg){Fq15:Ct}(Cq15:Cal Ω "_law_take" 2 2 Fq15):Bl Ω:=
 Bl.cons (Sm.ret (Ex.ix (Ex.var 5) (Ex.call Cq15 (Ar.cons (Ex.var 0) (Ar.cons (Ex.int 7) Ar.nil))))) Bl.nil
noncomputable def Gm:Bl Ω:=
 Bl.cons (Sm.set 5 (Ex.bin .Add (Ex.var 5) (Ex.lst (Ar.cons (Ex.bin .Add (Ex.rev (Ex.sl (Ex.var 1) Po.no (Po.so (Ex.var 3)))) (Ex.sl (Ex.var 1) (Po.so (Ex.var 3)) Po.no)) (Ar.cons (Ex.bin .Add (Ex.var 1) (Ex.rev (Ex.var 1))) (Ar.cons (Ex.bin .Add (Ex.bin .Add (Ex.sl (Ex.var 1) Po.no (Po.so (Ex.var 3))) (Ex.lst (Ar.cons (Ex.var 4) (Ar.cons (Ex.var 4) Ar.nil)))) (Ex.sl (Ex.var 1) (Po.so (Ex.var 3)) Po.no)) (Ar.cons (Ex.lst Ar.nil) Ar.nil))))))) (Fw B Cq15)
noncomputable def Ge:Bl Ω:=
 Bl.cons (Sm.set 5 (Ex.lst (Ar.cons (Ex.bin .Add (Ex.sl (Ex.var 1) Po.no (Po.so (Ex.var 3))) (Ex.sl (Ex.var 1) (Po.so (Ex.bin .Add (Ex.var 3) (Ex.int 1))) Po.no)) (Ar.cons (Ex.bin .Add (Ex.bin .Add (Ex.sl (Ex.var 1) Po.no (Po.so (Ex.var 3))) (Ex.lst (Ar.cons (Ex.var 4) Ar.nil))) (Ex.sl (Ex.var 1) (Po.so (Ex.var 3)) Po.no)) (Ar.cons (Ex.bin .Add (Ex.sl (Ex.var 1) Po.no (Po.so (Ex.var 3))) (Ex.binL false .Mult (Ex.sl (Ex.var 1) (Po.so (Ex.var 3)) (Po.so (Ex.bin .Add (Ex.var 3) (Ex.int 1)))) (Ex.int 2))) Ar.nil))))) (Gm B Cq15)
noncomputable def Fo:Bl Ω:=
 Bl.cons (Sm.set 4 (Ex.bin .Sub (Ex.call Cq15 (Ar.cons (Ex.var 0) (Ar.cons (Ex.bin .Add (Ex.var 2) (Ex.int 4)) Ar.nil))) (Ex.int 2))) (Ge B Cq15)
noncomputable def J2:Bl Ω:=
 Bl.cons (Sm.set 3 (Ex.call Cq15 (Ar.cons (Ex.var 0) (Ar.cons (Ex.bin .Add (Ex.blt bu B.len_ (Ar.cons (Ex.var 1) Ar.nil)) (Ex.int 1)) Ar.nil)))) (Fo B Cq15)
end
noncomputable abbrev jU:Stmt:=top 63
noncomputable abbrev Sx:List Str:=["_law_script","_law_pen_here","_law_drawn","_law_steps_here","_law_program_here","_law_picked_here","_law_places","_law_k","_law_some","_law_order_here","_law_handed","_law_found"]
noncomputable abbrev M4:List Str:=["_law_script"]
section
variable (B : Bi Ω.mg) {Fq45 : Ct} (Cq45 : Cal Ω "program_of" 10 2 Fq45) {Fq41 : Ct} (Cq41 : Cal Ω "leads" 8 3 Fq41) {Fq10 : Ct} (Cq10 : Cal Ω "_law_pen" 2 2 Fq10) {Fq12 : Ct} (Cq12 : Cal Ω "_law_program" 5 2 Fq12) {Fq14 : Ct} (Cq14 : Cal Ω "_law_steps" 3 1 Fq14) {Fq9 : Ct} (Cq9 : Cal Ω "_law_order" 3 2 Fq9) {Fq11 : Ct} (Cq11 : Cal Ω "_law_picked" 3 2 Fq11) {Fq6 : Ct} (Cq6 : Cal Ω "_law_exchanges" 1 1 Fq6) {Fq5 : Ct} (Cq5 : Cal Ω "_law_due" 2 3 Fq5) {Fq1 : Ct} (Cq1 : Cal Ω "_law_bent" 3 3 Fq1)
noncomputable def Gp(B:Bi Ω.mg){Fq45:Ct}(Cq45:Cal Ω "program_of" 10 2 Fq45){Fq41:Ct}(Cq41:Cal Ω "leads" 8 3 Fq41){Fq10:Ct}(Cq10:Cal Ω "_law_pen" 2 2 Fq10){Fq12:Ct}(Cq12:Cal Ω "_law_program" 5 2 Fq12){Fq14:Ct}(Cq14:Cal Ω "_law_steps" 3 1 Fq14){Fq9:Ct}(Cq9:Cal Ω "_law_order" 3 2 Fq9){Fq11:Ct}(Cq11:Cal Ω "_law_picked" 3 2 Fq11){Fq6:Ct}(Cq6:Cal Ω "_law_exchanges" 1 1 Fq6){Fq5:Ct}(Cq5:Cal Ω "_law_due" 2 3 Fq5){Fq1:Ct}(Cq1:Cal Ω "_law_bent" 3 3 Fq1):Bl Ω:=
 Bl.cons (Sm.ite (Te.or (Bt.cons (Te.not (Te.val (Ex.isi B.isinstance_ (Ex.var 11) .bool B.bool_))) (Bt.cons (Te.cmp .NotEq (Ex.var 11) (Ex.call Cq5 (Ar.cons (Ex.var 3) (Ar.cons (Ex.var 8) (Ar.cons (Ex.var 9) Ar.nil))))) (Bt.one (Te.cmp .NotEq (Ex.var 10) (Ex.tup (Ar.cons (Ex.var 8) (Ar.cons (Ex.var 9) Ar.nil)))))))) (Bl.cons (Sm.ret (Ex.bl false)) Bl.nil) Bl.nil) Bl.nil
noncomputable def Gn:Bl Ω:=
 Bl.cons (Sm.set 11 (Ex.call Cq41 (Ar.cons (Ex.var 4) (Ar.cons (Ex.ix (Ex.var 10) (Ex.int 0)) (Ar.cons (Ex.ix (Ex.var 10) (Ex.int 1)) Ar.nil))))) (Gp B Cq45 Cq41 Cq10 Cq12 Cq14 Cq9 Cq11 Cq6 Cq5 Cq1)
noncomputable def Kf:Bl Ω:=
 Bl.cons (Sm.set 10 (Ex.tup (Ar.cons (Ex.typ v9 B.list_ (Ar.cons (Ex.var 8) Ar.nil)) (Ar.cons (Ex.typ v9 B.list_ (Ar.cons (Ex.var 9) Ar.nil)) Ar.nil)))) (Gn B Cq45 Cq41 Cq10 Cq12 Cq14 Cq9 Cq11 Cq6 Cq5 Cq1)
noncomputable def Fx(B:Bi Ω.mg){Fq45:Ct}(Cq45:Cal Ω "program_of" 10 2 Fq45){Fq41:Ct}(Cq41:Cal Ω "leads" 8 3 Fq41){Fq10:Ct}(Cq10:Cal Ω "_law_pen" 2 2 Fq10){Fq12:Ct}(Cq12:Cal Ω "_law_program" 5 2 Fq12){Fq14:Ct}(Cq14:Cal Ω "_law_steps" 3 1 Fq14){Fq9:Ct}(Cq9:Cal Ω "_law_order" 3 2 Fq9){Fq11:Ct}(Cq11:Cal Ω "_law_picked" 3 2 Fq11){Fq6:Ct}(Cq6:Cal Ω "_law_exchanges" 1 1 Fq6){Fq5:Ct}(Cq5:Cal Ω "_law_due" 2 3 Fq5){Fq1:Ct}(Cq1:Cal Ω "_law_bent" 3 3 Fq1):Bl Ω:=
 Bl.cons (Sm.forL (Tg.nm 9) (Ex.lst (Ar.cons (Ex.var 5) (Ar.cons (Ex.lrng B.range_ B.list_ (Ex.blt bu B.len_ (Ar.cons (Ex.var 3) Ar.nil))) (Ar.cons (Ex.call Cq9 (Ar.cons (Ex.var 1) (Ar.cons (Ex.blt bu B.len_ (Ar.cons (Ex.var 3) Ar.nil)) Ar.nil))) Ar.nil)))) (Kf B Cq45 Cq41 Cq10 Cq12 Cq14 Cq9 Cq11 Cq6 Cq5 Cq1)) Bl.nil
noncomputable def MJ:Bl Ω:=
 Bl.cons (Sm.set 8 (Ex.call Cq1 (Ar.cons (Ex.var 1) (Ar.cons (Ex.var 6) (Ar.cons (Ex.blt bu B.len_ (Ar.cons (Ex.var 3) Ar.nil)) Ar.nil))))) (Fx B Cq45 Cq41 Cq10 Cq12 Cq14 Cq9 Cq11 Cq6 Cq5 Cq1)
noncomputable def Ov(B:Bi Ω.mg){Fq45:Ct}(Cq45:Cal Ω "program_of" 10 2 Fq45){Fq41:Ct}(Cq41:Cal Ω "leads" 8 3 Fq41){Fq10:Ct}(Cq10:Cal Ω "_law_pen" 2 2 Fq10){Fq12:Ct}(Cq12:Cal Ω "_law_program" 5 2 Fq12){Fq14:Ct}(Cq14:Cal Ω "_law_steps" 3 1 Fq14){Fq9:Ct}(Cq9:Cal Ω "_law_order" 3 2 Fq9){Fq11:Ct}(Cq11:Cal Ω "_law_picked" 3 2 Fq11){Fq6:Ct}(Cq6:Cal Ω "_law_exchanges" 1 1 Fq6){Fq5:Ct}(Cq5:Cal Ω "_law_due" 2 3 Fq5){Fq1:Ct}(Cq1:Cal Ω "_law_bent" 3 3 Fq1):Bl Ω:=
 Bl.cons (Sm.ret (Ex.bl true)) Bl.nil
noncomputable def Pq:Bl Ω:=
 Bl.cons (Sm.for (Tg.nm 7) (Itb.rng1 B.range_ (Ex.int 5)) (MJ B Cq45 Cq41 Cq10 Cq12 Cq14 Cq9 Cq11 Cq6 Cq5 Cq1)) (Ov B Cq45 Cq41 Cq10 Cq12 Cq14 Cq9 Cq11 Cq6 Cq5 Cq1)
noncomputable def Pz:Bl Ω:=
 Bl.cons (Sm.ite (Te.cmp .IsNot (Ex.call Cq41 (Ar.cons (Ex.var 4) (Ar.cons (Ex.typ v9 B.list_ (Ar.cons (Ex.var 6) Ar.nil)) (Ar.cons (Ex.typ v9 B.list_ (Ar.cons (Ex.var 5) Ar.nil)) Ar.nil)))) (Ex.bl true)) (Bl.cons (Sm.ret (Ex.bl false)) Bl.nil) Bl.nil) (Pq B Cq45 Cq41 Cq10 Cq12 Cq14 Cq9 Cq11 Cq6 Cq5 Cq1)
noncomputable def Nz:Bl Ω:=
 Bl.cons (Sm.set 6 (Ex.call Cq6 (Ar.cons (Ex.var 5) Ar.nil))) (Pz B Cq45 Cq41 Cq10 Cq12 Cq14 Cq9 Cq11 Cq6 Cq5 Cq1)
noncomputable def Ot:Bl Ω:=
 Bl.cons (Sm.set 5 (Ex.call Cq11 (Ar.cons (Ex.var 1) (Ar.cons (Ex.var 3) Ar.nil)))) (Nz B Cq45 Cq41 Cq10 Cq12 Cq14 Cq9 Cq11 Cq6 Cq5 Cq1)
noncomputable def PL:Bl Ω:=
 Bl.cons (Sm.set 4 (Ex.call Cq45 (Ar.cons (Ex.ix (Ex.var 2) (Ex.int 0)) (Ar.cons (Ex.ix (Ex.var 2) (Ex.int 1)) Ar.nil)))) (Ot B Cq45 Cq41 Cq10 Cq12 Cq14 Cq9 Cq11 Cq6 Cq5 Cq1)
noncomputable def Oc:Bl Ω:=
 Bl.cons (Sm.set 3 (Ex.call Cq14 (Ar.cons (Ex.var 2) Ar.nil))) (PL B Cq45 Cq41 Cq10 Cq12 Cq14 Cq9 Cq11 Cq6 Cq5 Cq1)
noncomputable def Pa:Bl Ω:=
 Bl.cons (Sm.set 2 (Ex.call Cq12 (Ar.cons (Ex.var 1) (Ar.cons (Ex.int 16) Ar.nil)))) (Oc B Cq45 Cq41 Cq10 Cq12 Cq14 Cq9 Cq11 Cq6 Cq5 Cq1)
noncomputable def Ui:Bl Ω:=
 Bl.cons (Sm.set 1 (Ex.call Cq10 (Ar.cons (Ex.var 0) (Ar.cons (Ex.int 1) Ar.nil)))) (Pa B Cq45 Cq41 Cq10 Cq12 Cq14 Cq9 Cq11 Cq6 Cq5 Cq1)
end
end
end K37
local macro_rules | `(tactic| walk_at "n") => `(tactic| ((conv => whnf); repeat (with_reducible first | apply RF.cLt | apply RF.cLe | apply RF.cGt | apply RF.cGe | apply RF.cEqI | apply RF.cNeI | apply RF.cEqB | apply RF.cNeB | apply RF.cIsN | apply RF.cIsB | apply RF.cIsNotB | apply RF.cIsNot); (conv => whnf)))
local macro_rules | `(tactic| walk_at "at") => `(tactic| first | (with_reducible assumption) | exact DL.set_get (by first | (with_reducible assumption) | exact DL.set_get (by with_reducible assumption)))
local macro_rules | `(tactic| walk_at "o") => `(tactic| first | omega | decide | (simp; done) | (simp; omega))
local macro_rules | `(tactic| walk_at "a1") => `(tactic| first
 | refine RF.wM1 (by first | exact .inl ⟨by walk_at "o", by walk_at "o"⟩ | exact .inr ⟨by walk_at "o", by walk_at "o"⟩) ?_
 | refine RF.wM2 ⟨by decide, by decide, by decide⟩ ?_
 | refine RF.wM3 ⟨by omega, by omega⟩ ?_
 | refine RF.wM4 (by omega) ?_
 | ((fail_if_success (with_reducible show (_ /\ ∃ _ : Nat -> List DL.D -> DL.Store -> Prop, _))); refine RF.wM5 (by walk_at "o") ?_)
 | refine RF.wM6 (by walk_at "o") ?_
 | (refine' RF.wM7 ?h1 ?h2 ?h3; (case h1 => walk_at "at"); (case h2 => exact rfl); (try rw [List.set_set]))
 | (refine' RF.wM8 ?h1 ?h2 ?h3; (case h1 => walk_at "at"); (case h2 => exact rfl))
 | refine RF.wM9 rfl ?_)
local macro_rules | `(tactic| walk_at "a") => `(tactic| (walk_at "n"; repeat (walk_at "a1"; walk_at "n")))
local macro_rules | `(tactic| walk_at "b") => `(tactic| (walk_at "n"; repeat ((first | walk_at "a1" | apply RF.bT | apply RF.bF | apply RF.dT | apply RF.dF); walk_at "n")))
namespace K37
open PySem L2 DL RF
variable {cs ws es : List Int} {i d k m t v : Nat} {ds : List D} {W : WD} {l o : List Nat} {S' J : Store}
variable {Ω : Wd} {f : Addr} {fd : FuncData}
noncomputable def whole:D->Bool
 | .int _=>true
 | _=>false
noncomputable def bA(x:D)(a b:Int):Bool:=match x with
 | .tup ds=>decide (a≤(ds.length:Int))&&decide ((ds.length:Int)≤b)
 | _=>false
noncomputable def cH(x:D)(d:Int):Bool:=match x with
 | .tup ds=>decide ((ds.length:Int)=d+1)&&ds.all whole
 | _=>false
noncomputable def gf:Ct:=λ ds S W=>∃x,ds=[x]/\W (.bl (whole x)) S
noncomputable def dM:Ct:=λ ds S W=>∃x a b,ds=[x,.int a,.int b]/\W (.bl (bA x a b)) S
noncomputable def rE:Ct:=λ ds S W=>∃x d,ds=[x,.int d]/\d≤1000/\W (.bl (cH x d)) S
noncomputable def comesTo(f:Int)(fs cs:List Int):Int:=f+(List.zipWith (λ a b=>a*b) fs cs).sum
noncomputable def tu:Ct:=λ ds S W=>∃f fs cs,ds=[.tup (.int f::fs.map .int),.tup (cs.map .int)]/\fs.length≤1000/\(∀c∈cs,-(2 ^ 64)<c/\c<2 ^ 64)/\W (.int (comesTo f fs cs)) S
theorem Jy(ds:List D):(ds.map whole).all id=ds.all whole:=by rw[List.all_map];rfl
theorem Pu{fs:List Int}{d:D}(h:(List.zipWith (λ x y=>D.tup [x,y]) (fs.map D.int) (cs.map D.int))[i]? =some d):∃a b,fs[i]? =some a/\cs[i]? =some b/\d=.tup [.int a,.int b]:=by
 rw[List.getElem?_zipWith,y8,y8]at h
 cases e1:fs[i]? with
 | none=>rw[e1]at h;cases h
 | some a=>
   cases e2:cs[i]? with
   | none=>rw[e1,e2]at h;cases h
   | some b=>rw[e1,e2]at h;cases h;exact⟨a,b,rfl,rfl,rfl⟩
theorem vG(F:Fun Ω.K "is_whole" "is_whole" gV f fd)(B:Bi Ω.mg):Ok Ω 1 f fd yH gf:=by
 refine aA (N:=zg) F (xg B) (by kernel_rfl!) ?_
 rintro ds S W ⟨x,rfl,hw⟩ hl
 walk_at "n"
 refine⟨λ c=>?_,λ c=>?_⟩
 . walk_at "n"
   have e:(!isD .bool x)=whole x:=by cases x<;>first | rfl | exact ff c | exact tf c
   rw[e];exact hw
 . have e:whole x=false:=by cases x<;>first | rfl | exact ff c | exact tf c
   rw[e]at hw;exact hw
theorem pO(F:Fun Ω.K "is_tuple_of" "is_tuple_of" dY f fd)(B:Bi Ω.mg):Ok Ω 1 f fd qp dM:=by
 refine aA (N:=qw) F (qW B) (by kernel_rfl!) ?_
 rintro ds S W ⟨x,a,b,rfl,hw⟩ hl
 walk_at "n"
 cases x with
 | tup ds=>
   refine⟨λ _=>?_,λ c=>tf c⟩
   walk_at "n"
   refine⟨λ c1=>?_,λ c1=>?_⟩
   . have e:bA (.tup ds) a b=false:=by show(decide _&&decide _)=false;rw[c1];rfl
     rw[e]at hw;exact hw
   . walk_at "n"
     have e:bA (.tup ds) a b=decide ((ds.length:Int)≤b):=by show(decide _&&decide _)=_;rw[c1];rfl
     rw[e]at hw;exact hw
 | _=>exact⟨λ c=>ff c,λ _=>hw⟩
theorem xY(F:Fun Ω.K "is_form" "is_form" iQ f fd)(B:Bi Ω.mg)(Cq39:Cal Ω "is_whole" 1 1 gf)(Cq38:Cal Ω "is_tuple_of" 1 3 dM):Ok Ω 2 f fd An rE:=by
 refine aA (N:=Ah) F (Az B Cq39 Cq38) (by kernel_rfl!) ?_
 rintro ds S W ⟨x,d,rfl,hd,hw⟩ hl
 walk_at "n"
 refine⟨rfl,_,_,_,rfl,?_⟩
 refine⟨λ c=>?_,λ c=>?_⟩
 . cases x with
   | tup ds=>
     have hlen:(ds.length:Int)=d+1:=by
      have c':(decide (d+1≤(ds.length:Int))&&decide ((ds.length:Int)≤d+1))=true:=c
      rw[Bool.and_eq_true,decide_eq_true_eq,decide_eq_true_eq]at c'
      omega
     walk_at "n"
     refine jj ⟨by omega,λ i acc S'=>acc=(ds.take i).map (λ d=>.bl (whole d))/\S'=S,⟨rfl,rfl⟩,?_,?_⟩
     . rintro i e acc S' he ⟨rfl,rfl⟩
       walk_at "n"
       refine⟨λ _=>⟨rfl,_,rfl,?_,rfl⟩,λ z=>tf z⟩
       rw[aM he,v3];rfl
     . rintro acc S' ⟨rfl,rfl⟩
       rw[List.take_length]
       refine⟨ds.map whole,by rw[List.map_map];rfl,?_⟩
       have e2:cH (.tup ds) d=(ds.map whole).all id:=by
        show(decide _&&_)=_
        rw[decide_eq_true hlen,Jy];rfl
       rw[e2]at hw;exact hw
   | _=>exact ff c
 . have e:cH x d=false:=by
    cases x with
    | tup ds=>
      have c':(decide (d+1≤(ds.length:Int))&&decide ((ds.length:Int)≤d+1))=false:=c
      show(decide _&&_)=false
      rw[Bool.and_eq_false_iff,decide_eq_false_iff_not,decide_eq_false_iff_not]at c'
      rw[decide_eq_false (by omega)];rfl
    | _=>rfl
   rw[e]at hw;exact hw
theorem vD(F:Fun Ω.K "comes_to" "comes_to" gY f fd)(B:Bi Ω.mg):Ok Ω 1 f fd zR tu:=by
 refine aA (N:=zQ) F (zP B) (by kernel_rfl!) ?_
 rintro ds S W ⟨g,fs,cs,rfl,hfs,hcs,hw⟩ hl
 walk_at "n"
 refine⟨_,zH _ _,?_⟩
 walk_at "n"
 rw[zm]
 refine jj ⟨by rw[List.length_zipWith,y7];omega,λ i acc S'=>acc=((List.zipWith (λ a b=>a*b) fs cs).take i).map D.int/\S'=S,⟨rfl,rfl⟩,?_,?_⟩
 . rintro i e acc S' he ⟨rfl,rfl⟩
   obtain⟨a,b,h1,h2,rfl⟩:=Pu he
   walk_at "n"
   refine⟨rfl,λ _=>⟨.inr (hcs b (y4 h2)),?_,rfl⟩,λ z=>tf z⟩
   have e3:(List.zipWith (λ a b=>a*b) fs cs)[i]? =some (a*b):=by rw[List.getElem?_zipWith,h1,h2]
   rw[aM e3,v3];rfl
 . rintro acc S' ⟨rfl,rfl⟩
   have e:(List.zipWith (λ x y=>D.tup [x,y]) (fs.map D.int) (cs.map D.int)).length=(List.zipWith (λ a b=>a*b) fs cs).length:=by simp
   rw[e,List.take_length]
   exact⟨_,rfl,hw⟩
noncomputable def small:D->Bool
 | .int n=>decide (-2≤n)&&decide (n≤2)
 | _=>false
noncomputable def Ua:List D->Bool
 | .int a::fs=>decide (-9≤a)&&(decide (a≤9)&&fs.all small)
 | _=>false
noncomputable def bW(x:D)(d:Int):Bool:=cH x d&&Ua (match x with | .tup ds=>ds | _=>[])
noncomputable def gr(x:D)(d:Int):Bool:=match x with
 | .tup [a,b]=>bW a d&&bW b d
 | _=>false
noncomputable def d9(x:D):Bool:=match x with
 | .tup ds=>(decide (1≤(ds.length:Int))&&decide ((ds.length:Int)≤3))&&(ds.mapIdx λ i d=>gr d i).all id
 | _=>false
noncomputable def Dm:Ct:=λ ds S W=>∃x d,ds=[x,.int d]/\0≤d/\d≤1000/\W (.bl (bW x d)) S
noncomputable def JX:Ct:=λ ds S W=>∃x d,ds=[x,.int d]/\0≤d/\d≤1000/\W (.bl (gr x d)) S
noncomputable def CW:Ct:=λ ds S W=>∃x,ds=[x]/\W (.bl (d9 x)) S
theorem ints_of:∀{ds:List D},ds.all whole=true->∃ns:List Int,ds=ns.map .int
 | [],_=>⟨[],rfl⟩
 | d::ds,h=>by
   rw[List.all_cons]at h
   obtain⟨h1,h2⟩:=aa h
   obtain⟨ns,rfl⟩:=ints_of h2
   cases d with
   | int i=>exact⟨i::ns,rfl⟩
   | _=>exact ff h1
theorem iC{x:D}{d:Int}(h:cH x d=true)(hd:0≤d):∃a fs,x=.tup (.int a::List.map .int fs)/\(fs.length:Int)=d:=by
 cases x with
 | tup ds=>
   obtain⟨h1,h2⟩:=aa h
   have h1:=of_decide_eq_true h1
   cases ds with
   | nil=>simp at h1;omega
   | cons e es=>
     rw[List.all_cons]at h2
     obtain⟨h2,h3⟩:=aa h2
     have h4:=ints_of h3
     obtain⟨ns,rfl⟩:=h4
     cases e with
     | int a=>exact⟨a,ns,rfl,by simp at h1;omega⟩
     | _=>exact ff h2
 | _=>exact ff h
theorem wX(p:D->Bool)(ds:List D):(ds.map p).all id=ds.all p:=by rw[List.all_map];rfl
theorem uZ (F:Fun Ω.K "is_bound" "is_bound" gW f fd)(B:Bi Ω.mg)(Cq26:Cal Ω "is_form" 2 2 rE):Ok Ω 3 f fd zx Dm:=by
 refine aA (N:=zL) F (yf B Cq26) (by kernel_rfl!) ?_
 rintro ds S W ⟨x,d,rfl,hd0,hd,hw⟩ hl
 walk_at "a"
 refine⟨rfl,_,_,rfl,hd,?_⟩
 walk_at "a"
 cases h:cH x d with
 | false=>
   have e:bW x d=false:=by unfold bW;rw[h];rfl
   rw[e]at hw
   exact⟨λ _=>hw,λ z=>tf z⟩
 | true=>
   refine⟨λ z=>ff z,λ _=>?_⟩
   obtain⟨a,fs,rfl,hf⟩:=iC h hd0
   have e:bW (.tup (.int a::fs.map .int)) d=(decide (-9≤a)&&(decide (a≤9)&&(fs.map D.int).all small)):=by unfold bW;rw[h];rfl
   rw[e]at hw
   walk_at "a"
   refine⟨_,zH _ _,?_⟩
   walk_at "a"
   refine⟨λ h1=>?_,λ h1=>?_⟩
   . have h1:decide (-9≤a)=false:=h1
     rw[h1]at hw
     exact⟨λ z=>ff z,λ _=>hw⟩
   have h1:decide (-9≤a)=true:=h1
   rw[h1,Bool.true_and]at hw
   walk_at "a"
   refine⟨λ h2=>?_,λ h2=>?_⟩
   . rw [h2,Bool.true_and]at hw
     walk_at "a"
     rw[zm]
     refine dq (λ d=>.bl (small d)) (by simp;omega) ?_ ?_
     . intro i e he Q hq
       rw[y8]at he
       cases e1:fs[i]? with
       | none=>rw[e1]at he;cases he
       | some n=>
         rw[e1]at he
         cases he
         walk_at "a"
         refine⟨λ h3=>?_,λ h3=>?_⟩
         . have h3:decide (-2≤n)=false:=h3
           have e:small (.int n)=false:=by show(decide _&&_)=false;rw[h3];rfl
           rw[e]at hq
           exact hq
         . have h3:decide (-2≤n)=true:=h3
           walk_at "a"
           have e:small (.int n)=decide (n≤2):=by show(decide _&&_)=_;rw[h3];rfl
           rw[e]at hq
           exact hq
     . refine⟨(fs.map D.int).map small,by simp only[List.map_map];rfl,?_⟩
       rw[wX];exact hw
   . rw[h2]at hw
     exact hw
theorem zy(F:Fun Ω.K "is_loop" "is_loop" iD f fd)(Cq38:Cal Ω "is_tuple_of" 1 3 dM)(Cq24:Cal Ω "is_bound" 3 2 Dm):Ok Ω 4 f fd Ad JX:=by
 refine aA (N:=BX) F (Am Cq38 Cq24) (by kernel_rfl!) ?_
 rintro ds S W ⟨x,d,rfl,hd0,hd,hw⟩ hl
 walk_at "a"
 refine⟨rfl,_,_,_,rfl,?_⟩
 walk_at "a"
 cases x with
 | tup ds=>
   match ds,hw with
   | [a,b],hw=>
     refine⟨λ _=>?_,λ z=>tf z⟩
     walk_at "a"
     refine⟨rfl,_,_,rfl,hd0,hd,?_⟩
     have e:gr (.tup [a,b]) d=(bW a d&&bW b d):=rfl
     rw[e]at hw
     refine⟨λ h=>?_,λ h=>?_⟩
     . rw[h,Bool.true_and]at hw
       walk_at "a"
       exact⟨rfl,_,_,rfl,hd0,hd,hw⟩
     . rw[h]at hw;exact hw
   | [],hw=>exact⟨λ z=>ff z,λ _=>hw⟩
   | [_],hw=>exact⟨λ z=>ff z,λ _=>hw⟩
   | _::_::_::es,hw=>
     refine⟨λ z=>?_,λ _=>hw⟩
     obtain⟨_,z⟩:=aa z
     have z:=of_decide_eq_true z
     simp at z;omega
 | _=>exact⟨λ z=>ff z,λ _=>hw⟩
theorem vV(F:Fun Ω.K "is_loops" "is_loops" gZ f fd)(B:Bi Ω.mg)(Cq38:Cal Ω "is_tuple_of" 1 3 dM)(Cq27:Cal Ω "is_loop" 4 2 JX):Ok Ω 5 f fd xR CW:=by
 refine aA (N:=yp) F (yr B Cq38 Cq27) (by kernel_rfl!) ?_
 rintro ds S W ⟨x,rfl,hw⟩ hl
 walk_at "a"
 refine⟨rfl,_,_,_,rfl,?_⟩
 walk_at "a"
 cases x with
 | tup ds=>
   have e:d9 (.tup ds)=((decide (1≤(ds.length:Int))&&decide ((ds.length:Int)≤3))&&(ds.mapIdx λ i d=>gr d i).all id):=rfl
   rw[e]at hw
   refine⟨λ h=>?_,λ h=>?_⟩
   . have h:(decide (1≤(ds.length:Int))&&decide ((ds.length:Int)≤3))=true:=h
     rw[h,Bool.true_and]at hw
     have hlen:=of_decide_eq_true (aa h).2
     walk_at "a"
     refine dq (λ p=>match p with | .tup [.int i,d]=>.bl (gr d i) | _=>.non) (by simp;omega) ?_ ?_
     . intro i e he Q hq
       rw[List.getElem?_mapIdx]at he
       cases e1:ds[i]? with
       | none=>rw[e1]at he;cases he
       | some d0=>
         rw[e1]at he
         cases he
         have hi:i<ds.length:=(z0.mp e1).1
         walk_at "a"
         refine⟨rfl,?_⟩
         walk_at "a"
         exact⟨rfl,_,_,rfl,by omega,by omega,hq⟩
     . refine⟨ds.mapIdx λ i d=>gr d i,?_,hw⟩
       apply List.ext_getElem?
       intro i
       simp only[y8,List.getElem?_mapIdx]
       cases ds[i]?<;>rfl
   . have h:(decide (1≤(ds.length:Int))&&decide ((ds.length:Int)≤3))=false:=h
     rw[h]at hw
     exact hw
 | _=>exact⟨λ z=>ff z,λ _=>hw⟩
noncomputable abbrev Fm:=Int×List Int
noncomputable abbrev Lp:=Fm×Fm
noncomputable def dF(f:Fm):D:=.tup (.int f.1::f.2.map .int)
noncomputable def dC(cs:List Int):D:=.tup (cs.map .int)
noncomputable def dL(l:Lp):D:=.tup [dF l.1,dF l.2]
noncomputable def atC(f:Fm)(cs:List Int):Int:=comesTo f.1 f.2 cs
noncomputable def upI(a:Int)(n:Nat):List Int:=(List.range n).map λ(k:Nat)=>a+(k:Int)
noncomputable def bz(lo hi:Fm)(cs:List Int):List (List Int):=(upI (atC lo cs) (atC hi cs-atC lo cs).toNat).map λ c=>cs++[c]
noncomputable def aN(lo hi:Fm)(ahead:List (List Int)):List (List Int):=ahead.flatMap (bz lo hi)
noncomputable def cnt(ls:List Lp):List (List Int):=ls.foldl (λ acc l=>aN l.1 l.2 acc) [[]]
noncomputable def Sm6(ns:List Int):Prop:=ns.length≤10/\∀n∈ns,-1000000≤n/\n≤1000000
noncomputable def SmF(f:Fm):Prop:= -1000000≤f.1/\f.1≤1000000/\Sm6 f.2
theorem uF:∀(fs cs:List Int),(∀n∈fs,-1000000≤n/\n≤1000000)->(∀n∈cs,-1000000≤n/\n≤1000000)-> -(1000000000000*(cs.length:Int))≤(List.zipWith (λ a b=>a*b) fs cs).sum/\(List.zipWith (λ a b=>a*b) fs cs).sum≤1000000000000*(cs.length:Int)
 | [],cs,_,_=>by simp;omega
 | f::fs,[],_,_=>by simp
 | f::fs,c::cs,h1,h2=>by
   have ih:=uF fs cs (λ n hn=>h1 n (x3 _ hn)) (λ n hn=>h2 n (x3 _ hn))
   have hf:=h1 f x5
   have hc:=h2 c x5
   have hp:(f*c).natAbs≤1000000*1000000:=by rw[Int.natAbs_mul];exact Nat.mul_le_mul (by omega) (by omega)
   simp only[List.zipWith_cons_cons,List.sum_cons,List.length_cons]
   omega
theorem ul{f:Fm}(hf:SmF f)(hc:Sm6 cs): -(2 ^ 62)≤atC f cs/\atC f cs<2 ^ 62:=by
 have:=uF f.2 cs hf.2.2.2 hc.2
 have h1:=hf.1
 have h2:=hf.2.1
 have h3:=hc.1
 unfold atC comesTo
 omega
theorem Qa(a:Int)(n:Nat):(upI a n).length=n:=by simp[upI]
theorem Ea{a:Int}{n:Nat}(h:i<n):(upI a n)[i]? =some (a+i):=by simp[upI,h]
theorem cz(lo hi:Fm)(cs:List Int):(bz lo hi cs).length=(atC hi cs-atC lo cs).toNat:=by simp[bz,Qa]
theorem gM{lo hi:Fm}{ahead:List (List Int)}(h:ahead[i]? =some cs):aN lo hi (ahead.take (i+1))=aN lo hi (ahead.take i)++bz lo hi cs:=by
 unfold aN
 rw[aM h,List.flatMap_append];simp
theorem xO{lo hi:Fm}{ahead:List (List Int)}(h:ahead[i]? =some cs):(aN lo hi (ahead.take i)).length+(bz lo hi cs).length≤(aN lo hi ahead).length:=by
 have e:aN lo hi ahead=aN lo hi (ahead.take (i+1))++aN lo hi (ahead.drop (i+1)):=by
  unfold aN
  rw[←List.flatMap_append,List.take_append_drop]
 rw[e,gM h,x6,x6];omega
theorem lV(xs:List (List Int)):ak (xs.map dC)=true:=by
 induction xs with
 | nil=>rfl
 | cons x xs ih=>
   simp only[List.map_cons,ak,ih,Bool.and_true]
   show ak (x.map D.int)=true
   induction x with
   | nil=>rfl
   | cons y ys ih=>simp only[List.map_cons,ak,ih,Bool.and_true];rfl
noncomputable def zj:Ct:=λ ds S W=>∃ahead lo hi,ds=[.lst (List.map dC ahead),dF lo,dF hi]/\SmF lo/\SmF hi/\(∀cs∈ahead,Sm6 cs)/\ahead.length≤1000000/\(aN lo hi ahead).length≤1000000/\flat S/\hand W ((aN lo hi ahead).map dC) S
theorem jx(F:Fun Ω.K "with_next_count" "with_next_count" cN f fd)(B:Bi Ω.mg)(Cq20:Cal Ω "comes_to" 1 2 tu):Ok Ω 2 f fd kI zj:=by
 refine aA (N:=j9) F (Bl.frz (kh B Cq20)) (by kernel_rfl!) ?_
 rintro ds S W ⟨ahead,lo,hi,rfl,hlo,hhi,hah,hz0,hz,hS,hw⟩ hl
 walk_at "b"
 refine aR ⟨λ i Γ' S'=>(∃o4 o5,Γ'=[some (.lst (ahead.map dC)),some (dF lo),some (dF hi),some (.loc S.length),o4,o5])/\S'=S++[(aN lo hi (ahead.take i)).map dC],⟨⟨_,_,rfl⟩,rfl⟩,?_,?_⟩
 . rintro i e Γ' S' he ⟨⟨o4,o5,rfl⟩,rfl⟩
   rw[y8]at he
   cases e1:ahead[i]? with
   | none=>rw[e1]at he;cases he
   | some cs=>
     rw[e1]at he
     cases he
     have hcs:=hah cs (y4 e1)
     have b1:=ul hlo hcs
     have b2:=ul hhi hcs
     have h64:∀c∈cs,-(2 ^ 64)<c/\c<2 ^ 64:=λ c hc=>by have:=hcs.2 c hc;omega
     walk_at "b"
     refine⟨rfl,lo.1,lo.2,cs,rfl,by have:=hlo.2.2.1;omega,h64,?_⟩
     walk_at "b"
     refine⟨rfl,hi.1,hi.2,cs,rfl,by have:=hhi.2.2.1;omega,h64,?_⟩
     walk_at "b"
     refine⟨⟨b1.1,b1.2,b2.1,b2.2⟩,aR ⟨λ j Γ' S'=>(∃o5,Γ'=[some (.lst (ahead.map dC)),some (dF lo),some (dF hi),some (.loc S.length),some (dC cs),o5])/\S'=S++[(aN lo hi (ahead.take i)++(bz lo hi cs).take j).map dC],⟨⟨_,rfl⟩,by simp⟩,?_,?_⟩⟩
     . rintro j e Γ' S' he ⟨⟨o5,rfl⟩,rfl⟩
       obtain⟨hj,rfl⟩:=bC he
       have hj':j<(bz lo hi cs).length:=by rw[cz];exact hj
       have lf:=xO (lo:=lo) (hi:=hi) e1
       walk_at "b"
       refine⟨by simp;have:=hcs.1;omega,_,b8 _ _,by simp;omega,?_⟩
       refine⟨⟨_,rfl⟩,?_⟩
       rw[cB]
       have e3:(bz lo hi cs)[j]? =some (cs++[atC lo cs+(j:Int)]):=by
        unfold bz
        rw[y8,Ea (by rw[cz]at hj';exact hj')];rfl
       have e4:dC (cs++[atC lo cs+(j:Int)])=D.tup (cs.map D.int++[D.int (comesTo lo.1 lo.2 cs+(j:Int))]):=by
        unfold dC;rw[v3];rfl
       rw[aM e3,←List.append_assoc,v3 (l₂:=[_]),List.map_singleton,e4]
     . rintro Γ' S' ⟨⟨o5,rfl⟩,rfl⟩
       refine⟨⟨_,_,rfl⟩,?_⟩
       have e5:(bz lo hi cs).take (DL.upTo (comesTo lo.1 lo.2 cs) (comesTo hi.1 hi.2 cs-comesTo lo.1 lo.2 cs).toNat).length=bz lo hi cs:=by
        rw[au];exact List.take_of_length_le (by rw[cz];exact y9 _)
       rw[e5,gM e1]
 . rintro Γ' S' ⟨⟨o4,o5,rfl⟩,rfl⟩
   rw[y7,List.take_length]
   exact pU hw (lV _) hS
noncomputable def Fits(ls:List Lp):Prop:=(∀l∈ls,SmF l.1/\SmF l.2)/\∀i,i≤ls.length->(cnt (ls.take i)).length≤1000000/\∀cs∈cnt (ls.take i),Sm6 cs
noncomputable def pX:Ct:=λ ds S W=>∃ls,ds=[.tup (List.map dL ls)]/\1≤ls.length/\Fits ls/\flat S/\hand W ((cnt ls).map dC) S
theorem jr{ls:List Lp}{l:Lp}(h:ls[i]? =some l):cnt (ls.take (i+1))=aN l.1 l.2 (cnt (ls.take i)):=by
 unfold cnt
 rw[aM h,List.foldl_append];rfl
theorem ug(F:Fun Ω.K "counts_of" "counts_of" fU f fd)(Cq50:Cal Ω "with_next_count" 2 3 zj):Ok Ω 3 f fd vH pX:=by
 refine aA (N:=vP) F (Bl.frz (vA Cq50)) (by kernel_rfl!) ?_
 rintro ds S W ⟨ls,rfl,hn,hf,hS,hw⟩ hl
 walk_at "b"
 have turn:∀(i:Nat)(e:D),(ls.map dL)[i]? =some e->∃l,ls[i]? =some l/\e=dL l:=λ i e he=>by
  rw[y8]at he
  cases e1:ls[i]? with
  | none=>rw[e1]at he;cases he
  | some l=>rw[e1]at he;cases he;exact⟨l,rfl,rfl⟩
 have step:∀(i:Nat)(l:Lp)(W:WD),ls[i]? =some l->hand W ((cnt (ls.take (i+1))).map dC) S->zj [.lst ((cnt (ls.take i)).map dC),dF l.1,dF l.2] S W:=λ i l W h w=>by
  have hi:=(z0.mp h).1
  obtain⟨a,b⟩:=hf.1 l (y4 h)
  obtain⟨c,d⟩:=hf.2 i (by omega)
  obtain⟨c',d'⟩:=hf.2 (i+1) (by omega)
  rw[jr h]at c' w
  exact⟨_,_,_,rfl,a,b,d,c,c',hS,w⟩
 rcases hw with hw | hw
 . refine aR ⟨λ i Γ' S'=>(∃o2 o3,Γ'=[some (.tup (ls.map dL)),some (.lst ((cnt (ls.take i)).map dC)),o2,o3])/\S'=S,⟨⟨_,_,rfl⟩,rfl⟩,?_,?_⟩
   . rintro i e Γ' S' he ⟨⟨o2,o3,rfl⟩,rfl⟩
     obtain⟨l,hl',rfl⟩:=turn i e he
     walk_at "b"
     refine⟨rfl,?_⟩
     walk_at "n"
     exact⟨rfl,step i l _ hl' (.inl ⟨⟨_,_,rfl⟩,rfl⟩)⟩
   . rintro Γ' S' ⟨⟨o2,o3,rfl⟩,rfl⟩
     rw[y7,List.take_length]
     exact .inl hw
 . refine aR ⟨λ i Γ' S'=>(i<ls.length/\(∃o2 o3,Γ'=[some (.tup (ls.map dL)),some (.lst ((cnt (ls.take i)).map dC)),o2,o3])/\S'=S)∨(i=ls.length/\(∃o2 o3,Γ'=[some (.tup (ls.map dL)),some (.loc S.length),o2,o3])/\S'=S++[(cnt ls).map dC]),.inl ⟨by omega,⟨_,_,rfl⟩,rfl⟩,?_,?_⟩
   . rintro i e Γ' S' he q
     obtain⟨l,hl',rfl⟩:=turn i e he
     have hi:=(z0.mp hl').1
     rcases q with⟨_,⟨o2,o3,rfl⟩,rfl⟩ | ⟨q,_⟩
     . walk_at "b"
       refine⟨rfl,?_⟩
       walk_at "n"
       by_cases hlast:i+1=ls.length
       . refine⟨rfl,step i l _ hl' (.inr (.inr ⟨hlast,⟨_,_,rfl⟩,?_⟩))⟩
         rw[hlast,List.take_length]
       . exact⟨rfl,step i l _ hl' (.inl (.inl ⟨by omega,⟨_,_,rfl⟩,rfl⟩))⟩
     . omega
   . rintro Γ' S' q
     rw[y7]at q
     rcases q with⟨q,_⟩ | ⟨_,⟨o2,o3,rfl⟩,rfl⟩
     . omega
     . exact .inl hw
noncomputable def BdF(f:Fm)(k:Nat):Prop:=f.2.length=k/\ -9≤f.1/\f.1≤9/\∀n∈f.2,-2≤n/\n≤2
theorem Ew{g a m:Int}(hg: -2≤g/\g≤2)(ha: -m≤a/\a≤m): -(2*m)≤g*a/\g*a≤2*m:=by
 have:g= -2∨g= -1∨g=0∨g=1∨g=2:=by omega
 rcases this with rfl | rfl | rfl | rfl | rfl<;>omega
noncomputable def bnd:Nat->Int
 | 0=>0
 | 1=>9
 | 2=>27
 | _=>117
noncomputable def Cs(i:Nat)(cs:List Int):Prop:=cs.length=i/\∀c∈cs,-(bnd i)≤c/\c≤bnd i
theorem jl{f:Fm}(hi:i≤2)(hf:BdF f i)(hc:Cs i cs): -(bnd (i+1))≤atC f cs/\atC f cs≤bnd (i+1):=by
 obtain⟨a,fs⟩:=f
 obtain⟨h1,h2,h3,h4⟩:=hf
 obtain⟨c1,c2⟩:=hc
 dsimp only at h1 h2 h3 h4
 unfold atC comesTo
 have:i=0∨i=1∨i=2:=by omega
 rcases this with rfl | rfl | rfl
 . match fs,cs,h1,c1 with
   | [],[],_,_=>simp[bnd];omega
 . match fs,cs,h1,c1 with
   | [g],[x],_,_=>
     have:=Ew (h4 g (by simp)) (c2 x (by simp))
     simp[bnd]at this ⊢;omega
 . match fs,cs,h1,c1 with
   | [g,g'],[x,x'],_,_=>
     have t1:=Ew (h4 g (by simp)) (c2 x (by simp))
     have t2:=Ew (h4 g' (by simp)) (c2 x' (by simp))
     simp[bnd]at t1 t2 ⊢;omega
theorem Qz:bnd i≤bnd (i+1):=by
 match i with
 | 0=>decide
 | 1=>decide
 | 2=>decide
 | i+3=>exact Int.le_refl _
theorem xH(i:Nat):bnd i≤117:=by
 match i with
 | 0=>decide
 | 1=>decide
 | 2=>decide
 | i+3=>exact Int.le_refl _
theorem Qi{lo hi:Fm}{ds:List Int}(hi2:i≤2)(hlo:BdF lo i)(hhi:BdF hi i)(hc:Cs i cs)(h:ds∈bz lo hi cs):Cs (i+1) ds:=by
 unfold bz at h
 obtain⟨c,hc',rfl⟩:=List.mem_map.mp h
 unfold upI at hc'
 obtain⟨k,hk,rfl⟩:=List.mem_map.mp hc'
 have hk:=List.mem_range.mp hk
 have b1:=jl hi2 hlo hc
 have b2:=jl hi2 hhi hc
 refine⟨by simp[hc.1],λ c h=>?_⟩
 rcases List.mem_append.mp h with h | h
 . have:=hc.2 c h
   have:=Qz (i:=i)
   omega
 . have:c=atC lo cs+(k:Int):=by simpa using h
   omega
noncomputable def Lps(ls:List Lp):Prop:=1≤ls.length/\ls.length≤3/\∀(i:Nat)(l:Lp),ls[i]? =some l->BdF l.1 i/\BdF l.2 i
theorem mj{ls:List Lp}(h:Lps ls):∀i,i≤ls.length->∀cs∈cnt (ls.take i),Cs i cs
 | 0,_,cs,hc=>by
   have:cs=[]:=by simpa[cnt]using hc
   subst this
   exact⟨rfl,λ c hc=>by simp at hc⟩
 | i+1,hi,cs,hc=>by
   have hl:=y3 (l:=ls) (i:=i) (by omega)
   rw[jr hl]at hc
   obtain⟨ds,hd,hc⟩:=List.mem_flatMap.mp hc
   have:=h.2.2 i _ hl
   have h3:=h.2.1
   exact Qi (by omega) this.1 this.2 (mj h i (by omega) ds hd) hc
noncomputable def Gd:Nat->Nat
 | 0=>1
 | 1=>18
 | 2=>972
 | _=>227448
theorem qb{lo hi:Fm}{m:Nat}:∀{ahead:List (List Int)},(∀cs∈ahead,(bz lo hi cs).length≤m)->(aN lo hi ahead).length≤ahead.length*m
 | [],_=>by simp[aN]
 | a::as,h=>by
   have ih:=qb (ahead:=as) λ cs hc=>h cs (x3 _ hc)
   have:=h a x5
   unfold aN at ih ⊢
   rw[List.flatMap_cons,x6,List.length_cons,Nat.succ_mul]
   omega
theorem De{ls:List Lp}(h:Lps ls):∀i,i≤ls.length->(cnt (ls.take i)).length≤Gd i
 | 0,_=>by simp[cnt,Gd]
 | i+1,hi=>by
   have hl:=y3 (l:=ls) (i:=i) (by omega)
   have ih:=De h i (by omega)
   have h3:=h.2.1
   have hb:=h.2.2 i _ hl
   rw[jr hl]
   have hm:∀cs∈cnt (ls.take i),(bz ls[i].1 ls[i].2 cs).length≤(2*bnd (i+1)).toNat:=λ cs hc=>by
    have c:=mj h i (by omega) cs hc
    have b1:=jl (by omega) hb.1 c
    have b2:=jl (by omega) hb.2 c
    rw[cz];omega
   have:=qb hm
   have:i=0∨i=1∨i=2:=by omega
   rcases this with rfl | rfl | rfl<;>simp[bnd,Gd]at* <;>omega
theorem Lps.fits{ls:List Lp}(h:Lps ls):Fits ls:=by
 refine⟨λ l hl=>?_,λ i hi=>⟨?_,λ cs hc=>?_⟩⟩
 . obtain⟨i,hi⟩:=List.getElem?_of_mem hl
   have hl':=(z0.mp hi).1
   have h3:=h.2.1
   obtain⟨⟨a1,a2,a3,a4⟩,b1,b2,b3,b4⟩:=h.2.2 i l hi
   exact⟨⟨by omega,by omega,by omega,λ n hn=>by have:=a4 n hn;omega⟩,by omega,by omega,by omega,λ n hn=>by have:=b4 n hn;omega⟩
 . have:=De h i hi
   have h3:=h.2.1
   have:i=0∨i=1∨i=2∨i=3:=by omega
   rcases this with rfl | rfl | rfl | rfl<;>simp only[Gd]at* <;>omega
 . have c:=mj h i hi cs hc
   have h3:=h.2.1
   exact⟨by have:=c.1;omega,λ n hn=>by have:=c.2 n hn;have:=xH i;omega⟩
noncomputable def jT(a b:Int):D->Bool
 | .int n=>decide (a≤n)&&decide (n≤b)
 | _=>false
noncomputable def pB(n:Int):Bool:=decide ((if n<0 then-n else n)<10 ^ Int.toNat 30)
noncomputable def tZ:D->Bool
 | .int n=>pB n
 | _=>false
noncomputable def parts:D->List D
 | .tup ds=>ds
 | _=>[]
noncomputable def g8(x:D):Bool:=bA x 1 3&&(parts x).all (jT 1 2)
noncomputable def isPlace(d:Int)(x:D):Bool:=cH x d&&(parts x).all (jT (-99) 99)
noncomputable def isStart(x:D)(d:Int):Bool:=cH x d&&(parts x).all tZ
noncomputable def iH(t p:D)(ws:List Int)(d:Int):Bool:=match t with
 | .int n=>(decide (0≤n)&&decide (n<(ws.length:Int)))&&(bA p (ws.getD n.toNat 0) (ws.getD n.toNat 0)&&(parts p).all (isPlace d))
 | _=>false
noncomputable def jf(ws:List Int)(d:Int)(x:D):Bool:=match x with
 | .tup [f,t,p]=>tZ f&&iH t p ws d
 | _=>false
noncomputable def mV(x:D)(ws:List Int)(d:Int):Bool:=bA x 0 3&&(parts x).all (jf ws d)
noncomputable def dX(ws:List Int)(d:Int)(x:D):Bool:=match x with
 | .tup [t,p,s,r]=>iH t p ws d&&(isStart s d&&mV r ws d)
 | _=>false
noncomputable def gH(ws:List Int)(x:D):Bool:=match x with
 | .tup [l,ds]=>d9 l&&(bA ds 1 4&&(parts ds).all (dX ws ((parts l).length:Int)))
 | _=>false
noncomputable def m6(x:D)(ws:List Int):Bool:=bA x 1 3&&(parts x).all (gH ws)
noncomputable def Fl:Ct:=λ ds S W=>∃n,ds=[.int n]/\W (.bl (pB n)) S
noncomputable def wD:Ct:=λ ds S W=>∃x,ds=[x]/\W (.bl (g8 x)) S
noncomputable def zY:Ct:=λ ds S W=>∃x d,ds=[x,.int d]/\0≤d/\d≤1000/\W (.bl (isPlace d x)) S
noncomputable def Dc:Ct:=λ ds S W=>∃x d,ds=[x,.int d]/\0≤d/\d≤1000/\W (.bl (isStart x d)) S
noncomputable def Ws(ws:List Int):Prop:=ws.length≤3/\∀w∈ws,1≤w/\w≤2
noncomputable def MF:Ct:=λ ds S W=>∃t p ws d,ds=[t,p,.tup (List.map .int ws),.int d]/\Ws ws/\0≤d/\d≤1000/\W (.bl (iH t p ws d)) S
noncomputable def Ib:Ct:=λ ds S W=>∃x ws d,ds=[x,.tup (List.map .int ws),.int d]/\Ws ws/\0≤d/\d≤1000/\W (.bl (jf ws d x)) S
noncomputable def Du:Ct:=λ ds S W=>∃x ws d,ds=[x,.tup (List.map .int ws),.int d]/\Ws ws/\0≤d/\d≤1000/\W (.bl (mV x ws d)) S
noncomputable def JG:Ct:=λ ds S W=>∃x ws d,ds=[x,.tup (List.map .int ws),.int d]/\Ws ws/\0≤d/\d≤1000/\W (.bl (dX ws d x)) S
noncomputable def Ht:Ct:=λ ds S W=>∃x ws,ds=[x,.tup (List.map .int ws)]/\Ws ws/\W (.bl (gH ws x)) S
noncomputable def DG:Ct:=λ ds S W=>∃x ws,ds=[x,.tup (List.map .int ws)]/\Ws ws/\W (.bl (m6 x ws)) S
theorem cT{p:D->Bool}{S:Store}(w:W (.bl (ds.all p)) S):fX.wp [.lst (ds.map λ d=>.bl (p d))] S W:=
 ⟨ds.map p,by rw[List.map_map];rfl,by rw[wX];exact w⟩
theorem uv{a b:Int}(h:bA (.tup ds) a b=true):a≤(ds.length:Int)/\(ds.length:Int)≤b:=by
 obtain⟨h1,h2⟩:=aa h
 exact⟨of_decide_eq_true h1,of_decide_eq_true h2⟩
theorem cu{x:D}{a b:Int}(h:bA x a b=true):∃ds,x=.tup ds/\a≤(ds.length:Int)/\(ds.length:Int)≤b:=by
 cases x with
 | tup ds=>exact⟨ds,rfl,uv h⟩
 | _=>exact ff h
theorem nj{a b n:Int}{Q:WD}{S:Store}(hq:Q (.bl (jT a b (.int n))) S):(decide (a≤n)=false->Q (.bl false) S)/\(decide (a≤n)=true->Q (.bl (decide (n≤b))) S):=by
 have e:jT a b (.int n)=(decide (a≤n)&&decide (n≤b)):=rfl
 rw[e]at hq
 exact⟨λ h=>by rw[h]at hq;exact hq,λ h=>by rw[h]at hq;exact hq⟩
theorem jy(F:Fun Ω.K "has_few_figures" "has_few_figures" cM f fd)(B:Bi Ω.mg):Ok Ω 1 f fd kJ Fl:=by
 refine aA (N:=km) F (kE B) (by kernel_rfl!) ?_
 rintro ds S W ⟨n,rfl,hw⟩ hl
 walk_at "b"
 exact hw
theorem sU(F:Fun Ω.K "is_widths" "is_widths" fV f fd)(B:Bi Ω.mg)(Cq39:Cal Ω "is_whole" 1 1 gf)(Cq38:Cal Ω "is_tuple_of" 1 3 dM):Ok Ω 2 f fd vC wD:=by
 refine aA (N:=vh) F (vf B Cq39 Cq38) (by kernel_rfl!) ?_
 rintro ds S W ⟨x,rfl,hw⟩ hl
 walk_at "b"
 refine⟨rfl,_,_,_,rfl,?_⟩
 walk_at "b"
 unfold g8 at hw
 refine⟨λ h=>?_,λ h=>by rw[h]at hw;exact hw⟩
 rw[h]at hw
 obtain⟨ds,rfl,l1,l2⟩:=cu h
 walk_at "b"
 refine dq (λ d=>.bl (jT 1 2 d)) (by omega) ?_ (cT hw)
 intro i e he Q hq
 walk_at "b"
 refine⟨rfl,_,rfl,?_⟩
 cases e with
 | int n=>
   walk_at "b"
   refine⟨(nj hq).1,λ h=>?_⟩
   walk_at "b"
   exact(nj hq).2 h
 | _=>walk_at "b";exact hq
theorem lM(F:Fun Ω.K "is_place_form" "is_place_form" dh f fd)(B:Bi Ω.mg)(Cq26:Cal Ω "is_form" 2 2 rE):Ok Ω 3 f fd nP zY:=by
 refine aA (N:=nF) F (nT B Cq26) (by kernel_rfl!) ?_
 rintro ds S W ⟨x,d,rfl,hd0,hd,hw⟩ hl
 walk_at "b"
 refine⟨rfl,_,_,rfl,hd,?_⟩
 walk_at "b"
 unfold isPlace at hw
 refine⟨λ h=>?_,λ h=>by rw[h]at hw;exact hw⟩
 rw[h]at hw
 obtain⟨a,fs,rfl,hf⟩:=iC h hd0
 walk_at "b"
 refine dq (λ d=>.bl (jT (-99) 99 d)) (by simp;omega) ?_ (cT hw)
 intro i e he Q hq
 have:∃n,e=.int n:=by
  have:=y4 he
  rcases List.mem_cons.mp this with rfl | h
  . exact⟨_,rfl⟩
  . obtain⟨n,_,rfl⟩:=List.mem_map.mp h
    exact⟨n,rfl⟩
 obtain⟨n,rfl⟩:=this
 walk_at "b"
 refine⟨(nj hq).1,λ h=>?_⟩
 walk_at "b"
 exact(nj hq).2 h
theorem uV(F:Fun Ω.K "is_start" "is_start" ie f fd)(B:Bi Ω.mg)(Cq26:Cal Ω "is_form" 2 2 rE)(Cq23:Cal Ω "has_few_figures" 1 1 Fl):Ok Ω 3 f fd yc Dc:=by
 refine aA (N:=zV) F (z7 B Cq26 Cq23) (by kernel_rfl!) ?_
 rintro ds S W ⟨x,d,rfl,hd0,hd,hw⟩ hl
 walk_at "b"
 refine⟨rfl,_,_,rfl,hd,?_⟩
 walk_at "b"
 unfold isStart at hw
 refine⟨λ h=>?_,λ h=>by rw[h]at hw;exact hw⟩
 rw[h]at hw
 obtain⟨a,fs,rfl,hf⟩:=iC h hd0
 walk_at "b"
 refine dq (λ d=>.bl (tZ d)) (by simp;omega) ?_ (cT hw)
 intro i e he Q hq
 have:∃n,e=.int n:=by
  have:=y4 he
  rcases List.mem_cons.mp this with rfl | h
  . exact⟨_,rfl⟩
  . obtain⟨n,_,rfl⟩:=List.mem_map.mp h
    exact⟨n,rfl⟩
 obtain⟨n,rfl⟩:=this
 walk_at "b"
 exact⟨rfl,_,rfl,hq⟩
theorem gD(F:Fun Ω.K "is_table_with_place" "is_table_with_place" bR f fd)(B:Bi Ω.mg)(Cq39:Cal Ω "is_whole" 1 1 gf)(Cq38:Cal Ω "is_tuple_of" 1 3 dM)(Cq32:Cal Ω "is_place_form" 3 2 zY):Ok Ω 4 f fd il MF:=by
 refine aA (N:=ig) F (ir B Cq39 Cq38 Cq32) (by kernel_rfl!) ?_
 rintro ds S W ⟨t,p,ws,d,rfl,hws,hd0,hd,hw⟩ hl
 walk_at "b"
 refine⟨rfl,_,rfl,?_⟩
 cases t with
 | int n=>
   have e:iH (.int n) p ws d=((decide (0≤n)&&decide (n<(ws.length:Int)))&&(bA p (ws.getD n.toNat 0) (ws.getD n.toNat 0)&&(parts p).all (isPlace d))):=rfl
   rw[e]at hw
   have hl3:((ws.map D.int).length:Int)=(ws.length:Int):=by rw[y7]
   walk_at "b"
   refine⟨λ h=>?_,λ h=>?_⟩
   . rw[h]at hw
     walk_at "b"
     exact hw
   rw[h,Bool.true_and]at hw
   walk_at "b"
   rw[hl3]
   refine⟨λ h2=>?_,λ h2=>?_⟩
   . have h2:decide (n<(ws.length:Int))=false:=nt h2
     rw[h2]at hw
     walk_at "b"
     exact hw
   have h2:decide (n<(ws.length:Int))=true:=by
    cases q:decide (n<(ws.length:Int))with
    | true=>rfl
    | false=>rw[q]at h2;exact tf h2
   rw[h2,Bool.true_and]at hw
   have h0:=of_decide_eq_true h
   have h1:=of_decide_eq_true h2
   have hk:n.toNat<ws.length:=by omega
   have ew:ws.getD n.toNat 0=ws[n.toNat]:=by simp[List.getD,hk]
   have at1:atI (ws.map D.int) n=some (.int (ws.getD n.toNat 0)):=by
    have:=aP (xs:=ws.map D.int) (j:=n.toNat) (v:=.int ws[n.toNat]) (by rw[y8,y3 hk];rfl)
    rw[Int.toNat_of_nonneg h0]at this
    rw[ew];exact this
   have hw12:=hws.2 _ (List.getElem_mem hk)
   rw[←ew]at hw12
   generalize ws.getD n.toNat 0=w at at1 hw hw12
   walk_at "b"
   refine⟨_,at1,?_⟩
   walk_at "b"
   refine⟨_,at1,?_⟩
   walk_at "b"
   refine⟨rfl,_,_,_,rfl,?_⟩
   walk_at "b"
   refine⟨λ h3=>?_,λ h3=>by rw[h3]at hw;exact hw⟩
   rw[h3]at hw
   obtain⟨ds,rfl,l1,l2⟩:=cu h3
   walk_at "b"
   refine dq (λ x=>.bl (isPlace d x)) (by omega) ?_ (cT hw)
   intro i e he Q hq
   walk_at "b"
   exact⟨rfl,_,_,rfl,hd0,hd,hq⟩
 | _=>walk_at "b";exact hw
theorem zu(F:Fun Ω.K "is_read" "is_read" iJ f fd)(Cq39:Cal Ω "is_whole" 1 1 gf)(Cq38:Cal Ω "is_tuple_of" 1 3 dM)(Cq23:Cal Ω "has_few_figures" 1 1 Fl)(Cq37:Cal Ω "is_table_with_place" 4 4 MF):Ok Ω 5 f fd BJ Ib:=by
 refine aA (N:=BL) F (Bb Cq39 Cq38 Cq23 Cq37) (by kernel_rfl!) ?_
 rintro ds S W ⟨x,ws,d,rfl,hws,hd0,hd,hw⟩ hl
 walk_at "b"
 refine⟨rfl,_,_,_,rfl,?_⟩
 cases h:bA x 3 3 with
 | false=>
   have e:jf ws d x=false:=by
    cases x with
    | tup ds=>
      match ds,h with
      | [a,b,c],h=>exact tf h
      | [],_=>rfl
      | [_],_=>rfl
      | [_,_],_=>rfl
      | _::_::_::_::_,_=>rfl
    | _=>rfl
   rw[e]at hw
   walk_at "b"
   exact hw
 | true=>
   obtain⟨ds,rfl,l1,l2⟩:=cu h
   match ds,l1,l2,hw with
   | [f, t,p],_,_,hw=>
     walk_at "b"
     refine⟨rfl,_,rfl,?_⟩
     have e:jf ws d (.tup [f,t,p])=(tZ f&&iH t p ws d):=rfl
     rw[e]at hw
     cases f with
     | int n=>
       walk_at "b"
       refine⟨rfl,_,rfl,?_⟩
       have e:tZ (.int n)=pB n:=rfl
       rw[e]at hw
       cases h2:pB n with
       | true=>
         rw[h2]at hw
         walk_at "b"
         exact⟨rfl,_,_,_,_,rfl,hws,hd0,hd,hw⟩
       | false=>
         rw[h2]at hw
         walk_at "b"
         exact hw
     | _=>walk_at "b";exact hw
   | [],l1,_,_=>simp at l1
   | [_],l1,_,_=>simp at l1
   | [_,_],l1,_,_=>simp at l1
   | _::_::_::_::es,_,l2,_=>simp at l2;omega
theorem vp(F:Fun Ω.K "is_reads" "is_reads" gO f fd)(B:Bi Ω.mg)(Cq38:Cal Ω "is_tuple_of" 1 3 dM)(Cq33:Cal Ω "is_read" 5 3 Ib):Ok Ω 6 f fd zJ Du:=by
 refine aA (N:=xX) F (xx B Cq38 Cq33) (by kernel_rfl!) ?_
 rintro ds S W ⟨x,ws,d,rfl,hws,hd0,hd,hw⟩ hl
 walk_at "b"
 refine⟨rfl,_,_,_,rfl,?_⟩
 walk_at "b"
 unfold mV at hw
 refine⟨λ h=>?_,λ h=>by rw[h]at hw;exact hw⟩
 rw[h]at hw
 obtain⟨ds,rfl,l1,l2⟩:=cu h
 walk_at "b"
 refine dq (λ x=>.bl (jf ws d x)) (by omega) ?_ (cT hw)
 intro i e he Q hq
 walk_at "b"
 exact⟨rfl,_,_,_,rfl,hws,hd0,hd,hq⟩
theorem zG(F:Fun Ω.K "is_deed" "is_deed" iV f fd)(Cq38:Cal Ω "is_tuple_of" 1 3 dM)(Cq36:Cal Ω "is_start" 3 2 Dc)(Cq37:Cal Ω "is_table_with_place" 4 4 MF)(Cq34:Cal Ω "is_reads" 6 3 Du):Ok Ω 7 f fd Ce JG:=by
 refine aA (N:=Ab) F (Bd Cq38 Cq36 Cq37 Cq34) (by kernel_rfl!) ?_
 rintro ds S W ⟨x,ws,d,rfl,hws,hd0,hd,hw⟩ hl
 walk_at "b"
 refine⟨rfl,_,_,_,rfl,?_⟩
 cases h:bA x 4 4 with
 | false=>
   have e:dX ws d x=false:=by
    cases x with
    | tup ds=>
      match ds,h with
      | [a,b,c,d],h=>exact tf h
      | [],_=>rfl
      | [_],_=>rfl
      | [_,_],_=>rfl
      | [_,_,_],_=>rfl
      | _::_::_::_::_::_,_=>rfl
    | _=>rfl
   rw[e]at hw
   walk_at "b"
   exact hw
 | true=>
   obtain⟨ds,rfl,l1,l2⟩:=cu h
   match ds,l1,l2,hw with
   | [t, p,s,r],_,_,hw=>
     have e:dX ws d (.tup [t,p,s,r])=(iH t p ws d&&(isStart s d&&mV r ws d)):=rfl
     rw[e]at hw
     walk_at "b"
     refine⟨rfl,_,_,_,_,rfl,hws,hd0,hd,?_⟩
     cases h2:iH t p ws d with
     | false=>
       rw[h2]at hw
       walk_at "b"
       exact hw
     | true=>
       rw[h2,Bool.true_and]at hw
       walk_at "b"
       refine⟨rfl,_,_,rfl,hd0,hd,?_⟩
       cases h3:isStart s d with
       | false=>
         rw[h3]at hw
         walk_at "b"
         exact hw
       | true=>
         rw[h3,Bool.true_and]at hw
         walk_at "b"
         exact⟨rfl,_,_,_,rfl,hws,hd0,hd,hw⟩
   | [],l1,_,_=>simp at l1
   | [_],l1,_,_=>simp at l1
   | [_,_],l1,_,_=>simp at l1
   | [_,_,_],l1,_,_=>simp at l1
   | _::_::_::_::_::es,_,l2,_=>simp at l2;omega
theorem wL(F:Fun Ω.K "is_nest" "is_nest" iK f fd)(B:Bi Ω.mg)(Cq38:Cal Ω "is_tuple_of" 1 3 dM)(Cq28:Cal Ω "is_loops" 5 1 CW)(Cq25:Cal Ω "is_deed" 7 3 JG):Ok Ω 8 f fd Bg Ht:=by
 refine aA (N:=Bm) F (Bj B Cq38 Cq28 Cq25) (by kernel_rfl!) ?_
 rintro ds S W ⟨x,ws,rfl,hws,hw⟩ hl
 walk_at "b"
 refine⟨rfl,_,_,_,rfl,?_⟩
 cases h:bA x 2 2 with
 | false=>
   have e:gH ws x=false:=by
    cases x with
    | tup ds=>
      match ds,h with
      | [a,b],h=>exact tf h
      | [],_=>rfl
      | [_],_=>rfl
      | _::_::_::_,_=>rfl
    | _=>rfl
   rw[e]at hw
   walk_at "b"
   exact hw
 | true=>
   obtain⟨ds,rfl,l1,l2⟩:=cu h
   match ds,l1,l2,hw with
   | [l, dd],_,_,hw=>
     have e:gH ws (.tup [l,dd])=(d9 l&&(bA dd 1 4&&(parts dd).all (dX ws ((parts l).length:Int)))):=rfl
     rw[e]at hw
     walk_at "b"
     refine⟨rfl,_,rfl,?_⟩
     cases h2:d9 l with
     | false=>
       rw[h2]at hw
       walk_at "b"
       exact hw
     | true=>
       rw[h2,Bool.true_and]at hw
       cases l with
       | tup ls=>
         have hlen:(ls.length:Int)≤3:=of_decide_eq_true (aa (aa h2).1).2
         have hw:W (.bl (bA dd 1 4&&(parts dd).all (dX ws (ls.length:Int)))) S:=hw
         walk_at "b"
         refine⟨rfl,_,_,_,rfl,?_⟩
         walk_at "b"
         refine⟨λ h3=>?_,λ h3=>by rw[h3]at hw;exact hw⟩
         rw[h3]at hw
         obtain⟨es,rfl,l1,l2⟩:=cu h3
         walk_at "b"
         refine dq (λ x=>.bl (dX ws (ls.length:Int) x)) (by omega) ?_ (cT hw)
         intro i e he Q hq
         walk_at "b"
         exact⟨rfl,_,_,_,rfl,hws,by omega,by omega,hq⟩
       | _=>exact ff h2
   | [],l1,_,_=>simp at l1
   | [_],l1,_,_=>simp at l1
   | _::_::_::es,_,l2,_=>simp at l2;omega
theorem vX(F:Fun Ω.K "is_nests" "is_nests" gq f fd)(B:Bi Ω.mg)(Cq38:Cal Ω "is_tuple_of" 1 3 dM)(Cq29:Cal Ω "is_nest" 8 2 Ht):Ok Ω 9 f fd xq DG:=by
 refine aA (N:=wF) F (yI B Cq38 Cq29) (by kernel_rfl!) ?_
 rintro ds S W ⟨x,ws,rfl,hws,hw⟩ hl
 walk_at "b"
 refine⟨rfl,_,_,_,rfl,?_⟩
 walk_at "b"
 unfold m6 at hw
 refine⟨λ h=>?_,λ h=>by rw[h]at hw;exact hw⟩
 rw[h]at hw
 obtain⟨ds,rfl,l1,l2⟩:=cu h
 walk_at "b"
 refine dq (λ x=>.bl (gH ws x)) (by omega) ?_ (cT hw)
 intro i e he Q hq
 walk_at "b"
 exact⟨rfl,_,_,rfl,hws,hq⟩
structure Rd where
 fac:Int
 tab:Nat
 pl:List Fm
structure Dd where
 tab:Nat
 pl:List Fm
 st:Fm
 rds:List Rd
structure Ns where
 lps:List Lp
 dds:List Dd
structure Pg where
 ws:List Int
 nss:List Ns
noncomputable def dP(pl:List Fm):D:=.tup (pl.map dF)
noncomputable def dRd(r:Rd):D:=.tup [.int r.fac,.int r.tab,dP r.pl]
noncomputable def dDd(x:Dd):D:=.tup [.int x.tab,dP x.pl,dF x.st,.tup (x.rds.map dRd)]
noncomputable def dNs(n:Ns):D:=.tup [.tup (n.lps.map dL),.tup (n.dds.map dDd)]
noncomputable def dWs(ws:List Int):D:=.tup (ws.map .int)
noncomputable def dPg(p:Pg):D:=.tup [dWs p.ws,.tup (p.nss.map dNs)]
noncomputable def many(nss:List Ns):Int:=(nss.map λ n=>((cnt n.lps).length:Int)*(n.dds.length:Int)).sum
noncomputable def lF(n:Ns):Prop:=1≤n.lps.length/\Fits n.lps/\n.dds.length≤1000
noncomputable def jg:Ct:=λ ds S W=>∃nss,ds=[.tup (List.map dNs nss)]/\nss.length≤1000/\(∀n∈nss,lF n)/\flat S/\W (.int (many nss)) S
noncomputable def xm:Ct:=λ ds S W=>∃p:Pg,ds=[dWs p.ws,.tup (List.map dNs p.nss)]/\g8 (dWs p.ws)=true/\m6 (.tup (p.nss.map dNs)) p.ws=true/\p.nss.length≤1000/\(∀n∈p.nss,lF n)/\many p.nss≤60/\flat S/\W (dPg p) S
theorem HS(h:g8 (dWs ws)=true):Ws ws:=by
 obtain⟨h1,h2⟩:=aa h
 have:=uv h1
 refine⟨by simp at this;omega,λ w hw=>?_⟩
 have h3:=List.all_eq_true.mp h2 (.int w) (List.mem_map.mpr ⟨w,hw,rfl⟩)
 obtain⟨a,b⟩:=aa h3
 exact⟨of_decide_eq_true a,of_decide_eq_true b⟩
theorem jK(F:Fun Ω.K "number_of_steps" "number_of_steps" cO f fd)(B:Bi Ω.mg)(Cq21:Cal Ω "counts_of" 3 1 pX):Ok Ω 4 f fd kZ jg:=by
 refine aA (N:=lg) F (kY B Cq21) (by kernel_rfl!) ?_
 rintro ds S W ⟨nss,rfl,hz,hok,hS,hw⟩ hl
 walk_at "b"
 refine fO (λ n=>.int (((cnt n.lps).length:Int)*(n.dds.length:Int))) (by omega) ?_ ?_
 . intro i n hn Q hq
   obtain⟨h1,h2,h3⟩:=hok n (y4 hn)
   have h4:=(h2.2 n.lps.length (y9 _)).1
   rw[List.take_length]at h4
   walk_at "b"
   refine⟨rfl,?_⟩
   walk_at "b"
   refine⟨rfl,_,rfl,h1,h2,hS,.inl ?_⟩
   have e1:(((cnt n.lps).map dC).length:Int)=((cnt n.lps).length:Int):=by rw[y7]
   have e2:((n.dds.map dDd).length:Int)=(n.dds.length:Int):=by rw[y7]
   walk_at "n"
   rw[e1,e2]
   exact⟨.inl ⟨by omega,by omega⟩,hq⟩
 . exact⟨nss.map λ(n:Ns)=>((cnt n.lps).length:Int)*(n.dds.length:Int),by rw[List.map_map];rfl,hw⟩
theorem qN(F:Fun Ω.K "program_of" "program_of" eE f fd)(B:Bi Ω.mg)(Cq40:Cal Ω "is_widths" 2 1 wD)(Cq30:Cal Ω "is_nests" 9 2 DG)(Cq42:Cal Ω "number_of_steps" 4 1 jg):Ok Ω 10 f fd tW xm:=by
 refine aA (N:=rT) F (sr B Cq40 Cq30 Cq42) (by kernel_rfl!) ?_
 rintro ds S W ⟨p,rfl,h1,h2,hz,hok,h60,hS,hw⟩ hl
 have hws:=HS h1
 walk_at "b"
 refine⟨rfl,_,rfl,?_⟩
 rw[h1]
 walk_at "b"
 refine⟨rfl,_,_,rfl,hws,?_⟩
 rw[h2]
 walk_at "b"
 refine⟨rfl,_,rfl,hz,hok,hS,?_⟩
 walk_at "b"
 rw[decide_eq_false (by omega)]
 walk_at "b"
 exact hw
noncomputable abbrev Stp:=Nat×List Int×Nat
noncomputable def dSt(s:Stp):D:=.tup [.int s.1,dC s.2.1,.int s.2.2]
noncomputable def cU(i:Nat)(n:Ns):List Stp:=(cnt n.lps).flatMap λ cs=>(List.range n.dds.length).map λ s=>(i,cs,s)
noncomputable def aU(nss:List Ns):List Stp:=(nss.mapIdx cU).flatten
noncomputable def Ec:Ct:=λ ds S W=>∃p:Pg,ds=[dPg p]/\p.nss.length≤1000/\(∀n∈p.nss,lF n)/\(aU p.nss).length≤1000000/\flat S/\hand W ((aU p.nss).map dSt) S
theorem iU{nss:List Ns}{n:Ns}(h:nss[i]? =some n):aU (nss.take (i+1))=aU (nss.take i)++cU i n:=by
 unfold aU
 rw[aM h,List.mapIdx_append,List.flatten_append]
 have hi:=(z0.mp h).1
 simp only[List.mapIdx_cons,List.mapIdx_nil,List.flatten_cons,List.flatten_nil,List.append_nil,List.length_take]
 rw[Nat.min_eq_left (by omega),Nat.zero_add]
theorem qC(xs:List Stp):ak (xs.map dSt)=true:=by
 induction xs with
 | nil=>rfl
 | cons x xs ih=>
   simp only[List.map_cons,ak,ih,Bool.and_true]
   have:=lV [x.2.1]
   simp only[List.map_cons,List.map_nil,ak,Bool.and_true]at this
   show ak [D.int _,dC x.2.1,D.int _]=true
   simp only[ak,this,Bool.and_true];rfl
theorem HF{S:Store}{l:List D}(h:flat S)(hl:ak l=true):flat (S++[l]):=λ x hx=>by
 rcases List.mem_append.mp hx with q | q
 . exact h x q
 . rw[List.mem_singleton.mp q];exact hl
theorem JW{nss:List Ns}{n:Ns}(h:nss[i]? =some n):(aU (nss.take i)).length+(cU i n).length≤(aU nss).length:=by
 have e:∃more,aU nss=aU (nss.take (i+1))++more:=by
  unfold aU
  conv=>enter [1,more,1,1];rw[←List.take_append_drop (i+1) nss]
  rw[List.mapIdx_append,List.flatten_append]
  exact⟨_,rfl⟩
 obtain⟨more,e⟩:=e
 rw[e,iU h,x6,x6];omega
theorem vU(F:Fun Ω.K "steps_of" "steps_of" gJ f fd)(B:Bi Ω.mg)(Cq21:Cal Ω "counts_of" 3 1 pX):Ok Ω 4 f fd zO Ec:=by
 refine aA (N:=zK) F (Bl.frz (wR B Cq21)) (by kernel_rfl!) ?_
 rintro ds S W ⟨p,rfl,hz,hok,hlen,hS,hw⟩ hl
 walk_at "b"
 refine aR ⟨λ i Γ' S'=>(∃o2 o3 o4 o5,Γ'=[some (dPg p),some (.loc S.length),o2,o3,o4,o5])/\S'=S++[(aU (p.nss.take i)).map dSt],⟨⟨_,_,_,_,rfl⟩,rfl⟩,?_,?_⟩
 . rintro i e Γ' S' he ⟨⟨o2,o3,o4,o5,rfl⟩,rfl⟩
   obtain⟨e',he',rfl⟩:=mZ he
   obtain⟨n,hn,rfl⟩:=cJ he'
   obtain⟨h1,h2,h3⟩:=hok n (y4 hn)
   have lf:=JW hn
   walk_at "b"
   refine⟨rfl,?_⟩
   walk_at "b"
   refine⟨rfl,_,rfl,h1,h2,HF hS (qC _),.inl ?_⟩
   walk_at "n"
   refine aR ⟨λ j Γ' S'=>(∃o4 o5,Γ'=[some (dPg p),some (.loc S.length),some (.int (i:Int)),some (dNs n),o4,o5])/\S'=S++[(aU (p.nss.take i)++((cnt n.lps).take j).flatMap λ cs=>(List.range n.dds.length).map λ s=>(i,cs,s)).map dSt],⟨⟨_,_,rfl⟩,by simp⟩,?_,?_⟩
   . rintro j e Γ' S' he ⟨⟨o4,o5,rfl⟩,rfl⟩
     obtain⟨cs,hcs,rfl⟩:=cJ he
     have e2:((n.dds.map dDd).length:Int)=(n.dds.length:Int):=by rw[y7]
     have lj:((cnt n.lps).take j |>.flatMap λ cs=>(List.range n.dds.length).map λ s=>(i,cs,s)).length+n.dds.length≤(cU i n).length:=by
      have:∃more,cU i n=((cnt n.lps).take (j+1) |>.flatMap λ cs=>(List.range n.dds.length).map λ s=>(i,cs,s))++more:=by
       unfold cU
       conv=>enter [1,more,1,2];rw[←List.take_append_drop (j+1) (cnt n.lps)]
       rw[List.flatMap_append]
       exact⟨_,rfl⟩
      obtain⟨more,em⟩:=this
      rw[em,aM hcs,List.flatMap_append,x6,x6]
      simp
     walk_at "b"
     rw[e2]
     refine⟨⟨by omega,by omega⟩,aR ⟨λ t Γ' S'=>(∃o5,Γ'=[some (dPg p),some (.loc S.length),some (.int (i:Int)),some (dNs n),some (dC cs),o5])/\S'=S++[((aU (p.nss.take i)++((cnt n.lps).take j).flatMap λ cs=>(List.range n.dds.length).map λ s=>(i,cs,s))++(List.range t).map λ s=>(i,cs,s)).map dSt],⟨⟨_,rfl⟩,by simp⟩,?_,?_⟩⟩
     . rintro t e Γ' S' he ⟨⟨o5,rfl⟩,rfl⟩
       obtain⟨ht,rfl⟩:=bC he
       have ez:(0:Int)+(t:Int)=(t:Int):=by omega
       rw[ez]
       walk_at "b"
       refine⟨_,b8 _ _,by simp only[y7,x6,List.length_range];omega,?_⟩
       refine⟨⟨_,rfl⟩,?_⟩
       rw[cB,List.range_succ]
       simp only[v3,List.map_cons,List.map_nil,List.append_assoc]
       rfl
     . rintro Γ' S' ⟨⟨o5,rfl⟩,rfl⟩
       refine⟨⟨_,_,rfl⟩,?_⟩
       rw[au,aM hcs,List.flatMap_append,List.flatMap_singleton,←List.append_assoc,Int.toNat_natCast]
   . rintro Γ' S' ⟨⟨o4,o5,rfl⟩,rfl⟩
     refine⟨⟨_,_,_,_,rfl⟩,?_⟩
     rw[y7,List.take_length,iU hn];rfl
 . rintro Γ' S' ⟨⟨o2,o3,o4,o5,rfl⟩,rfl⟩
   have e:((p.nss.map dNs).mapIdx λ i d=>D.tup [D.int (i:Int),d]).length=p.nss.length:=by simp
   rw[e,List.take_length]
   exact pU hw (qC _) hS
noncomputable def yW:Ct:=λ ds S W=>∃(p:Pg) (s:Stp) (n:Ns) (x:Dd),ds=[dPg p,dSt s]/\p.nss[s.1]? =some n/\n.dds[s.2.2]? =some x/\W (dDd x) S
noncomputable abbrev Cell:=Nat×List Int
noncomputable def aB(c:Cell):D:=.tup [.int c.1,.tup (c.2.map .int)]
noncomputable def C64(cs:List Int):Prop:=∀c∈cs,-(2 ^ 64)<c/\c<2 ^ 64
noncomputable def Ff(pl:List Fm):Prop:=pl.length≤1000/\∀f∈pl,f.2.length≤1000
noncomputable def spot(t:Nat)(pl:List Fm)(cs:List Int):Cell:=(t,pl.map λ f=>atC f cs)
noncomputable def yN:Ct:=λ ds S W=>∃(t:Nat) (pl:List Fm) (cs:List Int),ds=[.int t,dP pl,dC cs]/\Ff pl/\C64 cs/\W (aB (spot t pl cs)) S
theorem wW(F:Fun Ω.K "deed_of" "deed_of" iG f fd):Ok Ω 1 f fd Ak yW:=by
 refine aA (N:=BW) F (Ae) (by kernel_rfl!) ?_
 rintro ds S W ⟨p,⟨i,cs,t⟩,n,x,rfl,hn,hx,hw⟩ hl
 have a1:atI (p.nss.map dNs) ((i:Nat):Int)=some (dNs n):=aP (by rw[y8,hn];rfl)
 have a2:atI (n.dds.map dDd) ((t:Nat):Int)=some (dDd x):=aP (by rw[y8,hx];rfl)
 walk_at "b"
 refine⟨_,a1,?_⟩
 walk_at "b"
 exact⟨_,a2,hw⟩
theorem ym(F:Fun Ω.K "cell_at" "cell_at" iB f fd)(B:Bi Ω.mg)(Cq20:Cal Ω "comes_to" 1 2 tu):Ok Ω 2 f fd Bk yN:=by
 refine aA (N:=Ci) F (Ck B Cq20) (by kernel_rfl!) ?_
 rintro ds S W ⟨t,pl,cs,rfl,hpl,hcs,hw⟩ hl
 walk_at "b"
 refine fO (λ f=>.int (atC f cs)) (by have:=hpl.1;omega) ?_ ?_
 . intro i f hf Q hq
   walk_at "b"
   exact⟨rfl,f.1,f.2,cs,rfl,hpl.2 f (y4 hf),hcs,hq⟩
 . walk_at "b"
   have e:(spot t pl cs).2.map D.int=pl.map λ f=>D.int (atC f cs):=by unfold spot;rw[List.map_map];rfl
   unfold aB at hw
   rw[e]at hw
   exact hw
noncomputable def dCs(x:Dd)(cs:List Int):D:=.tup [aB (spot x.tab x.pl cs),.lst (x.rds.map λ r=>aB (spot r.tab r.pl cs))]
noncomputable def Mq(x:Dd):Prop:=Ff x.pl/\x.rds.length≤1000/\∀r∈x.rds,Ff r.pl
noncomputable def oM:Ct:=λ ds S W=>∃(p:Pg) (s:Stp) (n:Ns) (x:Dd),ds=[dPg p,dSt s]/\p.nss[s.1]? =some n/\n.dds[s.2.2]? =some x/\Mq x/\C64 s.2.1/\W (dCs x s.2.1) S
theorem mL(F:Fun Ω.K "cells_of_step" "cells_of_step" dj f fd)(Cq22:Cal Ω "deed_of" 1 2 yW)(Cq17:Cal Ω "cell_at" 2 3 yN):Ok Ω 3 f fd nQ oM:=by
 refine aA (N:=nJ) F (nU Cq22 Cq17) (by kernel_rfl!) ?_
 rintro ds S W ⟨p,⟨i,cs,t⟩,n,x,rfl,hn,hx,hok,hcs,hw⟩ hl
 walk_at "b"
 refine⟨rfl,p,(i,cs,t),n,x,rfl,hn,hx,?_⟩
 walk_at "b"
 refine fO (λ r=>aB (spot r.tab r.pl cs)) (by have:=hok.2.1;omega) ?_ ?_
 . intro j r hr Q hq
   walk_at "b"
   refine⟨rfl,?_⟩
   walk_at "b"
   exact⟨rfl,r.tab,r.pl,cs,rfl,hok.2.2 r (y4 hr),hcs,hq⟩
 . walk_at "b"
   refine⟨rfl,x.tab,x.pl,cs,rfl,hok.1,hcs,?_⟩
   walk_at "b"
   exact hw
noncomputable def iM(ns:List Int)(c n:Int):List D:=[.int c,.int n,.lst (ns.map .int)]
noncomputable def aF(S:Store)(k:Nat):Prop:=∃ns c n,S[k]? =some (iM ns c n)/\0≤n
noncomputable def aJ(S:Store)(k:Nat)(S':Store):Prop:=∃ns c n,S'=S.set k (iM ns c n)/\0≤n
theorem aJ.trans{S S1 S2:Store}(a:aJ S k S1)(b:aJ S1 k S2):aJ S k S2:=by
 obtain⟨_,_,_,rfl,_⟩:=a
 obtain⟨ns,c,n,rfl,hn⟩:=b
 exact⟨ns,c,n,by rw[List.set_set],hn⟩
theorem aJ.refl{S:Store}(p:aF S k):aJ S k S:=by
 obtain⟨ns,c,n,h,hn⟩:=p
 exact⟨ns,c,n,by
  obtain⟨hl,e⟩:=z0.mp h
  rw[←e,List.set_getElem_self],hn⟩
theorem aJ.len{S:Store}(u:aJ S k S'):S'.length=S.length:=by
 obtain⟨_,_,_,rfl,_⟩:=u
 simp
theorem aJ.pen{S:Store}(p:aF S k)(u:aJ S k S'):aF S' k:=by
 obtain⟨_,_,_,h,_⟩:=p
 obtain⟨ns,c,n,rfl,hn⟩:=u
 exact⟨ns,c,n,set_get h,hn⟩
theorem aF.lt{S:Store}(p:aF S k):k<S.length:=by
 obtain⟨_,_,_,h,_⟩:=p
 exact(z0.mp h).1
theorem aF.app{S:Store}(J:Store)(p:aF S k):aF (S++J) k:=by
 have hl:=p.lt
 obtain⟨ns,c,n,h,hn⟩:=p
 exact⟨ns,c,n,by rw[x8 hl];exact h,hn⟩
theorem aJ.split{S T:Store}(p:aF S k)(u:aJ (S++J) k T):∃S',T=S'++J/\aJ S k S'/\aF S' k:=by
 have hl:=p.lt
 obtain⟨ns,c,n,rfl,hn⟩:=u
 have u:aJ S k (S.set k (iM ns c n)):=⟨ns,c,n,rfl,hn⟩
 exact⟨S.set k (iM ns c n),by rw[List.set_append_left k _ hl],u,u.pen p⟩
theorem bG(ns:List Int):ak (ns.map D.int)=true:=by
 induction ns with
 | nil=>rfl
 | cons y ys ih=>simp only[List.map_cons,ak,ih,Bool.and_true];rfl
theorem oH(ns:List Int)(c n:Int):ak (iM ns c n)=true:=by
 show(ak (ns.map D.int)&&true)=true
 rw[bG];rfl
theorem aJ.flat{S:Store}(u:aJ S k S')(h:flat S):RF.flat S':=by
 obtain⟨ns,c,n,rfl,_⟩:=u
 intro l hl
 rcases List.mem_or_eq_of_mem_set hl with hl | rfl
 . exact h l hl
 . exact oH ..
noncomputable def sH:Ct:=λ ds S W=>∃ns k,ds=[.lst (List.map .int ns),.int k]/\0≤k/\∀v,W (.int v) S
noncomputable def Hk:Ct:=λ ds S W=>∃ns k,ds=[.lst (List.map .int ns),.int k]/\0≤k/\∀c,W (.loc S.length) (S++[iM ns c k])
noncomputable def cI:Ct:=λ ds S W=>∃k m,ds=[.loc k,.int m]/\aF S k/\0<m/\m<1000000000000000000000000000000000000000000000000000000000000/\∀v S',0≤v->v<m->aJ S k S'->aF S' k->W (.int v) S'
theorem aG{S:Store}{m:Int}(hp:aF S k)(h0:0<m)(h1:m<1000000000000000000000000000000000000000000000000000000000000)(w:∀v S',0≤v->v<m->aJ S k S'->aF S' k->W (.int v) S'):([D.loc k,.int m].length=2/\cI [.loc k,.int m] S W):=⟨rfl,k,m,rfl,hp,h0,h1,w⟩
theorem Jp(F:Fun Ω.K "_law_cell" "_law_cell" pW f fd)(B:Bi Ω.mg):Ok Ω 1 f fd Ky sH:=by
 refine aA (N:=Mu) F (LR B) (by kernel_rfl!) ?_
 rintro ds S W ⟨ns,k,rfl,hk,hw⟩ hl
 have last:∀v:Int,(qg B).wp [some (.lst (ns.map .int)),some (.int k),some (.int v)] S {nx:=λ _ S1=>W .non S1,rt:=W}:=by
  intro v
  have h2:=Int.emod_lt_of_pos ((v % 2147483629+6151*k+1)*48271) (b:=2147483647) (by decide)
  have h3:=Int.emod_nonneg ((v % 2147483629+6151*k+1)*48271) (b:=2147483647) (by decide)
  walk_at "b"
  exact hw _
 have two:∀v:Int,(rC B).wp [some (.lst (ns.map .int)),some (.int k),some (.int v)] S {nx:=λ _ S1=>W .non S1,rt:=W}:=by
  intro v
  walk_at "b"
  refine⟨λ q=>?_,λ q=>⟨λ z=>ff z,λ _=>last v⟩⟩
  have q:=of_decide_eq_true q
  obtain⟨x,h1,h2⟩:=fM (ds:=ns.map D.int) (v:=0) (by decide) (by omega)
  obtain⟨y,_,rfl⟩:=List.mem_map.mp (y4 h2)
  walk_at "b"
  refine⟨_,h1,?_⟩
  walk_at "b"
  refine⟨λ _=>?_,λ _=>last v⟩
  walk_at "b"
  exact hw _
 walk_at "b"
 refine⟨λ q=>?_,λ q=>two 7⟩
 have q:=of_decide_eq_true q
 walk_at "b"
 obtain⟨x,h1,h2⟩:=fM (ds:=ns.map D.int) (v:=k % ((ns.map D.int).length:Int)) (Int.emod_nonneg _ (by omega)) (Int.emod_lt_of_pos _ q)
 obtain⟨y,_,rfl⟩:=List.mem_map.mp (y4 h2)
 exact⟨_,h1,two y⟩
theorem K8(F:Fun Ω.K "_law_pen" "_law_pen" rW f fd)(Cq2:Cal Ω "_law_cell" 1 2 sH):Ok Ω 2 f fd N6 Hk:=by
 refine aA (N:=Pk) F (Qf Cq2) (by kernel_rfl!) ?_
 rintro ds S W ⟨ns,k,rfl,hk,hw⟩ hl
 walk_at "b"
 refine⟨rfl,ns,k,rfl,hk,λ c=>?_⟩
 walk_at "b"
 exact hw c
theorem JF(F:Fun Ω.K "_law_take" "_law_take" oY f fd)(Cq2:Cal Ω "_law_cell" 1 2 sH):Ok Ω 2 f fd Ke cI:=by
 refine aA (N:=MN) F (Ms Cq2) (by kernel_rfl!) ?_
 rintro ds S W ⟨k,m,rfl,⟨ns,c,n,hk,hn⟩,h0,h1,hw⟩ hl
 have k2:∀l:List D,(S.set k l)[k]? =some l:=λ l=>set_get hk
 have fin:∀c' n',0≤n'->W (.int (c % m)) (S.set k (iM ns c' n')):=λ c' n' h=>
  hw _ _ (Int.emod_nonneg _ (by omega)) (Int.emod_lt_of_pos _ h0) ⟨ns,c',n',rfl,h⟩ ⟨ns,c',n',k2 _,h⟩
 walk_at "b"
 refine⟨λ _=>?_,λ _=>fin (c/m) n hn⟩
 walk_at "b"
 refine⟨rfl,ns,n+1,rfl,by omega,λ v=>?_⟩
 walk_at "b"
 exact fin v (n+1) (by omega)
theorem bI{S:Store}{l:List D}{n:Nat}(h:n=S.length):(S++[l])[n]? =some l:=by subst h;exact b8 _ _
theorem eX{S:Store}{l l':List D}{n:Nat}(h:n=S.length):(S++[l]).set n l'=S++[l']:=by subst h;exact cB _ _ _
theorem cW{S:Store}{l:List D}(h:flat S)(hl:ak l=true):flat (S++[l]):=by
 intro x hx
 rcases List.mem_append.mp hx with hx | hx
 . exact h x hx
 . have:x=l:=by simpa using hx
   subst this;exact hl
theorem eF(f:Fm):ao (dF f)=true:=bG (f.1::f.2)
noncomputable def Kw(ns:List Int):Prop:=∀n∈ns,-99≤n/\n≤99
noncomputable def FmB(d:Nat)(w:Int)(f:Fm):Prop:=f.2.length=d/\Kw f.2/\((-w≤f.1/\f.1≤w)∨(w=1/\ -99≤f.1/\f.1≤99))
noncomputable def DK:Ct:=λ ds S W=>∃(k d:Nat) (w:Int),ds=[.loc k,.int d,.int w]/\aF S k/\flat S/\d≤10/\1≤w/\w<1000000000000000000000000000000/\∀f S',FmB d w f->aJ S k S'->aF S' k->flat S'->W (dF f) S'
theorem ph{P:Int->Prop}:∀{ys:List D},(∀(i:Nat)(y:D),ys[i]? =some y->∃n:Int,y=D.int n/\P n)->∃fs:List Int,ys=fs.map D.int/\∀n∈fs,P n
 | [],_=>⟨[],rfl,by simp⟩
 | y::ys,h=>by
   obtain⟨n,rfl,hn⟩:=h 0 y rfl
   obtain⟨fs,rfl,hf⟩:=ph (ys:=ys) λ i y h'=>h (i+1) y (by simpa using h')
   exact⟨n::fs,rfl,by
    intro m hm
    rcases List.mem_cons.mp hm with rfl | hm
    . exact hn
    . exact hf m hm⟩
theorem Jb(F:Fun Ω.K "_law_form" "_law_form" pF f fd)(B:Bi Ω.mg)(Cq15:Cal Ω "_law_take" 2 2 cI):Ok Ω 3 f fd Kl DK:=by
 refine aA (N:=Mi) F (Bl.drp (Mr B Cq15)) (by kernel_rfl!) ?_
 rintro ds S W ⟨k,d,w,rfl,hp,hS,hd,hw1,hw2,hw⟩ hl
 have one:∀S0,aJ S k S0->aF S0 k->(qJ B Cq15).wp [some (.loc k),some (.int d),some (.int w),none,none] S0 {nx:=λ _ S1=>W .non S1,rt:=Drp S.length W}:=by
  intro S0 u0 p0
  walk_at "b"
  refine aG p0 (by omega) (by omega) λ v S1 v0 v1 u1 p1=>?_
  have u1:=u0.trans u1
  have f1:=u1.flat hS
  have n1:=u1.len
  walk_at "b"
  refine⟨⟨by omega,by omega⟩,aR ⟨λ i Γ' T=>∃S2 fs o4,T=S2++[D.int (v-w)::List.map D.int fs]/\aJ S k S2/\aF S2 k/\fs.length=i/\Kw fs/\Γ'=[some (.loc k),some (.int d),some (.int w),some (.loc S.length),o4],⟨S1,[],none,rfl,u1,p1,rfl,λ n hn=>by simp at hn,by rw[n1];rfl⟩,?_,?_⟩⟩
  . rintro i e Γ' T he ⟨S2,fs,o4,rfl,u2,p2,hfl,hfs,rfl⟩
    obtain⟨hi,rfl⟩:=bC he
    walk_at "b"
    refine aG (p2.app _) (by decide) (by decide) λ x T3 x0 x1 u3 p3=>?_
    obtain⟨S3,rfl,u3,p3⟩:=u3.split p2
    have u3:=u2.trans u3
    walk_at "n"
    obtain⟨y,g1,g2⟩:=fM (ds:=[D.int 0,.int 1,.int 1,.int 0,.int (-1),.int 2,.int 0,.int 1]) x0 x1
    have hy:=y4 g2
    refine⟨y,g1,?_⟩
    obtain⟨z,rfl,hz⟩:∃z:Int,y=.int z/\ -99≤z/\z≤99:=by
     simp only[List.mem_cons,List.not_mem_nil,or_false]at hy
     rcases hy with rfl | rfl | rfl | rfl | rfl | rfl | rfl | rfl<;>exact⟨_,rfl,by decide,by decide⟩
    refine⟨_,bI u3.len.symm,by simp;omega,?_⟩
    rw[eX u3.len.symm]
    refine⟨S3,fs++[z],_,by rw[v3];rfl,u3,p3,by simp[hfl],λ n hn=>?_,rfl⟩
    rcases List.mem_append.mp hn with hn | hn
    . exact hfs n hn
    . have:n=z:=by simpa using hn
      omega
  . rintro Γ' T ⟨S2,fs,o4,rfl,u2,p2,hfl,hfs,rfl⟩
    rw[au]at hfl
    walk_at "b"
    refine⟨_,bI u2.len.symm,.inr ⟨[_],S2,rfl,by rw[u2.len];exact y9 _,eF (v-w,fs),u2.flat hS,hw (v-w,fs) _ ⟨by simpa using hfl,hfs,.inl ⟨?_,?_⟩⟩ u2 p2 (u2.flat hS)⟩⟩
    . show-w≤v-w;omega
    . show v-w≤w;omega
 walk_at "b"
 refine⟨λ q=>?_,λ q=>⟨λ z=>ff z,λ _=>one S (.refl hp) hp⟩⟩
 have q:=of_decide_eq_true q
 walk_at "b"
 refine aG hp (by decide) (by decide) λ v S1 v0 v1 u1 p1=>?_
 walk_at "b"
 refine⟨λ _=>?_,λ _=>one S1 u1 p1⟩
 walk_at "b"
 refine⟨⟨by omega,by omega⟩,lz (λ _ y=>∃n:Int,y=.int n/\(-99≤n/\n≤99)) (λ S'=>aJ S k S'/\aF S' k) (by rw[au];omega) ⟨u1,p1⟩ ?_ ?_⟩
 . rintro i d S' hd ⟨u,p⟩ R hR
   walk_at "b"
   refine aG p (by decide) (by decide) λ w S2 w0 w1 u2 p2=>?_
   walk_at "b"
   exact hR _ _ ⟨_,rfl,by omega,by omega⟩ ⟨u.trans u2,p2⟩
 rintro ys S' hlen hys ⟨u,p⟩
 obtain⟨fs,rfl,hf⟩:=ph hys
 rw[au,y7]at hlen
 cases fs with
 | nil=>simp at hlen
 | cons a fs=>
   walk_at "b"
   exact .inl (hw (a,fs) _ ⟨by simp at hlen;show fs.length=d;omega,λ n hn=>hf n (x3 _ hn),.inr ⟨by omega,hf a x5⟩⟩ u p (u.flat hS))
theorem yz(ls:List Lp)(l:Lp):cnt (ls++[l])=aN l.1 l.2 (cnt ls):=by
 unfold cnt
 rw[List.foldl_append];rfl
theorem gP(a:Int)(k:Nat)(cs:List Int):atC (a,List.replicate k 0) cs=a:=by
 unfold atC comesTo
 have:∀(k:Nat)(cs:List Int),(List.zipWith (λ a b=>a*b) (List.replicate k (0:Int)) cs).sum=0:=by
  intro k
  induction k with
  | zero=>intro cs;simp
  | succ k ih=>
    intro cs
    cases cs with
    | nil=>simp
    | cons c cs=>simp[List.replicate_succ,ih]
 rw[this];show a+0=a;omega
theorem K4(a:Int)(cs:List Int)(c:Int):atC (a,List.replicate cs.length 0++[1]) (cs++[c])=a+c:=by
 unfold atC comesTo
 have:∀cs:List Int,(List.zipWith (λ a b=>a*b) (List.replicate cs.length (0:Int)++[1]) (cs++[c])).sum=c:=by
  intro cs
  induction cs with
  | nil=>simp
  | cons d cs ih=>simp[List.replicate_succ,ih]
 rw[this]
theorem Ma(a b:Int)(fs cs:List Int):atC (a+b,fs) cs=atC (a,fs) cs+b:=by
 unfold atC comesTo
 dsimp only
 omega
theorem Kv{ls:List Lp}{l:Lp}(h:cs∈cnt (ls++[l])):∃cs' c,cs'∈cnt ls/\cs=cs'++[c]/\atC l.1 cs'≤c/\c<atC l.2 cs':=by
 rw[yz]at h
 obtain⟨ds,hd,h⟩:=List.mem_flatMap.mp h
 unfold bz at h
 obtain⟨c,hc,rfl⟩:=List.mem_map.mp h
 unfold upI at hc
 obtain⟨k,hk,rfl⟩:=List.mem_map.mp hc
 have hk:=List.mem_range.mp hk
 exact⟨ds,_,hd,rfl,by omega,by omega⟩
theorem J3{ls:List Lp}{l:Lp}{sz:Nat}(h:∀cs∈cnt ls,atC l.2 cs-atC l.1 cs≤(sz:Int)):(cnt (ls++[l])).length≤(cnt ls).length*sz:=by
 rw[yz]
 refine qb λ cs hc=>?_
 rw[cz]
 have:=h cs hc
 omega
noncomputable def Bef(bf:D)(ls:List Lp):Prop:=bf=.non∨∃b0 b1:Int,bf=.tup [.int b0,.int b1]/\ -3≤b0/\b0≤3/\1≤b1/\b1≤4/\1≤ls.length/\∀cs∈cnt ls,∃cs' c,cs=cs'++[c]/\b0≤c/\c<b0+b1
noncomputable def LpI(ls:List Lp):Prop:=∀(i:Nat)(l:Lp),ls[i]? =some l->BdF l.1 i/\BdF l.2 i
theorem LpI.snoc{ls:List Lp}{l:Lp}(h:LpI ls)(h1:BdF l.1 ls.length)(h2:BdF l.2 ls.length):LpI (ls++[l]):=by
 intro i x hx
 by_cases hi:i<ls.length
 . rw[x8 hi]at hx;exact h i x hx
 . rw[List.getElem?_append_right (by omega)]at hx
   have:i=ls.length:=by
    have:=(z0.mp hx).1
    simp at this;omega
   subst this
   simp at hx
   subst hx
   exact⟨h1,h2⟩
noncomputable def nlO(o:Option D):Prop:=∀d,o=some d->ao d=true
theorem cA:nlO none:=λ d h=>by cases h
theorem iW(n:Int):nlO (some (.int n)):=λ d h=>by cases h;rfl
noncomputable def Hi(n:Nat)(o:Option D):Prop:=nlO o∨∃j,o=some (.loc j)/\n≤j
theorem Dz{n:Nat}{J:List (List D)}{o:Option D}(h:nlO o):iw n J o=o:=by
 cases o with
 | none=>rfl
 | some d=>
   cases d with
   | loc j=>have:=h _ rfl;simp[ao]at this
   | _=>rfl
theorem Df{n j:Nat}{J:List (List D)}(h:j<n):iw n J (some (.loc j))=some (.loc j):=by simp[iw,h]
theorem ue{n:Nat}{J:List (List D)}{o:Option D}(hJ:flat J)(h:Hi n o):nlO (iw n J o):=by
 rcases h with h | ⟨j,rfl,hj⟩
 . rw[Dz h];exact h
 . intro d hd
   have:¬j<n:=by omega
   simp only[iw,if_neg this]at hd
   cases e:J[j-n]? with
   | none=>rw[e]at hd;cases hd
   | some ds=>rw[e]at hd;cases hd;exact hJ ds (y4 e)
theorem fJ(ls:List Lp):ak (ls.map dL)=true:=by
 induction ls with
 | nil=>rfl
 | cons y ys ih=>
   simp only[List.map_cons,ak,ih,Bool.and_true]
   show ak [dF y.1,dF y.2]=true
   simp only[ak,eF,Bool.and_true]
noncomputable def xf:Ct:=λ ds S W=>∃(k:Nat) (m:Nat),ds=[.loc k,.int m]/\aF S k/\flat S/\1≤m/\m≤1000/\∀ls S',Lps ls->(cnt ls).length≤m->aJ S k S'->aF S' k->flat S'->W (.tup (ls.map dL)) S'
theorem zeros(n:Int):(List.replicate n.toNat [D.int 0]).flatten=(List.replicate n.toNat (0:Int)).map D.int:=by
 generalize n.toNat=m
 induction m with
 | zero=>rfl
 | succ m ih=>simp[List.replicate_succ,ih]
theorem QV{Ω:Wd}{b:Bl Ω}{Γ:Gam}{S:Store}{W:DL.Fin}(h:b.wp Γ S {W with nx:=yR S.length W.nx}):b.fza.wp Γ S W:=h
theorem jH{j:Nat}{d:D}{Γ:Gam}{R:Gam->Prop}(h:R (Γ.set j (some d))):(Tg.nm j).wp d Γ R:=h
theorem aJ.split2{S T:Store}{a b:List D}(p:aF S k)(u:aJ (S++[a]++[b]) k T):∃S',T=S'++[a]++[b]/\aJ S k S'/\aF S' k:=by
 obtain⟨T1,rfl,u1,p1⟩:=u.split (p.app _)
 obtain⟨S1,rfl,u2,p2⟩:=u1.split p
 exact⟨S1,rfl,u2,p2⟩
theorem lW{S:Store}{l:List D}{n:Nat}(h:n=S.length):(S++[l]++J)[n]? =some l:=by
 subst h
 rw[x8 (by simp)];exact b8 _ _
theorem tG{S:Store}{l l':List D}{n:Nat}(h:n=S.length):(S++[l]++J).set n l'=S++[l']++J:=by
 subst h
 rw[List.set_append_left _ _ (by simp),cB]
theorem Ga(ls:List Lp):∀cs∈cnt ls,cs.length=ls.length:=by
 have:∀(ls:List Lp)(acc:List (List Int))(n:Nat),(∀cs∈acc,cs.length=n)->∀cs∈ls.foldl (λ acc l=>aN l.1 l.2 acc) acc,cs.length=n+ls.length:=by
  intro ls
  induction ls with
  | nil=>intro acc n h cs hc;simpa using h cs hc
  | cons l ls ih=>
    intro acc n h cs hc
    have:=ih (aN l.1 l.2 acc) (n+1) (λ ds hd=>by
     obtain⟨es,he,hd⟩:=List.mem_flatMap.mp hd
     unfold bz at hd
     obtain⟨c,_,rfl⟩:=List.mem_map.mp hd
     simp[h es he]) cs hc
    rw[this,List.length_cons];omega
 intro cs hc
 have:=this ls [[]] 0 (by simp) cs hc
 omega
noncomputable def Fq(S:Store)(k m i:Nat)(Γ':Gam)(T:Store):Prop:=∃S2 ls room bf o5 o6 o7 o8 o9 o10 o11,T=S2++[List.map dL ls]/\aJ S k S2/\aF S2 k/\ls.length=i/\LpI ls/\1≤room/\(cnt ls).length*room≤m/\Bef bf ls/\ao bf=true/\(nlO o5/\nlO o6/\nlO o7/\nlO o8/\nlO o9/\nlO o10/\nlO o11)/\Γ'=[some (.loc k),some (.int m),some (.loc S.length),some (.int (room:Nat)),some bf,o5,o6,o7,o8,o9,o10,o11]
theorem wB{n:Nat}{o:Option D}{d:D}(h:Hi n o)(e:o=some d):ao d=true∨∃j,d=.loc j:=by
 rcases h with h | ⟨j,rfl,_⟩
 . exact .inl (h d e)
 . cases e;exact .inr ⟨j,rfl⟩
theorem Ho{S S3:Store}{room size:Nat}{ls:List Lp}{l:Lp}{bf:D}{low way:Int}{o9 o10 o11:Option D}(hp:aF S k)(hS:flat S)(u:aJ S k S3)(p:aF S3 k)(hJ:flat J)(hln:ls.length=i)(hlp:LpI ls)(b1:BdF l.1 i)(b2:BdF l.2 i)(s1:1≤size)(s2:size≤room)(hr2:(cnt ls).length*room≤m)
 (hc:∀cs∈cnt ls,atC l.2 cs-atC l.1 cs≤(size:Int))(hbf:Bef bf (ls++[l]))(hnb:ao bf=true)(n9:Hi (S.length+1) o9)(n10:Hi (S.length+1) o10)(n11:Hi (S.length+1) o11):
 yR (S.length+1) (Fq S k m (i+1)) [some (.loc k),some (.int m),some (.loc S.length),some (.int ((room:Int)/(size:Int))),some bf,some (.int i),some (.int size),some (.int low),some (.int way),o9,o10,o11] (S3++[(ls++[l]).map dL]++J):=by
 have hl3:=u.len
 have hk:=hp.lt
 have e1:(room:Int)/(size:Int)=((room/size:Nat):Int):=(Int.natCast_ediv room size).symm
 have hlen:(S3++[(ls++[l]).map dL]).length=S.length+1:=by simp[hl3]
 refine .inr ⟨J,S3++[(ls++[l]).map dL],rfl,by rw[hlen];exact y9 _,hJ,cW (u.flat hS) (fJ _),?_,?_⟩
 . intro x d hx
   match x,hx with
   | 0,hx=>cases hx;exact .inr ⟨_,rfl⟩
   | 1,hx=>cases hx;exact .inl rfl
   | 2,hx=>cases hx;exact .inr ⟨_,rfl⟩
   | 3,hx=>cases hx;exact .inl rfl
   | 4,hx=>cases hx;exact .inl hnb
   | 5,hx=>cases hx;exact .inl rfl
   | 6,hx=>cases hx;exact .inl rfl
   | 7,hx=>cases hx;exact .inl rfl
   | 8,hx=>cases hx;exact .inl rfl
   | 9,hx=>exact wB n9 (by simpa using hx)
   | 10,hx=>exact wB n10 (by simpa using hx)
   | 11,hx=>exact wB n11 (by simpa using hx)
   | x+12,hx=>simp at hx
 . rw [hlen]
   refine⟨S3,ls++[l],room/size,bf,some (.int i),some (.int size),some (.int low),some (.int way),_,_,_,rfl,u,p,by simp[hln],hlp.snoc (by rw[hln];exact b1) (by rw[hln];exact b2),Nat.div_pos s2 s1,?_,hbf,hnb,⟨iW _,iW _,iW _,iW _,ue hJ n9,ue hJ n10,ue hJ n11⟩,?_⟩
   . have h1:=J3 (l:=l) hc
     have h2:=Nat.mul_le_mul_right (room/size) h1
     have h3:(cnt ls).length*size*(room/size)≤(cnt ls).length*room:=by
      rw[Nat.mul_assoc];exact Nat.mul_le_mul_left _ (Nat.mul_div_le room size)
     omega
   . show[_,_,_,_,_,_,_,_,_,_,_,_]=[_,_,_,_,_,_,_,_,_,_,_,_]
     rw[Df (by omega),Df (by omega),Dz (o:=some bf) (λ d h=>by cases h;exact hnb),e1]
     rfl
theorem Ei(F:Fun Ω.K "_law_loops" "_law_loops" mQ f fd)(B:Bi Ω.mg)(Cq15:Cal Ω "_law_take" 2 2 cI):Ok Ω 3 f fd Im xf:=by
 refine aA (N:=Jd) F (Bl.drp (GZ B Cq15)) (by kernel_rfl!) ?_
 rintro ds S W ⟨k,m,rfl,hp,hS,hm1,hm2,hw⟩ hl
 walk_at "b"
 refine aG (hp.app _) (by decide) (by decide) λ v T v0 v1 u1 p1=>?_
 obtain⟨S1,rfl,u1,p1⟩:=u1.split hp
 walk_at "b"
 refine⟨⟨by omega,by omega⟩,aR ⟨Fq S k m,⟨S1,[],m,.non,none,none,none,none,none,none,none,rfl,u1,p1,rfl,λ i l h=>by simp at h,hm1,by simp[cnt],.inl rfl,rfl,⟨cA,cA,cA,cA,cA,cA,cA⟩,rfl⟩,?_,?_⟩⟩
 . rintro i e Γ' T he ⟨S2,ls,room,bf,o5,o6,o7,o8,o9,o10,o11,rfl,u2,p2,hln,hlp,hr1,hr2,hbf,hnb,⟨n5,n6,n7,n8,n9,n10,n11⟩,rfl⟩
   obtain⟨hi,rfl⟩:=bC he
   have hi3:i≤2:=by omega
   have ez:(0:Int)+(i:Int)=(i:Int):=by omega
   rw[ez]
   have hS2:(S2++[ls.map dL]).length=S.length+1:=by simp[u2.len]
   suffices body:∀Wf:DL.Fin,(∀G T,yR (S.length+1) (Fq S k m (i+1)) G T->Wf.nx G T)->(lJ B Cq15).wp [some (.loc k),some (.int m),some (.loc S.length),some (.int (room:Nat)),some bf,some (.int (i:Int)),o6,o7,o8,o9,o10,o11] (S2++[ls.map dL]) Wf by
    refine jH (QV ?_)
    simp only[List.set_cons_succ,List.set_cons_zero]
    refine body _ λ G T h=>?_
    rw[hS2]
    exact h
   intro Wf hnx
   walk_at "b"
   refine aG (p2.app _) (by split<;>omega) (by split<;>omega) λ x T3 x0 x1 u3 p3=>?_
   obtain⟨S3,rfl,u3,p3⟩:=u3.split p2
   have u3:=u2.trans u3
   have hx:1+x≤(room:Int)/\1+x≤4:=by split at x1<;>omega
   clear x1
   walk_at "b"
   refine aG (p3.app _) (by decide) (by decide) λ y T3 y0 y1 u4 p4=>?_
   obtain⟨S4,rfl,u4,p4⟩:=u4.split p3
   have u4:=u3.trans u4
   walk_at "b"
   refine aG (p4.app _) (by decide) (by decide) λ way T3 w0 w1 u5 p5=>?_
   obtain⟨S5,rfl,u5,p5⟩:=u5.split p4
   have u5:=u4.trans u5
   walk_at "b"
   refine⟨_,_,rfl,rfl,⟨by omega,by omega⟩,by simp;omega,?_⟩
   rw[zeros,Int.toNat_natCast]
   obtain⟨sz,hsz⟩:∃n:Nat,1+x=(n:Int):=⟨(1+x).toNat,by omega⟩
   rw[hsz]at hx ⊢
   have hsz1:1≤sz:=by omega
   have hr3:sz≤room:=by omega
   have tail:∀(S':Store)(l:Lp)(J:Store)(size:Nat)(bf':D)(o9 o10 o11:Option D),aJ S k S'->aF S' k->flat J->BdF l.1 i->BdF l.2 i->1≤size->size≤4->size≤room->(∀cs∈cnt ls,atC l.2 cs-atC l.1 cs≤(size:Int))->Bef bf' (ls++[l])->ao bf'=true->Hi (S.length+1) o9->Hi (S.length+1) o10->Hi (S.length+1) o11->
    (bM B Cq15).wp [some (.loc k),some (.int m),some (.loc S.length),some (.int room),some bf',some (.int i),some (.int size),some (.int (y-3)),some (.int way),o9,o10,o11] (S'++[(ls++[l]).map dL]++J) Wf:=by
    intro S' l J size bf' o9 o10 o11 u p hJ b1 b2 s1 s4 s2 hc hbf hnb n9 n10 n11
    walk_at "b"
    exact hnx _ _ (Ho hp hS u p hJ hln hlp b1 b2 s1 s2 hr2 hc hbf hnb n9 n10 n11)
   have zl:(List.replicate i (0:Int)).length=i:=by simp
   have z9:Hi (S.length+1) (some (.lst ((List.replicate i (0:Int)).map D.int))):=.inl λ d h=>by cases h;exact bG _
   have zb:∀a:Int,-9≤a->a≤9->BdF (a,List.replicate i 0) i:=λ a h1 h2=>⟨zl,h1,h2,λ n hn=>by have:=(List.mem_replicate.mp hn).2;omega⟩
   have br3:∀Wf':DL.Fin,(∀G T,(bM B Cq15).wp G T Wf->Wf'.nx G T)->(gm B Cq15).wp [some (.loc k),some (.int m),some (.loc S.length),some (.int room),some bf,some (.int i),some (.int sz),some (.int (y-3)),some (.int way),some (.lst ((List.replicate i (0:Int)).map D.int)),o10,o11] (S5++[ls.map dL]) Wf':=by
    intro Wf' hx'
    have app:∀h:Int,y-3≤h->h≤y-3+sz->∃ds,(S5++[ls.map dL])[S.length]? =some ds/\ds.length<1000000/\Wf'.nx [some (.loc k),some (.int m),some (.loc S.length),some (.int room),some (.tup [.int (y-3),.int sz]),some (.int i),some (.int sz),some (.int (y-3)),some (.int way),some (.lst ((List.replicate i (0:Int)).map D.int)),o10,o11] ((S5++[ls.map dL]).set S.length (ds++[dL ((y-3,List.replicate i 0),(h,List.replicate i 0))])):=by
     intro h h1 h2
     refine⟨_,bI u5.len.symm,by simp;omega,?_⟩
     rw[eX u5.len.symm]
     have:=tail S5 ((y-3,List.replicate i 0),(h,List.replicate i 0)) [] sz (.tup [.int (y-3),.int sz]) (some (.lst ((List.replicate i (0:Int)).map D.int))) o10 o11 u5 p5 (λ l h=>by cases h) (zb _ (by omega) (by omega)) (zb _ (by omega) (by omega)) hsz1 (by omega) hr3 (λ cs _=>by
      show atC (h,List.replicate i 0) cs-atC (y-3,List.replicate i 0) cs≤_
      rw[gP,gP];omega) (.inr ⟨y-3,sz,rfl,by omega,by omega,by omega,by omega,by simp,λ cs hcs=>by
      obtain⟨cs',c,_,e,h3,h4⟩:=Kv hcs
      rw[gP]at h3 h4
      exact⟨cs',c,e,h3,by omega⟩⟩) rfl z9 (.inl n10) (.inl n11)
     rw[List.append_nil,v3]at this
     exact hx' _ _ this
    walk_at "b"
    refine⟨_,_,rfl,rfl,by simp;omega,?_⟩
    walk_at "b"
    have bb:∀b:Bool,y-3≤y-3+(sz:Int)*(if b=true then 1 else 0)/\y-3+(sz:Int)*(if b=true then 1 else 0)≤y-3+sz:=λ b=>by cases b<;>simp<;>omega
    refine⟨λ q=>?_,λ q=>?_⟩
    . walk_at "b"
      obtain⟨g1,g2⟩:=bb true
      generalize (y-3+(sz:Int)*(if true=true then 1 else 0))=h at g1 g2 ⊢
      refine⟨_,_,rfl,rfl,by simp;omega,?_⟩
      walk_at "b"
      obtain⟨ds,h1,h2,h3⟩:=app h g1 g2
      refine⟨ds,h1,h2,?_⟩
      walk_at "b"
      exact h3
    . walk_at "b"
      obtain⟨g1,g2⟩:=bb (decide (y-3<3))
      generalize (y-3+(sz:Int)*(if decide (y-3<3)=true then 1 else 0))=h at g1 g2 ⊢
      refine⟨_,_,rfl,rfl,by simp;omega,?_⟩
      walk_at "b"
      obtain⟨ds,h1,h2,h3⟩:=app h g1 g2
      refine⟨ds,h1,h2,?_⟩
      walk_at "b"
      exact h3
   have br2:0<i->∀Wf':DL.Fin,(∀G T,(bM B Cq15).wp G T Wf->Wf'.nx G T)->(gG B Cq15).wp [some (.loc k),some (.int m),some (.loc S.length),some (.int room),some bf,some (.int i),some (.int sz),some (.int (y-3)),some (.int way),some (.lst ((List.replicate i (0:Int)).map D.int)),o10,o11] (S5++[ls.map dL]) Wf':=by
    intro hi0 Wf' hx'
    walk_at "b"
    refine⟨_,_,rfl,rfl,⟨by omega,by omega⟩,by simp;omega,?_⟩
    rw[zeros,Int.toNat_natCast]
    walk_at "b"
    refine aG ((p5.app _).app _) (by decide) (by decide) λ a T6 a0 a1 u6 p6=>?_
    obtain⟨S6,rfl,u6,p6⟩:=u6.split2 p5
    have u6:=u5.trans u6
    walk_at "n"
    obtain⟨z,g1,g2⟩:=fM (ds:=[D.int 1,.int (-1),.int 2,.int (-2)]) a0 a1
    have hz:=y4 g2
    obtain⟨c,rfl,hc1,hc2⟩:∃c:Int,z=.int c/\ -2≤c/\c≤2:=by
     simp only[List.mem_cons,List.not_mem_nil,or_false]at hz
     rcases hz with rfl | rfl | rfl | rfl<;>exact⟨_,rfl,by decide,by decide⟩
    refine⟨_,g1,?_⟩
    walk_at "b"
    refine aG ((p6.app _).app _) (by omega) (by omega) λ j T7 j0 j1 u7 p7=>?_
    obtain⟨S7,rfl,u7,p7⟩:=u7.split2 p6
    have u7:=u6.trans u7
    walk_at "n"
    obtain⟨jn,rfl⟩:∃jn:Nat,j=(jn:Int):=⟨j.toNat,by omega⟩
    have hjn:jn<i:=by omega
    have len7:(S5++[ls.map dL]).length=(S7++[ls.map dL]).length:=by simp[u5.len,u7.len]
    refine⟨_,jn,bI len7,?_,?_⟩
    . unfold ixN
      simp
      omega
    rw[eX len7]
    have e1:((List.replicate i (0:Int)).map D.int).set jn (D.int c)=((List.replicate i (0:Int)).set jn c).map D.int:=by rw[List.map_set]
    rw[e1]
    have hah:∀n∈(List.replicate i (0:Int)).set jn c,-2≤n/\n≤2:=λ n hn=>by
     rcases List.mem_or_eq_of_mem_set hn with hn | rfl
     . have:=(List.mem_replicate.mp hn).2;omega
     . exact⟨hc1,hc2⟩
    have hal:((List.replicate i (0:Int)).set jn c).length=i:=by simp
    generalize (List.replicate i (0:Int)).set jn c=ah at hah hal
    have l7:(S5++[ls.map dL]).length=S.length+1:=by simp[u5.len]
    rw[l7]at len7 ⊢
    have ga:(S7++[ls.map dL]++[ah.map D.int])[S.length+1]? =some (ah.map D.int):=bI len7
    walk_at "b"
    refine⟨_,_,rfl,ga,by simp;omega,?_⟩
    walk_at "b"
    refine⟨_,_,rfl,ga,by simp;omega,?_⟩
    walk_at "b"
    refine⟨_,lW u7.len.symm,by simp;omega,?_⟩
    rw[tG u7.len.symm]
    walk_at "b"
    have:=tail S7 ((y-3,ah),(y-3+sz,ah)) [ah.map D.int] sz .non (some (.lst ((List.replicate i (0:Int)).map D.int))) (some (.loc (S.length+1))) o11 u7 p7 (λ l h=>by
     have:l=ah.map D.int:=by simpa using h
     subst this;exact bG _) ⟨hal,by show-9≤y-3;omega,by show y-3≤9;omega,hah⟩ ⟨hal,by show-9≤y-3+sz;omega,by show y-3+(sz:Int)≤9;omega,hah⟩ hsz1 (by omega) hr3 (λ cs _=>by
     show atC (y-3+sz,ah) cs-atC (y-3,ah) cs≤_
     rw[Ma];omega) (.inl rfl) rfl z9 (.inr ⟨_,rfl,y9 _⟩) (.inl n11)
    rw[v3]at this
    exact hx' _ _ this
   have br1:∀b0 b1:Int,bf=.tup [.int b0,.int b1]->way<2->b1≤room->∀Wf':DL.Fin,(∀G T,(bM B Cq15).wp G T Wf->Wf'.nx G T)->(lK B Cq15).wp [some (.loc k),some (.int m),some (.loc S.length),some (.int room),some bf,some (.int i),some (.int sz),some (.int (y-3)),some (.int way),some (.lst ((List.replicate i (0:Int)).map D.int)),o10,o11] (S5++[ls.map dL]) Wf':=by
    intro b0 b1 ebf hway hb1 Wf' hx'
    subst ebf
    rcases hbf with hbf | ⟨c0,c1,e,q1,q2,q3,q4,q5,q6⟩
    . cases hbf
    cases e
    walk_at "b"
    refine⟨_,_,rfl,rfl,⟨by omega,by omega⟩,by simp;omega,?_⟩
    have hi1:1≤i:=by omega
    have eA:(List.replicate ((i:Int)-1).toNat [D.int 0]).flatten++[D.int 1]=(List.replicate (i-1) (0:Int)++[1]).map D.int:=by
     rw[zeros,show((i:Int)-1).toNat=i-1 by omega,v3];rfl
    have hAl:(List.replicate (i-1) (0:Int)++[1]).length=i:=by simp;omega
    have hAb:∀n∈List.replicate (i-1) (0:Int)++[1],-2≤n/\n≤2:=λ n hn=>by
     rcases List.mem_append.mp hn with hn | hn
     . have:=(List.mem_replicate.mp hn).2;omega
     . have:n=1:=by simpa using hn
       omega
    have hAt:∀(a:Int)(cs':List Int)(c:Int),cs'++[c]∈cnt ls->atC (a,List.replicate (i-1) (0:Int)++[1]) (cs'++[c])=a+c:=λ a cs' c h=>by
     have h1:=Ga ls _ h
     rw[x6,List.length_singleton]at h1
     rw[show i-1=cs'.length by omega]
     exact K4 a cs' c
    generalize hAA:List.replicate (i-1) (0:Int)++[1]=A at eA hAl hAb hAt
    obtain⟨bn,rfl⟩:∃bn:Nat,b1=(bn:Int):=⟨b1.toNat,by omega⟩
    have l5:(S5++[ls.map dL]).length=S.length+1:=by simp[u5.len]
    walk_at "b"
    refine⟨_,_,rfl,rfl,by simp;omega,?_⟩
    rw[eA]
    have ga:∀J,(S5++[ls.map dL]++[A.map D.int]++J)[S.length+1]? =some (A.map D.int):=λ J=>lW l5.symm
    have ga0:(S5++[ls.map dL]++[A.map D.int])[S.length+1]? =some (A.map D.int):=bI l5.symm
    have l6:(S5++[ls.map dL]++[A.map D.int]).length=S.length+2:=by simp[u5.len]
    walk_at "n"
    rw[l5]
    walk_at "b"
    refine⟨_,_,rfl,rfl,by simp;omega,?_⟩
    walk_at "b"
    refine⟨_,_,rfl,ga0,by simp;omega,?_⟩
    walk_at "b"
    rw[l6]
    refine⟨_,_,rfl,ga _,by simp;omega,?_⟩
    walk_at "b"
    refine⟨[b0,(bn:Int)],rfl,?_⟩
    walk_at "b"
    refine⟨_,_,rfl,rfl,by simp;omega,?_⟩
    walk_at "b"
    refine⟨_,bI l6.symm,by simp,?_⟩
    rw[eX l6.symm]
    walk_at "n"
    have hsm:[b0,(bn:Int)].sum=b0+(bn:Int):=by simp
    rw[hsm]
    have fin:∀(l:Lp)(St:List D),ak St=true->BdF l.1 i->BdF l.2 i->(∀cs∈cnt ls,atC l.2 cs-atC l.1 cs≤(bn:Int))->∃ds,(S5++[ls.map dL]++[A.map D.int]++[St])[S.length]? =some ds/\ds.length<1000000/\Wf'.nx [some (.loc k),some (.int m),some (.loc S.length),some (.int room),some .non,some (.int i),some (.int bn),some (.int (y-3)),some (.int way),some (.lst ((List.replicate i (0:Int)).map D.int)),some (.loc (S.length+1)),some (.loc (S.length+2))] ((S5++[ls.map dL]++[A.map D.int]++[St]).set S.length (ds++[dL l])):=by
     intro l St hSt c1 c2 c3
     have e2:∀L:List D,S5++[L]++[A.map D.int]++[St]=S5++[L]++[A.map D.int,St]:=λ L=>by simp
     rw[e2]
     refine⟨_,lW u5.len.symm,by simp;omega,?_⟩
     rw[tG u5.len.symm]
     have:=tail S5 l [A.map D.int,St] bn .non (some (.lst ((List.replicate i (0:Int)).map D.int))) (some (.loc (S.length+1))) (some (.loc (S.length+2))) u5 p5 (λ x h=>by
      rcases List.mem_cons.mp h with rfl | h
      . exact bG _
      . have:x=St:=by simpa using h
        subst this;exact hSt) c1 c2 (by omega) (by omega) (by omega) c3 (.inl rfl) rfl z9 (.inr ⟨_,rfl,y9 _⟩) (.inr ⟨_,rfl,Nat.le_succ _⟩)
     rw[v3]at this
     exact hx' _ _ this
    have hSt:ak ([dL ((b0,List.replicate i 0),(1,A))]++[dL ((0,A),(b0+(bn:Int),List.replicate i 0))])=true:=fJ [_,_]
    have:way=0∨way=1:=by omega
    rcases this with rfl | rfl
    . refine⟨_,dL ((b0,List.replicate i 0),(1,A)),bI l6.symm,rfl,?_⟩
      obtain⟨ds,h1,h2,h3⟩:=fin ((b0,List.replicate i 0),(1,A)) _ hSt (zb b0 (by omega) (by omega)) ⟨hAl,(by decide:(-9:Int)≤1),(by decide:(1:Int)≤9),hAb⟩ (λ cs hcs=>by
       obtain⟨cs',c,rfl,g1,g2⟩:=q6 cs hcs
       show atC (1,A) _-atC (b0,List.replicate i 0) _≤_
       rw[hAt _ _ _ hcs,gP];omega)
      refine⟨ds,h1,h2,?_⟩
      walk_at "b"
      exact h3
    . refine⟨_,dL ((0,A),(b0+(bn:Int),List.replicate i 0)),bI l6.symm,rfl,?_⟩
      obtain⟨ds,h1,h2,h3⟩:=fin ((0,A),(b0+(bn:Int),List.replicate i 0)) _ hSt ⟨hAl,(by decide:(-9:Int)≤0),(by decide:(0:Int)≤9),hAb⟩ (zb _ (by omega) (by omega)) (λ cs hcs=>by
       obtain⟨cs',c,rfl,g1,g2⟩:=q6 cs hcs
       show atC (b0+(bn:Int),List.replicate i 0) _-atC (0,A) _≤_
       rw[hAt _ _ _ hcs,gP];omega)
      refine⟨ds,h1,h2,?_⟩
      walk_at "b"
      exact h3
   have els:∀Wf':DL.Fin,(∀G T,(bM B Cq15).wp G T Wf->Wf'.nx G T)->(Bl.cons (Sm.ite (Te.and (Bt.cons (Te.cmp .Lt (Ex.var 8) (Ex.int 4)) (Bt.one (Te.cmp .Gt (Ex.var 5) (Ex.int 0))))) (gG B Cq15) (gm B Cq15)) Bl.nil).wp [some (.loc k),some (.int m),some (.loc S.length),some (.int room),some bf,some (.int i),some (.int sz),some (.int (y-3)),some (.int way),some (.lst ((List.replicate i (0:Int)).map D.int)),o10,o11] (S5++[ls.map dL]) Wf':=by
    intro Wf' hx'
    walk_at "b"
    refine⟨λ q=>?_,λ q=>⟨λ z=>ff z,λ _=>br3 _ hx'⟩⟩
    walk_at "b"
    refine⟨λ q2=>br2 (by have:=of_decide_eq_true q2;omega) _ hx',λ q2=>br3 _ hx'⟩
   walk_at "b"
   refine⟨λ q=>?_,λ q=>⟨λ z=>ff z,λ _=>els _ λ G T h=>h⟩⟩
   have q:=of_decide_eq_true q
   rcases hbf with rfl | ⟨b0,b1,rfl,hb⟩
   . walk_at "b"
     refine⟨λ q=>?_,λ q=>⟨λ z=>ff z,λ _=>br3 _ λ G T h=>h⟩⟩
     walk_at "b"
     exact⟨λ q2=>br2 (by have:=of_decide_eq_true q2;omega) _ λ G T h=>h,λ q2=>br3 _ λ G T h=>h⟩
   . walk_at "b"
     exact⟨λ q2=>br1 b0 b1 rfl q (of_decide_eq_true q2) _ λ G T h=>h,λ q2=>els _ λ G T h=>h⟩
 . rintro Γ' T ⟨S2,ls,room,bf,o5,o6,o7,o8,o9,o10,o11,rfl,u2,p2,hln,hlp,hr1,hr2,hbf,hnb,_,rfl⟩
   rw[au]at hln
   walk_at "b"
   refine⟨_,bI u2.len.symm,.inr ⟨[_],S2,rfl,by rw[u2.len];exact y9 _,fJ ls,u2.flat hS,hw ls _ ⟨by omega,by omega,hlp⟩ ?_ u2 p2 (u2.flat hS)⟩⟩
   exact Nat.le_trans (Nat.le_mul_of_pos_right _ hr1) hr2
theorem rn{α:Type}{enc:α->D}{P:α->Prop}:∀{ys:List D},(∀(i:Nat)(y:D),ys[i]? =some y->∃a,y=enc a/\P a)->∃as,ys=List.map enc as/\∀a∈as,P a
 | [],_=>⟨[],rfl,by simp⟩
 | y::ys,h=>by
   obtain⟨a,rfl,ha⟩:=h 0 y rfl
   obtain⟨as,rfl,has⟩:=rn (enc:=enc) (P:=P) (ys:=ys) λ i y h'=>h (i+1) y (by simpa using h')
   exact⟨a::as,rfl,by
    intro b hb
    rcases List.mem_cons.mp hb with rfl | hb
    . exact ha
    . exact has b hb⟩
noncomputable def TpB(ws:List Int)(d t:Nat)(pl:List Fm):Prop:=∃w,ws[t]? =some w/\(pl.length:Int)=w/\∀f∈pl,FmB d 1 f
noncomputable def RdB(ws:List Int)(d:Nat)(r:Rd):Prop:= -1000000000000000000000000000000<r.fac/\r.fac<1000000000000000000000000000000/\TpB ws d r.tab r.pl
noncomputable def StB(d:Nat)(f:Fm):Prop:=f.2.length=d/\Kw f.2/\ -1000000000000000000000000000000<f.1/\f.1<1000000000000000000000000000000
noncomputable def DdB(ws:List Int)(d:Nat)(x:Dd):Prop:=TpB ws d x.tab x.pl/\StB d x.st/\x.rds.length≤3/\∀r∈x.rds,RdB ws d r
noncomputable def WsB(ws:List Int):Prop:=1≤ws.length/\ws.length≤3/\∀w∈ws,1≤w/\w≤2
noncomputable def Dv:Ct:=λ ds S W=>∃(k d:Nat) (ws:List Int),ds=[.loc k,dWs ws,.int d]/\aF S k/\flat S/\d≤10/\WsB ws/\∀x S',DdB ws d x->aJ S k S'->aF S' k->flat S'->W (dDd x) S'
theorem Nh{t:Int}(hw:WsB ws)(h0:0≤t)(h1:t<(ws.map D.int).length):∃w:Int,atI (ws.map D.int) t=some (.int w)/\ws[t.toNat]? =some w/\1≤w/\w≤2:=by
 obtain⟨x,a,b⟩:=fM h0 h1
 rw[y8]at b
 cases e:ws[t.toNat]? with
 | none=>rw[e]at b;cases b
 | some w=>rw[e]at b;cases b;exact⟨w,a,rfl,hw.2.2 w (y4 e)⟩
theorem Aa(pl:List Fm):ao (dP pl)=true:=by
 show ak (pl.map dF)=true
 induction pl with
 | nil=>rfl
 | cons y ys ih=>simp only[List.map_cons,ak,ih,eF,Bool.and_true]
theorem qm(rs:List Rd):ak (rs.map dRd)=true:=by
 induction rs with
 | nil=>rfl
 | cons y ys ih=>
   simp only[List.map_cons,ak,ih,Bool.and_true]
   show ak [D.int _,D.int _,dP y.pl]=true
   simp only[ak,Aa,Bool.and_true];rfl
theorem uP(x:Dd):ao (dDd x)=true:=by
 show ak [D.int _,dP x.pl,dF x.st,.tup (x.rds.map dRd)]=true
 have:ao (.tup (x.rds.map dRd))=true:=qm x.rds
 simp only[ak,Aa,eF,this,Bool.and_true];rfl
theorem wk:(10:Int) ^ (30:Int).toNat=1000000000000000000000000000000:=by decide
noncomputable def M8(S:Store)(k d:Nat)(ws:List Int)(t:Int)(pl:List Fm)(st:Fm)(i:Nat)(Γ':Gam)(T:Store):Prop:=∃S2 rds o7 o8 o9 o10,T=S2++[List.map dRd rds]/\aJ S k S2/\aF S2 k/\rds.length=i/\(∀r∈rds,RdB ws d r)/\Γ'=[some (.loc k),some (dWs ws),some (.int d),some (.int t),some (.tup (pl.map dF)),some (dF st),some (.loc S.length),o7,o8,o9,o10]
theorem Hq(F:Fun Ω.K "_law_deed" "_law_deed" pA f fd)(B:Bi Ω.mg)(Cq15:Cal Ω "_law_take" 2 2 cI)(Cq7:Cal Ω "_law_form" 3 3 DK):Ok Ω 4 f fd Kq Dv:=by
 refine aA (N:=J8) F (Bl.drp (Km B Cq15 Cq7)) (by kernel_rfl!) ?_
 rintro ds S W ⟨k,d,ws,rfl,hp,hS,hd,hws,hw⟩ hl
 obtain⟨hw1,hw2,hw3⟩:=id hws
 walk_at "b"
 have hlen:((ws.map D.int).length:Int)=(ws.length:Int):=by rw[y7]
 refine aG hp (by rw[hlen];omega) (by rw[hlen];omega) λ t S1 t0 t1 u1 p1=>?_
 obtain⟨w,g1,g2,gw1,gw2⟩:=Nh hws t0 t1
 walk_at "n"
 refine⟨_,g1,?_⟩
 walk_at "b"
 refine⟨⟨by omega,by omega⟩,lz (λ _ y=>∃f,y=dF f/\FmB d 1 f) (λ S'=>aJ S k S'/\aF S' k/\flat S') (by rw[au];omega) ⟨u1,p1,u1.flat hS⟩ ?_ ?_⟩
 . rintro i e S' he ⟨u,p,f⟩ R hR
   walk_at "b"
   exact⟨rfl,k,d,1,rfl,p,f,hd,by decide,by decide,λ f S4 hf u4 p4 f4=>hR _ _ ⟨f,rfl,hf⟩ ⟨u.trans u4,p4,f4⟩⟩
 rintro ys S2 hyl hys ⟨u2,p2,f2⟩
 obtain⟨pl,rfl,hpl⟩:=rn hys
 rw[au,y7]at hyl
 walk_at "b"
 rw[wk]
 refine aG p2 (by decide) (by decide) λ s S3 s0 s1 u3 p3=>?_
 walk_at "n"
 obtain⟨z,h1,h2⟩:=fM (ds:=[D.int 1,.int 9,.int (1000000000000000000000000000000-1)]) s0 s1
 have hz:=y4 h2
 obtain⟨c,rfl,hc1,hc2⟩:∃c:Int,z=.int c/\1≤c/\c<1000000000000000000000000000000:=by
  simp only[List.mem_cons,List.not_mem_nil,or_false]at hz
  rcases hz with rfl | rfl | rfl<;>exact⟨_,rfl,by decide,by decide⟩
 refine⟨_,h1,?_⟩
 have u3:=u2.trans u3
 walk_at "b"
 refine⟨rfl,k,d,c,rfl,p3,u3.flat hS,hd,hc1,hc2,λ st S4 hst u4 p4 f4=>?_⟩
 have u4:=u3.trans u4
 walk_at "b"
 refine aG (p4.app _) (by decide) (by decide) λ n T n0 n1 u5 p5=>?_
 obtain⟨S5,rfl,u5,p5⟩:=u5.split p4
 have u5:=u4.trans u5
 walk_at "n"
 refine⟨⟨by omega,by omega⟩,aR ⟨M8 S k d ws t pl st,⟨S5,[],none,none,none,none,rfl,u5,p5,rfl,λ r h=>(by cases h),by rw[←u4.len];rfl⟩,?_,?_⟩⟩
 . rintro i e Γ' T he ⟨S6,rds,o7,o8,o9,o10,rfl,u6,p6,hrl,hrd,rfl⟩
   obtain⟨hi,rfl⟩:=bC he
   suffices body:∀Wf:DL.Fin,(∀G T,M8 S k d ws t pl st (i+1) G T->Wf.nx G T)->(oG B Cq15 Cq7).wp [some (.loc k),some (dWs ws),some (.int d),some (.int t),some (.tup (pl.map dF)),some (dF st),some (.loc S.length),some (.int (0+(i:Int))),o8,o9,o10] (S6++[rds.map dRd]) Wf by
    refine jH ?_
    simp only[List.set_cons_succ,List.set_cons_zero]
    exact body _ λ G T h=>h
   intro Wf hnx
   walk_at "b"
   refine aG (p6.app _) (by rw[hlen];omega) (by rw[hlen];omega) λ o T7 o0 o1 u7 p7=>?_
   obtain⟨S7,rfl,u7,p7⟩:=u7.split p6
   have u7:=u6.trans u7
   obtain⟨w',g1',g2',gw1',gw2'⟩:=Nh hws o0 o1
   walk_at "b"
   refine aG (p7.app _) (by decide) (by decide) λ way T8 w0 w1 u8 p8=>?_
   obtain⟨S8,rfl,u8,p8⟩:=u8.split p7
   have u8:=u7.trans u8
   have rest:∀(c:Int)(S9:Store),aJ S k S9->aF S9 k-> -1000000000000000000000000000000<c->c<1000000000000000000000000000000->(jY B Cq15 Cq7).wp [some (.loc k),some (dWs ws),some (.int d),some (.int t),some (.tup (pl.map dF)),some (dF st),some (.loc S.length),some (.int (0+(i:Int))),some (.int o),some (.int way),some (.int c)] (S9++[rds.map dRd]) Wf:=by
    intro c S9 u9 p9 c1 c2
    walk_at "n"
    refine⟨_,g1',?_⟩
    walk_at "b"
    refine⟨⟨by omega,by omega⟩,lz (λ _ y=>∃f,y=dF f/\FmB d 1 f) (λ T=>∃S',T=S'++[rds.map dRd]/\aJ S k S'/\aF S' k) (by rw[au];omega) ⟨S9,rfl,u9,p9⟩ ?_ ?_⟩
    . rintro j e T he ⟨S',rfl,u,p⟩ R hR
      walk_at "b"
      refine⟨rfl,k,d,1,rfl,p.app _,cW (u.flat hS) (qm _),hd,by decide,by decide,λ f S4 hf u4 p4 f4=>?_⟩
      obtain⟨S5,rfl,u5,p5⟩:=u4.split p
      exact hR _ _ ⟨f,rfl,hf⟩ ⟨S5,rfl,u.trans u5,p5⟩
    rintro ys T hyl hys ⟨S10,rfl,u10,p10⟩
    obtain⟨pl',rfl,hpl'⟩:=rn hys
    rw[au,y7]at hyl
    walk_at "b"
    refine⟨_,bI u10.len.symm,by simp;omega,?_⟩
    rw[eX u10.len.symm]
    obtain⟨on,rfl⟩:∃on:Nat,o=(on:Int):=⟨o.toNat,by omega⟩
    refine hnx _ _ ⟨S10,rds++[⟨c,on,pl'⟩],some (.int (0+(i:Int))),some (.int on),some (.int way),some (.int c),by rw[v3];rfl,u10,p10,by simp[hrl],λ r hr=>?_,rfl⟩
    rcases List.mem_append.mp hr with hr | hr
    . exact hrd r hr
    . have:r=⟨c,on,pl'⟩:=by simpa using hr
      subst this
      exact⟨c1,c2,w',by simpa using g2',by show(pl'.length:Int)=w';omega,hpl'⟩
   walk_at "n"
   obtain⟨z,h1,h2⟩:=fM (ds:=[D.int 1,.int (-1),.int 2,.int 3,.int 0,.int 1,.int (-5),.int 0]) w0 w1
   have hz:=y4 h2
   obtain⟨c,rfl,hc1,hc2⟩:∃c:Int,z=.int c/\ -1000000000000000000000000000000<c/\c<1000000000000000000000000000000:=by
    simp only[List.mem_cons,List.not_mem_nil,or_false]at hz
    rcases hz with rfl | rfl | rfl | rfl | rfl | rfl | rfl | rfl<;>exact⟨_,rfl,by decide,by decide⟩
   refine⟨(by decide:(8:Nat)≤1000000),?_⟩
   walk_at "n"
   refine⟨_,h1,?_⟩
   walk_at "b"
   refine⟨λ q=>?_,λ q=>rest c S8 u8 p8 hc1 hc2⟩
   walk_at "b"
   rw[wk]
   refine aG (p8.app _) (by decide) (by decide) λ v T9 v0 v1 u9 p9=>?_
   obtain⟨S9,rfl,u9,p9⟩:=u9.split p8
   walk_at "b"
   rw[wk]
   exact rest _ S9 (u8.trans u9) p9 (by omega) (by omega)
 . rintro Γ' T ⟨S6,rds,o7,o8,o9,o10,rfl,u6,p6,hrl,hrd,rfl⟩
   rw[au]at hrl
   obtain⟨tn,rfl⟩:∃tn:Nat,t=(tn:Int):=⟨t.toNat,by omega⟩
   walk_at "b"
   refine⟨_,bI u6.len.symm,?_⟩
   walk_at "b"
   have ok:DdB ws d ⟨tn,pl,st,rds⟩:=⟨⟨w,by simpa using g2,by show(pl.length:Int)=w;omega,hpl⟩,⟨hst.1,hst.2.1,by have:=hst.2.2;show _<st.1;omega,by have:=hst.2.2;show st.1<_;omega⟩,by show rds.length≤3;omega,hrd⟩
   exact .inr ⟨[_],S6,rfl,by rw[u6.len];exact y9 _,uP ⟨tn,pl,st,rds⟩,u6.flat hS,hw ⟨tn,pl,st,rds⟩ _ ok u6 p6 (u6.flat hS)⟩
noncomputable def NsB(ws:List Int)(m:Nat)(n:Ns):Prop:=Lps n.lps/\1≤n.dds.length/\n.dds.length≤4/\(cnt n.lps).length≤max 1 (m/n.dds.length)/\∀x∈n.dds,DdB ws n.lps.length x
noncomputable def PgB(m:Nat)(p:Pg):Prop:=WsB p.ws/\1≤p.nss.length/\p.nss.length≤3/\∀n∈p.nss,NsB p.ws (m/p.nss.length) n
noncomputable def Dk:Ct:=λ ds S W=>∃(k m:Nat),ds=[.loc k,.int m]/\aF S k/\flat S/\12≤m/\m≤60/\∀p S',PgB m p->aJ S k S'->aF S' k->flat S'->W (dPg p) S'
theorem Gg(xs:List Dd):ak (xs.map dDd)=true:=by
 induction xs with
 | nil=>rfl
 | cons y ys ih=>simp only[List.map_cons,ak,ih,uP,Bool.and_true]
theorem Jm(n:Ns):ao (dNs n)=true:=by
 show ak [.tup (n.lps.map dL),.tup (n.dds.map dDd)]=true
 have h1:ao (.tup (n.lps.map dL))=true:=fJ _
 have h2:ao (.tup (n.dds.map dDd))=true:=Gg _
 simp only[ak,h1,h2,Bool.and_true]
theorem jN(xs:List Ns):ak (xs.map dNs)=true:=by
 induction xs with
 | nil=>rfl
 | cons y ys ih=>simp only[List.map_cons,ak,ih,Jm,Bool.and_true]
theorem Ig(p:Pg):ao (dPg p)=true:=by
 show ak [dWs p.ws,.tup (p.nss.map dNs)]=true
 have h1:ao (dWs p.ws)=true:=bG _
 have h2:ao (.tup (p.nss.map dNs))=true:=jN _
 simp only[ak,h1,h2,Bool.and_true]
noncomputable def M9(S:Store)(k m:Nat)(ws:List Int)(many:Nat)(i:Nat)(Γ':Gam)(T:Store):Prop:=∃S2 nss o5 o6 o7,T=S2++[List.map dNs nss]/\aJ S k S2/\aF S2 k/\nss.length=i/\(∀n∈nss,NsB ws (m/many) n)/\Γ'=[some (.loc k),some (.int m),some (dWs ws),some (.int many),some (.loc S.length),o5,o6,o7]
theorem zX(F:Fun Ω.K "_law_program" "_law_program" iy f fd)(B:Bi Ω.mg)(Cq15:Cal Ω "_law_take" 2 2 cI)(Cq8:Cal Ω "_law_loops" 3 2 xf)(Cq4:Cal Ω "_law_deed" 4 3 Dv):Ok Ω 5 f fd Ag Dk:=by
 refine aA (N:=Ai) F (Bl.drp (Af B Cq15 Cq8 Cq4)) (by kernel_rfl!) ?_
 rintro ds S W ⟨k,m,rfl,hp,hS,hm1,hm2,hw⟩ hl
 walk_at "b"
 refine aG hp (by decide) (by decide) λ v S1 v0 v1 u1 p1=>?_
 walk_at "b"
 refine⟨⟨by omega,by omega⟩,lz (λ _ y=>∃n:Int,y=.int n/\(1≤n/\n≤2)) (λ S'=>aJ S k S'/\aF S' k) (by rw[au];omega) ⟨u1,p1⟩ ?_ ?_⟩
 . rintro i d S' hd ⟨u,p⟩ R hR
   walk_at "b"
   refine aG p (by decide) (by decide) λ w S2 w0 w1 u2 p2=>?_
   walk_at "b"
   exact hR _ _ ⟨_,rfl,by omega,by omega⟩ ⟨u.trans u2,p2⟩
 rintro ys S2 hyl hys ⟨u2,p2⟩
 obtain⟨ws,rfl,hws⟩:=ph hys
 rw[au,y7]at hyl
 have hW:WsB ws:=⟨by omega,by omega,hws⟩
 walk_at "b"
 refine aG p2 (by decide) (by decide) λ mv S3 m0 m1 u3 p3=>?_
 have u3:=u2.trans u3
 obtain⟨many,hmany⟩:∃n:Nat,1+mv=(n:Int):=⟨(1+mv).toNat,by omega⟩
 walk_at "b"
 rw[hmany]
 refine⟨⟨by omega,by omega⟩,aR ⟨M9 S k m ws many,⟨S3,[],none,none,none,rfl,u3,p3,rfl,λ r h=>(by cases h),by rw[←u3.len];rfl⟩,?_,?_⟩⟩
 . rintro i e Γ' T he ⟨S4,nss,o5,o6,o7,rfl,u4,p4,hnl,hns,rfl⟩
   obtain⟨hi,rfl⟩:=bC he
   suffices body:∀Wf:DL.Fin,(∀G T,M9 S k m ws many (i+1) G T->Wf.nx G T)->(jd B Cq15 Cq8 Cq4).wp [some (.loc k),some (.int m),some (dWs ws),some (.int many),some (.loc S.length),some (.int (0+(i:Int))),o6,o7] (S4++[nss.map dNs]) Wf by
    refine jH ?_
    simp only[List.set_cons_succ,List.set_cons_zero]
    exact body _ λ G T h=>h
   intro Wf hnx
   walk_at "b"
   refine aG (p4.app _) (by decide) (by decide) λ dv T5 d0 d1 u5 p5=>?_
   obtain⟨S5,rfl,u5,p5⟩:=u5.split p4
   have u5:=u4.trans u5
   obtain⟨dn,hdn⟩:∃n:Nat,1+dv=(n:Int):=⟨(1+dv).toNat,by omega⟩
   walk_at "b"
   rw[hdn]
   have em:(if(m:Int)/(many:Int)/(dn:Int)>1 then(m:Int)/(many:Int)/(dn:Int)else 1)=((max 1 (m/many/dn):Nat):Int):=by
    rw[←Int.natCast_ediv,←Int.natCast_ediv]
    split<;>omega
   have hdiv:m/many/dn≤60:=Nat.le_trans (Nat.div_le_self _ _) (Nat.le_trans (Nat.div_le_self _ _) hm2)
   rw[em]
   refine⟨rfl,k,max 1 (m/many/dn),rfl,p5.app _,cW (u5.flat hS) (jN _),by omega,by omega,λ ls T6 hls hcn u6 p6 f6=>?_⟩
   obtain⟨S6,rfl,u6,p6⟩:=u6.split p5
   have u6:=u5.trans u6
   walk_at "b"
   have l3:=hls.2.1
   refine⟨⟨by omega,by omega⟩,lz (λ _ y=>∃x,y=dDd x/\DdB ws ls.length x) (λ T=>∃S',T=S'++[nss.map dNs]/\aJ S k S'/\aF S' k) (by rw[au];omega) ⟨S6,rfl,u6,p6⟩ ?_ ?_⟩
   . rintro j e T he ⟨S',rfl,u,p⟩ R hR
     walk_at "b"
     rw[y7]
     refine⟨rfl,k,ls.length,ws,rfl,p.app _,cW (u.flat hS) (jN _),by omega,hW,λ f S4 hf u4 p4 f4=>?_⟩
     obtain⟨S5,rfl,u5,p5⟩:=u4.split p
     exact hR _ _ ⟨f,rfl,hf⟩ ⟨S5,rfl,u.trans u5,p5⟩
   rintro ys T hyl hys ⟨S7,rfl,u7,p7⟩
   obtain⟨dds,rfl,hdds⟩:=rn hys
   rw[au,y7]at hyl
   walk_at "b"
   refine⟨_,bI u7.len.symm,by simp;omega,?_⟩
   rw[eX u7.len.symm]
   refine hnx _ _ ⟨S7,nss++[⟨ls,dds⟩],some (.int (0+(i:Int))),some (.int dn),some (.tup (ls.map dL)),by rw[v3];rfl,u7,p7,by simp[hnl],λ r hr=>?_,rfl⟩
   rcases List.mem_append.mp hr with hr | hr
   . exact hns r hr
   . have:r=⟨ls,dds⟩:=by simpa using hr
     subst this
     have e:dds.length=dn:=by omega
     exact⟨hls,by show 1≤dds.length;omega,by show dds.length≤4;omega,by show _≤max 1 (m/many/dds.length);rw[e];exact hcn,hdds⟩
 . rintro Γ' T ⟨S4,nss,o5,o6,o7,rfl,u4,p4,hnl,hns,rfl⟩
   rw[au]at hnl
   walk_at "b"
   refine⟨_,bI u4.len.symm,?_⟩
   walk_at "b"
   have ok:PgB m ⟨ws,nss⟩:=⟨hW,by show 1≤nss.length;omega,by show nss.length≤3;omega,λ n hn=>by
    show NsB ws (m/nss.length) n
    rw[show nss.length=many by omega]
    exact hns n hn⟩
   exact .inr ⟨[_],S4,rfl,by rw[u4.len];exact y9 _,Ig ⟨ws,nss⟩,u4.flat hS,hw ⟨ws,nss⟩ _ ok u4 p4 (u4.flat hS)⟩
noncomputable def wg:Ct:=λ ds S W=>∃(f:Fm) (cs:List Int),ds=[dF f,dC cs]/\f.2.length=cs.length/\cs.length≤10/\C64 cs/\W (.int (atC f cs)) S
noncomputable def qz(fs cs:List Int):D->D
 | .int i=>.int (fs.getD i.toNat 0*cs.getD i.toNat 0)
 | d=>d
theorem JR{fs:List Int}(h:fs.length=cs.length):(DL.upTo 0 cs.length).map (qz fs cs)=(List.zipWith (λ a b=>a*b) fs cs).map D.int:=by
 refine List.ext_getElem (by simp[h,au]) λ i h1 h2=>?_
 have hi:i<cs.length:=by simpa[au]using h1
 have hf:i<fs.length:=by omega
 simp[DL.upTo,qz,List.getD,hi,hf]
theorem N8(F:Fun Ω.K "_law_at" "_law_at" zZ f fd)(B:Bi Ω.mg):Ok Ω 1 f fd RQ wg:=by
 refine aA (N:=Ry) F (QR B) (by kernel_rfl!) ?_
 rintro ds S W ⟨⟨a,fs⟩,cs,rfl,hf,hz,hc,hw⟩ hl
 dsimp only at hf
 walk_at "b"
 refine⟨_,aP (j:=0) rfl,?_⟩
 walk_at "b"
 have e0:((cs.map D.int).length:Int).toNat=cs.length:=by simp
 refine⟨⟨by omega,by simp;omega⟩,?_⟩
 rw[e0]
 refine dq (qz fs cs) (by rw[au];omega) ?_ ?_
 . intro i e he Q hq
   obtain⟨hi,rfl⟩:=bC he
   have hf':i<fs.length:=by omega
   have g1:atI (D.int a::fs.map D.int) (1+(0+(i:Int)))=some (.int fs[i]):=by
    have:(1+(0+(i:Int)))=((i+1:Nat):Int):=by omega
    rw[this]
    exact aP (by simp[hf'])
   have g2:atI (cs.map D.int) (0+(i:Int))=some (.int cs[i]):=by
    have:(0+(i:Int))=((i:Nat):Int):=by omega
    rw[this]
    exact aP (by simp[hi])
   have hci:=hc cs[i] (List.getElem_mem _)
   walk_at "b"
   refine⟨_,g1,?_⟩
   walk_at "b"
   refine⟨_,g2,?_⟩
   walk_at "b"
   have e:qz fs cs (.int (0+(i:Int)))=.int (fs[i]*cs[i]):=by
    have:(0+(i:Int)).toNat=i:=by omega
    simp[qz,List.getD,hi,hf']
   rw[e]at hq
   exact hq
 . rw[JR hf]
   refine⟨_,rfl,?_⟩
   walk_at "b"
   exact hw
noncomputable def DY:Ct:=λ ds S W=>∃(t:Nat) (pl:List Fm) (cs:List Int),ds=[.int t,dP pl,dC cs]/\pl.length≤1000/\(∀f∈pl,f.2.length=cs.length)/\cs.length≤10/\C64 cs/\W (aB (spot t pl cs)) S
theorem Jj(F:Fun Ω.K "_law_spot" "_law_spot" oX f fd)(B:Bi Ω.mg)(Cq0:Cal Ω "_law_at" 1 2 wg):Ok Ω 2 f fd Mz DY:=by
 refine aA (N:=Ka) F (LQ B Cq0) (by kernel_rfl!) ?_
 rintro ds S W ⟨t,pl,cs,rfl,hpl,hfl,hcl,hcs,hw⟩ hl
 walk_at "b"
 refine fO (λ f=>.int (atC f cs)) (by omega) ?_ ?_
 . intro i f hf Q hq
   walk_at "b"
   exact⟨rfl,f,cs,rfl,hfl f (y4 hf),hcl,hcs,hq⟩
 . walk_at "b"
   have e:(spot t pl cs).2.map D.int=pl.map λ f=>D.int (atC f cs):=by unfold spot;rw[List.map_map];rfl
   unfold aB at hw
   rw[e]at hw
   exact hw
theorem Cs.c64(h:Cs i cs):C64 cs:=λ c hc=>by
 have:=h.2 c hc
 have:=xH i
 omega
noncomputable def Jg:Ct:=λ ds S W=>∃ls,ds=[.tup (List.map dL ls)]/\Lps ls/\flat S/\W (.lst ((cnt ls).map dC)) S
theorem xK{o:Option D}(h:nlO o):rY k ds o=o:=by
 cases o with
 | none=>rfl
 | some d=>
   cases d with
   | loc j=>have:=h _ rfl;simp[ao]at this
   | _=>rfl
theorem Kh(cs:List Int):ao (dC cs)=true:=bG cs
theorem Cj(F:Fun Ω.K "_law_counts" "_law_counts" jJ f fd)(B:Bi Ω.mg)(Cq0:Cal Ω "_law_at" 1 2 wg):Ok Ω 2 f fd Gb Jg:=by
 refine aA (N:=El) F (Gz B Cq0) (by kernel_rfl!) ?_
 rintro ds S W ⟨ls,rfl,hL,hS,hw⟩ hl
 walk_at "b"
 refine aR ⟨λ i Γ' S'=>(∃o2 o3 o4 o5 o6,Γ'=[some (.tup (ls.map dL)),some (.lst ((cnt (ls.take i)).map dC)),o2,o3,o4,o5,o6]/\nlO o5/\nlO o6)/\S'=S,⟨⟨_,_,_,_,_,rfl,cA,cA⟩,rfl⟩,?_,?_⟩
 . rintro i e Γ' S' he ⟨⟨o2,o3,o4,o5,o6,rfl,n5,n6⟩,rfl⟩
   rw[y8]at he
   cases e1:ls[i]? with
   | none=>rw[e1]at he;cases he
   | some l=>
     rw[e1]at he
     cases he
     have hi:=(z0.mp e1).1
     have h3:=hL.2.1
     obtain⟨lo,hi_⟩:=l
     obtain⟨b1,b2⟩:=hL.2.2 i _ e1
     dsimp only at b1 b2
     have hcs:=mj hL i (by omega)
     have hln:=(hL.fits.2 (i+1) (by omega)).1
     have hgo:=jr e1
     rw[hgo]at hln
     dsimp only at hgo hln
     generalize hG:cnt (ls.take i)=G at*
     walk_at "b"
     refine⟨rfl,?_⟩
     walk_at "b"
     refine aR ⟨λ m Γ' T=>(∃o5 o6,Γ'=[some (.tup (ls.map dL)),some (.lst (G.map dC)),some (dF lo),some (dF hi_),some (.loc S'.length),o5,o6]/\nlO o5/\nlO o6)/\T=S'++[(aN lo hi_ (G.take m)).map dC],⟨⟨_,_,rfl,n5,n6⟩,rfl⟩,?_,?_⟩
     . rintro m e Γ' T he ⟨⟨o5,o6,rfl,n5,n6⟩,rfl⟩
       obtain⟨cs,e2,rfl⟩:=cJ he
       have hc:=hcs cs (y4 e2)
       have hb:=xH (i+1)
       have a1:=jl (by omega) b1 hc
       have a2:=jl (by omega) b2 hc
       have lf:=xO (lo:=lo) (hi:=hi_) e2
       walk_at "b"
       refine⟨rfl,lo,cs,rfl,by rw[b1.1,hc.1],by rw[hc.1];omega,hc.c64,?_⟩
       walk_at "b"
       refine⟨rfl,hi_,cs,rfl,by rw[b2.1,hc.1],by rw[hc.1];omega,hc.c64,?_⟩
       walk_at "b"
       refine⟨⟨by omega,by omega,by omega,by omega⟩,aR ⟨λ j Γ' T=>(∃o6,Γ'=[some (.tup (ls.map dL)),some (.lst (G.map dC)),some (dF lo),some (dF hi_),some (.loc S'.length),some (dC cs),o6]/\nlO o6)/\T=S'++[(aN lo hi_ (G.take m)++(bz lo hi_ cs).take j).map dC],⟨⟨_,rfl,n6⟩,by simp⟩,?_,?_⟩⟩
       . rintro j e Γ' T he ⟨⟨o6,rfl,n6⟩,rfl⟩
         obtain⟨hj,rfl⟩:=bC he
         have hj':j<(bz lo hi_ cs).length:=by rw[cz];exact hj
         walk_at "b"
         refine⟨by rw[y7,hc.1,List.length_singleton];omega,_,b8 _ _,by rw[y7,x6,List.length_take];omega,?_⟩
         refine⟨⟨_,rfl,iW _⟩,?_⟩
         rw[cB]
         have e3:(bz lo hi_ cs)[j]? =some (cs++[atC lo cs+(j:Int)]):=by
          unfold bz
          rw[y8,Ea (by rw[cz]at hj';exact hj')];rfl
         have e4:dC (cs++[atC lo cs+(j:Int)])=D.tup (cs.map D.int++[D.int (atC lo cs+(j:Int))]):=by
          unfold dC;rw[v3];rfl
         rw[aM e3,←List.append_assoc,v3 (l₂:=[_]),List.map_singleton,e4]
       . rintro Γ' T ⟨⟨o6,rfl,n6⟩,rfl⟩
         refine⟨⟨_,_,rfl,λ d h=>by cases h;exact Kh cs,n6⟩,?_⟩
         have e5:(bz lo hi_ cs).take (DL.upTo (atC lo cs) (atC hi_ cs-atC lo cs).toNat).length=bz lo hi_ cs:=by
          rw[au];exact List.take_of_length_le (by rw[cz];exact y9 _)
         rw[e5,gM e2]
     . rintro Γ' T ⟨⟨o5,o6,rfl,n5,n6⟩,rfl⟩
       rw[y7,List.take_length,←hgo]
       walk_at "b"
       refine .inr ⟨_,_,rfl,y9 _,lV _,hS,?_,⟨some (dF lo),some (dF hi_),some (.lst ((cnt (ls.take (i+1))).map dC)),o5,o6,?_,n5,n6⟩,rfl⟩
       . intro x d hx
         match x,hx with
         | 0,hx=>cases hx;exact .inl (fJ _)
         | 1,hx=>cases hx;exact .inr ⟨_,rfl⟩
         | 2,hx=>cases hx;exact .inl (eF _)
         | 3,hx=>cases hx;exact .inl (eF _)
         | 4,hx=>cases hx;exact .inr ⟨_,rfl⟩
         | 5,hx=>exact .inl (n5 d (by simpa using hx))
         | 6,hx=>exact .inl (n6 d (by simpa using hx))
         | x+7,hx=>simp at hx
       . show[_,_,_,_,_,_,_]=[_,_,_,_,_,_,_]
         rw[xK n5,xK n6]
         simp[rY,dF]
 . rintro Γ' S' ⟨⟨o2,o3,o4,o5,o6,rfl,n5,n6⟩,rfl⟩
   rw[y7,List.take_length]
   walk_at "b"
   exact hw
noncomputable def dPt(cs:List Int)(r:Rd):D:=.tup [.int r.fac,aB (spot r.tab r.pl cs)]
noncomputable def b7(cs:List Int)(x:Dd):D:=.tup [aB (spot x.tab x.pl cs),.int (atC x.st cs),.lst (x.rds.map (dPt cs))]
noncomputable def pP(n:Ns):List D:=(cnt n.lps).flatMap λ cs=>n.dds.map (b7 cs)
noncomputable def Er(p:Pg):List D:=p.nss.flatMap pP
noncomputable def yC:Ct:=λ ds S W=>∃(p:Pg) (m:Nat),ds=[dPg p]/\PgB m p/\m≤60/\flat S/\hand W (Er p) S
theorem wM{α β:Type}{f:α->List β}{b:Nat}:∀{l:List α},(∀a∈l,(f a).length≤b)->(l.flatMap f).length≤l.length*b
 | [],_=>by simp
 | a::l,h=>by
   have ih:=wM (l:=l) λ x hx=>h x (x3 _ hx)
   have:=h a x5
   rw[List.flatMap_cons,x6,List.length_cons,Nat.succ_mul]
   omega
theorem oA(c:Cell):ao (aB c)=true:=by
 have h:ao (.tup (c.2.map D.int))=true:=bG _
 show ak [D.int _,.tup (c.2.map D.int)]=true
 simp only[ak,h,Bool.and_true];rfl
theorem rG{α:Type}{f:α->D}(h:∀a,ao (f a)=true):∀l:List α,ak (l.map f)=true
 | []=>rfl
 | a::l=>by simp only[List.map_cons,ak,h,rG h l,Bool.and_true]
theorem IW(cs:List Int)(r:Rd):ao (dPt cs r)=true:=by
 show ak [D.int _,aB _]=true
 simp only[ak,oA,Bool.and_true];rfl
theorem qZ(cs:List Int)(x:Dd):ao (b7 cs x)=true:=by
 have h:ao (.lst (x.rds.map (dPt cs)))=true:=rG (IW cs) _
 show ak [aB _,D.int _,.lst (x.rds.map (dPt cs))]=true
 simp only[ak,oA,h,Bool.and_true];rfl
theorem jA:∀{l:List D},(∀d∈l,ao d=true)->ak l=true
 | [],_=>rfl
 | d::l,h=>by simp only[ak,h d x5,jA λ x hx=>h x (x3 _ hx),Bool.and_true]
theorem BR(p:Pg):ak (Er p)=true:=jA λ d hd=>by
 obtain⟨n,_,hd⟩:=List.mem_flatMap.mp hd
 obtain⟨cs,_,hd⟩:=List.mem_flatMap.mp hd
 obtain⟨x,_,rfl⟩:=List.mem_map.mp hd
 exact qZ cs x
theorem Di{α β:Type}{f:α->List β}{l:List α}{a:α}(h:l[i]? =some a):(l.take (i+1)).flatMap f=(l.take i).flatMap f++f a:=by
 rw[aM h,List.flatMap_append];simp
theorem Gw(F:Fun Ω.K "_law_steps" "_law_steps" lU f fd)(Cq0:Cal Ω "_law_at" 1 2 wg)(Cq3:Cal Ω "_law_counts" 2 1 Jg)(Cq13:Cal Ω "_law_spot" 2 3 DY):Ok Ω 3 f fd IK yC:=by
 refine aA (N:=GQ) F (Bl.frz (Hw Cq0 Cq3 Cq13)) (by kernel_rfl!) ?_
 rintro ds S W ⟨p,m,rfl,hP,hm,hS,hw⟩ hl
 obtain⟨hW,hn1,hn3,hns⟩:=hP
 have big:∀n∈p.nss,(cnt n.lps).length≤60/\n.dds.length≤4:=λ n hn=>by
  obtain⟨_,_,h4,hc,_⟩:=hns n hn
  have h1:m/p.nss.length/n.dds.length≤60:=Nat.le_trans (Nat.div_le_self _ _) (Nat.le_trans (Nat.div_le_self _ _) hm)
  exact⟨by omega,h4⟩
 have b1:∀(n:Ns)(j:Nat),n∈p.nss->(((cnt n.lps).take j).flatMap λ cs=>n.dds.map (b7 cs)).length≤240:=λ n j hn=>by
  obtain⟨h1,h2⟩:=big n hn
  have:=wM (l:=(cnt n.lps).take j) (f:=λ cs=>n.dds.map (b7 cs)) (b:=4) (λ cs _=>by rw[y7];exact h2)
  rw[List.length_take]at this
  omega
 have b2:∀i:Nat,((p.nss.take i).flatMap pP).length≤720:=λ i=>by
  have:=wM (l:=p.nss.take i) (f:=pP) (b:=240) (λ n hn=>by
   have:=b1 n (cnt n.lps).length (List.mem_of_mem_take hn)
   rw[List.take_length]at this
   exact this)
  rw[List.length_take]at this
  omega
 walk_at "b"
 refine aR ⟨λ i Γ' S'=>(∃o2 o3 o4 o5 o6 o7 o8 o9,Γ'=[some (dPg p),some (.loc S.length),o2,o3,o4,o5,o6,o7,o8,o9])/\S'=S++[(p.nss.take i).flatMap pP],⟨⟨_,_,_,_,_,_,_,_,rfl⟩,rfl⟩,?_,?_⟩
 . rintro i e Γ' S' he ⟨⟨o2,o3,o4,o5,o6,o7,o8,o9,rfl⟩,rfl⟩
   obtain⟨n,hn,rfl⟩:=cJ he
   have hnm:=y4 hn
   obtain⟨hL,d1,d4,hc,hdd⟩:=hns n hnm
   obtain⟨g1,g2⟩:=big n hnm
   have gb:=b2 i
   walk_at "b"
   refine⟨rfl,?_⟩
   walk_at "b"
   refine⟨rfl,n.lps,rfl,hL,cW hS ?_,?_⟩
   . exact jA λ d hd=>by
      obtain⟨n,_,hd⟩:=List.mem_flatMap.mp hd
      obtain⟨cs,_,hd⟩:=List.mem_flatMap.mp hd
      obtain⟨x,_,rfl⟩:=List.mem_map.mp hd
      exact qZ cs x
   walk_at "n"
   refine aR ⟨λ j Γ' S'=>(∃o4 o5 o6 o7 o8 o9,Γ'=[some (dPg p),some (.loc S.length),some (.tup (n.lps.map dL)),some (.tup (n.dds.map dDd)),o4,o5,o6,o7,o8,o9])/\S'=S++[(p.nss.take i).flatMap pP++((cnt n.lps).take j).flatMap λ cs=>n.dds.map (b7 cs)],⟨⟨_,_,_,_,_,_,rfl⟩,by simp⟩,?_,?_⟩
   . rintro j e Γ' S' he ⟨⟨o4,o5,o6,o7,o8,o9,rfl⟩,rfl⟩
     obtain⟨cs,hcs,rfl⟩:=cJ he
     have hC:Cs n.lps.length cs:=mj hL n.lps.length (y9 _) cs (by rw[List.take_length];exact y4 hcs)
     have hcl:cs.length≤10:=by have:=hC.1;have:=hL.2.1;omega
     have gj:=b1 n j hnm
     walk_at "b"
     refine aR ⟨λ t Γ' S'=>(∃o5 o6 o7 o8 o9,Γ'=[some (dPg p),some (.loc S.length),some (.tup (n.lps.map dL)),some (.tup (n.dds.map dDd)),some (dC cs),o5,o6,o7,o8,o9])/\S'=S++[((p.nss.take i).flatMap pP++((cnt n.lps).take j).flatMap λ cs=>n.dds.map (b7 cs))++(n.dds.take t).map (b7 cs)],⟨⟨_,_,_,_,_,rfl⟩,by simp⟩,?_,?_⟩
     . rintro t e Γ' S' he ⟨⟨o5,o6,o7,o8,o9,rfl⟩,rfl⟩
       obtain⟨x,hx,rfl⟩:=cJ he
       obtain⟨⟨w,_,hwl,hpl⟩,hst,hr3,hrd⟩:=hdd x (y4 hx)
       have plen:∀{t:Nat}{pl:List Fm},TpB p.ws n.lps.length t pl->pl.length≤1000/\∀f∈pl,f.2.length=cs.length:=λ{t pl} h=>by
        obtain⟨w,hw,hl,hf⟩:=h
        have:=hW.2.2 w (y4 hw)
        exact⟨by omega,λ f h=>by rw[(hf f h).1,hC.1]⟩
       walk_at "b"
       refine⟨rfl,?_⟩
       walk_at "b"
       refine fO (dPt cs) (by omega) ?_ ?_
       . intro y r hr Q hq
         obtain⟨_,_,htp⟩:=hrd r (y4 hr)
         obtain⟨q1,q2⟩:=plen htp
         walk_at "b"
         refine⟨rfl,?_⟩
         walk_at "b"
         refine⟨rfl,r.tab,r.pl,cs,rfl,q1,q2,hcl,hC.c64,?_⟩
         walk_at "b"
         exact hq
       obtain⟨q1,q2⟩:=plen ⟨w,‹_›,hwl,hpl⟩
       walk_at "b"
       refine⟨rfl,x.tab,x.pl,cs,rfl,q1,q2,hcl,hC.c64,?_⟩
       walk_at "b"
       refine⟨rfl,x.st,cs,rfl,by rw[hst.1,hC.1],hcl,hC.c64,?_⟩
       walk_at "b"
       refine⟨_,b8 _ _,by simp only[x6,y7,List.length_take];omega,?_⟩
       rw[cB]
       refine⟨⟨_,_,_,_,_,rfl⟩,?_⟩
       rw[aM hx,v3 (l₂:=[_]),List.append_assoc];rfl
     . rintro Γ' S' ⟨⟨o5,o6,o7,o8,o9,rfl⟩,rfl⟩
       refine⟨⟨_,_,_,_,_,_,rfl⟩,?_⟩
       rw[y7,List.take_length,Di hcs,←List.append_assoc]
   . rintro Γ' S' ⟨⟨o4,o5,o6,o7,o8,o9,rfl⟩,rfl⟩
     refine⟨⟨_,_,_,_,_,_,_,_,rfl⟩,?_⟩
     rw[y7,List.take_length,Di hn];rfl
 . rintro Γ' S' ⟨⟨o2,o3,o4,o5,o6,o7,o8,o9,rfl⟩,rfl⟩
   rw[y7,List.take_length]
   exact pU hw (BR p) hS
theorem all_map{α:Type}{enc:α->D}{q:D->Bool}{l:List α}(h:∀a∈l,q (enc a)=true):(l.map enc).all q=true:=by
 rw[List.all_eq_true]
 intro x hx
 obtain⟨a,ha,rfl⟩:=List.mem_map.mp hx
 exact h a ha
theorem fH{α:Type}{enc:α->D}{l:List α}{a b:Int}(h1:a≤(l.length:Int))(h2:(l.length:Int)≤b):bA (.tup (l.map enc)) a b=true:=by
 show(decide _&&decide _)=true
 rw[y7,decide_eq_true h1,decide_eq_true h2];rfl
theorem tR{f:Fm}(h:f.2.length=d):cH (dF f) (d:Int)=true:=by
 show(decide _&&((f.1::f.2).map D.int).all whole)=true
 rw[decide_eq_true (by simp;omega),all_map (λ _ _=>rfl)];rfl
theorem zN{a b n:Int}(h1:a≤n)(h2:n≤b):jT a b (.int n)=true:=by
 show(decide _&&decide _)=true
 rw[decide_eq_true h1,decide_eq_true h2];rfl
theorem K6{f:Fm}(h:FmB d 1 f):isPlace (d:Int) (dF f)=true:=by
 obtain⟨h1,h2,h3⟩:=h
 show(cH (dF f) (d:Int)&&((f.1::f.2).map D.int).all (jT (-99) 99))=true
 rw[tR h1,all_map λ n hn=>?_]
 . rfl
 . rcases List.mem_cons.mp hn with rfl | hn
   . exact zN (by omega) (by omega)
   . exact zN (h2 n hn).1 (h2 n hn).2
theorem xG{n:Int}(h1: -1000000000000000000000000000000<n)(h2:n<1000000000000000000000000000000):pB n=true:=by
 unfold pB
 rw[wk]
 exact decide_eq_true (by split<;>omega)
theorem KQ{f:Fm}(h:StB d f):isStart (dF f) (d:Int)=true:=by
 obtain⟨h1,h2,h3,h4⟩:=h
 show(cH (dF f) (d:Int)&&((f.1::f.2).map D.int).all tZ)=true
 rw[tR h1,all_map λ n hn=>?_]
 . rfl
 . rcases List.mem_cons.mp hn with rfl | hn
   . exact xG h3 h4
   . have:=h2 n hn
     exact xG (by omega) (by omega)
theorem M6{pl:List Fm}(h:TpB ws d t pl):iH (.int t) (dP pl) ws (d:Int)=true:=by
 obtain⟨w,hw,hl,hf⟩:=h
 have ht:=(z0.mp hw).1
 have e:ws.getD ((t:Int)).toNat 0=w:=by simp[List.getD,hw]
 show((decide _&&decide _)&&(bA (.tup (pl.map dF)) (ws.getD ((t:Int)).toNat 0) (ws.getD ((t:Int)).toNat 0)&&(pl.map dF).all (isPlace d)))=true
 rw[e,decide_eq_true (p:=(0:Int)≤t) (by omega),decide_eq_true (p:=(t:Int)<ws.length) (by omega),fH (by omega) (by omega),all_map λ f hf'=>K6 (hf f hf')];rfl
theorem P0{x:Dd}(h:DdB ws d x):dX ws (d:Int) (dDd x)=true:=by
 obtain⟨h1,h2,h3,h4⟩:=h
 show(iH (.int x.tab) (dP x.pl) ws d&&(isStart (dF x.st) d&&(bA (.tup (x.rds.map dRd)) 0 3&&(x.rds.map dRd).all (jf ws d))))=true
 rw[M6 h1,KQ h2,fH (by omega) (by omega),all_map λ r hr=>?_]
 . rfl
 . obtain⟨a,b,c⟩:=h4 r hr
   show(pB r.fac&&iH (.int r.tab) (dP r.pl) ws d)=true
   rw[xG a b,M6 c];rfl
theorem yM{f:Fm}(h:BdF f i):bW (dF f) (i:Int)=true:=by
 obtain⟨h1,h2,h3,h4⟩:=h
 show(cH (dF f) (i:Int)&&(decide _&&(decide _&&(f.2.map D.int).all small)))=true
 rw[tR h1,decide_eq_true h2,decide_eq_true h3,all_map λ n hn=>?_]
 . rfl
 . have:=h4 n hn
   show(decide _&&decide _)=true
   rw[decide_eq_true this.1,decide_eq_true this.2];rfl
theorem Mm{ls:List Lp}(h:Lps ls):d9 (.tup (ls.map dL))=true:=by
 obtain⟨h1,h2,h3⟩:=h
 show((decide _&&decide _)&&((ls.map dL).mapIdx λ i d=>gr d i).all id)=true
 rw[y7,decide_eq_true (by omega),decide_eq_true (by omega),List.all_eq_true.mpr λ b hb=>?_]
 . rfl
 . obtain⟨i,hi⟩:=List.getElem?_of_mem hb
   rw[List.getElem?_mapIdx,y8]at hi
   cases e:ls[i]? with
   | none=>rw[e]at hi;cases hi
   | some l=>
     rw[e]at hi
     cases hi
     show(bW (dF l.1) i&&bW (dF l.2) i)=true
     rw[yM (h3 i l e).1,yM (h3 i l e).2];rfl
theorem Ou{n:Ns}(h:NsB ws m n):gH ws (dNs n)=true:=by
 obtain⟨h1,h2,h3,h4,h5⟩:=h
 show(d9 (.tup (n.lps.map dL))&&(bA (.tup (n.dds.map dDd)) 1 4&&(n.dds.map dDd).all (dX ws ((n.lps.map dL).length:Int))))=true
 rw[Mm h1,fH (by omega) (by omega),y7,all_map λ x hx=>P0 (h5 x hx)];rfl
theorem PgB.widths{p:Pg}(h:PgB m p):g8 (dWs p.ws)=true:=by
 obtain⟨⟨h1,h2,h3⟩,_⟩:=h
 show(bA (.tup (p.ws.map D.int)) 1 3&&(p.ws.map D.int).all (jT 1 2))=true
 rw[fH (by omega) (by omega),all_map λ w hw=>zN (h3 w hw).1 (h3 w hw).2];rfl
theorem PgB.nests{p:Pg}(h:PgB m p):m6 (.tup (p.nss.map dNs)) p.ws=true:=by
 obtain⟨_,h1,h2,h3⟩:=h
 show(bA (.tup (p.nss.map dNs)) 1 3&&(p.nss.map dNs).all (gH p.ws))=true
 rw[fH (by omega) (by omega),all_map λ n hn=>Ou (h3 n hn)];rfl
theorem PgB.ok{p:Pg}(h:PgB m p):∀n∈p.nss,lF n:=λ n hn=>by
 obtain⟨h1,h2,h3,_⟩:=h.2.2.2 n hn
 exact⟨h1.1,h1.fits,by omega⟩
theorem Sg{l:List Int}{b:Int}(h:∀x∈l,x≤b):l.sum≤(l.length:Int)*b:=by
 induction l with
 | nil=>simp
 | cons x l ih=>
   have:=ih λ y hy=>h y (x3 _ hy)
   have:=h x x5
   rw[List.sum_cons,List.length_cons,Int.natCast_add,Int.add_mul]
   omega
theorem PgB.many{p:Pg}(h:PgB m p)(hm:12≤m):many p.nss≤m:=by
 obtain⟨_,h1,h2,h3⟩:=h
 have h4:4≤m/p.nss.length:=by
  rw[Nat.le_div_iff_mul_le (by omega)];omega
 have one:∀n∈p.nss,((cnt n.lps).length:Int)*(n.dds.length:Int)≤((m/p.nss.length:Nat):Int):=λ n hn=>by
  obtain⟨_,d1,d4,hc,_⟩:=h3 n hn
  have h5:1≤m/p.nss.length/n.dds.length:=by
   rw[Nat.le_div_iff_mul_le (by omega)];omega
  have h6:(cnt n.lps).length*n.dds.length≤m/p.nss.length:=by
   have h7:(cnt n.lps).length≤m/p.nss.length/n.dds.length:=by omega
   exact Nat.le_trans (Nat.mul_le_mul_right _ h7) (Nat.div_mul_le_self _ _)
  rw[←Int.natCast_mul]
  exact Int.ofNat_le.mpr h6
 show(p.nss.map λ n=>((cnt n.lps).length:Int)*(n.dds.length:Int)).sum≤_
 have:=Sg (l:=p.nss.map λ n=>((cnt n.lps).length:Int)*(n.dds.length:Int)) (b:=((m/p.nss.length:Nat):Int)) (λ x hx=>by
  obtain⟨n,hn,rfl⟩:=List.mem_map.mp hx
  exact one n hn)
 rw[y7]at this
 have h8:p.nss.length*(m/p.nss.length)≤m:=Nat.mul_div_le _ _
 have h9:(p.nss.length:Int)*((m/p.nss.length:Nat):Int)≤(m:Int):=by rw[←Int.natCast_mul];exact Int.ofNat_le.mpr h8
 omega
theorem Le{p:Pg}{S:Store}(h:PgB m p)(h12:12≤m)(h60:m≤60)(hS:flat S)(w:W (dPg p) S):xm [dWs p.ws,.tup (p.nss.map dNs)] S W:=
 ⟨p,rfl,h.widths,h.nests,by have:=h.2.2.1;omega,h.ok,by have:=h.many h12;omega,hS,w⟩
theorem Iw{nss:List Ns}{s:Stp}(h:s∈aU nss):∃n,nss[s.1]? =some n/\s.2.1∈cnt n.lps/\s.2.2<n.dds.length:=by
 unfold aU at h
 obtain⟨l,hl,hs⟩:=List.mem_flatten.mp h
 obtain⟨i,hi,rfl⟩:=List.mem_mapIdx.mp hl
 unfold cU at hs
 obtain⟨cs,hcs,hs⟩:=List.mem_flatMap.mp hs
 obtain⟨t,ht,rfl⟩:=List.mem_map.mp hs
 exact⟨nss[i],y3 hi,hcs,List.mem_range.mp ht⟩
noncomputable def fj(p:Pg)(s:Stp):D:=match p.nss[s.1]? with
 | some n=>(match n.dds[s.2.2]? with | some x=>dCs x s.2.1 | none=>.non)
 | none=>.non
noncomputable def lH:Ct:=λ ds S W=>∃p:Pg,ds=[dPg p]/\p.nss.length≤1000/\(∀n∈p.nss,lF n/\∀x∈n.dds,Mq x)/\(aU p.nss).length≤1000000/\flat S/\W (.lst ((aU p.nss).map (fj p))) S
theorem lF.c64{n:Ns}(h:lF n){cs:List Int}(hc:cs∈cnt n.lps):C64 cs:=λ c hcc=>by
 have:=((h.2.1.2 n.lps.length (y9 _)).2 cs (by rw[List.take_length];exact hc)).2 c hcc
 omega
theorem vL(F:Fun Ω.K "cells_of" "cells_of" gA f fd)(Cq47:Cal Ω "steps_of" 4 1 Ec)(Cq19:Cal Ω "cells_of_step" 3 2 oM):Ok Ω 5 f fd yG lH:=by
 refine aA (N:=xj) F (yo Cq47 Cq19) (by kernel_rfl!) ?_
 rintro ds S W ⟨p,rfl,hz,hok,hlen,hS,hw⟩ hl
 walk_at "b"
 refine⟨rfl,p,rfl,hz,λ n hn=>(hok n hn).1,hlen,hS,.inl ?_⟩
 walk_at "n"
 refine fO (fj p) hlen ?_ hw
 intro i s hs Q hq
 obtain⟨n,h1,h2,h3⟩:=Iw (y4 hs)
 obtain⟨ok,dd⟩:=hok n (y4 h1)
 have e:n.dds[s.2.2]? =some n.dds[s.2.2]:=y3 h3
 have ec:fj p s=dCs n.dds[s.2.2] s.2.1:=by
  unfold fj
  rw[h1]
  show(match n.dds[s.2.2]? with | some x=>dCs x s.2.1 | none=>D.non)=_
  rw[e]
 rw[ec]at hq
 walk_at "b"
 exact⟨rfl,p,s,n,n.dds[s.2.2],rfl,h1,e,dd _ (List.getElem_mem _),ok.c64 h2,hq⟩
theorem TpB.pl{pl:List Fm}(hW:WsB ws)(hd:d≤3)(h:TpB ws d t pl):Ff pl:=by
 obtain⟨w,hw,hl,hf⟩:=h
 have:=hW.2.2 w (y4 hw)
 exact⟨by omega,λ f hf'=>by rw[(hf f hf').1];omega⟩
theorem PgB.deeds{p:Pg}(h:PgB m p):∀n∈p.nss,lF n/\∀x∈n.dds,Mq x:=λ n hn=>by
 refine⟨h.ok n hn,λ x hx=>?_⟩
 obtain⟨hL,_,_,_,hd⟩:=h.2.2.2 n hn
 obtain⟨h1,h2,h3,h4⟩:=hd x hx
 exact⟨h1.pl h.1 hL.2.1,by omega,λ r hr=>(h4 r hr).2.2.pl h.1 hL.2.1⟩
theorem GJ(i:Nat)(n:Ns):(cU i n).length=(cnt n.lps).length*n.dds.length:=by
 unfold cU
 generalize cnt n.lps=l
 induction l with
 | nil=>simp
 | cons c l ih=>rw[List.flatMap_cons,x6,ih,List.length_cons,Nat.succ_mul];simp[Nat.add_comm]
theorem jw(nss:List Ns):((aU nss).length:Int)=many nss:=by
 have:∀i,i≤nss.length->((aU (nss.take i)).length:Int)=many (nss.take i):=by
  intro i
  induction i with
  | zero=>intro _;rfl
  | succ i ih=>
    intro hi
    have hl:=y3 (l:=nss) (i:=i) (by omega)
    rw[iU hl,x6,Int.natCast_add,ih (by omega),GJ,aM hl]
    unfold many
    rw[v3,List.sum_append]
    simp
 have:=this nss.length (y9 _)
 rw[List.take_length]at this
 exact this
theorem Ia{p:Pg}{S:Store}(h:PgB m p)(h12:12≤m)(h60:m≤60)(hS:flat S)(w:W (.lst ((aU p.nss).map (fj p))) S):lH [dPg p] S W:=
 ⟨p,rfl,by have:=h.2.2.1;omega,h.deeds,by have:=h.many h12;have:=jw p.nss;omega,hS,w⟩
noncomputable def toC(c:Cell):Int×List Int:=((c.1:Int),c.2)
theorem Mx(l:List Cell):l.map aB=(l.map toC).map cD:=by rw[List.map_map];rfl
noncomputable def tch(a b:Cell×List Cell):List Cell:=(if a.1=b.1∨a.1∈b.2 then[a.1]else[])++(if b.1∈a.2 then[b.1]else[])
noncomputable def cP(a b:Cell×List Cell):Bool:=(decide (a.1=b.1)||decide (a.1∈b.2))||decide (b.1∈a.2)
noncomputable def dCR(a:Cell×List Cell):D:=.tup [aB a.1,.lst (a.2.map aB)]
theorem lC:∀(xs ys:List Int),bU (xs.map D.int) (ys.map D.int)=decide (xs=ys)
 | [],[]=>by simp[bU]
 | [],_::_=>by simp[bU]
 | _::_,[]=>by simp[bU]
 | x::xs,y::ys=>by
   simp only[List.map_cons,bU,eqD,lC xs ys]
   rw[Bool.eq_iff_iff]
   simp
theorem wH(a b:Cell):eqD (aB a) (aB b)=decide (a=b):=by
 unfold aB
 simp only[eqD,bU,lC,Bool.and_true]
 rw[Bool.eq_iff_iff]
 simp[Prod.ext_iff]
 intro _
 omega
theorem Mv(c:Cell)(l:List Cell):((l.map aB).any λ d=>eqD d (aB c))=decide (c∈l):=by
 rw[List.any_map]
 rw[Bool.eq_iff_iff,List.any_eq_true]
 simp only[Function.comp_apply,wH,decide_eq_true_eq]
 exact⟨λ⟨x,h1,h2⟩=>h2▸h1,λ h=>⟨c,h,rfl⟩⟩
theorem fG:∀xs:List Int,bJ (xs.map D.int)=true
 | []=>rfl
 | x::xs=>by simp only[List.map_cons,bJ,okD,fG xs,Bool.and_true]
theorem cF:∀xs:List Int,aV (xs.map D.int)=0
 | []=>rfl
 | x::xs=>by simp only[List.map_cons,aV,deep,cF xs];rfl
theorem jL(c:Cell):okD (aB c)=true:=by unfold aB;simp only[okD,bJ,fG,Bool.and_true]
theorem uD(c:Cell):deep (aB c)=2:=by unfold aB;simp only[deep,aV,cF];rfl
theorem rB:∀l:List Cell,bJ (l.map aB)=true
 | []=>rfl
 | c::l=>by simp only[List.map_cons,bJ,jL,rB l,Bool.and_true]
theorem oE:∀l:List Cell,aV (l.map aB)≤2
 | []=>by simp[aV]
 | c::l=>by have:=oE l;simp only[List.map_cons,aV,uD];omega
theorem cell_eq{a b:Cell}{S:Store}{W:Bool->Store->Prop}(w:W (decide (a=b)) S):aO .Eq (aB a) (aB b) S W:=by
 rw[←wH]at w
 unfold aO
 exact⟨⟨jL a,jL b,by show deep (aB a)≤50;rw[uD];decide⟩,w⟩
theorem cell_in{c:Cell}{l:List Cell}{S:Store}{W:Bool->Store->Prop}(w:W (decide (c∈l)) S):aO .In (aB c) (.lst (l.map aB)) S W:=by
 rw[←Mv]at w
 exact cIn (ds:=l.map aB) rfl (jL c) (rB l) (Nat.le_trans (oE l) (by decide)) w
theorem K5(l:List Cell):((sset id (l.map toC)).map cD).isEmpty=l.isEmpty:=by
 match l with
 | []=>rfl
 | [a]=>rfl
 | [a,b]=>
   show((if toC b=toC a then[toC a]else if ltC (toC b) (toC a)=true then[toC b,toC a]else[toC a,toC b]).map cD).isEmpty=false
   split
   . rfl
   . split<;>rfl
 | _::_::_::_=>rfl
theorem CV(a b:Cell×List Cell):(tch a b).length≤2:=by
 unfold tch
 split<;>split<;>simp
theorem PX(a b:Cell×List Cell):(!(tch a b).isEmpty)=cP a b:=by
 unfold tch cP
 by_cases h1:a.1=b.1
 . simp[h1]
 . by_cases h2:a.1∈b.2
   . simp[h2]
   . by_cases h3:b.1∈a.2<;>simp[h1,h2,h3]
theorem HH(a b:Cell×List Cell):cP a b=cP b a:=by
 unfold cP
 rw[Bool.eq_iff_iff]
 simp only[Bool.or_eq_true,decide_eq_true_eq]
 constructor
 . rintro((h | h) | h)
   . exact .inl (.inl h.symm)
   . exact .inr h
   . exact .inl (.inr h)
 . rintro((h | h) | h)
   . exact .inl (.inl h.symm)
   . exact .inr h
   . exact .inl (.inr h)
noncomputable def aK(p:Pg):List (Dd×List Int):=p.nss.flatMap λ n=>(cnt n.lps).flatMap λ cs=>n.dds.map λ x=>(x,cs)
noncomputable def crs(x:Dd×List Int):Cell×List Cell:=(spot x.1.tab x.1.pl x.2,x.1.rds.map λ r=>spot r.tab r.pl x.2)
theorem Oh(x:Dd×List Int):dCR (crs x)=dCs x.1 x.2:=by
 unfold dCR crs dCs
 rw[List.map_map];rfl
theorem jD{α β:Type}{f g:α->List β}:∀{l:List α},(∀a∈l,f a=g a)->l.flatMap f=l.flatMap g
 | [],_=>rfl
 | a::l,h=>by rw[List.flatMap_cons,List.flatMap_cons,h a x5,jD λ x hx=>h x (x3 _ hx)]
theorem Li(p:Pg):Er p=(aK p).map λ x=>b7 x.2 x.1:=by
 unfold Er aK
 rw[List.map_flatMap]
 refine jD λ n _=>?_
 unfold pP
 rw[List.map_flatMap]
 refine jD λ cs _=>?_
 rw[List.map_map];rfl
theorem wY{p:Pg}{n:Ns}(h:p.nss[i]? =some n):(cU i n).map (fj p)=((cnt n.lps).flatMap λ cs=>n.dds.map λ x=>(x,cs)).map λ x=>dCR (crs x):=by
 unfold cU
 rw[List.map_flatMap,List.map_flatMap]
 refine jD λ cs _=>?_
 rw[List.map_map,List.map_map]
 apply List.ext_getElem
 . simp
 . intro s h1 h2
   have hs:s<n.dds.length:=by simpa using h2
   rw[List.getElem_map,List.getElem_map,List.getElem_range]
   show fj p (i,cs,s)=dCR (crs (n.dds[s],cs))
   rw[Oh]
   unfold fj
   show(match p.nss[i]? with | some n=>(match n.dds[s]? with | some x=>dCs x cs | none=>D.non) | none=>D.non)=_
   rw[h]
   show(match n.dds[s]? with | some x=>dCs x cs | none=>D.non)=_
   rw[y3 hs]
theorem lB(p:Pg):(aU p.nss).map (fj p)=(aK p).map λ x=>dCR (crs x):=by
 unfold aU aK
 rw[List.map_flatten,List.map_flatMap,List.flatMap_def]
 congr 1
 apply List.ext_getElem
 . simp
 . intro i h1 h2
   have hi:i<p.nss.length:=by simpa using h2
   rw[List.getElem_map,List.getElem_mapIdx,List.getElem_map]
   exact wY (y3 hi)
noncomputable def pJ:Ct:=λ ds S W=>∃x y:Dd×List Int,ds=[b7 x.2 x.1,b7 y.2 y.1]/\x.1.rds.length≤1000/\y.1.rds.length≤1000/\W (.bl (cP (crs x) (crs y))) S
theorem z6{c:Cell}{x:Dd×List Int}{S:Store}{W:Bool->Store->Prop}(w:W (decide (c∈(crs x).2)) S):aO .In (aB c) (.lst (x.1.rds.map λ r=>aB (spot r.tab r.pl x.2))) S W:=by
 have e:(x.1.rds.map λ r=>aB (spot r.tab r.pl x.2))=(crs x).2.map aB:=by unfold crs;rw[List.map_map];rfl
 rw[e]
 exact cell_in w
theorem Eo(F:Fun Ω.K "_law_touch" "_law_touch" lO f fd):Ok Ω 1 f fd Ha pJ:=by
 refine aA (N:=Hg) F (JV) (by kernel_rfl!) ?_
 rintro ds S W ⟨x,y,rfl,hx,hy,hw⟩ hl
 unfold cP at hw
 walk_at "b"
 refine cell_eq (a:=(crs x).1) (b:=(crs y).1) ?_
 by_cases h:(crs x).1=(crs y).1
 . rw[decide_eq_true h]at hw ⊢
   walk_at "b"
   exact hw
 . rw [decide_eq_false h]at hw ⊢
   walk_at "b"
   refine fO (λ r:Rd=>aB (spot r.tab r.pl y.2)) (by omega) ?_ ?_
   . intro k r hr Q hq
     walk_at "b"
     refine⟨rfl,?_⟩
     walk_at "b"
     exact hq
   refine z6 (c:=(crs x).1) (x:=y) ?_
   by_cases h2:(crs x).1∈(crs y).2
   . rw[decide_eq_true h2]at hw ⊢
     walk_at "b"
     exact hw
   . rw[decide_eq_false h2]at hw ⊢
     walk_at "b"
     refine fO (λ r:Rd=>aB (spot r.tab r.pl x.2)) (by omega) ?_ ?_
     . intro k r hr Q hq
       walk_at "b"
       refine⟨rfl,?_⟩
       walk_at "b"
       exact hq
     refine z6 (c:=(crs y).1) (x:=x) ?_
     exact hw
noncomputable def ssC(a b:Cell×List Cell):List (Int×List Int):=sset id ((tch a b).map toC)
theorem Qe(a b:Cell×List Cell):((ssC a b).map cD).isEmpty=(ssC a b).isEmpty:=by cases ssC a b<;>rfl
theorem PQ(a b:Cell×List Cell):(ssC a b).length≤2:=by
 unfold ssC
 have h:=CV a b
 generalize tch a b=l at h
 match l,h with
 | [],_=>exact Nat.zero_le _
 | [x],_=>exact Nat.le_succ _
 | [x,y],_=>
   show(if toC y=toC x then[toC x]else if ltC (toC y) (toC x)=true then[toC y,toC x]else[toC x,toC y]).length≤2
   split
   . exact Nat.le_succ _
   . split<;>exact y9 _
noncomputable def qU:Ct:=λ ds S W=>∃a b:Cell×List Cell,ds=[dCR a,dCR b]/\W (.loc (S.length+1)) (S++[(tch a b).map aB]++[(ssC a b).map cD])
theorem lD(F:Fun Ω.K "touched_cells" "touched_cells" di f fd)(B:Bi Ω.mg):Ok Ω 1 f fd nM qU:=by
 refine aA (N:=nO) F (nD B) (by kernel_rfl!) ?_
 rintro ds S W ⟨a,b,rfl,hw⟩ hl
 have fin:∀l:List Cell,l=tch a b->(d8 B).wp [some (dCR a),some (dCR b),some (.loc S.length)] (S++[l.map aB]) {nx:=λ _ S1=>W .non S1,rt:=W}:=by
  rintro l rfl
  walk_at "b"
  refine⟨(tch a b).map toC,by rw[y7];exact CV a b,.inr ⟨_,rfl,?_⟩,?_⟩
  . rw[←Mx];exact b8 _ _
  . have e:(S++[(tch a b).map aB]).length=S.length+1:=by simp
    rw[e]
    exact hw
 have two:∀l:List Cell,l=(if a.1=b.1∨a.1∈b.2 then[a.1]else[])->(d7 B).wp [some (dCR a),some (dCR b),some (.loc S.length)] (S++[l.map aB]) {nx:=λ _ S1=>W .non S1,rt:=W}:=by
  intro l el
  have hlen:l.length≤1:=by rw[el];split<;>simp
  walk_at "b"
  refine cell_in ?_
  by_cases h:b.1∈a.2
  . rw[decide_eq_true h]
    walk_at "b"
    refine⟨_,b8 _ _,by rw[y7];omega,?_⟩
    rw[cB]
    have:=fin (l++[b.1]) (by unfold tch;rw[el,if_pos h])
    rw[v3]at this
    exact this
  . rw[decide_eq_false h]
    walk_at "b"
    exact fin l (by unfold tch;rw[el,if_neg h,List.append_nil])
 walk_at "b"
 refine cell_eq ?_
 by_cases h:a.1=b.1
 . rw[decide_eq_true h]
   walk_at "b"
   refine⟨_,b8 _ _,by simp,?_⟩
   rw[cB]
   exact two [a.1] (by rw[if_pos (.inl h)])
 . rw[decide_eq_false h]
   walk_at "b"
   refine cell_in ?_
   by_cases h2:a.1∈b.2
   . rw[decide_eq_true h2]
     walk_at "b"
     refine⟨_,b8 _ _,by simp,?_⟩
     rw[cB]
     exact two [a.1] (by rw[if_pos (.inr h2)])
   . rw[decide_eq_false h2]
     refine bF ?_
     exact two [] (by rw[if_neg (λ z=>z.elim h h2)])
theorem Dy(c:List (Int×List Int)):(c.map cD).isEmpty=c.isEmpty:=by cases c<;>rfl
noncomputable abbrev Pr:=Nat×Nat×List (Int×List Int)
noncomputable abbrev CR:=Cell×List Cell
noncomputable def pK(xs:List CR)(i j:Nat):List Pr:=match xs[i]?,xs[j]? with
 | some a,some b=>if(ssC a b).isEmpty then[]else[(i,j,ssC a b)]
 | _,_=>[]
noncomputable def fu(xs:List CR)(i k:Nat):List Pr:=(List.range k).flatMap λ t=>pK xs i (i+1+t)
noncomputable def cG(xs:List CR)(k:Nat):List Pr:=(List.range k).flatMap λ i=>fu xs i (xs.length-(i+1))
theorem Dg{xs:List CR}{j:Nat}{a b:CR}(ha:xs[i]? =some a)(hb:xs[j]? =some b):pK xs i j=if(ssC a b).isEmpty then[]else[(i,j,ssC a b)]:=by
 unfold pK;rw[ha,hb]
theorem jz(xs:List CR)(i k:Nat):fu xs i (k+1)=fu xs i k++pK xs i (i+1+k):=by
 unfold fu;rw[List.range_succ,List.flatMap_append];simp
theorem qY(xs:List CR)(k:Nat):cG xs (k+1)=cG xs k++fu xs k (xs.length-(k+1)):=by
 unfold cG;rw[List.range_succ,List.flatMap_append];simp
theorem J9(xs:List CR)(i j:Nat):(pK xs i j).length≤1:=by
 unfold pK
 split
 . split<;>simp
 . simp
theorem lR(xs:List CR)(i:Nat):∀k,(fu xs i k).length≤k
 | 0=>by simp[fu]
 | k+1=>by rw[jz,x6];have:=lR xs i k;have:=J9 xs i (i+1+k);omega
theorem mG(xs:List CR):∀k,(cG xs k).length≤k*xs.length
 | 0=>by simp[cG]
 | k+1=>by
   rw[qY,x6,Nat.succ_mul]
   have:=mG xs k
   have:=lR xs k (xs.length-(k+1))
   omega
inductive IsPr(n:Nat)(J:Store):List D->List Pr->Prop
 | nil:IsPr n J [] []
 | cons{m:Nat}{q:Pr}{ds:List D}{qs:List Pr}(h1:n+1≤m)(h2:J[m-(n+1)]? =some (q.2.2.map cD))(t:IsPr n J ds qs):IsPr n J (.tup [.int (q.1:Int),.int (q.2.1:Int),.loc m]::ds) (q::qs)
theorem IsPr.more{n:Nat}{J':Store}{qs:List Pr}(h:IsPr n J ds qs):IsPr n (J++J') ds qs:=by
 induction h with
 | nil=>exact .nil
 | cons h1 h2 _ ih=>exact .cons h1 (by rw[x8 (z0.mp h2).1];exact h2) ih
theorem IsPr.snoc{n:Nat}{qs:List Pr}{q:Pr}(h:IsPr n J ds qs)(h1:n+1≤m)(h2:J[m-(n+1)]? =some (q.2.2.map cD)):IsPr n J (ds++[.tup [.int (q.1:Int),.int (q.2.1:Int),.loc m]]) (qs++[q]):=by
 induction h with
 | nil=>exact .cons h1 h2 .nil
 | cons g1 g2 _ ih=>exact .cons g1 g2 ih
theorem IsPr.length{n:Nat}{qs:List Pr}(h:IsPr n J ds qs):ds.length=qs.length:=by
 induction h with
 | nil=>rfl
 | cons _ _ _ ih=>simp[ih]
noncomputable def wU:Ct:=λ ds S W=>∃(p:Pg) (m:Nat),ds=[dPg p]/\PgB m p/\12≤m/\m≤60/\flat S/\∀its J,IsPr S.length J its (cG ((aK p).map crs) (aK p).length)->W (.loc S.length) (S++[its]++J)
theorem KY{p:Pg}(hP:PgB m p)(h12:12≤m)(h60:m≤60):(aK p).length≤60:=by
 have h1:=hP.many h12
 have h2:=jw p.nss
 have h3:(aU p.nss).length=(aK p).length:=by
  have:=congrArg List.length (lB p)
  rw[y7,y7]at this
  exact this
 omega
theorem Fi(F:Fun Ω.K "pairs" "pairs" mJ f fd)(B:Bi Ω.mg)(Cq18:Cal Ω "cells_of" 5 1 lH)(Cq48:Cal Ω "touched_cells" 1 2 qU):Ok Ω 6 f fd HQ wU:=by
 refine aA (N:=Ip) F (Hm B Cq18 Cq48) (by kernel_rfl!) ?_
 rintro ds S W ⟨p,m,rfl,hP,h12,h60,hS,hw⟩ hl
 have hN:=KY hP h12 h60
 have eC:(aU p.nss).map (fj p)=((aK p).map crs).map dCR:=by rw[lB,List.map_map];rfl
 walk_at "b"
 refine⟨rfl,Ia hP h12 h60 hS ?_⟩
 rw[eC]
 have hL:((aK p).map crs).length=(aK p).length:=y7 _
 rw[←hL]at hw hN
 generalize (aK p).map crs=xs at*
 walk_at "b"
 rw[y7]
 refine⟨⟨by omega,by omega⟩,aR ⟨λ i Γ' S'=>∃o3 o4 o5 its J,Γ'=[some (dPg p),some (.lst (xs.map dCR)),some (.loc S.length),o3,o4,o5]/\S'=S++[its]++J/\IsPr S.length J its (cG xs i),⟨_,_,_,[],[],rfl,by simp,.nil⟩,?_,?_⟩⟩
 . rintro i e Γ' S' he ⟨o3,o4,o5,its,J,rfl,rfl,hp⟩
   obtain⟨hi,rfl⟩:=bC he
   have e2:(0:Int)+(i:Int)=(i:Int):=by omega
   rw[e2]
   have hi':i<xs.length:=by omega
   have ax:atI (xs.map dCR) ((i:Nat):Int)=some (dCR xs[i]):=aP (by rw[y8,y3 hi'];rfl)
   walk_at "b"
   rw[y7]
   refine⟨⟨by omega,by omega⟩,aR ⟨λ k Γ' S'=>∃o4 o5 its J,Γ'=[some (dPg p),some (.lst (xs.map dCR)),some (.loc S.length),some (.int (i:Int)),o4,o5]/\S'=S++[its]++J/\IsPr S.length J its (cG xs i++fu xs i k),⟨_,_,its,J,rfl,rfl,by unfold fu;simpa using hp⟩,?_,?_⟩⟩
   . rintro k e Γ' S' he ⟨o4,o5,its,J,rfl,rfl,hp⟩
     obtain⟨hk,rfl⟩:=bC he
     have e3:((i:Int)+1)+(k:Int)=((i+1+k:Nat):Int):=by omega
     rw[e3]
     have hj:i+1+k<xs.length:=by omega
     have aj:atI (xs.map dCR) ((i+1+k:Nat):Int)=some (dCR xs[i+1+k]):=aP (by rw[y8,y3 hj];rfl)
     have ePr:=Dg (y3 hi') (y3 hj)
     walk_at "b"
     refine⟨_,ax,?_⟩
     walk_at "b"
     refine⟨_,aj,?_⟩
     walk_at "b"
     refine⟨rfl,xs[i],xs[i+1+k],rfl,?_⟩
     have eL:S++[its]++J++[(tch xs[i] xs[i+1+k]).map aB]++[(ssC xs[i] xs[i+1+k]).map cD]=S++[its]++(J++[(tch xs[i] xs[i+1+k]).map aB,(ssC xs[i] xs[i+1+k]).map cD]):=by simp
     rw[eL]
     have nm:(S++[its]++J).length+1=S.length+1+(J.length+1):=by simp;omega
     rw[nm]
     generalize hc:ssC xs[i] xs[i+1+k]=c at*
     generalize (tch xs[i] xs[i+1+k]).map aB=tl at*
     have hcl:c.length≤2:=by rw[←hc];exact PQ _ _
     have hget:(S++[its]++(J++[tl,c.map cD]))[S.length+1+(J.length+1)]? =some (c.map cD):=by
      rw[List.getElem?_append_right (by simp)]
      rw[show S.length+1+(J.length+1)-(S++[its]).length=J.length+1 from by simp]
      rw[List.getElem?_append_right (by omega)]
      simp
     walk_at "b"
     refine⟨c.map cD,by simp only[vw];rw[hget],.inr ⟨_,rfl,hget⟩,by rw[y7];omega,?_⟩
     have hmore:IsPr S.length (J++[tl,c.map cD]) its (cG xs i++fu xs i k):=hp.more
     by_cases hz:c.isEmpty=true
     . have e5:(!(c.map cD).isEmpty)=false:=by rw[Dy,hz];rfl
       rw[e5]
       refine bF ?_
       exact⟨_,_,its,_,rfl,rfl,by rw[jz,ePr,if_pos hz,List.append_nil];exact hmore⟩
     . have e5:(!(c.map cD).isEmpty)=true:=by rw[Dy,show c.isEmpty=false from by cases h9:c.isEmpty with | false=>rfl | true=>exact absurd h9 hz];rfl
       rw[e5]
       walk_at "b"
       have hil:its.length≤4000:=by
        have:=hp.length
        rw[x6]at this
        have a1:=mG xs i
        have a2:=lR xs i k
        have a3:i*xs.length≤60*60:=Nat.mul_le_mul (by omega) hN
        omega
       refine⟨its,lW rfl,by omega,?_⟩
       rw[tG rfl]
       refine⟨_,_,_,_,rfl,rfl,?_⟩
       rw[jz,ePr,if_neg hz,←List.append_assoc]
       refine IsPr.snoc (q:=(i,i+1+k,c)) hmore (by omega) ?_
       rw[show S.length+1+(J.length+1)-(S.length+1)=J.length+1 from by omega]
       rw[List.getElem?_append_right (by omega)]
       simp
   . rintro Γ' S' ⟨o4,o5,its,J,rfl,rfl,hp⟩
     refine⟨_,_,_,its,J,rfl,rfl,?_⟩
     rw[qY]
     rw[au]at hp
     rw[show(((xs.length:Nat):Int)-((i:Int)+1)).toNat=xs.length-(i+1)from by omega]at hp
     exact hp
 . rintro Γ' S' ⟨o3,o4,o5,its,J,rfl,rfl,hp⟩
   rw[au,Int.toNat_natCast]at hp
   exact hw its J hp
theorem Mh{α:Type}[DecidableEq α](kvs:List (α×D))(ns ms:α)(d:D):bw (putD kvs ns d) ms=if ms=ns then some d else bw kvs ms:=by
 have h1:∀l:List (α×D),bw (l++[(ns,d)]) ms=(bw l ms).or (if ms=ns then some d else none):=λ l=>by
  unfold bw
  rw[List.find?_append]
  cases h:l.find? λ kv=>decide (kv.1=ms)with
  | some x=>rfl
  | none=>
    by_cases e:ms=ns
    . subst e;simp
    . have e':¬ns=ms:=λ z=>e z.symm
      simp[List.find?_cons,e,e']
 have h2:∀l:List (α×D),bw (l.map λ kv=>if kv.1=ns then(kv.1,d)else kv) ms=(bw l ms).map λ x=>if ms=ns then d else x:=λ l=>by
  induction l with
  | nil=>rfl
  | cons a l ih=>
    unfold bw at ih ⊢
    rw[List.map_cons,List.find?_cons,List.find?_cons]
    by_cases e:a.1=ms
    . subst e
      by_cases e2:a.1=ns<;>simp[e2]
    . by_cases e2:a.1=ns
      . have e3:¬ns=ms:=λ z=>e (e2.trans z)
        simp only[e2,if_true,e3,decide_false]
        exact ih
      . simp only[e2,if_false,e,decide_false]
        exact ih
 unfold putD
 rw[K7]
 cases h4:bw kvs ns with
 | some x=>
   simp only[Option.isSome_some,if_true]
   rw[h2]
   by_cases e:ms=ns
   . subst e;rw[h4];simp
   . simp[e]
 | none=>
   simp only[Option.isSome_none,Bool.false_eq_true,if_false]
   rw[h1]
   by_cases e:ms=ns
   . subst e;rw[h4];simp
   . simp[e]
theorem Ny{α:Type}[DecidableEq α](kvs:List (α×D))(ns:α)(d:D):(putD kvs ns d).length≤kvs.length+1:=by
 unfold putD
 split<;>simp
noncomputable def dN(l:List Nat):List D:=l.map λ(t:Nat)=>D.int (t:Int)
theorem iu(l:List Nat):ak (dN l)=true:=by
 unfold dN
 induction l with
 | nil=>rfl
 | cons y ys ih=>exact ih
noncomputable def nlV{α:Type}(kv:List (α×D)):Prop:=∀x∈kv,ao x.2=true
theorem Pb{α:Type}[DecidableEq α]{kv:List (α×D)}{c:α}{d:D}(h:nlV kv)(hd:ao d=true):nlV (putD kv c d):=by
 unfold putD
 split
 . intro x hx
   obtain⟨y,hy,rfl⟩:=List.mem_map.mp hx
   split
   . exact hd
   . exact h y hy
 . intro x hx
   rcases List.mem_append.mp hx with hx | hx
   . exact h x hx
   . rw[List.mem_singleton.mp hx];exact hd
theorem Fj{l:List D}(h:∀d∈l,ao d=true):ak l=true:=by
 induction l with
 | nil=>rfl
 | cons y ys ih=>simp only[ak,h y x5,ih λ d hd=>h d (x3 _ hd),Bool.and_true]
noncomputable def wu(n:Nat)(o:List Nat):Prop:=(∀t∈o,t<n)/\o.Nodup
theorem Ax(p:Pg):(aU p.nss).length=(aK p).length:=by
 have:=congrArg List.length (lB p)
 rw[y7,y7]at this
 exact this
theorem uo(p:Pg):many p.nss=((aK p).length:Int):=by rw[←jw,Ax]
theorem dH{p:Pg}(hP:PgB m p)(h12:12≤m)(h60:m≤60):(aK p).length≤60:=by
 have h1:=hP.many h12
 have h2:=uo p
 omega
theorem cL(l:List Nat):dN l=(l.map λ(t:Nat)=>(t:Int)).map D.int:=by unfold dN;rw[List.map_map];rfl
theorem bB(l:List Nat):(dN l).length=l.length:=y7 _
theorem QS{d:D}(h:(dN l)[i]? =some d):∃t,l[i]? =some t/\d=.int (t:Int):=by
 unfold dN at h
 rw[y8]at h
 cases e:l[i]? with
 | none=>rw[e]at h;cases h
 | some t=>rw[e]at h;cases h;exact⟨t,rfl,rfl⟩
theorem dw(h:l[i]? =some t):(dN l)[i]? =some (.int (t:Int)):=by unfold dN;rw[y8,h];rfl
theorem Et{α:Type}{l:List α}(h:l.Nodup){i j:Nat}(hij:i<j)(hj:j<l.length):l[i]?≠l[j]?:=by
 rw[y3 (by omega),y3 hj]
 intro z
 have z:=Option.some.inj z
 have:=(List.pairwise_iff_getElem.mp h) i j (by omega) hj hij
 exact this z
theorem G5{ns:List Int}(h:ns.Nodup):unl ns=ns.length:=by
 unfold unl
 have key:∀i,i≤ns.length->PyProof.Rows.firstMet (λ i=>ns.getD i 0) i=ns.take i:=by
  intro i
  induction i with
  | zero=>intro _;rfl
  | succ i ih=>
    intro hi
    have hl:i<ns.length:=by omega
    rw[PyProof.Rows.firstMet_succ,ih (by omega),aM (y3 hl)]
    have e:ns.getD i 0=ns[i]:=by simp[List.getD,hl]
    unfold PyProof.Rows.step_dedup
    rw[e,if_neg]
    intro z
    rw[List.any_eq_true]at z
    obtain⟨x,hx,z⟩:=z
    have z:=eq_of_beq z
    subst z
    obtain⟨j,hj⟩:=List.getElem?_of_mem hx
    rw[List.getElem?_take]at hj
    split at hj
    . rename_i hji
      exact Et h hji hl (by rw[hj,y3 hl])
    . cases hj
 rw[key _ (y9 _),List.take_length]
theorem G7(h:o.Nodup):(o.map λ(t:Nat)=>(t:Int)).Nodup:=by
 induction o with
 | nil=>exact List.nodup_nil
 | cons x xs ih=>
   rw[List.nodup_cons]at h
   rw[List.map_cons,List.nodup_cons]
   refine⟨λ z=>?_,ih h.2⟩
   obtain⟨y,hy,e⟩:=List.mem_map.mp z
   exact h.1 (by rw[show x=y from by omega];exact hy)
noncomputable def Dq:Ct:=λ ds S W=>∃(p:Pg) (m:Nat) (o:List Nat),ds=[dPg p,.lst (dN o)]/\PgB m p/\12≤m/\m≤60/\flat S/\o.length≤60/\wu (aK p).length o/\W (.bl true) S
theorem lQ{p:Pg}{S:Store}(hP:PgB m p)(hS:flat S)(w:W (.int ((aK p).length:Int)) S):jg [.tup (p.nss.map dNs)] S W:=
 ⟨p.nss,rfl,by have:=hP.2.2.1;omega,λ n hn=>(hP.deeds n hn).1,hS,by rw[uo];exact w⟩
theorem Bx(F:Fun Ω.K "is_row" "is_row" jW f fd)(B:Bi Ω.mg)(Cq39:Cal Ω "is_whole" 1 1 gf)(Cq42:Cal Ω "number_of_steps" 4 1 jg):Ok Ω 5 f fd GP Dq:=by
 refine aA (N:=Gr) F (Ep B Cq39 Cq42) (by kernel_rfl!) ?_
 rintro ds S W ⟨p,m,o,rfl,hP,h12,h60,hS,ho,hO,hw⟩ hl
 walk_at "b"
 refine⟨rfl,lQ hP hS ?_⟩
 walk_at "b"
 unfold dN
 refine Dj (C0:=λ _=>True) (xs:=o) (enc:=λ(t:Nat)=>D.int (t:Int)) (λ _=>.bl true) (by omega) trivial ?_ (.inl ?_)
 . intro i t ht Q hq
   have hlt:=hO.1 t (y4 ht)
   walk_at "b"
   refine⟨rfl,_,rfl,?_⟩
   walk_at "b"
   rw[decide_eq_true (show(t:Int)<((aK p).length:Int)from by omega)]
   exact hq
 walk_at "b"
 refine⟨List.replicate o.length true,by rw[List.map_replicate,←List.map_const'],?_⟩
 have e3:(List.replicate o.length true).all id=true:=by simp
 rw[e3]
 walk_at "b"
 refine⟨_,by show iz S (.lst (dN o))=_;rw[cL];rfl,by rw[y7];show _<4096;omega,?_⟩
 rw[G5 (G7 hO.2),y7]
 walk_at "b"
 rw[y7,decide_eq_true rfl]
 exact hw
noncomputable def Dr:Ct:=λ ds S W=>∃(p:Pg) (m:Nat) (o:List Nat),ds=[dPg p,.lst (dN o)]/\PgB m p/\12≤m/\m≤60/\flat S/\o.length=(aK p).length/\wu (aK p).length o/\W (.bl true) S
theorem vB(F:Fun Ω.K "is_order" "is_order" gn f fd)(B:Bi Ω.mg)(Cq42:Cal Ω "number_of_steps" 4 1 jg)(Cq35:Cal Ω "is_row" 5 2 Dq):Ok Ω 6 f fd yP Dr:=by
 refine aA (N:=yh) F (yw B Cq42 Cq35) (by kernel_rfl!) ?_
 rintro ds S W ⟨p,m,o,rfl,hP,h12,h60,hS,ho,hO,hw⟩ hl
 have hN:=dH hP h12 h60
 walk_at "b"
 refine⟨rfl,p,m,o,rfl,hP,h12,h60,hS,by omega,hO,?_⟩
 walk_at "b"
 refine⟨rfl,lQ hP hS ?_⟩
 walk_at "b"
 rw[bB,decide_eq_true (by omega)]
 exact hw
noncomputable def wV:Ct:=λ ds S W=>∃(p:Pg) (m:Nat) (o:List Nat),ds=[dPg p,.lst (dN o)]/\PgB m p/\12≤m/\m≤60/\flat S/\o.length=(aK p).length/\wu (aK p).length o/\W .non S
theorem jt(F:Fun Ω.K "refuse_no_order" "refuse_no_order" cQ f fd)(Cq31:Cal Ω "is_order" 6 2 Dr):Ok Ω 7 f fd kW wV:=by
 refine aA (N:=j6) F (j5 Cq31) (by kernel_rfl!) ?_
 rintro ds S W ⟨p,m,o,rfl,hP,h12,h60,hS,ho,hO,hw⟩ hl
 walk_at "b"
 refine⟨rfl,p,m,o,rfl,hP,h12,h60,hS,ho,hO,?_⟩
 walk_at "b"
 exact hw
theorem jm{n:Nat}(h:o.Perm (List.range n)):wu n o:=⟨λ t ht=>List.mem_range.mp (h.mem_iff.mp ht),h.nodup_iff.mpr List.nodup_range⟩
theorem dz{n:Nat}(h:o.Perm (List.range n)):o.length=n:=h.length_eq.trans List.length_range
theorem Mw{n:Nat}(h:o.Perm (List.range n)){t:Nat}(ht:t<n):t∈o:=h.mem_iff.mpr (List.mem_range.mpr ht)
theorem mZ(h:t∈o):o[o.idxOf t]? =some t:=by
 have hl:=List.idxOf_lt_length_of_mem h
 rw[y3 hl,List.getElem_idxOf hl]
theorem IsPr.get{n:Nat}{qs:List Pr}(h:IsPr n J ds qs){i:Nat}{d:D}(hd:ds[i]? =some d):∃q m,qs[i]? =some q/\d=.tup [.int (q.1:Int),.int (q.2.1:Int),.loc m]:=by
 induction h generalizing i with
 | nil=>simp at hd
 | @cons m q ds qs h1 h2 _ ih=>
   cases i with
   | zero=>cases hd;exact⟨q,m,rfl,rfl⟩
   | succ i=>exact ih hd
theorem mO{S R:Store}{m:Int}(hp:aF S k)(h0:0<m)(h1:m<1000000000000000000000000000000000000000000000000000000000000)(w:∀v S',0≤v->v<m->aJ S k S'->aF S' k->W (.int v) (S'++R)):([D.loc k,.int m].length=2/\cI [.loc k,.int m] (S++R) W):=by
 refine aG (hp.app R) h0 h1 λ v T v0 v1 u p=>?_
 obtain⟨S',rfl,u',p'⟩:=u.split hp
 exact w v S' v0 v1 u' p'
theorem yt{S:Store}{l:List D}(h:S.length=S'.length):(S'++[l])[S.length]? =some l:=by rw[h];simp
theorem Nj{S:Store}{l z:List D}(h:S.length=S'.length):(S'++[l]).set S.length z=S'++[z]:=by rw[h,List.set_append_right _ _ (y9 _),Nat.sub_self];rfl
theorem Mt(h:o.Perm (List.range i)):(o.take v++i::o.drop v).Perm (List.range (i+1)):=by
 refine List.perm_middle.trans ?_
 rw[List.take_append_drop,List.range_succ]
 exact(List.Perm.cons _ h).trans (List.perm_append_singleton _ _).symm
noncomputable def Dl:Ct:=λ ds S W=>∃(k n:Nat),ds=[.loc k,.int (n:Int)]/\aF S k/\n≤60/\flat S/\∀(o:List Nat) S',o.Perm (List.range n)->aJ S k S'->aF S' k->W (.lst (dN o)) S'
theorem Ey(F:Fun Ω.K "_law_order" "_law_order" mF f fd)(B:Bi Ω.mg)(Cq15:Cal Ω "_law_take" 2 2 cI):Ok Ω 3 f fd JT Dl:=by
 refine aA (N:=Ih) F (Bl.frz (JH B Cq15)) (by kernel_rfl!) ?_
 rintro ds S W ⟨k,n,rfl,hp,hn,hS,hw⟩ hl
 walk_at "b"
 refine⟨⟨by omega,by omega⟩,aR ⟨λ i Γ' T=>∃(S':Store) (o:List Nat) (o3:Option D),Γ'=[some (.loc k),some (.int (n:Int)),some (.loc S.length),o3]/\T=S'++[dN o]/\o.Perm (List.range i)/\aJ S k S'/\aF S' k,⟨S,[],_,rfl,rfl,.refl _,aJ.refl hp,hp⟩,?_,?_⟩⟩
 . rintro i e Γ' T he ⟨S2,o,o3,rfl,rfl,hO,u2,p2⟩
   obtain⟨hi,rfl⟩:=bC he
   have hol:=dz hO
   have hi:i<60:=by omega
   have e0:(0+(i:Int))=((i:Nat):Int):=by omega
   rw[e0]
   refine jH ?_
   simp only[List.set_cons_succ,List.set_cons_zero]
   walk_at "b"
   refine⟨_,yt u2.len.symm,?_⟩
   walk_at "b"
   rw[bB,hol]
   refine mO p2 (by omega) (by omega) λ v S3 v0 v1 u3 p3=>?_
   have u3:=u2.trans u3
   obtain⟨vn,rfl⟩:∃vn:Nat,v=(vn:Int):=⟨v.toNat,by omega⟩
   walk_at "b"
   refine⟨vn,dN o,rfl,yt u3.len.symm,by rw[bB];omega,by rw[bB];omega,?_⟩
   rw[Nj u3.len.symm]
   walk_at "b"
   refine⟨S3,o.take vn++i::o.drop vn,_,rfl,?_,Mt hO,u3,p3⟩
   unfold dN
   rw[v3,List.map_cons,List.map_take,List.map_drop]
 . rintro Γ' T ⟨S2,o,o3,rfl,rfl,hO,u2,p2⟩
   rw[au,Int.toNat_natCast]at hO
   walk_at "b"
   exact .inr ⟨_,S2,by rw[u2.len],rfl,by rw[u2.len];exact y9 _,iu o,u2.flat hS,hw o S2 hO u2 p2⟩
theorem Ik(a b:CR):(ssC a b).isEmpty= !cP a b:=by
 rw[←PX,Bool.not_not,←Qe]
 exact K5 (tch a b)
theorem Hn(hO:o.Nodup){t m u:Nat}(ht:t∈o)(hm:m<o.idxOf t)(hu:o[m]? =some u):u≠t:=by
 intro e
 subst e
 have hl:=List.idxOf_lt_length_of_mem ht
 exact Et hO hm hl (by rw[hu,mZ ht])
theorem Sw{S:Store}{P:Nat->Prop}(hO:o.Nodup)(ht:t∈o)(w:P (o.idxOf t)):bJ (dN o)=true/\okD (vw S (.int (t:Int)))=true/\aV (dN o)≤50/\∃(j:Nat) (y:D),(dN o)[j]? =some y/\eqD y (vw S (.int (t:Int)))=true/\(∀(m:Nat)(z:D),m<j->(dN o)[m]? =some z->eqD z (vw S (.int (t:Int)))=false)/\P j:=by
 refine⟨by rw[cL];exact fG _,rfl,by rw[cL,cF];omega,o.idxOf t,_,dw (mZ ht),?_,λ m z hm hz=>?_,w⟩
 . show eqD (.int (t:Int)) (.int (t:Int))=true
   simp[eqD]
 . obtain⟨u,hu,rfl⟩:=QS hz
   have:=Hn hO ht hm hu
   show eqD (.int (u:Int)) (.int (t:Int))=false
   simp[eqD]
   omega
mutual
theorem Sd(S:Store):∀d:D,ao d=true->vwD S d=d
 | .non,_=>rfl
 | .bl _,_=>rfl
 | .int _,_=>rfl
 | .str _,_=>rfl
 | .dic,_=>rfl
 | .loc _,h=>by simp[ao]at h
 | .dlo _,h=>by simp[ao]at h
 | .tup ds,h=>by simp only[vwD];rw[m9 S ds (by simpa[ao]using h)]
 | .lst ds,h=>by simp only[vwD];rw[m9 S ds (by simpa[ao]using h)]
theorem m9(S:Store):∀ds:List D,ak ds=true->gC S ds=ds
 | [],_=>rfl
 | d::ds,h=>by
   simp only[ak,Bool.and_eq_true]at h
   simp only[gC]
   rw[Sd S d h.1,m9 S ds h.2]
end
noncomputable def Good(xs:List CR)(o:List Nat):Prop:=∀(pre post:List Nat)(x:Nat),o=pre++x::post->∀i,i<x->∀a b,xs[i]? =some a->xs[x]? =some b->cP a b=true->i∈pre
theorem Good.nil(xs:List CR):Good xs []:=λ pre post x e=>by simp at e
theorem Good.snoc{xs:List CR}{y:Nat}(h:Good xs o)(hy:∀i,i<y->∀a b,xs[i]? =some a->xs[y]? =some b->cP a b=true->i∈o):Good xs (o++[y]):=by
 intro pre post x e i hi a b ha hb ht
 rcases List.eq_nil_or_concat post with rfl | ⟨L,z,rfl⟩
 . have:=List.append_inj' e rfl
   obtain⟨rfl,e2⟩:=this
   cases e2
   exact hy i hi a b ha hb ht
 . have e':o++[y]=(pre++x::L)++[z]:=by rw[e];simp
   have:=List.append_inj' e' rfl
   exact h pre L x this.1 i hi a b ha hb ht
theorem J1{xs:List CR}{q:Pr}(h:q∈cG xs xs.length):q.1<q.2.1/\∃a b,xs[q.1]? =some a/\xs[q.2.1]? =some b/\cP a b=true:=by
 obtain⟨i,hi,h⟩:=List.mem_flatMap.mp h
 obtain⟨t,ht,h⟩:=List.mem_flatMap.mp h
 unfold pK at h
 split at h
 . rename_i a b ha hb
   split at h
   . cases h
   . rename_i hs
     rw[List.mem_singleton]at h
     subst h
     refine⟨by show i<i+1+t;omega,a,b,ha,hb,?_⟩
     rw[Ik]at hs
     cases hq:cP a b with
     | true=>rfl
     | false=>rw[hq]at hs;exact absurd rfl hs
 . cases h
theorem qu(n:Nat):DL.upTo 0 n=dN (List.range n):=by
 unfold DL.upTo dN
 refine List.map_congr_left λ k _=>?_
 rw[Int.zero_add]
section
variable {S R : Store} {a b z : List D} {n : Nat}
theorem t_a(h:n=S.length):(S++[a,b])[n]? =some a:=by subst h;simp
theorem t_b(h:n=S.length):(S++[a,b])[n+1]? =some b:=by subst h;simp
theorem Vc(h:n=S.length):(S++[a,b]).set n z=S++[z,b]:=by subst h;rw[List.set_append_right _ _ (y9 _),Nat.sub_self];rfl
theorem Ko(h:n=S.length):(S++[a,b]).set (n+1) z=S++[a,z]:=by subst h;rw[List.set_append_right _ _ (by omega),show S.length+1-S.length=1 from by omega];rfl
end
noncomputable def tcN(zs:List (Dd×List Int))(t u:Nat):Bool:=match zs[t]?,zs[u]? with
 | some a,some b=>cP (crs a) (crs b)
 | _,_=>false
theorem Br(hs:l.Pairwise (· <·)){q i:Nat}(hq:q<l.length)(hm:i∈l)(hi:i<l[q]):i∈l.take q:=by
 obtain⟨j,hj⟩:=List.getElem?_of_mem hm
 obtain⟨hjl,e⟩:=z0.mp hj
 have hjq:j<q:=by
  rcases Nat.lt_trichotomy j q with h | h | h
  . exact h
  . subst h;omega
  . have:=List.pairwise_iff_getElem.mp hs q j hq hjl h
    omega
 have:(l.take q)[j]? =some i:=by rw[List.getElem?_take,if_pos hjq];exact hj
 exact y4 this
noncomputable def xn:Ct:=λ ds S W=>∃(k:Nat) (zs:List (Dd×List Int)),ds=[.loc k,.lst (zs.map λ x=>b7 x.2 x.1)]/\aF S k/\zs.length≤60/\(∀z∈zs,z.1.rds.length≤1000)/\flat S/\∀(o:List Nat) S',o.Perm (List.range zs.length)->Good (zs.map crs) o->aJ S k S'->aF S' k->W (.lst (dN o)) S'
theorem Al(F:Fun Ω.K "_law_picked" "_law_picked" jM f fd)(B:Bi Ω.mg)(Cq15:Cal Ω "_law_take" 2 2 cI)(Cq16:Cal Ω "_law_touch" 1 2 pJ):Ok Ω 3 f fd GC xn:=by
 refine aA (N:=Fd) F (Bl.fro (Fv B Cq15 Cq16)) (by kernel_rfl!) ?_
 rintro ds S W ⟨k,zs,rfl,hp,hN,hr,hS,hw⟩ hl
 have az:∀i(h:i<zs.length),atI (zs.map λ x=>b7 x.2 x.1) ((i:Nat):Int)=some (b7 zs[i].2 zs[i].1):=λ i h=>aP (by rw[y8,y3 h];rfl)
 have hx:∀i(h:i<zs.length),(zs.map crs)[i]? =some (crs zs[i]):=λ i h=>by rw[y8,y3 h];rfl
 walk_at "b"
 rw[y7]
 refine⟨⟨by omega,by omega⟩,.inr ?_⟩
 rw[Int.toNat_natCast,qu,show(S++[([]:List D)]).length=S.length+1 from by simp,show S++[([]:List D)]++[dN (List.range zs.length)]=S++[dN [],dN (List.range zs.length)]from by simp[dN]]
 walk_at "b"
 refine pg ⟨λ m Γ' T=>∃(S':Store) (o l:List Nat) (o4:Option D),Γ'=[some (.loc k),some (.lst (zs.map λ x=>b7 x.2 x.1)),some (.loc S.length),some (.loc (S.length+1)),o4]/\T=S'++[dN o,dN l]/\l.length=m/\(o++l).Perm (List.range zs.length)/\l.Pairwise (· <·)/\Good (zs.map crs) o/\aJ S k S'/\aF S' k,zs.length,⟨S,[],List.range zs.length,none,rfl,rfl,List.length_range,.refl _,List.pairwise_lt_range,Good.nil _,aJ.refl hp,hp⟩,?_⟩
 rintro m Γ' T ⟨S2,o,l,o4,rfl,rfl,hm,hO,hs,hg,u2,p2⟩
 have en:∀S',aJ S k S'->S.length=S'.length:=λ S' u=>u.len.symm
 have hlt:∀t∈l,t<zs.length:=λ t ht=>List.mem_range.mp (hO.mem_iff.mp (List.mem_append.mpr (.inr ht)))
 have hll:l.length≤60:=by have:=hO.length_eq;rw[x6,List.length_range]at this;omega
 have va:vwT (S2++[dN o,dN l]) (.loc (S.length+1))=.lst (dN l):=by
  simp only[vwT,t_b (en S2 u2)]
  rw[m9 _ _ (iu l)]
 have ok:okD (.lst (dN l))=true:=by show bJ _=true;rw[cL];exact fG _
 have dp:deep (.lst (dN l))≤50:=by show aV _+1≤50;rw[cL,cF];omega
 walk_at "b"
 rw[va]
 have e1:eqD (.lst (dN l)) (vwT (S2++[dN o,dN l]) (.lst []))=l.isEmpty:=by cases l<;>rfl
 rw[e1]
 refine⟨ok,rfl,dp,?_⟩
 refine⟨λ q=>?_,λ q=>?_⟩
 . have hne:0<l.length:=by
    cases l with
    | nil=>cases q
    | cons=>simp
   walk_at "b"
   refine⟨_,t_b (en S2 u2),?_⟩
   walk_at "b"
   rw[bB]
   refine mO p2 (by omega) (by omega) λ v S3 v0 v1 u3 p3=>?_
   have u3:=u2.trans u3
   obtain⟨vn,rfl⟩:∃vn:Nat,v=(vn:Int):=⟨v.toNat,by omega⟩
   walk_at "b"
   refine pg ⟨λ q Γ' T=>∃(S':Store),Γ'=[some (.loc k),some (.lst (zs.map λ x=>b7 x.2 x.1)),some (.loc S.length),some (.loc (S.length+1)),some (.int (q:Int))]/\T=S'++[dN o,dN l]/\q<l.length/\aJ S k S'/\aF S' k,vn,⟨S3,rfl,rfl,by omega,u3,p3⟩,?_⟩
   rintro q Γ' T ⟨S4,rfl,rfl,hql,u4,p4⟩
   have hx0:=hlt l[q] (List.getElem_mem hql)
   have gl:(S4++[dN o,dN l])[S.length+1]? =some (dN l):=t_b (en S4 u4)
   have alq:atI (dN l) (q:Int)=some (.int (l[q]:Int)):=aP (dw (y3 hql))
   walk_at "b"
   refine⟨_,gl,?_⟩
   walk_at "b"
   rw[yj (by omega),Int.toNat_natCast,show(dN l).take q=(l.take q).map λ t=>D.int ((t:Nat):Int)from by unfold dN;rw[List.map_take]]
   refine Dj (λ t=>.bl (tcN zs t l[q])) (by rw[List.length_take];omega) trivial ?_ (.inl ?_)
   . intro i t ht Q hq
     have htl:t<zs.length:=hlt t (List.mem_of_mem_take (y4 ht))
     have et:tcN zs t l[q]=cP (crs zs[t]) (crs zs[l[q]]):=by unfold tcN;rw[y3 htl,y3 hx0]
     rw[et]at hq
     walk_at "b"
     refine⟨_,az t htl,?_⟩
     walk_at "b"
     refine⟨_,_,gl,alq,?_⟩
     walk_at "b"
     refine⟨_,az _ hx0,?_⟩
     walk_at "b"
     exact⟨rfl,zs[t],zs[l[q]],rfl,hr _ (List.getElem_mem htl),hr _ (List.getElem_mem hx0),hq⟩
   walk_at "b"
   refine⟨(l.take q).map λ t=>tcN zs t l[q],by rw[List.map_map];rfl,?_⟩
   refine⟨λ h=>?_,λ h=>?_⟩
   . have hq0:0<q:=by
      rcases Nat.eq_zero_or_pos q with h0 | h0
      . subst h0;simp at h
      . exact h0
     walk_at "b"
     refine mO p4 (by omega) (by omega) λ v S5 v0 v1 u5 p5=>?_
     obtain⟨vm,rfl⟩:∃vm:Nat,v=(vm:Int):=⟨v.toNat,by omega⟩
     walk_at "b"
     exact⟨vm,by omega,S5,rfl,rfl,by omega,u4.trans u5,p5⟩
   . have hno:∀t∈l.take q,tcN zs t l[q]=false:=λ t ht=>by
      cases e:tcN zs t l[q]with
      | false=>rfl
      | true=>
        have:((l.take q).map λ t=>tcN zs t l[q]).any id=true:=List.any_eq_true.mpr ⟨_,List.mem_map_of_mem ht,e⟩
        rw[this]at h
        cases h
     have hgo:Good (zs.map crs) (o++[l[q]]):=hg.snoc λ i hi a b ha hb hab=>by
      have hil:i<zs.length:=by have:=(z0.mp ha).1;rw[y7]at this;exact this
      rcases List.mem_append.mp (Mw hO hil)with hm | hm
      . exact hm
      . have e:=hno i (Br hs hql hm hi)
        rw[hx i hil]at ha
        rw[hx _ hx0]at hb
        cases ha
        cases hb
        unfold tcN at e
        rw[y3 hil,y3 hx0]at e
        have e:cP (crs zs[i]) (crs zs[l[q]])=false:=e
        rw[hab]at e
        cases e
     have hol:o.length≤60:=by have:=hO.length_eq;rw[x6,List.length_range]at this;omega
     walk_at "b"
     refine⟨q,_,_,rfl,gl,dw (y3 hql),by rw[bB];omega,?_⟩
     rw[Ko (en S4 u4)]
     refine⟨_,t_a (en S4 u4),by rw[bB];omega,?_⟩
     rw[Vc (en S4 u4),show dN o++[D.int (l[q]:Int)]=dN (o++[l[q]])from by unfold dN;rw[v3];rfl,show(dN l).eraseIdx q=dN (l.eraseIdx q)from by unfold dN;rw[List.eraseIdx_eq_take_drop_succ,List.eraseIdx_eq_take_drop_succ,v3,List.map_take,List.map_drop]]
     refine⟨(l.eraseIdx q).length,?_,S4,o++[l[q]],l.eraseIdx q,_,rfl,rfl,rfl,?_,hs.sublist (List.eraseIdx_sublist _ _),hgo,u4,p4⟩
     . rw[List.length_eraseIdx,if_pos hql];omega
     . refine List.Perm.trans ?_ hO
       rw[List.append_assoc]
       refine List.Perm.append_left _ ?_
       rw[List.eraseIdx_eq_take_drop_succ]
       refine(List.perm_middle (l₁:=l.take q)).symm.trans ?_
       rw[←List.drop_eq_getElem_cons hql,List.take_append_drop]
 . have hl0:l=[]:=by
    cases l with
    | nil=>rfl
    | cons=>cases q
   subst hl0
   rw[List.append_nil]at hO
   walk_at "b"
   exact .inr ⟨[dN o,dN []],S2,S.length,dN o,rfl,rfl,by rw[u2.len];exact y9 _,by rw[u2.len];exact y9 _,t_a (en S2 u2),iu o,u2.flat hS,hw o S2 hO hg u2 p2⟩
noncomputable def swp(o:List Nat)(v a b:Nat):List Nat:=o.take v++[b,a]++o.drop (v+2)
theorem CG{a b:Nat}(h1:o[v]? =some a)(h2:o[v+1]? =some b):(dN o).take v++[D.int (b:Int),D.int (a:Int)]++(dN o).drop (v+2)=dN (swp o v a b):=by
 unfold swp dN
 rw[v3,v3,List.map_take,List.map_drop];rfl
theorem swap_perm{a b n:Nat}(h1:o[v]? =some a)(h2:o[v+1]? =some b)(hO:o.Perm (List.range n)):(swp o v a b).Perm (List.range n):=by
 refine List.Perm.trans ?_ hO
 obtain⟨l1,e1⟩:=z0.mp h1
 obtain⟨l2,e2⟩:=z0.mp h2
 have e:o=o.take v++[a,b]++o.drop (v+2):=by
  rw[List.append_assoc]
  show o=o.take v++(a::b::o.drop (v+1+1))
  rw[←e2,←List.drop_eq_getElem_cons l2,←e1,←List.drop_eq_getElem_cons l1,List.take_append_drop]
 unfold swp
 conv=>rhs;rw[e]
 exact List.Perm.append_right _ (List.Perm.append_left _ (List.Perm.swap _ _ _))
noncomputable def tN(xs:List CR)(a b:Nat):Bool:=match xs[a]?,xs[b]? with
 | some x,some y=>cP x y
 | _,_=>false
theorem Oi(xs:List CR)(a b:Nat):tN xs a b=tN xs b a:=by
 unfold tN
 cases xs[a]?<;>cases xs[b]?<;>first | rfl | exact HH _ _
theorem MP{xs:List CR}{a b:Nat}{x y:CR}(ha:xs[a]? =some x)(hb:xs[b]? =some y):tN xs a b=cP x y:=by unfold tN;rw[ha,hb]
noncomputable def exc(xs:List CR)(l:List Nat)(e:Int):Option (List Nat):=
 if 0≤e/\e<(l.length:Int)-1 then
  match l[e.toNat]?,l[e.toNat+1]? with
  | some a,some b=>if tN xs a b=true then none else some (swp l e.toNat a b)
  | _,_=>none
 else none
noncomputable def excs(xs:List CR)(l:List Nat)(es:List Int):Option (List Nat):=es.foldlM (exc xs) l
theorem fD(xs:List CR)(l:List Nat)(es:List Int)(e:Int):excs xs l (es++[e])=(excs xs l es).bind λ k=>exc xs k e:=by
 unfold excs
 rw[List.foldlM_append]
 cases es.foldlM (exc xs) l with
 | none=>rfl
 | some k=>show(List.foldlM (exc xs) k [e])=_;simp[List.foldlM_cons]
theorem uJ{xs:List CR}(h:excs xs l (es.take i)=none):excs xs l es=none:=by
 unfold excs at h ⊢
 rw[←List.take_append_drop i es,List.foldlM_append,h];rfl
theorem mK{xs:List CR}{a b:Nat}(ha:l[v]? =some a)(hb:l[v+1]? =some b):exc xs l (v:Int)=if tN xs a b=true then none else some (swp l v a b):=by
 have:=(z0.mp hb).1
 unfold exc
 rw[if_pos ⟨by omega,by omega⟩,Int.toNat_natCast,ha,hb]
theorem mU{xs:List CR}{e:Int}(h:¬(0≤e/\e<(l.length:Int)-1)):exc xs l e=none:=if_neg h
noncomputable def Kpt(xs:List CR)(l:List Nat):Prop:=l.Pairwise λ a b=>a<b∨tN xs a b=false
theorem Kpt.range(xs:List CR)(n:Nat):Kpt xs (List.range n):=List.pairwise_lt_range.imp λ h=>.inl h
theorem pQ{a b:Nat}(h1:l[v]? =some a)(h2:l[v+1]? =some b):l=l.take v++(a::b::l.drop (v+2)):=by
 obtain⟨l1,e1⟩:=z0.mp h1
 obtain⟨l2,e2⟩:=z0.mp h2
 rw[←e2,←List.drop_eq_getElem_cons l2,←e1,←List.drop_eq_getElem_cons l1,List.take_append_drop]
theorem Kpt.adj{xs:List CR}{a b:Nat}(h:Kpt xs l)(h1:l[v]? =some a)(h2:l[v+1]? =some b):a<b∨tN xs a b=false:=by
 unfold Kpt at h
 rw[pQ h1 h2,List.pairwise_append]at h
 exact(List.pairwise_cons.mp h.2.1).1 b x5
theorem Kpt.turn{xs:List CR}{a b:Nat}(h:Kpt xs l)(h1:l[v]? =some a)(h2:l[v+1]? =some b)(ht:tN xs a b=false):Kpt xs (swp l v a b):=by
 unfold Kpt at h ⊢
 rw[pQ h1 h2,List.pairwise_append]at h
 obtain⟨p1,p2,p3⟩:=h
 rw[List.pairwise_cons,List.pairwise_cons]at p2
 obtain⟨q1,q2,q3⟩:=p2
 unfold swp
 rw[List.append_assoc,List.pairwise_append]
 refine⟨p1,?_,λ x hx y hy=>p3 x hx y ?_⟩
 . show List.Pairwise _ (b::a::l.drop (v+2))
   rw[List.pairwise_cons,List.pairwise_cons]
   refine⟨λ y hy=>?_,λ y hy=>q1 y (x3 _ hy),q3⟩
   rcases List.mem_cons.mp hy with rfl | hy
   . exact .inr (by rw[Oi];exact ht)
   . exact q2 y hy
 . have hy:y∈b::a::l.drop (v+2):=hy
   rcases List.mem_cons.mp hy with rfl | hy
   . exact x3 _ x5
   . rcases List.mem_cons.mp hy with rfl | hy
     . exact x5
     . exact x3 _ (x3 _ hy)
noncomputable def ldB(xs:List CR)(es:List Int)(o:List Nat):Bool:=match excs xs (List.range xs.length) es with
 | some l=>decide (l=o)
 | none=>false
noncomputable def DQ:Ct:=λ ds S W=>∃(p:Pg) (m:Nat),ds=[dPg p]/\PgB m p/\12≤m/\m≤60/\flat S/\W (.loc S.length) (S++[dN (List.range (aK p).length)])
theorem GF(F:Fun Ω.K "plain" "plain" mR f fd)(B:Bi Ω.mg)(Cq42:Cal Ω "number_of_steps" 4 1 jg):Ok Ω 5 f fd HD DQ:=by
 refine aA (N:=Jw) F (Jv B Cq42) (by kernel_rfl!) ?_
 rintro ds S W ⟨p,m,rfl,hP,h12,h60,hS,hw⟩ hl
 have hN:=dH hP h12 h60
 walk_at "b"
 refine⟨rfl,lQ hP hS ?_⟩
 walk_at "b"
 refine⟨⟨by omega,by omega⟩,.inr ?_⟩
 rw[Int.toNat_natCast,qu]
 exact hw
theorem Jo{kv:Kd}(h:nlV kv):ak (kv.map encK)=true:=Fj λ d hd=>by
 obtain⟨x,hx,rfl⟩:=List.mem_map.mp hd
 show ak [.tup (x.1.map .int),x.2]=true
 have e:ao (.tup (x.1.map .int))=true:=bG _
 simp only[ak,e,h x hx,Bool.and_true]
noncomputable def Tch(qs:List Pr)(kv:Kd):Prop:=kv.length≤qs.length/\nlV kv/\∀a b:Nat,(bw kv [(a:Int),(b:Int)]).isSome=qs.any λ q=>decide (q.1=a/\q.2.1=b)
theorem Tch.put{qs:List Pr}{kv:Kd}(h:Tch qs kv)(q:Pr):Tch (qs++[q]) (putD kv [(q.1:Int),(q.2.1:Int)] (.bl true)):=by
 refine⟨by have:=h.1;have:=Ny kv [(q.1:Int),(q.2.1:Int)] (.bl true);rw[x6];show _≤_+1;omega,Pb h.2.1 rfl,λ a b=>?_⟩
 rw[Mh,List.any_append,←h.2.2 a b]
 by_cases e:q.1=a/\q.2.1=b
 . rw[if_pos (by rw[e.1,e.2])]
   simp[e]
 . rw[if_neg (λ z=>e (by simp at z;omega))]
   simp[e]
theorem Je(xs:List CR)(a b:Nat):((cG xs xs.length).any λ q=>decide (q.1=a/\q.2.1=b))=(decide (a<b)&&tN xs a b):=by
 rw[Bool.eq_iff_iff,List.any_eq_true,Bool.and_eq_true]
 constructor
 . rintro⟨q,hq,e⟩
   obtain⟨rfl,rfl⟩:=of_decide_eq_true e
   obtain⟨hlt,x,y,hx,hy,ht⟩:=J1 hq
   exact⟨decide_eq_true hlt,by rw[MP hx hy];exact ht⟩
 . rintro⟨h1,h2⟩
   have h1:=of_decide_eq_true h1
   unfold tN at h2
   split at h2
   . rename_i x y hx hy
     have hb:=(z0.mp hy).1
     refine⟨(a,b,ssC x y),?_,decide_eq_true ⟨rfl,rfl⟩⟩
     unfold cG
     refine List.mem_flatMap.mpr ⟨a,List.mem_range.mpr (by omega),List.mem_flatMap.mpr ⟨b-(a+1),List.mem_range.mpr (by omega),?_⟩⟩
     rw[show a+1+(b-(a+1))=b from by omega,Dg hx hy,Ik,h2]
     exact List.mem_singleton.mpr rfl
   . cases h2
noncomputable def DP:Ct:=λ ds S W=>∃(p:Pg) (m:Nat),ds=[dPg p]/\PgB m p/\12≤m/\m≤60/\flat S/\∀kv:Kd,Tch (cG ((aK p).map crs) (aK p).length) kv->W (.dlo S.length) (S++[kv.map encK])
theorem pR(F:Fun Ω.K "touching_of" "touching_of" dJ f fd)(Cq43:Cal Ω "pairs" 6 1 wU):Ok Ω 7 f fd qM DP:=by
 refine aA (N:=qx) F (Bl.owq (rD Cq43)) (by kernel_rfl!) ?_
 rintro ds S W ⟨p,m,rfl,hP,h12,h60,hS,hw⟩ hl
 have hN:=dH hP h12 h60
 have f1:flat (S++[([]:List D)]):=cW hS rfl
 walk_at "b"
 refine⟨rfl,p,m,rfl,hP,h12,h60,f1,λ its J hI=>?_⟩
 have hL:((aK p).map crs).length=(aK p).length:=y7 _
 rw[←hL]at hw hI
 generalize (aK p).map crs=xs at*
 have hPl:=mG xs xs.length
 have hPm:xs.length*xs.length≤60*60:=Nat.mul_le_mul (by omega) (by omega)
 have hQ:(cG xs xs.length).length≤3600:=by omega
 have gi:∀l:List D,(S++[l]++[its]++J)[(S++[([]:List D)]).length]? =some its:=λ l=>lW (by simp)
 have gk:∀l:List D,(S++[l]++[its]++J)[S.length]? =some l:=λ l=>by
  rw[List.append_assoc,List.append_assoc,List.getElem?_append_right (y9 _),Nat.sub_self];rfl
 have pk:∀l z:List D,(S++[l]++[its]++J).set S.length z=S++[z]++[its]++J:=λ l z=>by
  rw[List.append_assoc,List.append_assoc,List.set_append_right _ _ (y9 _),Nat.sub_self]
  simp
 walk_at "b"
 refine⟨its,gi _,NK ⟨λ i Γ' T=>∃(kv:Kd) (o2 o3 o4:Option D),Γ'=[some (dPg p),some (.dlo S.length),o2,o3,o4]/\T=S++[kv.map encK]++[its]++J/\Tch ((cG xs xs.length).take i) kv,⟨[],_,_,_,rfl,rfl,Nat.zero_le _,(λ x h=>by cases h),λ a b=>rfl⟩,?_,?_,?_⟩⟩
 . rintro i Γ' T ⟨kv,o2,o3,o4,rfl,rfl,_⟩
   exact gi _
 . rintro i d Γ' T hd ⟨kv,o2,o3,o4,rfl,rfl,hk⟩
   obtain⟨q,m',hq,rfl⟩:=hI.get hd
   have hkl:=hk.1
   rw[List.length_take]at hkl
   walk_at "b"
   refine⟨rfl,?_⟩
   walk_at "b"
   refine⟨[(q.1:Int),(q.2.1:Int)],kv,rfl,gk _,by omega,?_⟩
   rw[pk]
   exact⟨_,_,_,_,rfl,rfl,by rw[aM hq];exact hk.put q⟩
 . rintro Γ' T ⟨kv,o2,o3,o4,rfl,rfl,hk⟩
   rw[hI.length,List.take_length]at hk
   walk_at "b"
   exact .inr ⟨true,_,S,S.length,kv.map encK,rfl,by rw[List.append_assoc,List.append_assoc],y9 _,y9 _,gk _,Jo hk.2.1,hS,hw kv hk⟩
theorem Ef{α β:Type}{f:α->β}(hf:∀a b,f a=f b->a=b):∀{l k:List α},l.map f=k.map f->l=k
 | [],[],_=>rfl
 | [],_::_,h=>by cases h
 | _::_,[],h=>by cases h
 | a::l,b::k,h=>by
   simp only[List.map_cons,List.cons.injEq]at h
   rw[hf _ _ h.1,Ef hf h.2]
theorem G4{n:Nat}(h:v<n):ixN n (v:Int)=some v:=by
 unfold ixN
 rw[if_pos (by omega),if_pos (by omega),Int.toNat_natCast]
theorem Nr{a b:Nat}(h1:l[v]? =some a)(h2:l[v+1]? =some b):((dN l).set v (.int (b:Int))).set (v+1) (.int (a:Int))=dN (swp l v a b):=by
 have e:=pQ h1 h2
 have hl:=(z0.mp h2).1
 have e1:(l.take v).length=v:=by rw[List.length_take];omega
 have e2:dN l=dN (l.take v)++(.int (a:Int)::.int (b:Int)::dN (l.drop (v+2))):=by
  conv=>lhs;rw[e]
  unfold dN
  rw[v3];rfl
 have e3:(dN (l.take v)).length=v:=by rw[bB,e1]
 unfold swp
 rw[e2,List.set_append_right _ _ (by omega),e3,Nat.sub_self,List.set_append_right _ _ (by omega),e3,show v+1-v=1 from by omega]
 unfold dN
 rw[v3,v3,List.append_assoc];rfl
theorem Jx(l o:List Nat):bU (dN l) (dN o)=decide (l=o):=by
 rw[cL,cL,lC]
 rw[Bool.eq_iff_iff,decide_eq_true_eq,decide_eq_true_eq]
 exact⟨λ h=>Ef (λ a b z=>Int.ofNat.inj z) h,λ h=>by rw[h]⟩
theorem wy(l:List Nat):bJ (dN l)=true:=by rw[cL];exact fG _
theorem Eb(l:List Nat):aV (dN l)+1≤50:=by rw[cL,cF];omega
theorem RM{S:Store}{W:Bool->Store->Prop}(hk:S[k]? =some (dN l))(w:W (decide (l=o)) S):aO .Eq (.loc k) (.lst (dN o)) S W:=by
 unfold aO
 have e1:vw S (.loc k)=.lst (dN l):=by simp only[vw,hk]
 refine⟨⟨by rw[e1];exact wy l,wy o,by rw[e1];exact Eb l⟩,?_⟩
 . rw[e1]
   show W (bU (dN l) (dN o)) S
   rw[Jx];exact w
noncomputable def Dn:Ct:=λ ds S W=>∃(p:Pg) (m:Nat) (es:List Int) (o:List Nat),ds=[dPg p,.lst (es.map .int),.lst (dN o)]/\PgB m p/\12≤m/\m≤60/\es.length≤100000/\flat S/\o.Perm (List.range (aK p).length)/\W (.bl (ldB ((aK p).map crs) es o)) S
theorem Gy(F:Fun Ω.K "leads" "leads" lX f fd)(B:Bi Ω.mg)(Cq44:Cal Ω "plain" 5 1 DQ)(Cq46:Cal Ω "refuse_no_order" 7 2 wV)(Cq49:Cal Ω "touching_of" 7 1 DP):Ok Ω 8 f fd G9 Dn:=by
 refine aA (N:=JL) F (Bl.drp (Jq B Cq44 Cq46 Cq49)) (by kernel_rfl!) ?_
 rintro ds S W ⟨p,m,es,o,rfl,hP,h12,h60,hE,hS,hO,hw⟩ hl
 have hN:=dH hP h12 h60
 walk_at "b"
 refine⟨rfl,p,m,o,rfl,hP,h12,h60,hS,dz hO,jm hO,?_⟩
 walk_at "b"
 refine⟨rfl,p,m,rfl,hP,h12,h60,hS,λ kv hk=>?_⟩
 have f1:flat (S++[kv.map encK]):=cW hS (Jo hk.2.1)
 walk_at "b"
 refine⟨rfl,p,m,rfl,hP,h12,h60,f1,?_⟩
 have hL:((aK p).map crs).length=(aK p).length:=y7 _
 rw[←hL]at hO hk hN
 rw[show(S++[kv.map encK]).length=S.length+1 from by simp,show S++[kv.map encK]++[dN (List.range (aK p).length)]=S++[kv.map encK,dN (List.range ((aK p).map crs).length)]from by rw[hL];simp]
 generalize (aK p).map crs=xs at*
 walk_at "b"
 refine aR ⟨λ i Γ' T=>∃(l:List Nat) (o5 o6:Option D),Γ'=[some (dPg p),some (.lst (es.map .int)),some (.lst (dN o)),some (.dlo S.length),some (.loc (S.length+1)),o5,o6]/\T=S++[kv.map encK,dN l]/\excs xs (List.range xs.length) (es.take i)=some l/\l.Perm (List.range xs.length)/\Kpt xs l,⟨List.range xs.length,_,_,rfl,rfl,rfl,.refl _,Kpt.range _ _⟩,?_,?_⟩
 . rintro i e Γ' T he ⟨l,o5,o6,rfl,rfl,hx,hp,hkp⟩
   obtain⟨e,hei,rfl⟩:=cJ he
   have hll:=dz hp
   have hnx:∀k,exc xs l e=some k->excs xs (List.range xs.length) (es.take (i+1))=some k:=λ k hk=>by rw[aM hei,fD,hx];exact hk
   have hno:exc xs l e=none->ldB xs es o=false:=λ h=>by
    have:excs xs (List.range xs.length) es=none:=uJ (i:=i+1) (by rw[aM hei,fD,hx];exact h)
    unfold ldB
    rw[this]
   have out:exc xs l e=none->(Drp S.length W) (.bl false) (S++[kv.map encK,dN l]):=λ h=>.inr ⟨[kv.map encK,dN l],S,rfl,y9 _,rfl,hS,by rw[hno h]at hw;exact hw⟩
   walk_at "b"
   refine⟨λ h=>?_,λ h=>?_⟩
   . have h:=of_decide_eq_false h
     walk_at "b"
     exact out (mU λ z=>h z.1)
   have h0:=of_decide_eq_true h
   walk_at "b"
   refine⟨_,t_b rfl,?_⟩
   rw[bB]
   walk_at "b"
   refine⟨λ h=>?_,λ h=>?_⟩
   . have h:¬e<(l.length:Int)-1:=λ z=>by rw[decide_eq_true z]at h;cases h
     walk_at "b"
     exact out (mU λ z=>h z.2)
   have h1:e<(l.length:Int)-1:=by
    rcases Int.lt_or_le e ((l.length:Int)-1)with z | z
    . exact z
    . rw[decide_eq_false (by omega)]at h;cases h
   obtain⟨v,rfl⟩:∃v:Nat,e=(v:Int):=⟨e.toNat,by omega⟩
   have g1:l[v]? =some l[v]:=y3 (by omega)
   have g2:l[v+1]? =some l[v+1]:=y3 (by omega)
   walk_at "b"
   refine⟨_,_,t_b rfl,aP (dw g1),?_⟩
   walk_at "b"
   refine⟨_,_,t_b rfl,aP (j:=v+1) (dw g2),?_⟩
   walk_at "b"
   refine⟨[(l[v]:Int),(l[v+1]:Int)],kv,rfl,t_a rfl,?_⟩
   have hkq:=(hk.2.2 l[v] l[v+1]).trans (Je xs _ _)
   walk_at "b"
   rw[hkq]
   have hkt:(decide (l[v]<l[v+1])&&tN xs l[v] l[v+1])=tN xs l[v] l[v+1]:=by
    rcases hkp.adj g1 g2 with h | h
    . rw[decide_eq_true h,Bool.true_and]
    . rw[h,Bool.and_false]
   rw[hkt]
   cases ht:tN xs l[v] l[v+1]with
   | true=>
     walk_at "b"
     exact out (by rw[mK g1 g2,ht];rfl)
   | false=>
     walk_at "b"
     refine⟨_,v,t_b rfl,G4 (by rw[bB];omega),?_⟩
     rw[Ko rfl]
     walk_at "b"
     have hlv:v+1<((dN l).set v (.int (l[v+1]:Int))).length:=by rw[List.length_set,bB];omega
     refine⟨_,v+1,t_b rfl,G4 hlv,?_⟩
     rw[Ko rfl,Nr g1 g2]
     exact⟨_,_,_,rfl,rfl,hnx _ (by rw[mK g1 g2,ht];rfl),swap_perm g1 g2 hp,hkp.turn g1 g2 ht⟩
 . rintro Γ' T ⟨l,o5,o6,rfl,rfl,hx,hp,hkp⟩
   rw[y7,List.take_length]at hx
   walk_at "b"
   refine RM (t_b rfl) ?_
   exact .inr ⟨[kv.map encK,dN l],S,rfl,y9 _,rfl,hS,by unfold ldB at hw;rw[hx]at hw;exact hw⟩
noncomputable def Exo(xs:List CR)(o:List Nat)(i:Nat)(l:List Nat)(es:List Int):Prop:=∃r,l=o.take i++r/\r.Pairwise (· <·)/\excs xs (List.range xs.length) es=some l/\l.Perm (List.range xs.length)/\es.length≤i*60
noncomputable def Exi(xs:List CR)(o:List Nat)(i x m:Nat)(l:List Nat)(es:List Int):Prop:=∃r1 rest,r1.length=m/\l=o.take i++(r1++x::rest)/\(r1++rest).Pairwise (· <·)/\(∀y∈r1,y<x)/\excs xs (List.range xs.length) es=some l/\l.Perm (List.range xs.length)/\es.length+m≤(i+1)*60
theorem Exo.start{xs:List CR}{x:Nat}(h:Exo xs o i l es)(hO:o.Perm (List.range xs.length))(hx:o[i]? =some x)(hn:xs.length≤60):∃m,l.idxOf x=i+m/\x∈l/\Exi xs o i x m l es:=by
 obtain⟨r,rfl,hr,he,hp,hl⟩:=h
 have hi:=(z0.mp hx).1
 have hxm:x∈o.take i++r:=hp.mem_iff.mpr (hO.mem_iff.mp (y4 hx))
 have ndo:=(jm hO).2
 have hxn:x∉o.take i:=λ z=>by
  obtain⟨j,hj⟩:=List.getElem?_of_mem z
  rw[List.getElem?_take]at hj
  split at hj
  . exact Et ndo (by assumption) hi (by rw[hj,hx])
  . cases hj
 have hxr:x∈r:=(List.mem_append.mp hxm).resolve_left hxn
 obtain⟨r1,rest,rfl⟩:=List.append_of_mem hxr
 have nd:=(jm hp).2
 have hx1:x∉r1:=λ z=>by
  have:=(List.nodup_append.mp nd).2.1
  exact(List.nodup_append.mp this).2.2 x z x x5 rfl
 have hll:=hp.length_eq
 rw[List.length_range,x6,x6]at hll
 rw[List.pairwise_append,List.pairwise_cons]at hr
 obtain⟨q1,⟨q2,q3⟩,q4⟩:=hr
 refine⟨r1.length,?_,hxm,r1,rest,rfl,rfl,?_,λ y hy=>q4 y hy x x5,he,hp,?_⟩
 . rw[List.idxOf_append,if_neg hxn,List.idxOf_append,if_neg hx1,List.idxOf_cons_self,List.length_take]
   omega
 . rw[List.pairwise_append]
   exact⟨q1,q3,λ a ha b hb=>q4 a ha b (x3 _ hb)⟩
 . rw[Nat.succ_mul];omega
theorem Exi.fin{xs:List CR}{x:Nat}(h:Exi xs o i x 0 l es)(hx:o[i]? =some x):Exo xs o (i+1) l es:=by
 obtain⟨r1,rest,e0,rfl,hr,hy,he,hp,hl⟩:=h
 have e1:r1=[]:=List.eq_nil_of_length_eq_zero e0
 subst e1
 exact⟨rest,by rw[aM hx,List.append_assoc];rfl,hr,he,hp,by omega⟩
theorem Exi.step{xs:List CR}{x:Nat}(h:Exi xs o i x (m+1) l es)(hg:Good xs o)(hO:o.Perm (List.range xs.length))(hx:o[i]? =some x):∃y,l[i+m]? =some y/\l[i+m+1]? =some x/\Exi xs o i x m (swp l (i+m) y x) (es++[((i+m:Nat):Int)]):=by
 obtain⟨r1,rest,e0,rfl,hr,hy,he,hp,hl⟩:=h
 have hi:=(z0.mp hx).1
 have hlt:(o.take i).length=i:=by rw[List.length_take];omega
 rcases List.eq_nil_or_concat r1 with rfl | ⟨r2,y,rfl⟩
 . cases e0
 . rw [List.concat_eq_append]at*
   have e0:r2.length=m:=by simpa using e0
   have g1:(o.take i++(r2++[y]++x::rest))[i+m]? =some y:=by
    rw[List.getElem?_append_right (by omega),hlt,List.append_assoc,List.getElem?_append_right (by omega)]
    rw[show i+m-i-r2.length=0 from by omega];rfl
   have g2:(o.take i++(r2++[y]++x::rest))[i+m+1]? =some x:=by
    rw[List.getElem?_append_right (by omega),hlt,List.append_assoc,List.getElem?_append_right (by omega)]
    rw[show i+m+1-i-r2.length=1 from by omega];rfl
   have es1:swp (o.take i++(r2++[y]++x::rest)) (i+m) y x=o.take i++(r2++x::(y::rest)):=by
    have e3:o.take i++(r2++[y]++x::rest)=(o.take i++r2)++(y::x::rest):=by simp
    unfold swp
    rw[e3,List.take_left' (by rw[x6];omega),show i+m+2=(o.take i++r2).length+2 from by rw[x6];omega,List.drop_append]
    simp
   have hyx:y<x:=hy y (by simp)
   have nd:=(jm hp).2
   have hyn:y∉o.take i:=λ z=>(List.nodup_append.mp nd).2.2 y z y (by simp) rfl
   have ht:tN xs y x=false:=by
    cases e:tN xs y x with
    | false=>rfl
    | true=>
      unfold tN at e
      split at e
      . rename_i a b ha hb
        exact absurd (hg (o.take i) (o.drop (i+1)) x (by rw[←z0.mp hx |>.2,←List.drop_eq_getElem_cons hi,List.take_append_drop]) y hyx a b ha hb e) hyn
      . cases e
   refine⟨y,g1,g2,r2,y::rest,e0,es1,?_,λ z hz=>hy z (by simp[hz]),?_,swap_perm g1 g2 hp,by rw[x6];show _+1+_≤_;omega⟩
   . rw[List.append_assoc]at hr;exact hr
   . rw[fD,he]
     show exc xs _ _=_
     rw[mK g1 g2,ht];rfl
noncomputable def Ju:Ct:=λ ds S W=>∃(xs:List CR) (o:List Nat),ds=[.lst (dN o)]/\xs.length≤60/\o.Perm (List.range xs.length)/\Good xs o/\flat S/\∀es:List Int,es.length≤3600->excs xs (List.range xs.length) es=some o->W (.lst (es.map .int)) S
theorem tH(F:Fun Ω.K "_law_exchanges" "_law_exchanges" fW f fd)(B:Bi Ω.mg):Ok Ω 1 f fd uW Ju:=by
 refine aA (N:=v5) F (Bl.frz (vg B)) (by kernel_rfl!) ?_
 rintro ds S W ⟨xs,o,rfl,hN,hO,hg,hS,hw⟩ hl
 have hol:=dz hO
 walk_at "b"
 rw[bB,hol]
 refine⟨⟨by omega,by omega⟩,.inl ?_⟩
 rw[Int.toNat_natCast,qu]
 walk_at "b"
 rw[bB,hol]
 refine⟨⟨by omega,by omega⟩,aR ⟨λ i Γ' T=>∃(l:List Nat) (es:List Int) (o3 o4:Option D),Γ'=[some (.lst (dN o)),some (.lst (dN l)),some (.loc S.length),o3,o4]/\T=S++[es.map .int]/\Exo xs o i l es,⟨List.range xs.length,[],_,_,rfl,rfl,List.range xs.length,by simp,List.pairwise_lt_range,rfl,.refl _,Nat.zero_le _⟩,?_,?_⟩⟩
 . rintro i e Γ' T he ⟨l,es,o3,o4,rfl,rfl,hx⟩
   obtain⟨hi,rfl⟩:=bC he
   have hi:i<o.length:=by omega
   have e0:(0+(i:Int))=((i:Nat):Int):=by omega
   have goi:o[i]? =some o[i]:=y3 hi
   obtain⟨m,hm,hmem,hI⟩:=hx.start hO goi hN
   have nd:=hx
   obtain⟨_,_,_,_,hpl,_⟩:=nd
   rw[e0]
   refine jH ?_
   simp only[List.set_cons_succ,List.set_cons_zero]
   walk_at "b"
   refine⟨_,aP (dw goi),?_⟩
   walk_at "b"
   refine Sw (jm hpl).2 hmem ?_
   rw[hm]
   walk_at "b"
   refine pg ⟨λ q Γ' T=>∃(l:List Nat) (es:List Int),Γ'=[some (.lst (dN o)),some (.lst (dN l)),some (.loc S.length),some (.int (i:Int)),some (.int ((i+q:Nat):Int))]/\T=S++[es.map .int]/\Exi xs o i o[i] q l es,m,⟨l,es,rfl,rfl,hI⟩,?_⟩
   rintro q Γ' T ⟨l,es,rfl,rfl,hI⟩
   walk_at "b"
   refine⟨λ h=>?_,λ h=>?_⟩
   . have h:=of_decide_eq_true h
     obtain⟨q,rfl⟩:∃r,q=r+1:=⟨q-1,by omega⟩
     obtain⟨y,g1,g2,hI2⟩:=hI.step hg hO goi
     obtain⟨_,_,_,_,_,_,_,hpl,hel⟩:=hI
     have hll:=dz hpl
     have hel:es.length<1000000:=by have:(i+1)*60≤61*60:=Nat.mul_le_mul (by omega) (y9 _);omega
     have ea:((i+(q+1):Nat):Int)-1=((i+q:Nat):Int):=by omega
     walk_at "b"
     rw[ea]
     refine⟨_,yt rfl,by rw[y7];omega,?_⟩
     rw[Nj rfl,show es.map D.int++[D.int ((i+q:Nat):Int)]=(es++[((i+q:Nat):Int)]).map D.int from by rw[v3];rfl]
     walk_at "b"
     rw[ea]
     refine⟨_,aP (j:=i+(q+1)) (dw g2),?_⟩
     walk_at "b"
     rw[ea]
     refine⟨_,aP (j:=i+q) (dw g1),?_⟩
     walk_at "b"
     rw[yj (by omega),Int.toNat_natCast]
     refine⟨by rw[List.length_take,bB];show _+2≤_;omega,?_⟩
     walk_at "b"
     rw[ye (by omega),show(((i+(q+1):Nat):Int)+1).toNat=i+q+2 from by omega]
     refine⟨by rw[x6,List.length_take,List.length_drop,bB];show _+2+_≤_;omega,?_⟩
     rw[CG g1 g2]
     walk_at "b"
     rw[ea]
     exact⟨q,by omega,_,_,rfl,rfl,hI2⟩
   . have h:=of_decide_eq_false h
     have hq:q=0:=by omega
     subst hq
     walk_at "b"
     exact⟨l,es,_,_,rfl,rfl,hI.fin goi⟩
 . rintro Γ' T ⟨l,es,o3,o4,rfl,rfl,hx⟩
   rw[au,Int.toNat_natCast]at hx
   obtain⟨r,e1,_,he,hp,hel⟩:=hx
   have hlo:l=o:=by
    rw[←hol,List.take_length]at e1
    have h1:=dz hp
    rw[e1,x6]at h1
    have:r=[]:=List.eq_nil_of_length_eq_zero (by omega)
    rw[e1,this,List.append_nil]
   subst hlo
   walk_at "b"
   exact .inr ⟨_,S,rfl,rfl,y9 _,bG es,hS,hw es (by have:xs.length*60≤60*60:=Nat.mul_le_mul hN (y9 _);omega) he⟩
noncomputable def DW:Ct:=λ ds S W=>∃(zs:List (Dd×List Int)) (es:List Int) (o:List Nat),ds=[.lst (zs.map λ x=>b7 x.2 x.1),.lst (es.map .int),.lst (dN o)]/\zs.length≤60/\(∀z∈zs,z.1.rds.length≤1000)/\W (.bl (ldB (zs.map crs) es o)) S
theorem Rz{S:Store}{W:Bool->Store->Prop}(w:W (decide (l=o)) S):aO .Eq (.lst (dN l)) (.lst (dN o)) S W:=by
 unfold aO
 refine⟨⟨wy l,wy o,Eb l⟩,?_⟩
 show W (bU (dN l) (dN o)) S
 rw[Jx];exact w
theorem Mf(F:Fun Ω.K "_law_due" "_law_due" sE f fd)(B:Bi Ω.mg)(Cq16:Cal Ω "_law_touch" 1 2 pJ):Ok Ω 2 f fd NZ DW:=by
 refine aA (N:=Qh) F (NQ B Cq16) (by kernel_rfl!) ?_
 rintro ds S W ⟨zs,es,o,rfl,hN,hr,hw⟩ hl
 have hL:(zs.map crs).length=zs.length:=y7 _
 have az:∀i(h:i<zs.length),atI (zs.map λ x=>b7 x.2 x.1) ((i:Nat):Int)=some (b7 zs[i].2 zs[i].1):=λ i h=>aP (by rw[y8,y3 h];rfl)
 have hx:∀i(h:i<zs.length),(zs.map crs)[i]? =some (crs zs[i]):=λ i h=>by rw[y8,y3 h];rfl
 walk_at "b"
 rw[y7]
 refine⟨⟨by omega,by omega⟩,.inl ?_⟩
 rw[Int.toNat_natCast,qu]
 walk_at "b"
 refine aR ⟨λ i Γ' T=>∃(l:List Nat) (o4:Option D),Γ'=[some (.lst (zs.map λ x=>b7 x.2 x.1)),some (.lst (es.map .int)),some (.lst (dN o)),some (.lst (dN l)),o4]/\T=S/\excs (zs.map crs) (List.range zs.length) (es.take i)=some l/\l.Perm (List.range zs.length),⟨List.range zs.length,_,rfl,rfl,rfl,.refl _⟩,?_,?_⟩
 . rintro i e Γ' T he ⟨l,o4,rfl,rfl,hxs,hp⟩
   obtain⟨e,hei,rfl⟩:=cJ he
   have hll:=dz hp
   have hnx:∀k,exc (zs.map crs) l e=some k->excs (zs.map crs) (List.range zs.length) (es.take (i+1))=some k:=λ k hk=>by rw[aM hei,fD,hxs];exact hk
   have hno:exc (zs.map crs) l e=none->ldB (zs.map crs) es o=false:=λ h=>by
    have:excs (zs.map crs) (List.range zs.length) es=none:=uJ (i:=i+1) (by rw[aM hei,fD,hxs];exact h)
    unfold ldB
    rw[hL,this]
   have out:exc (zs.map crs) l e=none->W (.bl false) T:=λ h=>by rw[hno h]at hw;exact hw
   walk_at "b"
   refine⟨λ h=>?_,λ h=>?_⟩
   . have h:=of_decide_eq_false h
     walk_at "b"
     exact out (mU λ z=>h z.1)
   have h0:=of_decide_eq_true h
   walk_at "b"
   rw[bB]
   refine⟨λ h=>?_,λ h=>?_⟩
   . have h:¬e<(l.length:Int)-1:=λ z=>by rw[decide_eq_true z]at h;cases h
     walk_at "b"
     exact out (mU λ z=>h z.2)
   have h1:e<(l.length:Int)-1:=by
    rcases Int.lt_or_le e ((l.length:Int)-1)with z | z
    . exact z
    . rw[decide_eq_false (by omega)]at h;cases h
   obtain⟨v,rfl⟩:∃v:Nat,e=(v:Int):=⟨e.toNat,by omega⟩
   have g1:l[v]? =some l[v]:=y3 (by omega)
   have g2:l[v+1]? =some l[v+1]:=y3 (by omega)
   have n1:l[v]<zs.length:=List.mem_range.mp (hp.mem_iff.mp (List.getElem_mem _))
   have n2:l[v+1]<zs.length:=List.mem_range.mp (hp.mem_iff.mp (List.getElem_mem _))
   have et:tN (zs.map crs) l[v] l[v+1]=cP (crs zs[l[v]]) (crs zs[l[v+1]]):=MP (hx _ n1) (hx _ n2)
   walk_at "b"
   refine⟨_,aP (dw g1),?_⟩
   walk_at "b"
   refine⟨_,az _ n1,?_⟩
   walk_at "b"
   refine⟨_,aP (j:=v+1) (dw g2),?_⟩
   walk_at "b"
   refine⟨_,az _ n2,?_⟩
   walk_at "b"
   refine⟨rfl,zs[l[v]],zs[l[v+1]],rfl,hr _ (List.getElem_mem n1),hr _ (List.getElem_mem n2),?_⟩
   rw[←et]
   cases ht:tN (zs.map crs) l[v] l[v+1]with
   | true=>
     walk_at "b"
     exact out (by rw[mK g1 g2,ht];rfl)
   | false=>
     walk_at "b"
     refine⟨_,aP (j:=v+1) (dw g2),?_⟩
     walk_at "b"
     refine⟨_,aP (dw g1),?_⟩
     walk_at "b"
     rw[yj (by omega),Int.toNat_natCast]
     refine⟨by rw[List.length_take,bB];show _+2≤_;omega,?_⟩
     walk_at "b"
     rw[ye (by omega),show((v:Int)+2).toNat=v+2 from by omega]
     refine⟨by rw[x6,List.length_take,List.length_drop,bB];show _+2+_≤_;omega,?_⟩
     rw[CG g1 g2]
     walk_at "b"
     exact⟨_,_,rfl,rfl,hnx _ (by rw[mK g1 g2,ht];rfl),swap_perm g1 g2 hp⟩
 . rintro Γ' T ⟨l,o4,rfl,rfl,hxs,hp⟩
   rw[y7,List.take_length]at hxs
   walk_at "b"
   refine Rz ?_
   unfold ldB at hw
   rw[hL,hxs]at hw
   exact hw
noncomputable def bQ(n:Nat)(ds:List D):Prop:=ds.length≤n/\∀d∈ds,∃i,d=.int i
theorem bQ.of(es:List Int):bQ es.length (es.map D.int):=⟨by simp,λ d hd=>by obtain⟨i,_,rfl⟩:=List.mem_map.mp hd;exact⟨i,rfl⟩⟩
theorem bQ.up{n:Nat}(h:bQ n ds)(hm:n≤m):bQ m ds:=⟨Nat.le_trans h.1 hm,h.2⟩
theorem bQ.cut{n:Nat}(h:bQ n ds)(lo hi:Option Int):bQ n (cutD ds lo hi):=⟨Nat.le_trans (Ql _ _ _) h.1,λ d hd=>h.2 d (Nu hd)⟩
theorem bQ.app{n:Nat}{es:List D}(h:bQ n ds)(k:bQ m es):bQ (n+m) (ds++es):=⟨by rw[x6];have:=h.1;have:=k.1;omega,λ d hd=>(List.mem_append.mp hd).elim (h.2 d) (k.2 d)⟩
theorem bQ.rev{n:Nat}(h:bQ n ds):bQ n ds.reverse:=⟨by rw[List.length_reverse];exact h.1,λ d hd=>h.2 d (List.mem_reverse.mp hd)⟩
theorem bQ.get{n:Nat}(h:bQ n ds):∃es:List Int,ds=es.map .int/\es.length≤n:=by
 obtain⟨hl,h⟩:=h
 have key:∀ds:List D,(∀d∈ds,∃i,d=.int i)->∃es:List Int,ds=es.map .int:=by
  intro ds
  induction ds with
  | nil=>exact λ _=>⟨[],rfl⟩
  | cons d ds ih=>
    intro h
    obtain⟨i,rfl⟩:=h d x5
    obtain⟨es,rfl⟩:=ih λ x hx=>h x (x3 _ hx)
    exact⟨i::es,rfl⟩
 obtain⟨es,rfl⟩:=key ds h
 exact⟨es,rfl,by rw[y7]at hl;exact hl⟩
noncomputable def zE:Ct:=λ ds S W=>∃(k:Nat) (es:List Int) (n:Int),ds=[.loc k,.lst (es.map .int),.int n]/\aF S k/\es.length≤3600/\0≤n/\n≤60/\∀(fs:List Int) S',fs.length≤20000->aJ S k S'->aF S' k->W (.lst (fs.map .int)) S'
theorem Hj(F:Fun Ω.K "_law_bent" "_law_bent" oU f fd)(B:Bi Ω.mg)(Cq15:Cal Ω "_law_take" 2 2 cI):Ok Ω 3 f fd K9 zE:=by
 refine aA (N:=La) F (J2 B Cq15) (by kernel_rfl!) ?_
 rintro ds S W ⟨k,es,n,rfl,hp,hE,n0,n1,hw⟩ hl
 walk_at "b"
 rw[y7]
 refine aG hp (by omega) (by omega) λ a S1 a0 a1 u1 p1=>?_
 walk_at "b"
 refine aG p1 (by omega) (by omega) λ b S2 b0 b1 u2 p2=>?_
 have iE:=(bQ.of es).up hE
 generalize es.map D.int=el at*
 have i1:=iE.cut none (some a)
 have i2:=iE.cut (some (a+1)) none
 have i3:=iE.cut (some a) none
 have i4:=iE.cut (some a) (some (a+1))
 have l0:=iE.1
 have l1:=i1.1
 have l2:=i2.1
 have l3:=i3.1
 have l4:=i4.1
 have i5:bQ 7200 (List.replicate (2:Int).toNat (cutD el (some a) (some (a+1)))).flatten:=by
  show bQ 7200 (cutD el (some a) (some (a+1))++(cutD el (some a) (some (a+1))++[]))
  rw[List.append_nil]
  exact i4.app i4
 have l5:=i5.1
 walk_at "b"
 refine⟨_,2,rfl,rfl,⟨by decide,by decide⟩,by show _*2≤_;omega,?_⟩
 have one:∀z:Int,bQ 2 [D.int z]:=λ z=>⟨Nat.le_succ 1,λ d hd=>⟨z,List.mem_singleton.mp hd⟩⟩
 have two:∀z:Int,bQ 2 [D.int z,D.int z]:=λ z=>⟨y9 2,λ d hd=>⟨z,by simpa using hd⟩⟩
 walk_at "b"
 refine aG p2 (by decide) (by decide) λ c S3 c0 c1 u3 p3=>?_
 have key:∀(zs:List (List D))(c:Int),0≤c->c<(zs.length:Int)->(∀z∈zs,bQ 20000 z)->∃fs:List Int,fs.length≤20000/\atI (zs.map D.lst) c=some (.lst (fs.map .int)):=by
  intro zs c c0 c1 hz
  obtain⟨x,h1,h2⟩:=fM (ds:=zs.map D.lst) c0 (by rw[y7];exact c1)
  obtain⟨z,hzm,rfl⟩:=List.mem_map.mp (y4 h2)
  obtain⟨fs,rfl,hf⟩:=(hz z hzm).get
  exact⟨fs,hf,h1⟩
 obtain⟨fs,hf,hat⟩:=key [cutD el none (some a)++cutD el (some (a+1)) none,cutD el none (some a)++[D.int (b-2)]++cutD el (some a) none,cutD el none (some a)++(List.replicate (Int.toNat 2) (cutD el (some a) (some (a+1)))).flatten,(cutD el none (some a)).reverse++cutD el (some a) none,el++el.reverse,cutD el none (some a)++[D.int (b-2),D.int (b-2)]++cutD el (some a) none,[]] c c0 c1 (by
  intro z hz
  simp only[List.mem_cons,List.not_mem_nil,or_false]at hz
  rcases hz with rfl | rfl | rfl | rfl | rfl | rfl | rfl
  . exact(i1.app i2).up (by decide)
  . exact((i1.app (one _)).app i3).up (by decide)
  . exact(i1.app i5).up (by decide)
  . exact(i1.rev.app i3).up (by decide)
  . exact(iE.app iE.rev).up (by decide)
  . exact((i1.app (two _)).app i3).up (by decide)
  . exact⟨Nat.zero_le _,λ d hd=>by cases hd⟩)
 refine⟨_,hat,?_⟩
 exact hw fs S3 hf ((u1.trans u2).trans u3) p3
theorem Lk{p:Pg}(hP:PgB m p):∀z∈aK p,z.1.rds.length≤1000:=by
 intro z hm
 obtain⟨n,hn,hm⟩:=List.mem_flatMap.mp hm
 obtain⟨cs,_,hm⟩:=List.mem_flatMap.mp hm
 obtain⟨x,hx,hm⟩:=List.mem_map.mp hm
 rw[←hm]
 exact((hP.deeds n hn).2 x hx).2.1
theorem Q9{x:List Nat}{S:Store}{W:Bool->Store->Prop}(w:W false S):aO .NotEq (.tup [.lst (es.map .int),.lst (dN x)]) (.tup [.lst (es.map .int),.lst (dN x)]) S W:=by
 unfold aO
 refine .inr ⟨rfl,?_,?_,w⟩
 . show(ak (es.map .int)&&(ak (dN x)&&true))=true
   rw[bG,iu];rfl
 . show max (aV (es.map .int)+1) (max (aV (dN x)+1) 0)+1≤50
   rw[cL,cF,cF]
   decide
theorem QF(F:Fun Ω.K "law" "law" jU f fd)(B:Bi Ω.mg)(Cq45:Cal Ω "program_of" 10 2 xm)(Cq41:Cal Ω "leads" 8 3 Dn)(Cq10:Cal Ω "_law_pen" 2 2 Hk)(Cq12:Cal Ω "_law_program" 5 2 Dk)(Cq14:Cal Ω "_law_steps" 3 1 yC)(Cq9:Cal Ω "_law_order" 3 2 Dl)(Cq11:Cal Ω "_law_picked" 3 2 xn)(Cq6:Cal Ω "_law_exchanges" 1 1 Ju)(Cq5:Cal Ω "_law_due" 2 3 DW)(Cq1:Cal Ω "_law_bent" 3 3 zE):Ok Ω 11 f fd M4 mW:=by
 refine aA (N:=Sx) F (Ui B Cq45 Cq41 Cq10 Cq12 Cq14 Cq9 Cq11 Cq6 Cq5 Cq1) (by kernel_rfl!) ?_
 rintro ds S W ⟨ns,rfl,hn,hw,hS0⟩ hl
 subst hS0
 walk_at "b"
 refine⟨rfl,ns,1,rfl,by decide,λ c=>?_⟩
 have p0:aF ([]++[iM ns c 1]) 0:=⟨ns,c,1,by simp,by decide⟩
 have f0:flat ([]++[iM ns c 1]):=cW (λ l hl=>by cases hl) (oH ..)
 generalize ([]++[iM ns c 1]:Store)=S0 at*
 have h12:12≤16:=by decide
 have h60:16≤60:=by decide
 walk_at "b"
 refine⟨rfl,0,16,rfl,p0,f0,h12,h60,λ p S2 hP u2 p2 f2=>?_⟩
 walk_at "b"
 refine⟨rfl,p,16,rfl,hP,h60,f2,.inl ?_⟩
 walk_at "b"
 refine⟨rfl,Le hP h12 h60 f2 ?_⟩
 have hN:=dH hP h12 h60
 have hr:=Lk hP
 have hL:((aK p).map crs).length=(aK p).length:=y7 _
 rw[Li]
 walk_at "b"
 refine⟨rfl,0,aK p,rfl,p2,hN,hr,f2,λ o S3 hO hg u3 p3=>?_⟩
 have f3:=u3.flat f2
 walk_at "b"
 refine⟨rfl,(aK p).map crs,o,rfl,by omega,by rw[hL];exact hO,hg,f3,λ es hE hx=>?_⟩
 have hld:ldB ((aK p).map crs) es o=true:=by unfold ldB;rw[hx];exact decide_eq_true rfl
 walk_at "b"
 refine⟨rfl,p,16,es,o,rfl,hP,h12,h60,by omega,f3,hO,?_⟩
 rw[hld]
 walk_at "b"
 refine⟨⟨by decide,by decide⟩,aR ⟨λ i Γ' T=>(∃o7 o8 o9 o10 o11,Γ'=[some (.lst (ns.map .int)),some (.loc 0),some (dPg p),some (.lst ((aK p).map λ x=>b7 x.2 x.1)),some (dPg p),some (.lst (dN o)),some (.lst (es.map .int)),o7,o8,o9,o10,o11])/\aF T 0/\flat T,⟨⟨_,_,_,_,_,rfl⟩,p3,f3⟩,?_,λ Γ' S' _=>hw _⟩⟩
 rintro i e Γ' T he ⟨⟨o7,o8,o9,o10,o11,rfl⟩,p4,f4⟩
 refine jH ?_
 simp only[List.set_cons_succ,List.set_cons_zero]
 walk_at "b"
 rw[y7]
 refine⟨rfl,0,es,(aK p).length,rfl,p4,hE,by omega,by omega,λ fs S5 hF u5 p5=>?_⟩
 have f5:=u5.flat f4
 walk_at "b"
 rw[y7]
 refine⟨⟨by omega,by omega⟩,.inl ?_⟩
 rw[Int.toNat_natCast,qu]
 walk_at "b"
 rw[y7]
 refine⟨rfl,0,(aK p).length,rfl,p5,hN,f5,λ o2 S6 hO2 u6 p6=>?_⟩
 have f6:=u6.flat f5
 walk_at "b"
 refine aR ⟨λ i Γ' T=>(∃o9 o10 o11,Γ'=[some (.lst (ns.map .int)),some (.loc 0),some (dPg p),some (.lst ((aK p).map λ x=>b7 x.2 x.1)),some (dPg p),some (.lst (dN o)),some (.lst (es.map .int)),some e,some (.lst (fs.map .int)),o9,o10,o11])/\T=S6,⟨⟨_,_,_,rfl⟩,rfl⟩,?_,?_⟩
 . rintro i d Γ' T hd ⟨⟨o9,o10,o11,rfl⟩,rfl⟩
   obtain⟨x,rfl,hx⟩:∃x:List Nat,d=.lst (dN x)/\x.Perm (List.range (aK p).length):=by
    have hm:=y4 hd
    simp only[List.mem_cons,List.not_mem_nil,or_false]at hm
    rcases hm with h | h | h
    . exact⟨_,h,hO⟩
    . exact⟨_,h,.refl _⟩
    . exact⟨_,h,hO2⟩
   refine jH ?_
   simp only[List.set_cons_succ,List.set_cons_zero]
   walk_at "b"
   refine⟨rfl,p,16,fs,x,rfl,hP,h12,h60,by omega,f6,hx,?_⟩
   walk_at "b"
   refine⟨rfl,aK p,fs,x,rfl,hN,hr,?_⟩
   generalize ldB ((aK p).map crs) fs x=b
   have e1:(!(b==b))=false:=by cases b<;>rfl
   walk_at "b"
   rw[e1]
   walk_at "b"
   refine Q9 ?_
   walk_at "b"
   exact⟨⟨_,_,_,rfl⟩,rfl⟩
 . rintro Γ' T ⟨⟨o9,o10,o11,rfl⟩,rfl⟩
   exact⟨⟨_,_,_,_,_,rfl⟩,p6,f6⟩
end K37
namespace K37
open PySem PySem.Spec L2 DL RF
open PyProof.Rows
variable {Ω : Wd} {f : Addr} {fd : FuncData}
theorem by1{G:List Value->Prop}(h:∀a0:Value,G [a0])(us:List Value)(e:us.length=1):G us:=by
 obtain⟨a0,us,rfl⟩:=List.exists_cons_of_length_eq_add_one e
 replace e:=Nat.succ.inj e
 obtain rfl:=List.eq_nil_of_length_eq_zero e
 exact h a0
theorem by2{G:List Value->Prop}(h:∀a0 a1:Value,G [a0,a1])(us:List Value)(e:us.length=2):G us:=by
 obtain⟨a0,us,rfl⟩:=List.exists_cons_of_length_eq_add_one e
 replace e:=Nat.succ.inj e
 obtain⟨a1,us,rfl⟩:=List.exists_cons_of_length_eq_add_one e
 replace e:=Nat.succ.inj e
 obtain rfl:=List.eq_nil_of_length_eq_zero e
 exact h a0 a1
theorem by3{G:List Value->Prop}(h:∀a0 a1 a2:Value,G [a0,a1,a2])(us:List Value)(e:us.length=3):G us:=by
 obtain⟨a0,us,rfl⟩:=List.exists_cons_of_length_eq_add_one e
 replace e:=Nat.succ.inj e
 obtain⟨a1,us,rfl⟩:=List.exists_cons_of_length_eq_add_one e
 replace e:=Nat.succ.inj e
 obtain⟨a2,us,rfl⟩:=List.exists_cons_of_length_eq_add_one e
 replace e:=Nat.succ.inj e
 obtain rfl:=List.eq_nil_of_length_eq_zero e
 exact h a0 a1 a2
theorem by4{G:List Value->Prop}(h:∀a0 a1 a2 a3:Value,G [a0,a1,a2,a3])(us:List Value)(e:us.length=4):G us:=by
 obtain⟨a0,us,rfl⟩:=List.exists_cons_of_length_eq_add_one e
 replace e:=Nat.succ.inj e
 obtain⟨a1,us,rfl⟩:=List.exists_cons_of_length_eq_add_one e
 replace e:=Nat.succ.inj e
 obtain⟨a2,us,rfl⟩:=List.exists_cons_of_length_eq_add_one e
 replace e:=Nat.succ.inj e
 obtain⟨a3,us,rfl⟩:=List.exists_cons_of_length_eq_add_one e
 replace e:=Nat.succ.inj e
 obtain rfl:=List.eq_nil_of_length_eq_zero e
 exact h a0 a1 a2 a3
noncomputable def FI(K:PySem.W.Frag)(x:Str)(t:Stmt):Prop:=∃(f:Addr) (oc:Value) (od:Option Addr) (kV dc pm:Value) (an:Option Addr) (cd ct:Value) (sl:Array (Option Value)),PySem.W.nsIn K mainGlobals x=some (some (.ref f))/\K.lookup f=some ⟨oc,od,.func (PySem.W.fnOf x x (eY t) (cj t) (aL t) .none kV dc pm an cd ct),sl⟩/\PySem.W.codeIn K cd x=true/\PySem.W.keepIn K (.ref f)=true
theorem FI.mk{K:PySem.W.Frag}{x:Str}{t:Stmt}{f:Addr}{oc:Value}{od:Option Addr}{kV dc pm:Value}{an:Option Addr}{cd ct:Value}{sl:Array (Option Value)}(a:PySem.W.nsIn K mainGlobals x=some (some (.ref f)))(l:K.lookup f=some ⟨oc,od,.func (PySem.W.fnOf x x (eY t) (cj t) (aL t) .none kV dc pm an cd ct),sl⟩)(c:PySem.W.codeIn K cd x=true)(k:PySem.W.keepIn K (.ref f)=true):FI K x t:=⟨f,oc,od,kV,dc,pm,an,cd,ct,sl,a,l,c,k⟩
noncomputable abbrev FU(Ω:Wd)(x:Str)(t:Stmt):Prop:=∃f fd,Fun Ω.K x x t f fd/\Ω.mg x=some (.ref f)
theorem FI.use{Ω:Wd}{h:Heap}{x:Str}{t:Stmt}(X:Ω.K.In h)(G:h.Ns mainGlobals Ω.mg)(q:FI Ω.K x t):FU Ω x t:=by
 obtain⟨f,oc,od,kV,dc,pm,an,cd,ct,sl,a,l,c,k⟩:=q
 exact⟨f,_,GX (st:=t) l c k,PySem.W.mg_of X G a⟩
theorem Ra{Ω:Wd}(B:Bi Ω.mg)
(u0:FU Ω "is_whole" gV)
(u1:FU Ω "is_tuple_of" dY)
(u2:FU Ω "is_widths" fV)
(u3:FU Ω "is_form" iQ)
(u4:FU Ω "is_bound" gW)
(u5:FU Ω "is_loop" iD)
(u6:FU Ω "is_loops" gZ)
(u7:FU Ω "has_few_figures" cM)
(u8:FU Ω "is_start" ie)
(u9:FU Ω "is_place_form" dh)
(u10:FU Ω "is_table_with_place" bR)
(u11:FU Ω "is_read" iJ)
(u12:FU Ω "is_reads" gO)
(u13:FU Ω "is_deed" iV)
(u14:FU Ω "is_nest" iK)
(u15:FU Ω "is_nests" gq)
(u16:FU Ω "comes_to" gY)
(u17:FU Ω "with_next_count" cN)
(u18:FU Ω "counts_of" fU)
(u19:FU Ω "number_of_steps" cO)
(u20:FU Ω "program_of" eE)
(u21:FU Ω "plain" mR)
(u22:FU Ω "is_row" jW)
(u23:FU Ω "is_order" gn)
(u24:FU Ω "refuse_no_order" cQ)
(u25:FU Ω "steps_of" gJ)
(u26:FU Ω "deed_of" iG)
(u27:FU Ω "cell_at" iB)
(u28:FU Ω "cells_of_step" dj)
(u29:FU Ω "cells_of" gA)
(u30:FU Ω "touched_cells" di)
(u31:FU Ω "pairs" mJ)
(u32:FU Ω "touching_of" dJ)
(u33:FU Ω "leads" lX)
(u34:FU Ω "_law_cell" pW)
(u35:FU Ω "_law_pen" rW)
(u36:FU Ω "_law_take" oY)
(u37:FU Ω "_law_loops" mQ)
(u38:FU Ω "_law_form" pF)
(u39:FU Ω "_law_deed" pA)
(u40:FU Ω "_law_program" iy)
(u41:FU Ω "_law_at" zZ)
(u42:FU Ω "_law_counts" jJ)
(u43:FU Ω "_law_spot" oX)
(u44:FU Ω "_law_steps" lU)
(u45:FU Ω "_law_order" mF)
(u46:FU Ω "_law_touch" lO)
(u47:FU Ω "_law_picked" jM)
(u48:FU Ω "_law_exchanges" fW)
(u49:FU Ω "_law_due" sE)
(u50:FU Ω "_law_bent" oU)
{f:Addr}{fd:FuncData}(F:Fun Ω.K "law" "law" jU f fd):Ok Ω 11 f fd M4 mW:=by
 obtain⟨_,_,F0,g0⟩:=u0
 have Cq39:=callee F0 (vG F0 B) g0 (F0.binds λ _ _ _ _ _ _=>by1 λ _=>rfl)
 obtain⟨_,_,F0,g0⟩:=u1
 have Cq38:=callee F0 (pO F0 B) g0 (F0.binds λ _ _ _ _ _ _=>by3 λ _ _ _=>rfl)
 obtain⟨_,_,F0,g0⟩:=u2
 have Cq40:=callee F0 (sU F0 B Cq39 Cq38) g0 (F0.binds λ _ _ _ _ _ _=>by1 λ _=>rfl)
 obtain⟨_,_,F0,g0⟩:=u3
 have Cq26:=callee F0 (xY F0 B Cq39 Cq38) g0 (F0.binds λ _ _ _ _ _ _=>by2 λ _ _=>rfl)
 obtain⟨_,_,F0,g0⟩:=u4
 have Cq24:=callee F0 (uZ F0 B Cq26) g0 (F0.binds λ _ _ _ _ _ _=>by2 λ _ _=>rfl)
 obtain⟨_,_,F0,g0⟩:=u5
 have Cq27:=callee F0 (zy F0 Cq38 Cq24) g0 (F0.binds λ _ _ _ _ _ _=>by2 λ _ _=>rfl)
 obtain⟨_,_,F0,g0⟩:=u6
 have Cq28:=callee F0 (vV F0 B Cq38 Cq27) g0 (F0.binds λ _ _ _ _ _ _=>by1 λ _=>rfl)
 obtain⟨_,_,F0,g0⟩:=u7
 have Cq23:=callee F0 (jy F0 B) g0 (F0.binds λ _ _ _ _ _ _=>by1 λ _=>rfl)
 obtain⟨_,_,F0,g0⟩:=u8
 have Cq36:=callee F0 (uV F0 B Cq26 Cq23) g0 (F0.binds λ _ _ _ _ _ _=>by2 λ _ _=>rfl)
 obtain⟨_,_,F0,g0⟩:=u9
 have Cq32:=callee F0 (lM F0 B Cq26) g0 (F0.binds λ _ _ _ _ _ _=>by2 λ _ _=>rfl)
 obtain⟨_,_,F0,g0⟩:=u10
 have Cq37:=callee F0 (gD F0 B Cq39 Cq38 Cq32) g0 (F0.binds λ _ _ _ _ _ _=>by4 λ _ _ _ _=>rfl)
 obtain⟨_,_,F0,g0⟩:=u11
 have Cq33:=callee F0 (zu F0 Cq39 Cq38 Cq23 Cq37) g0 (F0.binds λ _ _ _ _ _ _=>by3 λ _ _ _=>rfl)
 obtain⟨_,_,F0,g0⟩:=u12
 have Cq34:=callee F0 (vp F0 B Cq38 Cq33) g0 (F0.binds λ _ _ _ _ _ _=>by3 λ _ _ _=>rfl)
 obtain⟨_,_,F0,g0⟩:=u13
 have Cq25:=callee F0 (zG F0 Cq38 Cq36 Cq37 Cq34) g0 (F0.binds λ _ _ _ _ _ _=>by3 λ _ _ _=>rfl)
 obtain⟨_,_,F0,g0⟩:=u14
 have Cq29:=callee F0 (wL F0 B Cq38 Cq28 Cq25) g0 (F0.binds λ _ _ _ _ _ _=>by2 λ _ _=>rfl)
 obtain⟨_,_,F0,g0⟩:=u15
 have Cq30:=callee F0 (vX F0 B Cq38 Cq29) g0 (F0.binds λ _ _ _ _ _ _=>by2 λ _ _=>rfl)
 obtain⟨_,_,F0,g0⟩:=u16
 have Cq20:=callee F0 (vD F0 B) g0 (F0.binds λ _ _ _ _ _ _=>by2 λ _ _=>rfl)
 obtain⟨_,_,F0,g0⟩:=u17
 have Cq50:=callee F0 (jx F0 B Cq20) g0 (F0.binds λ _ _ _ _ _ _=>by3 λ _ _ _=>rfl)
 obtain⟨_,_,F0,g0⟩:=u18
 have Cq21:=callee F0 (ug F0 Cq50) g0 (F0.binds λ _ _ _ _ _ _=>by1 λ _=>rfl)
 obtain⟨_,_,F0,g0⟩:=u19
 have Cq42:=callee F0 (jK F0 B Cq21) g0 (F0.binds λ _ _ _ _ _ _=>by1 λ _=>rfl)
 obtain⟨_,_,F0,g0⟩:=u20
 have Cq45:=callee F0 (qN F0 B Cq40 Cq30 Cq42) g0 (F0.binds λ _ _ _ _ _ _=>by2 λ _ _=>rfl)
 obtain⟨_,_,F0,g0⟩:=u21
 have Cq44:=callee F0 (GF F0 B Cq42) g0 (F0.binds λ _ _ _ _ _ _=>by1 λ _=>rfl)
 obtain⟨_,_,F0,g0⟩:=u22
 have Cq35:=callee F0 (Bx F0 B Cq39 Cq42) g0 (F0.binds λ _ _ _ _ _ _=>by2 λ _ _=>rfl)
 obtain⟨_,_,F0,g0⟩:=u23
 have Cq31:=callee F0 (vB F0 B Cq42 Cq35) g0 (F0.binds λ _ _ _ _ _ _=>by2 λ _ _=>rfl)
 obtain⟨_,_,F0,g0⟩:=u24
 have Cq46:=callee F0 (jt F0 Cq31) g0 (F0.binds λ _ _ _ _ _ _=>by2 λ _ _=>rfl)
 obtain⟨_,_,F0,g0⟩:=u25
 have Cq47:=callee F0 (vU F0 B Cq21) g0 (F0.binds λ _ _ _ _ _ _=>by1 λ _=>rfl)
 obtain⟨_,_,F0,g0⟩:=u26
 have Cq22:=callee F0 (wW F0) g0 (F0.binds λ _ _ _ _ _ _=>by2 λ _ _=>rfl)
 obtain⟨_,_,F0,g0⟩:=u27
 have Cq17:=callee F0 (ym F0 B Cq20) g0 (F0.binds λ _ _ _ _ _ _=>by3 λ _ _ _=>rfl)
 obtain⟨_,_,F0,g0⟩:=u28
 have Cq19:=callee F0 (mL F0 Cq22 Cq17) g0 (F0.binds λ _ _ _ _ _ _=>by2 λ _ _=>rfl)
 obtain⟨_,_,F0,g0⟩:=u29
 have Cq18:=callee F0 (vL F0 Cq47 Cq19) g0 (F0.binds λ _ _ _ _ _ _=>by1 λ _=>rfl)
 obtain⟨_,_,F0,g0⟩:=u30
 have Cq48:=callee F0 (lD F0 B) g0 (F0.binds λ _ _ _ _ _ _=>by2 λ _ _=>rfl)
 obtain⟨_,_,F0,g0⟩:=u31
 have Cq43:=callee F0 (Fi F0 B Cq18 Cq48) g0 (F0.binds λ _ _ _ _ _ _=>by1 λ _=>rfl)
 obtain⟨_,_,F0,g0⟩:=u32
 have Cq49:=callee F0 (pR F0 Cq43) g0 (F0.binds λ _ _ _ _ _ _=>by1 λ _=>rfl)
 obtain⟨_,_,F0,g0⟩:=u33
 have Cq41:=callee F0 (Gy F0 B Cq44 Cq46 Cq49) g0 (F0.binds λ _ _ _ _ _ _=>by3 λ _ _ _=>rfl)
 obtain⟨_,_,F0,g0⟩:=u34
 have Cq2:=callee F0 (Jp F0 B) g0 (F0.binds λ _ _ _ _ _ _=>by2 λ _ _=>rfl)
 obtain⟨_,_,F0,g0⟩:=u35
 have Cq10:=callee F0 (K8 F0 Cq2) g0 (F0.binds λ _ _ _ _ _ _=>by2 λ _ _=>rfl)
 obtain⟨_,_,F0,g0⟩:=u36
 have Cq15:=callee F0 (JF F0 Cq2) g0 (F0.binds λ _ _ _ _ _ _=>by2 λ _ _=>rfl)
 obtain⟨_,_,F0,g0⟩:=u37
 have Cq8:=callee F0 (Ei F0 B Cq15) g0 (F0.binds λ _ _ _ _ _ _=>by2 λ _ _=>rfl)
 obtain⟨_,_,F0,g0⟩:=u38
 have Cq7:=callee F0 (Jb F0 B Cq15) g0 (F0.binds λ _ _ _ _ _ _=>by3 λ _ _ _=>rfl)
 obtain⟨_,_,F0,g0⟩:=u39
 have Cq4:=callee F0 (Hq F0 B Cq15 Cq7) g0 (F0.binds λ _ _ _ _ _ _=>by3 λ _ _ _=>rfl)
 obtain⟨_,_,F0,g0⟩:=u40
 have Cq12:=callee F0 (zX F0 B Cq15 Cq8 Cq4) g0 (F0.binds λ _ _ _ _ _ _=>by2 λ _ _=>rfl)
 obtain⟨_,_,F0,g0⟩:=u41
 have Cq0:=callee F0 (N8 F0 B) g0 (F0.binds λ _ _ _ _ _ _=>by2 λ _ _=>rfl)
 obtain⟨_,_,F0,g0⟩:=u42
 have Cq3:=callee F0 (Cj F0 B Cq0) g0 (F0.binds λ _ _ _ _ _ _=>by1 λ _=>rfl)
 obtain⟨_,_,F0,g0⟩:=u43
 have Cq13:=callee F0 (Jj F0 B Cq0) g0 (F0.binds λ _ _ _ _ _ _=>by3 λ _ _ _=>rfl)
 obtain⟨_,_,F0,g0⟩:=u44
 have Cq14:=callee F0 (Gw F0 Cq0 Cq3 Cq13) g0 (F0.binds λ _ _ _ _ _ _=>by1 λ _=>rfl)
 obtain⟨_,_,F0,g0⟩:=u45
 have Cq9:=callee F0 (Ey F0 B Cq15) g0 (F0.binds λ _ _ _ _ _ _=>by2 λ _ _=>rfl)
 obtain⟨_,_,F0,g0⟩:=u46
 have Cq16:=callee F0 (Eo F0) g0 (F0.binds λ _ _ _ _ _ _=>by2 λ _ _=>rfl)
 obtain⟨_,_,F0,g0⟩:=u47
 have Cq11:=callee F0 (Al F0 B Cq15 Cq16) g0 (F0.binds λ _ _ _ _ _ _=>by2 λ _ _=>rfl)
 obtain⟨_,_,F0,g0⟩:=u48
 have Cq6:=callee F0 (tH F0 B) g0 (F0.binds λ _ _ _ _ _ _=>by1 λ _=>rfl)
 obtain⟨_,_,F0,g0⟩:=u49
 have Cq5:=callee F0 (Mf F0 B Cq16) g0 (F0.binds λ _ _ _ _ _ _=>by3 λ _ _ _=>rfl)
 obtain⟨_,_,F0,g0⟩:=u50
 have Cq1:=callee F0 (Hj F0 B Cq15) g0 (F0.binds λ _ _ _ _ _ _=>by3 λ _ _ _=>rfl)
 exact QF F B Cq45 Cq41 Cq10 Cq12 Cq14 Cq9 Cq11 Cq6 Cq5 Cq1
theorem all_mk{l:PySem.W.OpenLaw}{w:World}{K:PySem.W.Frag}{h:Heap}{mg:Str->Option Value}{fa:Addr}(X:K.In h)(G:h.Ns mainGlobals mg)(hfa:mg "law"=some (.ref fa))(q:FI K "law" jU)
(q0:FI K "is_whole" gV)
(q1:FI K "is_tuple_of" dY)
(q2:FI K "is_widths" fV)
(q3:FI K "is_form" iQ)
(q4:FI K "is_bound" gW)
(q5:FI K "is_loop" iD)
(q6:FI K "is_loops" gZ)
(q7:FI K "has_few_figures" cM)
(q8:FI K "is_start" ie)
(q9:FI K "is_place_form" dh)
(q10:FI K "is_table_with_place" bR)
(q11:FI K "is_read" iJ)
(q12:FI K "is_reads" gO)
(q13:FI K "is_deed" iV)
(q14:FI K "is_nest" iK)
(q15:FI K "is_nests" gq)
(q16:FI K "comes_to" gY)
(q17:FI K "with_next_count" cN)
(q18:FI K "counts_of" fU)
(q19:FI K "number_of_steps" cO)
(q20:FI K "program_of" eE)
(q21:FI K "plain" mR)
(q22:FI K "is_row" jW)
(q23:FI K "is_order" gn)
(q24:FI K "refuse_no_order" cQ)
(q25:FI K "steps_of" gJ)
(q26:FI K "deed_of" iG)
(q27:FI K "cell_at" iB)
(q28:FI K "cells_of_step" dj)
(q29:FI K "cells_of" gA)
(q30:FI K "touched_cells" di)
(q31:FI K "pairs" mJ)
(q32:FI K "touching_of" dJ)
(q33:FI K "leads" lX)
(q34:FI K "_law_cell" pW)
(q35:FI K "_law_pen" rW)
(q36:FI K "_law_take" oY)
(q37:FI K "_law_loops" mQ)
(q38:FI K "_law_form" pF)
(q39:FI K "_law_deed" pA)
(q40:FI K "_law_program" iy)
(q41:FI K "_law_at" zZ)
(q42:FI K "_law_counts" jJ)
(q43:FI K "_law_spot" oX)
(q44:FI K "_law_steps" lU)
(q45:FI K "_law_order" mF)
(q46:FI K "_law_touch" lO)
(q47:FI K "_law_picked" jM)
(q48:FI K "_law_exchanges" fW)
(q49:FI K "_law_due" sE)
(q50:FI K "_law_bent" oU)
 {t_MOST_STEPS:Tok}(z_MOST_STEPS:PySem.W.nsIn K mainGlobals "MOST_STEPS"=some (some (.int 60 t_MOST_STEPS)))
 (z_abs:PySem.W.nsIn K mainGlobals "abs"=some none)
 (z_all:PySem.W.nsIn K mainGlobals "all"=some none)
 (z_any:PySem.W.nsIn K mainGlobals "any"=some none)
 (z_bool:PySem.W.nsIn K mainGlobals "bool"=some none)
 (z_enumerate:PySem.W.nsIn K mainGlobals "enumerate"=some none)
 (z_int:PySem.W.nsIn K mainGlobals "int"=some none)
 (z_isinstance:PySem.W.nsIn K mainGlobals "isinstance"=some none)
 (z_len:PySem.W.nsIn K mainGlobals "len"=some none)
 (z_list:PySem.W.nsIn K mainGlobals "list"=some none)
 (z_max:PySem.W.nsIn K mainGlobals "max"=some none)
 (z_min:PySem.W.nsIn K mainGlobals "min"=some none)
 (z_range:PySem.W.nsIn K mainGlobals "range"=some none)
 (z_set:PySem.W.nsIn K mainGlobals "set"=some none)
 (z_sorted:PySem.W.nsIn K mainGlobals "sorted"=some none)
 (z_sum:PySem.W.nsIn K mainGlobals "sum"=some none)
 (z_tuple:PySem.W.nsIn K mainGlobals "tuple"=some none)
 (z_zip:PySem.W.nsIn K mainGlobals "zip"=some none)
 :∃fd:FuncData,(∀(s:Shared)(v:Value),BindsTo s fd ⟨[v],[]⟩ [("_law_script",v)])/\∀base:Heap,K.In base->base.Ns mainGlobals mg->FnOk l.prog w K mg base CX0 11 fa fd ["_law_script"] (spC K 1 mW):=by
 obtain⟨f,oc,od,kV,dc,pm,an,cd,ct,sl,a,l',c,k⟩:=q
 have e:=hfa.symm.trans (PySem.W.mg_of X G a)
 cases e
 refine⟨PySem.W.fnOf "law" "law" (eY jU) (cj jU) (aL jU) .none kV dc pm an cd ct,λ s v=>.of_eq rfl,λ base _ _=>?_⟩
 have B:Bi mg:=⟨⟨_,PySem.W.mg_of X G z_MOST_STEPS⟩,PySem.W.mg_none_of X G z_abs,PySem.W.mg_none_of X G z_all,PySem.W.mg_none_of X G z_any,PySem.W.mg_none_of X G z_bool,PySem.W.mg_none_of X G z_enumerate,PySem.W.mg_none_of X G z_int,PySem.W.mg_none_of X G z_isinstance,PySem.W.mg_none_of X G z_len,PySem.W.mg_none_of X G z_list,PySem.W.mg_none_of X G z_max,PySem.W.mg_none_of X G z_min,PySem.W.mg_none_of X G z_range,PySem.W.mg_none_of X G z_set,PySem.W.mg_none_of X G z_sorted,PySem.W.mg_none_of X G z_sum,PySem.W.mg_none_of X G z_tuple,PySem.W.mg_none_of X G z_zip⟩
 exact Ra (Ω:=⟨_,w,K,mg,base⟩) B (q0.use X G) (q1.use X G) (q2.use X G) (q3.use X G) (q4.use X G) (q5.use X G) (q6.use X G) (q7.use X G) (q8.use X G) (q9.use X G) (q10.use X G) (q11.use X G) (q12.use X G) (q13.use X G) (q14.use X G) (q15.use X G) (q16.use X G) (q17.use X G) (q18.use X G) (q19.use X G) (q20.use X G) (q21.use X G) (q22.use X G) (q23.use X G) (q24.use X G) (q25.use X G) (q26.use X G) (q27.use X G) (q28.use X G) (q29.use X G) (q30.use X G) (q31.use X G) (q32.use X G) (q33.use X G) (q34.use X G) (q35.use X G) (q36.use X G) (q37.use X G) (q38.use X G) (q39.use X G) (q40.use X G) (q41.use X G) (q42.use X G) (q43.use X G) (q44.use X G) (q45.use X G) (q46.use X G) (q47.use X G) (q48.use X G) (q49.use X G) (q50.use X G) (GX (st:=jU) l' c k)
end K37
namespace PySem.W.Fast
def tw7404887017023161326:=()
def tw15660072300797654180:=()
def tw5051839381321361785:=()
def tw17507153786820988427:=()
def tw12986018862909444711:=()
def tw7674945666962491214:=()
def tw10808356474080520448:=()
def tw15828442817368704838:=()
def tw1329897684620870782:=()
def tw6770660816186635464:=()
def tw9772502144009788085:=()
def tw17877830959266781266:=()
def tw6258067339468569483:=()
def tw12966105109441716157:=()
def tw1161306261311529437:=()
def tw6088921126468167238:=()
def tw770218788214322058:=()
def tw7971098581096659305:=()
def tw4998244711941053573:=()
def tw13523640878669209182:=()
def tw17482724319535223852:=()
def tw18216162285556659671:=()
def tw12051986997255938973:=()
def tw5110171223246803077:=()
def tw8560772326278178969:=()
def tw6196070142714755310:=()
def tw16804937060633733114:=()
def tw10166189973626113025:=()
def tw7431562822699478500:=()
def tw17585084134590683304:=()
def tw7334972169901410028:=()
def tw6621176261264319284:=()
def tw12670714493374125349:=()
def tw9996831670351347587:=()
def tw3409902356307097281:=()
def tw12379916964429855680:=()
def tw15002426311620472930:=()
def tw4269398519806891006:=()
def tw3952184627840660209:=()
def tw8638483343317840215:=()
def tw13994796755691437089:=()
def tw8379922134812767193:=()
def tw9598292687595424247:=()
def tw2058940786732409198:=()
def tw12505660644663846403:=()
def tw10842595279211623158:=()
def tw16690405800135854012:=()
def tw11158159042121888445:=()
def tw13718483532404601532:=()
def tw11604564899980889333:=()
def tw15948581838446428855:=()
def tw16168401986511849026:=()
def tw16402619896355583495:=()
def tw1561713527964826405:=()
def tw39144080485912555:=()
def tw10058150827242312518:=()
def tw4272943727096398159:=()
def tw15944234612051453182:=()
def tw10174403136795416833:=()
def tw8186998531199160321:=()
def tw6541542418216477153:=()
def tw9495603578017013951:=()
def tw17634223320408092275:=()
def tw254081613323171584:=()
def tw3172353295153303499:=()
def tw5753827613324968036:=()
def tw13997784311314182135:=()
def tw10412589482387035159:=()
def tw25423262988893387:=()
def tw9870395477256380524:=()
def tw8032001441971671026:=()
def tw14763888477816302158:=()
def tw18069139614456575593:=()
def tw11155330509336396938:=()
def tw4649359348780708371:=()
def tw5061126285345239724:=()
def tw3434215780983886156:=()
def tw7280702171161914336:=()
def tw13658865792193452751:=()
def tw862281039768034920:=()
def tw12831806523243796617:=()
def tw6414835252856425855:=()
def tw8200476630362240683:=()
def tw12270698838382986276:=()
def tw3060929465335479239:=()
def tw6057448436519778143:=()
def tw17629553516704914142:=()
def tw13543442755501340544:=()
def tw8370638212287377515:=()
def tw12207014758345603826:=()
def tw63946287181464332:=()
def tw13165518437978606990:=()
def tw1790517787390502897:=()
def tw11675211041691113736:=()
def tw7975143624619222961:=()
def tw11827026925097183487:=()
def tw2669038041470539647:=()
def tw6399579503180190687:=()
def tw16927210288988547024:=()
def tw1998420364968086459:=()
def tw16617187384848158798:=()
def tw18283512164885536347:=()
def tw6063783964139684666:=()
def tw516343434356730803:=()
def tw4585844523343322225:=()
def tw8518414212205410240:=()
def tw4755410125052329196:=()
def tw16237757314946527891:=()
def tw15631646668588949431:=()
def tw16678788235089578440:=()
def tw3478543406155598476:=()
def tw11137019029565724062:=()
def tw5291093137658599915:=()
def tw16726949270991354972:=()
def tw16664881038721469078:=()
def tw14067820760639846593:=()
def tw10634386568450471175:=()
def tw5491982847591787899:=()
def tw11820066477770978370:=()
def tw4416572330903158359:=()
def tw10150246060628030098:=()
def tw16952088231239373636:=()
def tw16975751314896171467:=()
def tw10449024521447378665:=()
def tw10604731328029673011:=()
def tw1758282404262635992:=()
def tw9005881566321138420:=()
def tw10413176892550024210:=()
def tw15076727393961975703:=()
def tw16800103571379920769:=()
def tw709914796359870801:=()
def tw18085152948197012898:=()
def tw2581534574547950833:=()
def tw13430710429574748119:=()
def tw16231835857720674082:=()
def tw2683565933060195256:=()
def tw5905124113008909798:=()
def tw8115923618751339501:=()
def tw13136887545311235174:=()
def tw17604351530617035898:=()
def tw17329744460654584503:=()
def tw16427686695040629867:=()
def tw18104026476589460134:=()
def tw9921067366883296640:=()
def tw551834099565632253:=()
def tw6034360274655006020:=()
def tw2071826683407770339:=()
def tw10262710648391579265:=()
def tw992551778364266162:=()
def tw1752139411733446164:=()
def tw17747559479381922513:=()
def tw2426639475873741111:=()
def tw1384236132234918321:=()
def tw16266846928385356176:=()
def tw3075996486335917561:=()
def tw9374411269611622848:=()
def tw18136199322836325128:=()
def tw6648987024958842026:=()
def tw3176245347080178944:=()
def tw275587011791405343:=()
def tw9009804834133248597:=()
def tw2526673185415829623:=()
def tw7668703534429281771:=()
def tw11412672125318881302:=()
def tw6050052687379867695:=()
def tw6047052176283829532:=()
def tw10733379731000689114:=()
def tw13360957089962512519:=()
def tw190655407515484053:=()
def tw4601114050907362569:=()
def tw14854318675368881870:=()
def tw9695825320137256733:=()
def tw15516056891055936942:=()
def tw6355509596674917762:=()
def tw14780964249313445599:=()
def tw10791471898681118122:=()
def tw6583411708675839450:=()
def tw2643104352095565361:=()
def tw1822452438298586260:=()
def tw9622185912886317870:=()
def tw10603887703568105014:=()
def tw4613712861995776904:=()
def tw2837212085909930091:=()
def tw10976691623564596798:=()
def tw4834294887943269839:=()
def tw11451723096619160679:=()
def tw12803890351349124655:=()
def tw14641572813669887135:=()
def tw2347432350834625552:=()
def tw15281052035205839555:=()
def tw16962797259473536297:=()
def tw6444543861652472991:=()
def tw7367454805749037915:=()
def tw1222817858679843925:=()
def tw2627931652423907205:=()
def tw17598511085961668440:=()
def tw7920031584041015432:=()
def tw13921617772405653142:=()
def tw17766056733497368290:=()
def tw7539025239000491317:=()
def tw6312604616487867608:=()
def tw12617892015500004109:=()
def tw7492385361379292441:=()
def tw114123355598770780:=()
def tw2502584351039351241:=()
def tw6077775274320615295:=()
def tw1277638543667027477:=()
def tw10720661773284494980:=()
def tw18131333393274509169:=()
def tw10158262763548940285:=()
def tw15715457496091299330:=()
def tw5963113766602730643:=()
def tw449618224772812652:=()
def tw10957853006979673323:=()
def tw16261147641579972975:=()
def tw1985272366720480753:=()
def tw7863551590610286646:=()
def tw16415937093298308509:=()
def tw15337508672177901610:=()
def tw5818905535861999329:=()
def tw9111781301600969791:=()
def tw14619251423046403788:=()
def tw1337249174075031592:=()
def tw2866575157710380032:=()
def tw8498849634529926550:=()
def tw10126602981111501350:=()
def tw129470860144550918:=()
def tw14448341479761773559:=()
def tw3924206646540668470:=()
def tw14131736909914630802:=()
def tw12113866569531113290:=()
def tw1314204618856934022:=()
def tw6730595763885364083:=()
def tw15479443434110080888:=()
def tw14304418522357452846:=()
def tw10646909644665141570:=()
def tw11274959654626746438:=()
def tw8006961667683524234:=()
def tw682122950588504277:=()
def tw2164899635477224618:=()
def tw10516457455641029355:=()
def tw6125839774063813079:=()
def tw463948675010662098:=()
def tw6296574623263301490:=()
def tw2211993604229900425:=()
def tw8661146481798929710:=()
def tw10775145610265045553:=()
def tw488318300573762605:=()
def tw1540696926498574184:=()
def tw5473148949714405458:=()
def tw15175748436807658769:=()
def tw4207454811000637535:=()
def tw14866520816195045174:=()
def tw607416001761699273:=()
def tw12031956897826204854:=()
def tw8503708984850290124:=()
def tw16307165294219631614:=()
def tw690473598272055440:=()
def tw4911063008334412619:=()
def tw6135262237907009485:=()
def tw445202708551923198:=()
def tw4531649484225663467:=()
def tw218743174806436674:=()
def tw16221330347611611394:=()
def tw2731833873707721342:=()
def tw1587789955911483700:=()
def tw14911247815052217878:=()
def tw8301838508195659553:=()
def tw10187299917448412802:=()
def tw4761709966654766423:=()
def tw2090537063806734985:=()
def tw46885982577317314:=()
def tw5130281539977834536:=()
def tw14141122291483727888:=()
def tw13461559894201797647:=()
def tw5288658028665362933:=()
def tw2431007354140948072:=()
def tw16717876024498912378:=()
def tw14817068987595215794:=()
def tw14865378738706836820:=()
def tw1804453583110742753:=()
def tw14927250548567377943:=()
def tw16730609930659550455:=()
def tw4009241554678760565:=()
def tw6908206863740356954:=()
def tw3793021107939222445:=()
def tw4947174038885178371:=()
def tw16523767417163645626:=()
def tw13837229449923610562:=()
def tw18429863599054114852:=()
def tw380857197523792922:=()
def tw11144915604788917607:=()
def tw506584173982892119:=()
def tw14701426982602338572:=()
def tw553015070293442942:=()
def tw17003962944898382508:=()
def tw15770942935870929518:=()
def tw15639178723933327500:=()
def tw3332186004028596933:=()
def tw10251938939782688380:=()
def tw12721935041341733420:=()
def tw18177925626991045194:=()
def tw4401679189755714069:=()
def tw2331200415476645302:=()
def tw6962895042695049718:=()
def tw218794309263494717:=()
def tw1889689735807985926:=()
def tw9678263585353564457:=()
def tw6737986349619308298:=()
def tw10921795980979026609:=()
def tw12432645344619474623:=()
def tw2744751245069493403:=()
def tw17339474043576331947:=()
def tw17977010792941500361:=()
def tw4450977471258861701:=()
def tw16907781855315389041:=()
def tw2427320026921285942:=()
def tw2883193257735533896:=()
def tw3319755541596594158:=()
def tw11131037757218624561:=()
def tw18319619120495430967:=()
def tw10516175951016070135:=()
def tw5124002408037895783:=()
def tw6276017604399491595:=()
def tw5646239398907670799:=()
def tw465445206518944885:=()
def tw7688865841577995980:=()
def tw14988888987886925477:=()
def tw13479244431631931631:=()
def tw1275708117490678567:=()
def tw17795589249503479193:=()
def tw1182594806796275500:=()
def tw13317390725279725616:=()
def tw14400179009626027599:=()
def tw10764936720546984644:=()
def tw7344412519912828002:=()
def tw8504083503949304402:=()
def tw4806967708887499864:=()
def tw12590621148076317127:=()
def tw9256565461635860181:=()
def tw6830142767605133280:=()
def tw9894509157043192539:=()
def tw15801510554473078533:=()
def tw9484842735261747760:=()
def tw236696661495844851:=()
def tw14888519628485147168:=()
def tw3957380999079890285:=()
end PySem.W.Fast
open PySem PySem.W PyProof.Rows
set_option maxRecDepth 100000 in
set_option maxHeartbeats 0 in
theorem PySem.Challenge.cw_nestturn_k37_exchanges_looked_at_holds : PySem.Challenge.rw_nestturn_k37_exchanges_looked_at.Holds := by
 w_on; o_law; k_head; (case hw => w_witness2)
 k_fill
 refine RF.walk (l := PySem.Challenge.rw_nestturn_k37_exchanges_looked_at) (lev := 11) (x := "_law_script") rfl rfl ⟨rfl, by decide, by decide⟩ (λ w h Y => by first | exact PySem.W.kIn_of Y | exact PySem.W.km_in_of Y) ?F
 case F =>
  intro w mg fa h KX G hmg
  refine' K37.all_mk KX G hmg ?_ ?_ ?_ ?_ ?_ ?_ ?_ ?_ ?_ ?_ ?_ ?_ ?_ ?_ ?_ ?_ ?_ ?_ ?_ ?_ ?_ ?_ ?_ ?_ ?_ ?_ ?_ ?_ ?_ ?_ ?_ ?_ ?_ ?_ ?_ ?_ ?_ ?_ ?_ ?_ ?_ ?_ ?_ ?_ ?_ ?_ ?_ ?_ ?_ ?_ ?_ ?_ ?_ ?_ ?_ ?_ ?_ ?_ ?_ ?_ ?_ ?_ ?_ ?_ ?_ ?_ ?_ ?_ ?_ ?_
  all_goals try first | (refine' K37.FI.mk ?a ?l ?c ?k; (case a => k_is); (case l => k_is); (case c => k_is); (case k => k_is)) | (show _ = _; k_is)
