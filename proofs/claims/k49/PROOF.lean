import PyProof.Rows.All
import Wide.All
import OpenK.AllK
import Wide.FinOn
import Lean
import PyProof.EqAt
import PyProof.EqKinds
import PyProof.TupleCall
import KE.KEqDict
import PyProof.ZipIter
import PyProof.ListMulAny
import KE.KTryMore
import PyProof.NsDelKeeps
import KE.KUnpack
import KE.KRevIter
import PyProof.DictUpdate
import PyProof.ListRange
import PyProof.Rows.CallKwBuiltin
import PyProof.WalkInts
import KE.KSortTup
import KE.KLam
import KE.KNestM
import PyProof.CollectIter
import PyProof.TupleOfSeq
import PyProof.Rows.SetFrom
import PyProof.WalksMore
import PyProof.FactsAll.subtypes_4
import PySem.Challenge.RW_nestturn_k49_reach_and_turnings
theorem fE{α:Prop}(h:false=true):α:=(Bool.false_ne_true h).elim
noncomputable section
set_option Elab.async false
set_option linter.all false
def y3:=@List.getElem?_eq_some_iff
def y4:=@List.getElem?_eq_getElem
def y6:=@List.mem_of_getElem?
def y7:=@Bool.false_ne_true
def y8:=@List.length_map
def y9:=@List.getElem?_map
def x5:=@Nat.le_refl
def x6:=@List.mem_cons_of_mem
def x8:=@List.size_toArray
def x9:=@List.mem_cons_self
def w9:=@List.length_append
def v3:=@List.getElem?_append_left
set_option bootstrap.genMatcherCode false
set_option maxRecDepth 100000
local macro_rules|`(def $i:declId $s:optDeclSig $v:declVal)=>`(noncomputable def $i:declId $s:optDeclSig $v:declVal)
local macro_rules|`(abbrev $i:declId $s:optDeclSig $v:declVal)=>`(noncomputable abbrev $i:declId $s:optDeclSig $v:declVal)
namespace L2
open PySem PySem.Spec PyProof.Rows
abbrev Key:=Sum Int Str
def Lr:Key->Value->Bool
 | .inl k,v=>Value.isInt k v
 | .inr x,v=>Value.isStrOf x v
def Ui(w:World):Key->Int
 | .inl k=>hashInt k
 | .inr x=>hashStr w x
theorem bh:∀{k:Key}{v:Value},Lr k v=true->(∃i t,k=Sum.inl i/\v=Value.int i t)∨(∃x t,k=Sum.inr x/\v=Value.str x t)
 | .inl i,v,h=>by
   obtain⟨t,e⟩:=Value.isInt_shape (k:=i) (v:=v) h
   exact .inl ⟨i,t,rfl,e⟩
 | .inr x,v,h=>by
   obtain⟨t,e⟩:=Value.isStrOf_shape (x:=x) (v:=v) h
   exact .inr ⟨x,t,rfl,e⟩
theorem Qc(a b:Int):decide ((Sum.inl a:Key)=Sum.inl b)=(a==b):=by
 by_cases e:a=b
 . subst e;simp
 . have h:¬(Sum.inl a:Key)=Sum.inl b:=λ q=>e (Sum.inl.inj q)
   rw[decide_eq_false h]
   exact(beq_eq_false_iff_ne.mpr e).symm
theorem Qq(a b:Str):decide ((Sum.inr a:Key)=Sum.inr b)=decide (a=b):=by
 by_cases e:a=b
 . subst e;simp
 . have h:¬(Sum.inr a:Key)=Sum.inr b:=λ q=>e (Sum.inr.inj q)
   rw[decide_eq_false h,decide_eq_false e]
theorem Pr(a:Int)(b:Str):decide ((Sum.inl a:Key)=Sum.inr b)=false:=decide_eq_false (λ q=>nomatch q)
theorem Rj(a:Str)(b:Int):decide ((Sum.inr a:Key)=Sum.inl b)=false:=decide_eq_false (λ q=>nomatch q)
def cQ(prog:Program)(w:World):PySem.KeyKind prog w Key where
 is:=Lr
 hash:=Ui w
 inj:=λ v a b ha hb=>by
  rcases bh ha with⟨i,t,rfl,rfl⟩ | ⟨x,t,rfl,rfl⟩
  . rcases bh hb with⟨j,u,rfl,e⟩ | ⟨y,u,rfl,e⟩
    . injection e with e1 _;rw[e1]
    . exact nomatch e
  . rcases bh hb with⟨j,u,rfl,e⟩ | ⟨y,u,rfl,e⟩
    . exact nomatch e
    . injection e with e1 _;rw[e1]
 byValue:=λ k v h=>by
  rcases bh h with⟨i,t,rfl,rfl⟩ | ⟨x,t,rfl,rfl⟩<;>rfl
 pyHash:=λ hv h=>by
  rcases bh hv with⟨i,t,rfl,rfl⟩ | ⟨x,t,rfl,rfl⟩
  . exact wpAny_pyHash_int h
  . exact wpAny_pyHash_str h
 eqBool:=λ hu hv h=>by
  rcases bh hu with⟨i,t,rfl,rfl⟩ | ⟨x,t,rfl,rfl⟩
  . rcases bh hv with⟨j,u,rfl,rfl⟩ | ⟨y,u,rfl,rfl⟩
    . rw[Qc]at h;exact wpAny_eqBool_int h
    . rw[Pr]at h;exact SeqAt.EqAt.int_str i t y u _ _ _ _ h
  . rcases bh hv with⟨j,u,rfl,rfl⟩ | ⟨y,u,rfl,rfl⟩
    . rw[Rj]at h;exact SeqAt.EqAt.str_int x t j u _ _ _ _ h
    . rw[Qq]at h;exact wpAny_eqBool_str h
 «strs»:=λ k x t v h=>by
  rcases bh h with⟨i,u,rfl,e⟩ | ⟨y,u,rfl,e⟩
  . exact nomatch e
  . injection e with e1 _
    subst e1
    cases v<;>rfl
end L2
namespace L2
open PySem PySem.Spec PyProof.Rows
variable {b : Addr}
inductive V where
 | non | bl(b:Bool) | int(i:Int) | str(x:Str) | byt(b:Array UInt8) | flt(b:UInt64) | ref(a:Addr) | ty(n:String)
 deriving DecidableEq
def RelV:V->Value->Prop
 | .non,u=>u=Value.none
 | .bl b,u=>u=Value.bool b
 | .int i,u=>∃t,u=Value.int i t
 | .str x,u=>∃t,u=Value.str x t
 | .byt b,u=>∃t,u=Value.bytes b t
 | .flt b,u=>∃t,u=Value.float b t
 | .ref a,u=>u=Value.ref a
 | .ty n,u=>u=Value.type n
abbrev Vals:List V->List Value->Prop:=Paired RelV
theorem Vals.length{xs:List V}{us:List Value}(r:Vals xs us):xs.length=us.length:=Paired.length r
theorem Vals.get:∀{xs:List V}{us:List Value}{i:Nat}{x:V},Vals xs us->xs[i]? =some x->∃u,us[i]? =some u/\RelV x u
 | _,_,_,_,.nil,e=>by simp at e
 | _,_,0,_,.cons r _,e=>by simp at e;subst e;exact⟨_,rfl,r⟩
 | _,_,i+1,x,.cons _ t,e=>by
   obtain⟨u,h1,h2⟩:=Vals.get (i:=i) (x:=x) t (by simpa using e)
   exact⟨u,by simpa using h1,h2⟩
theorem Vals.set{x:V}{u:Value}(r:RelV x u):∀{xs:List V}{us:List Value}(i:Nat),Vals xs us->Vals (xs.set i x) (us.set i u)
 | _,_,_,.nil=>.nil
 | _,_,0,.cons _ t=>.cons r t
 | _,_,i+1,.cons q t=>.cons q (Vals.set r i t)
theorem Vals.append:∀{xs ys:List V}{us ws:List Value},Vals xs us->Vals ys ws->Vals (xs++ys) (us++ws)
 | _,_,_,_,.nil,s=>s
 | _,_,_,_,.cons r t,s=>.cons r (Vals.append t s)
theorem Vals.take:∀{xs:List V}{us:List Value}(n:Nat),Vals xs us->Vals (xs.take n) (us.take n)
 | _,_,0,_=>.nil
 | _,_,_+1,.nil=>.nil
 | _,_,n+1,.cons r t=>.cons r (Vals.take n t)
theorem Vals.drop:∀{xs:List V}{us:List Value}(n:Nat),Vals xs us->Vals (xs.drop n) (us.drop n)
 | _,_,0,r=>r
 | _,_,_+1,.nil=>.nil
 | _,_,n+1,.cons _ t=>Vals.drop n t
def PJ:Option V->Option Value->Prop
 | some v,some u=>RelV v u
 | none,none=>True
 | _,_=>False
def KV{κ:Type}:List (κ×V)->List (κ×Value)->Prop:=Paired λ(p:κ×V) (q:κ×Value)=>p.1=q.1/\RelV p.2 q.2
def kV:Key->V
 | .inl i=>.int i
 | .inr x=>.str x
inductive HO where
 /-- a list -/
 | lst(xs:List V)
 /-- a tuple (never changes) -/
 | tup(xs:List V)
 /-- a dict whose keys are ints and texts; one whose keys are tuples of ints and texts (the empty one is both) -/
 | dK(kvs:List (Key×V)) | dT(kvs:List (List Key×V))
 /-- a set of ints: its members, its size -/
 | set(S:Int->Bool)(n:Nat)
 /-- an instance of the class at C, its dict at dx, its attributes -/
 | ins(C dx:Addr)(fs:List (Str×V))
 /-- the dict of the instance at x -/
 | own(x:Addr)
 /-- the dict of an exception -/
 | xd(fs:List (Str×V))
 /-- a bound method, f of x -/
 | met(f x:Addr)
 /-- a range object lo, lo + 1, .. below hi -/
 | rng(lo hi:Int)
 /-- a thing that is known to the object (the script; a dict while a loop walks it): read, never written while it is so -/
 | frz(o:Obj)(u:HO)
 /-- a code object's table -/
 | tbl(ps:Array Value)
 /-- any other thing, by what is true of its one object (a def of one's own: SetO a S n := HO.ext λ h => ..) -/
 | ext(φ:Heap->Prop)
abbrev Hp:=Addr->Option HO
def upd(H:Hp)(a:Addr)(o:HO):Hp:=λ b=>if b=a then some o else H b
theorem aH{H:Hp}{a:Addr}{o:HO}:upd H a o a=some o:=by unfold upd;rw[if_pos rfl]
theorem ao{H:Hp}{a:Addr}{o:HO}(h:b≠a):upd H a o b=H b:=by unfold upd;rw[if_neg h]
theorem aB{H:Hp}{a:Addr}{o:HO}(h:H a=some o)(h':H b=none):a≠b:=by
 intro e;subst e;rw[h]at h';cases h'
section
variable (P : Program) (w : World)
def aU(H:Hp)(h:Heap)(a:Addr):HO->Prop
 | .lst xs=>xs.length≤sizeLine/\∃(its:List Value) (n:Nat),Vals xs its/\h.get? a=some {cls:=.type "list",data:=.seq its.toArray n}
 | .tup xs=>xs.length≤sizeLine/\∃its:List Value,Vals xs its/\IsTup h a its.toArray
 | .dK kvs=>kvs.length≤sizeLine/\(a==sysModules)=false/\∃vs,KV kvs vs/\h.DictOf (cQ P w) a vs
 | .dT kvs=>kvs.length≤sizeLine/\(a==sysModules)=false/\∃xs:List (List Key×Addr×Value),
  Paired (λ(p:List Key×V) (q:List Key×Addr×Value)=>p.1=q.1/\H q.2.1=some (.tup (p.1.map kV))/\RelV p.2 q.2.2) kvs xs/\
  ∃o es ep,h.get? a=some o/\o.ExactDict/\o.data=.dict es ep/\es.toList=xs.map (entryOfKey (tupleKind (cQ P w)))/\(xs.map (·.1)).Nodup
 | .set S n=>h.SetOf (intKind P w) a S n
 | .ins C dx fs=>H dx=some (.own a)/\fs.length≤1000/\dx≠a/\h.get? a=some (PySem.W.instObj C dx)/\
  ∃mA,h.Ns1 dx mA/\(∀f,PJ (fs.lookup f) (mA f))/\PySem.Within mA (fs.map (·.1))
 | .own _=>∃o,h.get? a=some o
 | .xd fs=>∃mA,h.Ns1 a mA/\∀f,PJ (fs.lookup f) (mA f)
 | .rng lo hi=>∃t u v,h.get? a=some {cls:=.type "range",data:=.fields #[.int lo t,.int hi u,.int 1 v]}
 | .frz o u=>h.get? a=some o/\aU H h a u
 | .tbl ps=>h.get? a=some {cls:=.none,data:=.fields ps}
 | .met f x=>h.get? a=some (PySem.W.methodObj (.ref f) (.ref x))
 | .ext φ=>φ h/\(∃o,h.get? a=some o)/\∀h1 h2:Heap,φ h1->(∀o,h1.get? a=some o->h2.get? a=some o)->φ h2
def HOk(H:Hp)(h:Heap):Prop:=∀a o,H a=some o->aU P w H h a o
end
section
variable {P : Program} {w : World} {H H' : Hp} {h h' : Heap} {a : Addr} {o : HO}
theorem aU.lt(x:aU P w H h a o):a<h.objs.size:=by
 cases o with
 | lst xs=>obtain⟨_,_,_,_,e⟩:=x;exact Heap.lt_size e
 | tup xs=>obtain⟨_,_,_,p⟩:=x;exact p.lt
 | dK kvs=>obtain⟨_,_,_,_,o,_,_,e,_⟩:=x;exact Heap.lt_size e
 | dT kvs=>obtain⟨_,_,_,_,o,_,_,e,_⟩:=x;exact Heap.lt_size e
 | set S n=>obtain⟨o,_,_,_,e,_⟩:=x;exact Heap.lt_size e
 | ins C dx fs=>obtain⟨_,_,_,e,_⟩:=x;exact Heap.lt_size e
 | own y=>obtain⟨_,e⟩:=x;exact Heap.lt_size e
 | xd fs=>obtain⟨_,⟨_,_,_,e,_⟩,_⟩:=x;exact Heap.lt_size e
 | rng lo hi=>obtain⟨_,_,_,e⟩:=x;exact Heap.lt_size e
 | frz ob u=>obtain⟨e,_⟩:=x;exact Heap.lt_size e
 | tbl ps=>exact Heap.lt_size (show h.get? a=some _ from x)
 | met f y=>exact Heap.lt_size (show h.get? a=some _ from x)
 | ext φ=>obtain⟨_,⟨_,e⟩,_⟩:=x;exact Heap.lt_size e
theorem Paired.mapP{α β:Type}{F G:α->β->Prop}:∀{l₁:List α}{l₂:List β},Paired F l₁ l₂->(∀a b,F a b->G a b)->Paired G l₁ l₂
 | _,_,.nil,_=>.nil
 | _,_,.cons r t,f=>.cons (f _ _ r) (Paired.mapP t f)
theorem aU.stay(x:aU P w H h a o)(k:∀b u,(b=a∨H b=some (.own a))->h.get? b=some u->h'.get? b=some u)
 (ho:∀b,H b=some (.own a)->H' b=some (.own a))(ht:∀b xs,H b=some (.tup xs)->H' b=some (.tup xs)):aU P w H' h' a o:=by
 induction o with
 | lst xs=>obtain⟨z,its,n,r,e⟩:=x;exact⟨z,its,n,r,k _ _ (.inl rfl) e⟩
 | tup xs=>obtain⟨z,its,r,ob,e,c⟩:=x;exact⟨z,its,r,ob,k _ _ (.inl rfl) e,c⟩
 | dK kvs=>obtain⟨z,y,vs,r,ob,es,ep,e,c⟩:=x;exact⟨z,y,vs,r,ob,es,ep,k _ _ (.inl rfl) e,c⟩
 | dT kvs=>
   obtain⟨z,y,xs,r,ob,es,ep,e,c⟩:=x
   exact⟨z,y,xs,Paired.mapP r λ p q z=>⟨z.1,ht _ _ z.2.1,z.2.2⟩,ob,es,ep,k _ _ (.inl rfl) e,c⟩
 | set S n=>obtain⟨ob,es,ep,t,e,c⟩:=x;exact⟨ob,es,ep,t,k _ _ (.inl rfl) e,c⟩
 | ins C dx fs=>
   obtain⟨d,z,ne,e,mA,⟨od,es,ep,e2,c⟩,r⟩:=x
   exact⟨ho _ d,z,ne,k _ _ (.inl rfl) e,mA,⟨od,es,ep,k _ _ (.inr d) e2,c⟩,r⟩
 | own y=>obtain⟨ob,e⟩:=x;exact⟨ob,k _ _ (.inl rfl) e⟩
 | xd fs=>obtain⟨mA,⟨od,es,ep,e,c⟩,r⟩:=x;exact⟨mA,⟨od,es,ep,k _ _ (.inl rfl) e,c⟩,r⟩
 | rng lo hi=>obtain⟨t,u,v,e⟩:=x;exact⟨t,u,v,k _ _ (.inl rfl) e⟩
 | frz ob u ih=>obtain⟨e,q⟩:=x;exact⟨k _ _ (.inl rfl) e,ih q⟩
 | tbl ps=>
   have e:h.get? a=some {cls:=.none,data:=.fields ps}:=x
   show h'.get? a=some {cls:=.none,data:=.fields ps}
   exact k a _ (.inl rfl) e
 | met f y=>
   have e:h.get? a=some (PySem.W.methodObj (.ref f) (.ref y)):=x
   show h'.get? a=some (PySem.W.methodObj (.ref f) (.ref y))
   exact k a _ (.inl rfl) e
 | ext φ=>obtain⟨p,⟨o,e⟩,st⟩:=x;exact⟨st _ _ p λ o q=>k _ _ (.inl rfl) q,⟨o,k _ _ (.inl rfl) e⟩,st⟩
theorem HOk.lt(x:HOk P w H h)(e:H a=some o):a<h.objs.size:=(x a o e).lt
theorem HOk.fresh(x:HOk P w H h)(e:h.objs.size≤a):H a=none:=by
 cases q:H a with
 | none=>rfl
 | some u=>exact absurd (Nat.lt_of_lt_of_le (x.lt q) e) (Nat.lt_irrefl _)
theorem HOk.kept(x:HOk P w H h)(k:∀b u,h.get? b=some u->h'.get? b=some u):HOk P w H h':=λ a o e=>
 (x a o e).stay (λ b u _ q=>k b u q) (λ _ q=>q) λ _ _ q=>q
theorem HOk.laid(x:HOk P w H h)(k:∀b u,h.get? b=some u->h'.get? b=some u)(hp:h.objs.size≤a)(new:aU P w (upd H a o) h' a o):HOk P w (upd H a o) h':=λ b u e=>by
 have hn:=x.fresh hp
 by_cases hb:b=a
 . subst hb;rw[aH]at e;cases e;exact new
 . rw[ao hb]at e
   exact(x b u e).stay (λ c v _ q=>k c v q) (λ c q=>by rw[ao (aB q hn)];exact q) λ c xs q=>by rw[ao (aB q hn)];exact q
end
def Rd(H:Hp)(a:Addr)(u:HO):Prop:=H a=some u∨∃o,H a=some (.frz o u)
theorem Rd.ok{P:Program}{w:World}{H:Hp}{h:Heap}{a:Addr}{u:HO}(r:Rd H a u)(x:HOk P w H h):aU P w H h a u:=by
 rcases r with r | ⟨o,r⟩
 . exact x a u r
 . obtain⟨_,q⟩:=x a _ r
   exact q
def Mut:Option HO->Prop
 | some (.lst _)=>True
 | some (.dK _)=>True
 | some (.dT _)=>True
 | some (.set _ _)=>True
 | some (.ins _ _ _)=>True
 | some (.ext _)=>True
 | _=>False
section
variable {P : Program} {w : World} {H : Hp} {h h' : Heap} {x e : Addr} {o' : HO}
theorem HOk.write(ok:HOk P w H h)(mu:Mut (H x))(he:e=x∨H e=some (.own x))(k:∀b u,b≠e->h.get? b=some u->h'.get? b=some u)(heo:∃u,h'.get? e=some u)
 (new:aU P w (upd H x o') h' x o'):HOk P w (upd H x o') h':=λ b u q=>by
 have nown:∀c y,H c=some (.own y)->c≠x:=λ c y r z=>by subst z;rw[r]at mu;exact mu
 have ntup:∀c xs,H c=some (.tup xs)->c≠x:=λ c xs r z=>by subst z;rw[r]at mu;exact mu
 by_cases hb:b=x
 . subst hb;rw[aH]at q;cases q;exact new
 . rw [ao hb]at q
   by_cases hbe:b=e
   . have q':H b=some (.own x):=by
      rcases he with z | z
      . exact absurd (hbe.trans z) hb
      . rw[hbe];exact z
     rw[q]at q';cases q'
     obtain⟨v,hv⟩:=heo
     exact⟨v,by rw[hbe];exact hv⟩
   . refine(ok b u q).stay (λ c v hc r=>k c v ?_ r) (λ c r=>by rw[ao (nown c b r)];exact r) λ c xs r=>by rw[ao (ntup c xs r)];exact r
     rcases hc with rfl | hc
     . exact hbe
     . rintro rfl
       rcases he with z | z
       . exact nown c b hc z
       . rw[hc]at z;cases z;exact hb rfl
end
structure Un(fs ex:List Addr)(H H':Hp)(h h':Heap):Prop where
 keep:∀b o,h.get? b=some o->H b=none->b∉fs->b∉ex->h'.get? b=some o
 slot:∀b o,h.get? b=some o->H b=none->b∈fs->b∉ex->∃sl,h'.get? b=some {o with slots:=sl}
 free:∀b o,h.get? b=some o->H b=none->b∉ex->H' b=none
 there:∀b o,h.get? b=some o->b∉ex->∃o',h'.get? b=some o'
 tups:∀b xs,H b=some (.tup xs)->H' b=some (.tup xs)
 frzs:∀b o u,H b=some (.frz o u)->H' b=some (.frz o u)
 tbls:∀b ps,H b=some (.tbl ps)->∃more,H' b=some (.tbl (ps++more))
section
variable {fs fs' ex ex' : List Addr} {H H1 H2 : Hp} {h h1 h2 h' : Heap} {a x e : Addr} {o : HO}
theorem Un.any(u:Un fs ex H H1 h h1){b:Addr}{ob:Obj}(q:h.get? b=some ob)(n:H b=none)(hx:b∉ex):∃sl,h1.get? b=some {ob with slots:=sl}:=by
 by_cases hb:b∈fs
 . exact u.slot b ob q n hb hx
 . exact⟨ob.slots,u.keep b ob q n hb hx⟩
theorem Un.kept(k:∀b u,h.get? b=some u->h'.get? b=some u):Un fs ex H H h h':=
 ⟨λ b ob q _ _ _=>k b ob q,λ b ob q _ _ _=>⟨ob.slots,k b ob q⟩,λ _ _ _ n _=>n,λ b ob q _=>⟨ob,k b ob q⟩,λ _ _ q=>q,λ _ _ _ q=>q,λ _ ps q=>⟨#[],by rw[q];simp⟩⟩
theorem Un.refl:Un fs ex H H h h:=Un.kept λ _ _ q=>q
theorem Un.laid(k:∀b u,h.get? b=some u->h'.get? b=some u)(hp:h.objs.size≤a)(hn:H a=none):Un fs ex H (upd H a o) h h' where
 keep:=λ b u q _ _ _=>k b u q
 slot:=λ b u q _ _ _=>⟨u.slots,k b u q⟩
 free:=λ b u q n _=>by rw[ao (Nat.ne_of_lt (Nat.lt_of_lt_of_le (Heap.lt_size q) hp))];exact n
 there:=λ b u q _=>⟨u,k b u q⟩
 tups:=λ b xs q=>by rw[ao (aB q hn)];exact q
 frzs:=λ b u xs q=>by rw[ao (aB q hn)];exact q
 tbls:=λ b ps q=>⟨#[],by rw[ao (aB q hn),q];simp⟩
theorem Un.write(mu:Mut (H x))(he:e=x∨H e=some (.own x))(k:∀b u,b≠e->h.get? b=some u->h'.get? b=some u)(heo:∃u,h'.get? e=some u):Un fs ex H (upd H x o) h h':=by
 have hx:∀b,H b=none->b≠x:=λ b n z=>by subst z;rw[n]at mu;exact mu
 have hb:∀b,H b=none->b≠e:=λ b n z=>by
  subst z
  rcases he with r | r
  . exact hx b n r
  . rw[n]at r;cases r
 have hm:∀b u,H b=some u->¬Mut (some u)->b≠x:=λ b u q nm z=>by subst z;rw[q]at mu;exact nm mu
 refine⟨λ b u q n _ _=>k b u (hb b n) q,λ b u q n _ _=>⟨u.slots,k b u (hb b n) q⟩,λ b u q n _=>by rw[ao (hx b n)];exact n,λ b u q _=>?_,
  λ b xs q=>by rw[ao (hm b _ q λ z=>z)];exact q,λ b u xs q=>by rw[ao (hm b _ q λ z=>z)];exact q,λ b ps q=>⟨#[],by rw[ao (hm b _ q λ z=>z),q];simp⟩⟩
 by_cases hbe:b=e
 . subst hbe;exact heo
 . exact⟨u,k b u hbe q⟩
end
def trk(h:Heap)(H:Hp):List Addr:=(List.range h.objs.size).filter λ a=>(H a).isSome
def jE(h:Heap)(H:Hp):Heap:=PySem.W.hideAll h (trk h H)
theorem Jh(h:Heap)(H:Hp):(jE h H).objs.size=h.objs.size:=PySem.W.hideAll_size _ _
theorem J1{h:Heap}{H:Hp}{o:Obj}(e:h.get? b=some o)(n:H b=none):(jE h H).get? b=some o:=
 PySem.W.hideAll_get _ e λ hm=>by
  have q:(H b).isSome=true:=(List.mem_filter.mp hm).2
  rw[n]at q;simp at q
theorem NZ{h:Heap}{H:Hp}{o:Obj}(e:(jE h H).get? b=some o):h.get? b=some o/\H b=none:=by
 have e':h.get? b=some o:=PySem.W.of_hideAll (trk h H) e
 refine⟨e',?_⟩
 cases q:H b with
 | none=>rfl
 | some x=>
   have hm:b∈trk h H:=List.mem_filter.mpr ⟨List.mem_range.mpr (Heap.lt_size e'),by simp[q]⟩
   have z:(jE h H).get? b=none:=PySem.W.hideAll_none (trk h H) hm
   rw[z]at e;cases e
end L2
namespace L2
open PySem PySem.Spec PyProof.Rows
variable {t' : Nat}
structure Mod(K:PySem.W.Frag)(mg:Str->Option Value)(base:Heap):Prop where
 kin:K.In base
 glob:base.Ns mainGlobals mg
 blt:∃mb,base.Ns builtinsNs mb/\∀x:Str,x≠"__name__"->mb x=bootBuiltins x
 nolimit:base.NoLimit
set_option genInjectivity false in
structure Cx where
 prog:Program
 w:World
 K:PySem.W.Frag
 mg:Str->Option Value
 base:Heap
 A:Around
 N:List Str
 s₀:Shared
 H₀:Hp
 env:Env
 outer:List Env
 stack:List Env
 ex:List Addr
 fn:Str->Bool
 calm:Bool
 pn:List (Addr×Obj)
 xe:Value->Shared->Prop
def frs(l:List Env):List Addr:=l.filterMap (·.frame)
abbrev Cx.fs(X:Cx):List Addr:=frs X.outer
def Vis(sc:Scope)(x:Str):Prop:=sc.names.lookup x=some .local∨sc.names.lookup x=some .cell∨sc.names.lookup x=some .free
def Loc(sc:Scope)(x:Str):Prop:=sc.names.lookup x=some .local∨sc.names.lookup x=some .cell
def Look(env:Env)(h:Heap)(m:Str->Option Value)(x:Str)(u:Value):Prop:=
 (env.kindOf x=some .local/\m x=some u)∨((env.kindOf x=some .cell∨env.kindOf x=some .free)/\∃c,env.cells.lookup x=some c/\h.IsCell c (some u))
structure Cx.Ok(X:Cx):Prop where
 mod:Mod X.K X.mg X.base
 kind:X.env.scope.kind=.function
 glob:X.env.globals=mainGlobals
 blt:X.env.builtins=builtinsNs
 above:X.s₀.heap.objs.size≤X.env.locals
 inj:∀x y c,X.env.cells.lookup x=some c->X.env.cells.lookup y=some c->x=y
 has:∀x,(X.env.kindOf x=some .cell∨X.env.kindOf x=some .free)->∃c,X.env.cells.lookup x=some c
 cab:∀x c,X.fn x=true->X.env.cells.lookup x=some c->X.s₀.heap.objs.size≤c
 hd:X.calm=true->X.A.handled=none
 frames:X.A.frames=some X.stack
 stk:X.stack=X.outer∨(X.stack=X.env::X.outer/\X.env.frame=some X.env.locals)
 exf:∀b∈X.ex,b≠X.env.locals/\∀x c,X.env.cells.lookup x=some c->c≠b
 bs:∀b o,X.base.get? b=some o->X.s₀.heap.get? b=some o/\X.H₀ b=none
 bsz:X.base.objs.size≤X.s₀.heap.objs.size
 noex:∀b o,X.base.get? b=some o->b∉X.ex
 exfs:∀b∈X.ex,b∉X.fs
 funs:X.s₀.heap.FunFrames X.base X.outer
 frf:∀b∈X.fs,X.H₀ b=none
structure Inv(X:Cx)(pins:List (Addr×Obj))(σ:List (Option V))(H:Hp)(s:Shared):Prop where
 ok:X.Ok
 os:s.os=X.s₀.os
 bare:AllBare s.gens
 base:Un X.fs X.ex X.H₀ H X.s₀.heap s.heap
 loc:∃m,s.heap.Ns X.env.locals m/\∀(i:Nat)(x:Str)(v:V),X.N[i]? =some x->σ[i]? =some (some v)->Vis X.env.scope x->∃u,RelV v u/\Look X.env s.heap m x u
 cell:∀x c,X.env.cells.lookup x=some c->∃v,s.heap.IsCell c v
 free:H X.env.locals=none
 freeC:∀x c,X.env.cells.lookup x=some c->H c=none
 pin:∀p∈X.pn++pins,s.heap.get? p.1=some p.2/\H p.1=none/\p.1≠X.env.locals/\p.1∉X.fs/\∀v,p.2.data≠.cell v
 hok:HOk X.prog X.w H s.heap
 len:σ.length=X.N.length
section
variable {X : Cx} {pins : List (Addr × Obj)} {σ : List (Option V)} {H H' : Hp} {s : Shared} {h' : Heap}
theorem Cx.Ok.nofr(ok:X.Ok){b:Addr}{o:Obj}(e:X.base.get? b=some o):b∉X.fs:=λ hb=>by
 have:=(ok.funs.mem hb).1
 rw[e]at this;cases this
theorem Inv.bs(I:Inv X pins σ H s):∀b o,X.base.get? b=some o->s.heap.get? b=some o/\H b=none:=λ b o e=>
 ⟨I.base.keep b o (I.ok.bs b o e).1 (I.ok.bs b o e).2 (I.ok.nofr e) (I.ok.noex b o e),I.base.free b o (I.ok.bs b o e).1 (I.ok.bs b o e).2 (I.ok.noex b o e)⟩
theorem Inv.bk(I:Inv X pins σ H s):∀b o,X.base.get? b=some o->s.heap.get? b=some o:=λ b o e=>(I.bs b o e).1
theorem Inv.mod(I:Inv X pins σ H s):Mod X.K X.mg X.base:=I.ok.mod
theorem Inv.kIn(I:Inv X pins σ H s):X.K.In s.heap:=I.ok.mod.kin.keeps I.bk
theorem Inv.lt(I:Inv X pins σ H s):X.env.locals<s.heap.objs.size:=let ⟨_,hn,_⟩:=I.loc;hn.lt
theorem Inv.sz(I:Inv X pins σ H s):X.s₀.heap.objs.size≤s.heap.objs.size:=Nat.le_trans I.ok.above (Nat.le_of_lt I.lt)
theorem Inv.nofs(I:Inv X pins σ H s){a:Addr}(h:s.heap.objs.size≤a):a∉X.fs:=λ hb=>by
 obtain⟨_,o,ho,_⟩:=I.ok.funs.mem hb
 exact absurd (Nat.lt_of_lt_of_le (Heap.lt_size ho) (Nat.le_trans I.sz h)) (Nat.lt_irrefl _)
theorem Inv.cne(I:Inv X pins σ H s):∀x c,X.env.cells.lookup x=some c->c≠X.env.locals:=λ x c e z=>by
 obtain⟨v,o,ho,hd⟩:=I.cell x c e
 obtain⟨m,⟨o',es,ep,ho',hd',_⟩,_⟩:=I.loc
 rw[z,ho']at ho;cases ho;rw[hd']at hd;cases hd
theorem Inv.funs(I:Inv X pins σ H s):s.heap.FunFrames X.base X.outer:=by
 have all:∀(l:List Env),(∀b∈frs l,b∈X.fs)->X.s₀.heap.FunFrames X.base l->s.heap.FunFrames X.base l:=by
  intro l
  induction l with
  | nil=>intro _ _;trivial
  | cons env r ih=>
    intro hs hl
    obtain⟨hk,⟨L,o,hf,hn,ho,hd⟩,hr⟩:=hl
    have hL:L∈X.fs:=hs L (by unfold frs;rw[List.filterMap_cons,hf];exact x9)
    obtain⟨sl,e⟩:=I.base.slot L o ho (I.ok.frf L hL) hL λ z=>I.ok.exfs L z hL
    exact⟨hk,⟨L,_,hf,hn,e,hd⟩,ih (λ b hb=>hs b (by unfold frs;rw[List.filterMap_cons,hf];exact x6 _ hb)) hr⟩
 exact all X.outer (λ _ hb=>hb) I.ok.funs
theorem Inv.stack(I:Inv X pins σ H s):s.heap.FunFrames X.base X.stack:=by
 rcases I.ok.stk with e | ⟨e,hf⟩
 . rw[e];exact I.funs
 . rw[e]
   obtain⟨m,hn,_⟩:=I.loc
   refine .cons (by rw[I.ok.kind];decide) hf hn ?_ I.funs
   exact Heap.get?_none_of_le (Nat.le_trans I.ok.bsz I.ok.above)
theorem Inv.stkSub(I:Inv X pins σ H s):∀b∈frs X.stack,b∈X.env.locals::X.fs:=λ b hb=>by
 rcases I.ok.stk with e | ⟨e,hf⟩
 . rw[e]at hb;exact x6 _ hb
 . rw[e]at hb
   unfold frs at hb
   rw[List.filterMap_cons,hf]at hb
   exact hb
theorem Inv.stkFree(I:Inv X pins σ H s):∀b∈frs X.stack,H b=none:=λ b hb=>by
 rcases List.mem_cons.mp (I.stkSub b hb)with e | hb
 . rw[e];exact I.free
 . obtain⟨_,o,ho,_⟩:=I.ok.funs.mem hb
   exact I.base.free b o ho (I.ok.frf b hb) λ z=>I.ok.exfs b z hb
theorem Inv.step{g':Array GenState}{d':Drawn}{ch:List Addr}(I:Inv X pins σ H s)
 (hch:∀b∈ch,(b∈X.ex∨X.s₀.heap.objs.size≤b)/\b≠X.env.locals/\(∀x c,X.env.cells.lookup x=some c->c≠b)/\∀p∈X.pn++pins,p.1≠b)
 (keep:∀b o,b≠X.env.locals->b∉X.fs->b∉ch->s.heap.get? b=some o->H b=none->h'.get? b=some o)
 (slot:∀b o,b≠X.env.locals->b∈X.fs->b∉ch->s.heap.get? b=some o->H b=none->∃sl,h'.get? b=some {o with slots:=sl})(free:∀b o,b∉ch->s.heap.get? b=some o->H b=none->H' b=none)
 (there:∀b o,b∉ch->s.heap.get? b=some o->∃o',h'.get? b=some o')
 (tups:∀b xs,H b=some (.tup xs)->H' b=some (.tup xs))(frzs:∀b o u,H b=some (.frz o u)->H' b=some (.frz o u))(tbls:∀b ps,H b=some (.tbl ps)->∃more,H' b=some (.tbl (ps++more)))
 (ns:∀m,s.heap.Ns X.env.locals m->h'.Ns X.env.locals m)(hok:HOk X.prog X.w H' h')(hg:AllBare g'):
 Inv X pins σ H' {s with heap:=h',gens:=g',drawn:=d',toks:=t'}:=by
 have neL:∀b o,X.s₀.heap.get? b=some o->b≠X.env.locals:=λ b o e=>Nat.ne_of_lt (Nat.lt_of_lt_of_le (Heap.lt_size e) I.ok.above)
 have neC:∀b o,X.s₀.heap.get? b=some o->b∉X.ex->b∉ch:=λ b o e hx hb=>by
  rcases(hch b hb).1 with z | z
  . exact hx z
  . exact absurd (Nat.lt_of_lt_of_le (Heap.lt_size e) z) (Nat.lt_irrefl _)
 have cellK:∀x c,X.env.cells.lookup x=some c->∀v,s.heap.IsCell c v->h'.IsCell c v:=λ x c e v ⟨o,ho,hd⟩=>by
  have nch:c∉ch:=λ z=>(hch c z).2.2.1 x c e rfl
  by_cases hc:c∈X.fs
  . obtain⟨sl,q⟩:=slot c o (I.cne x c e) hc nch ho (I.freeC x c e)
    exact⟨_,q,hd⟩
  . exact⟨o,keep c o (I.cne x c e) hc nch ho (I.freeC x c e),hd⟩
 refine⟨I.ok,I.os,hg,⟨λ b o e n hb hx=>?_,λ b o e n hb hx=>?_,λ b o e n hx=>?_,λ b o e hx=>?_,λ b xs e=>tups b xs (I.base.tups b xs e),λ b o xs e=>frzs b o xs (I.base.frzs b o xs e),λ b ps e=>?_⟩,?_,λ x c e=>?_,?_,λ x c e=>?_,λ p hp=>?_,hok,I.len⟩
 . exact keep b o (neL b o e) hb (neC b o e hx) (I.base.keep b o e n hb hx) (I.base.free b o e n hx)
 . obtain⟨sl,e1⟩:=I.base.slot b o e n hb hx
   obtain⟨sl',e2⟩:=slot b _ (neL b o e) hb (neC b o e hx) e1 (I.base.free b o e n hx)
   exact⟨sl',e2⟩
 . obtain⟨o',e1⟩:=I.base.there b o e hx
   exact free b o' (neC b o e hx) e1 (I.base.free b o e n hx)
 . obtain⟨o',e1⟩:=I.base.there b o e hx
   exact there b o' (neC b o e hx) e1
 . obtain⟨m1,e1⟩:=I.base.tbls b ps e
   obtain⟨m2,e2⟩:=tbls b _ e1
   exact⟨m1++m2,by rw[e2,Array.append_assoc]⟩
 . obtain⟨m,hn,hl⟩:=I.loc
   refine⟨m,ns m hn,λ i x v e1 e2 e3=>?_⟩
   obtain⟨u,r,l⟩:=hl i x v e1 e2 e3
   refine⟨u,r,?_⟩
   rcases l with l | ⟨k,c,e,z⟩
   . exact .inl l
   . exact .inr ⟨k,c,e,cellK x c e _ z⟩
 . obtain⟨v,z⟩:=I.cell x c e
   exact⟨v,cellK x c e v z⟩
 . obtain⟨m,⟨o,_,_,ho,_⟩,_⟩:=I.loc
   exact free _ o (λ z=>(hch _ z).2.1 rfl) ho I.free
 . obtain⟨v,o,ho,hd⟩:=I.cell x c e
   exact free c o (λ z=>(hch c z).2.2.1 x c e rfl) ho (I.freeC x c e)
 . obtain⟨e,n,ne,nf,d⟩:=I.pin p hp
   have nch:p.1∉ch:=λ z=>(hch p.1 z).2.2.2 p hp rfl
   exact⟨keep p.1 p.2 ne nf nch e n,free p.1 p.2 nch e n,ne,nf,d⟩
theorem Inv.un(I:Inv X pins σ H s)(u:Un X.fs [] H H' s.heap h')(hok:HOk X.prog X.w H' h'):Inv X pins σ H' {s with heap:=h',toks:=t'}:=by
 obtain⟨m,⟨o,es,ep,ho,r⟩,_⟩:=id I.loc
 obtain⟨sl,hL⟩:=u.any ho I.free (by simp)
 exact I.step (g':=s.gens) (d':=s.drawn) (ch:=[]) (λ _ z=>nomatch z) (λ b o _ hb _ e n=>u.keep b o e n hb (by simp)) (λ b o _ hb _ e n=>u.slot b o e n hb (by simp)) (λ b o _ e n=>u.free b o e n (by simp)) (λ b o _ e=>u.there b o e (by simp)) u.tups u.frzs u.tbls (λ m' hm=>by
  obtain⟨o',es',ep',ho',r'⟩:=hm
  rw[ho]at ho';cases ho'
  exact⟨_,es',ep',hL,r'⟩) hok I.bare
theorem Inv.call{g':Array GenState}{d':Drawn}{ch:List Addr}(I:Inv X pins σ H s)(u:Un (frs X.stack) ch H H' s.heap h')(hok:HOk X.prog X.w H' h')(hg:AllBare g')
 (hch:∀b∈ch,(b∈X.ex∨X.s₀.heap.objs.size≤b)/\b≠X.env.locals/\(∀x c,X.env.cells.lookup x=some c->c≠b)/\∀p∈X.pn++pins,p.1≠b):
 Inv X pins σ H' {s with heap:=h',gens:=g',drawn:=d',toks:=t'}:=by
 obtain⟨m,⟨o,es,ep,ho,r⟩,_⟩:=id I.loc
 obtain⟨sl,hL⟩:=u.any ho I.free λ z=>(hch _ z).2.1 rfl
 exact I.step (ch:=ch) hch (λ b o hL hb hc e n=>u.keep b o e n (λ z=>(List.mem_cons.mp (I.stkSub b z)).elim hL hb) hc) (λ b o _ _ hc e n=>u.any e n hc) (λ b o hc e n=>u.free b o e n hc) (λ b o hc e=>u.there b o e hc) u.tups u.frzs u.tbls (λ m' hm=>by
  obtain⟨o',es',ep',ho',r'⟩:=hm
  rw[ho]at ho';cases ho'
  exact⟨_,es',ep',hL,r'⟩) hok hg
theorem Inv.turned{it:Addr}(I:Inv X pins σ H s)(k:∀b o,b≠it->s.heap.get? b=some o->h'.get? b=some o)(hn:H it=none)(hL:it≠X.env.locals)
 (h1:it∈X.ex∨X.s₀.heap.objs.size≤it)(h2:∀x c,X.env.cells.lookup x=some c->c≠it)(h3:∀p∈X.pn++pins,p.1≠it):Inv X pins σ H {s with heap:=h',toks:=t'}:=by
 have nit:∀b u,H b=some u->b≠it:=λ b u e z=>by rw[z,hn]at e;cases e
 refine I.step (g':=s.gens) (d':=s.drawn) (ch:=[it]) (λ b hb=>?_) (λ b o _ _ hc e _=>k b o (λ z=>hc (by simp[z])) e) (λ b o _ _ hc e _=>⟨o.slots,k b o (λ z=>hc (by simp[z])) e⟩) (λ _ _ _ _ n=>n)
  (λ b o hc e=>⟨o,k b o (λ z=>hc (by simp[z])) e⟩) (λ _ _ e=>e) (λ _ _ _ e=>e) (λ b ps e=>⟨#[],by rw[e];simp⟩) (λ m hm=>?_) (λ b u e=>?_) I.bare
 . have e:b=it:=by simpa using hb
   subst e
   exact⟨h1,hL,h2,h3⟩
 . obtain⟨o,es,ep,ho,r⟩:=hm
   exact⟨o,es,ep,k _ o (Ne.symm hL) ho,r⟩
 . refine(I.hok b u e).stay (λ c v hc q=>k c v ?_ q) (λ _ q=>q) λ _ _ q=>q
   rcases hc with z | z
   . rw[z];exact nit b u e
   . exact nit c _ z
theorem Inv.tok(I:Inv X pins σ H s)(t:Nat):Inv X pins σ H {s with toks:=t}:=I.un (h':=s.heap) (t':=t) Un.refl I.hok
theorem Inv.kept(I:Inv X pins σ H s)(k:∀b u,s.heap.get? b=some u->h'.get? b=some u):Inv X pins σ H {s with heap:=h',toks:=t'}:=I.un (Un.kept k) (I.hok.kept k)
theorem Inv.laid{a:Addr}{o:HO}(I:Inv X pins σ H s)(k:∀b u,s.heap.get? b=some u->h'.get? b=some u)(hp:s.heap.objs.size≤a)(new:aU X.prog X.w (upd H a o) h' a o):
 Inv X pins σ (upd H a o) {s with heap:=h',toks:=t'}:=I.un (Un.laid k hp (I.hok.fresh hp)) (I.hok.laid k hp new)
theorem Inv.write{x e:Addr}{o:HO}(I:Inv X pins σ H s)(mu:Mut (H x))(he:e=x∨H e=some (.own x))(k:∀b u,b≠e->s.heap.get? b=some u->h'.get? b=some u)(heo:∃u,h'.get? e=some u)
 (new:aU X.prog X.w (upd H x o) h' x o):Inv X pins σ (upd H x o) {s with heap:=h',toks:=t'}:=I.un (Un.write mu he k heo) (I.hok.write mu he k heo new)
theorem Inv.pins_of{pins':List (Addr×Obj)}(I:Inv X pins σ H s)(h:∀p∈pins',s.heap.get? p.1=some p.2/\H p.1=none/\p.1≠X.env.locals/\p.1∉X.fs/\∀v,p.2.data≠.cell v):Inv X pins' σ H s:=
 ⟨I.ok,I.os,I.bare,I.base,I.loc,I.cell,I.free,I.freeC,λ p hp=>(List.mem_append.mp hp).elim (λ z=>I.pin p (List.mem_append_left _ z)) (h p),I.hok,I.len⟩
theorem ph{N:List Str}(hN:N.Nodup){i j:Nat}{x:Str}(a:N[i]? =some x)(b:N[j]? =some x):i=j:=by
 obtain⟨h1,e1⟩:=y3.mp a
 obtain⟨h2,e2⟩:=y3.mp b
 exact(List.getElem_inj hN).mp (e1.trans e2.symm)
theorem vz{M:Model}{A:Around}{E:Value->Shared->Prop}{i:Nat}{x:Str}{v:V}{u:Value}{Q:Unit->Shared->Prop}(I:Inv X pins σ H s)(hN:X.N.Nodup)(hi:X.N[i]? =some x)(hx:Loc X.env.scope x)(r:RelV v u)
 (h:∀s',Inv X pins (σ.set i (some v)) H s'->(∃a,Heap.SameBut a s.heap s'.heap/\(a=X.env.locals∨X.env.cells.lookup x=some a))->Q () s')(hf:X.fn x=true∨X.env.scope.names.lookup x=some .local:=by first | exact .inl rfl | exact .inr rfl | assumption):wpAny M A (storeName X.env x u) Q E s:=by
 obtain⟨m,hn,hl⟩:=id I.loc
 have hcls:(X.env.scope.kind==.class||(X.env.scope.kind==.module&&X.env.locals !=X.env.globals))=false:=by rw[I.ok.kind];rfl
 have hiσ:i<σ.length:=by rw[I.len];exact(y3.mp hi).1
 have cne:=I.cne
 have tracked:∀{a:Addr}{h':Heap},(∃o,s.heap.get? a=some o/\H a=none)->Heap.SameBut a s.heap h'->HOk X.prog X.w H h':=λ{a h'} ha hs b ob e=>by
  obtain⟨_,_,hfree⟩:=ha
  refine(I.hok b ob e).stay (λ c w' hc q=>(hs.2 c ?_).trans q) (λ _ q=>q) λ _ _ q=>q
  rintro rfl
  rcases hc with rfl | hc
  . rw[hfree]at e;cases e
  . rw[hfree]at hc;cases hc
 rcases hx with hk | hk
 . refine wpAny_storeName_local hk hn (λ h' hn' hs=>?_) hcls
   obtain⟨oL,_,_,hoL,_⟩:=id hn
   refine h _ ⟨I.ok,I.os,I.bare,⟨λ b o e n hb hx=>?_,λ b o e n hb hx=>?_,I.base.free,λ b o e hx=>?_,I.base.tups,I.base.frzs,I.base.tbls⟩,⟨_,hn',λ j y v' e1 e2 e3=>?_⟩,λ y c e=>?_,I.free,I.freeC,λ p hp=>?_,tracked ⟨oL,hoL,I.free⟩ hs,by simpa using I.len⟩ ⟨_,hs,.inl rfl⟩
   . exact(hs.2 b (Nat.ne_of_lt (Nat.lt_of_lt_of_le (Heap.lt_size e) I.ok.above))).trans (I.base.keep b o e n hb hx)
   . obtain⟨sl,e1⟩:=I.base.slot b o e n hb hx
     exact⟨sl,(hs.2 b (Nat.ne_of_lt (Nat.lt_of_lt_of_le (Heap.lt_size e) I.ok.above))).trans e1⟩
   . obtain⟨o',e1⟩:=I.base.there b o e hx
     exact⟨o',(hs.2 b (Nat.ne_of_lt (Nat.lt_of_lt_of_le (Heap.lt_size e) I.ok.above))).trans e1⟩
   . by_cases hj:j=i
     . subst hj
       rw[hi]at e1;cases e1
       rw[List.getElem?_set_self hiσ]at e2
       cases e2
       exact⟨u,r,.inl ⟨hk,by simp⟩⟩
     . rw[List.getElem?_set_ne (Ne.symm hj)]at e2
       obtain⟨u',r',q⟩:=hl j y v' e1 e2 e3
       refine⟨u',r',?_⟩
       rcases q with⟨k,e⟩ | ⟨k,c,e,z⟩
       . refine .inl ⟨k,?_⟩
         have:y≠x:=λ e=>hj (ph hN e1 (e▸hi))
         simp[this,e]
       . exact .inr ⟨k,c,e,z.sameBut hs (cne y c e)⟩
   . obtain⟨w',z⟩:=I.cell y c e
     exact⟨w',z.sameBut hs (cne y c e)⟩
   . obtain⟨e,n,ne,nf,d⟩:=I.pin p hp
     exact⟨(hs.2 p.1 ne).trans e,n,ne,nf,d⟩
 . have hfn:X.fn x=true:=by
    rcases hf with z | z
    . exact z
    . rw[z]at hk;cases hk
   obtain⟨c,hc⟩:=I.ok.has x (.inl hk)
   obtain⟨w',z⟩:=I.cell x c hc
   refine wpAny_storeName_cell I.ok.kind hk hc z (λ h' hc' hs=>?_)
   obtain⟨oc,hoc,hocd⟩:=id z
   refine h {s with heap:=h'} ⟨I.ok,I.os,I.bare,⟨λ b o e n hb hx=>?_,λ b o e n hb hx=>?_,I.base.free,λ b o e hx=>?_,I.base.tups,I.base.frzs,I.base.tbls⟩,⟨m,hn.sameBut hs (Ne.symm (cne x c hc)),λ j y v' e1 e2 e3=>?_⟩,λ y c' e=>?_,I.free,I.freeC,λ p hp=>?_,tracked ⟨oc,hoc,I.freeC x c hc⟩ hs,by simpa using I.len⟩ ⟨c,hs,.inr hc⟩
   . exact(hs.2 b (Nat.ne_of_lt (Nat.lt_of_lt_of_le (Heap.lt_size e) (I.ok.cab x c hfn hc)))).trans (I.base.keep b o e n hb hx)
   . obtain⟨sl,e1⟩:=I.base.slot b o e n hb hx
     exact⟨sl,(hs.2 b (Nat.ne_of_lt (Nat.lt_of_lt_of_le (Heap.lt_size e) (I.ok.cab x c hfn hc)))).trans e1⟩
   . obtain⟨o',e1⟩:=I.base.there b o e hx
     exact⟨o',(hs.2 b (Nat.ne_of_lt (Nat.lt_of_lt_of_le (Heap.lt_size e) (I.ok.cab x c hfn hc)))).trans e1⟩
   . by_cases hj:j=i
     . subst hj
       rw[hi]at e1;cases e1
       rw[List.getElem?_set_self hiσ]at e2
       cases e2
       exact⟨u,r,.inr ⟨.inl hk,c,hc,hc'⟩⟩
     . rw[List.getElem?_set_ne (Ne.symm hj)]at e2
       obtain⟨u',r',q⟩:=hl j y v' e1 e2 e3
       refine⟨u',r',?_⟩
       rcases q with q | ⟨k,c',e,z'⟩
       . exact .inl q
       . refine .inr ⟨k,c',e,z'.sameBut hs ?_⟩
         rintro rfl
         exact hj (ph hN e1 (I.ok.inj _ _ _ e hc▸hi))
   . by_cases hcc:c'=c
     . subst hcc;exact⟨_,hc'⟩
     . obtain⟨w2,z2⟩:=I.cell y c' e
       exact⟨w2,z2.sameBut hs hcc⟩
   . obtain⟨e,n,ne,nf,d⟩:=I.pin p hp
     refine⟨(hs.2 p.1 ?_).trans e,n,ne,nf,d⟩
     intro q
     rw[q,hoc]at e
     have q':oc=p.2:=Option.some.inj e
     exact d w' (by rw[←q'];exact hocd)
theorem jk{M:Model}{A:Around}{E:Value->Shared->Prop}{i:Nat}{x:Str}{v:V}{u:Value}{Q:Unit->Shared->Prop}(I:Inv X pins σ H s)(hN:X.N.Nodup)(hi:X.N[i]? =some x)(hx:Loc X.env.scope x)(r:RelV v u)
 (h:∀s',Inv X pins (σ.set i (some v)) H s'->Q () s')(hf:X.fn x=true∨X.env.scope.names.lookup x=some .local:=by first | exact .inl rfl | exact .inr rfl | assumption):wpAny M A (storeName X.env x u) Q E s:=
 vz I hN hi hx r (λ s' I' _=>h s' I') hf
theorem Inv.call'{s':Shared}{ch:List Addr}(I:Inv X pins σ H s)(ho:s'.os=s.os)(u:Un (frs X.stack) ch H H' s.heap s'.heap)(hok:HOk X.prog X.w H' s'.heap)(hg:AllBare s'.gens)
 (hch:∀b∈ch,(b∈X.ex∨X.s₀.heap.objs.size≤b)/\b≠X.env.locals/\(∀x c,X.env.cells.lookup x=some c->c≠b)/\∀p∈X.pn++pins,p.1≠b):Inv X pins σ H' s':=by
 obtain⟨h',g',d',t',o'⟩:=s'
 have e:o'=s.os:=ho
 subst e
 exact I.call (g':=g') (t':=t') (d':=d') u hok hg hch
end
abbrev XK:=Value->Option Addr->Hp->Prop
abbrev St:=List (Option V)
abbrev VK:=V->Hp->Prop
abbrev TE:=St->Hp->VK->Prop
abbrev TT:=St->Hp->(Bool->Hp->Prop)->Prop
abbrev TA:=St->Hp->(List V->Hp->Prop)->Prop
structure Ends where
 nx:St->Hp->Prop
 rt:VK
 bk:St->Hp->Prop:=λ _ _=>False
 ct:St->Hp->Prop:=λ _ _=>False
abbrev TS:=Ends->St->Hp->Prop
def EP(X:Cx)(pins:List (Addr×Obj))(σ:St)(Q:VK)(u:Value)(s':Shared):Prop:=∃v H',Inv X pins σ H' s'/\RelV v u/\Q v H'
def TP(X:Cx)(pins:List (Addr×Obj))(σ:St)(Q:Bool->Hp->Prop)(b:Bool)(s':Shared):Prop:=∃H',Inv X pins σ H' s'/\Q b H'
def AP(X:Cx)(pins:List (Addr×Obj))(σ:St)(Q:List V->Hp->Prop)(us:List Value)(s':Shared):Prop:=∃vs H',Inv X pins σ H' s'/\Vals vs us/\Q vs H'
def SP(X:Cx)(pins:List (Addr×Obj))(D:Ends)(f:Flow)(s':Shared):Prop:=
 match f with
 | .next=>∃σ' H',Inv X pins σ' H' s'/\D.nx σ' H'
 | .brk=>∃σ' H',Inv X pins σ' H' s'/\D.bk σ' H'
 | .cont=>∃σ' H',Inv X pins σ' H' s'/\D.ct σ' H'
 | .ret u=>∃v σ' H',Inv X pins σ' H' s'/\RelV v u/\D.rt v H'
def PE(X:Cx)(e:Expr)(t:TE):Prop:=
 ∀(pins:List (Addr×Obj))(s:Shared)(σ:St)(H:Hp)(Q:VK),Inv X pins σ H s->t σ H Q->wpAny (model X.prog X.w) X.A (eval e X.env) (EP X pins σ Q) X.xe s
def PA(X:Cx)(es:List Expr)(t:TA):Prop:=
 ∀(pos:Pos)(pins:List (Addr×Obj))(s:Shared)(σ:St)(H:Hp)(Q:List V->Hp->Prop),Inv X pins σ H s->t σ H Q->wpAny (model X.prog X.w) X.A (spliced (backTo pos (starEach es X.env))) (AP X pins σ Q) X.xe s
def PS(X:Cx)(st:Stmt)(t:TS):Prop:=
 ∀(pins:List (Addr×Obj))(s:Shared)(σ:St)(H:Hp)(D:Ends),Inv X pins σ H s->t D σ H->wpAny (model X.prog X.w) X.A (exec st X.env) (SP X pins D) X.xe s
def PSs(X:Cx)(st:List Stmt)(t:TS):Prop:=
 ∀(pins:List (Addr×Obj))(s:Shared)(σ:St)(H:Hp)(D:Ends),Inv X pins σ H s->t D σ H->wpAny (model X.prog X.w) X.A (execs st X.env) (SP X pins D) X.xe s
theorem thn{α:Type}{t:Sem α}{Q Q':α->Shared->Prop}{M:Model}{A:Around}{E:Value->Shared->Prop}{s:Shared}(h:wpAny M A t Q E s)(hQ:∀a s,Q a s->Q' a s):wpAny M A t Q' E s:=wpAny_mono h hQ λ _ _ x=>x
end L2
namespace L2
open PySem PySem.Spec PyProof.Rows
variable {x : Str} {u : Value}
section
variable {X : Cx}
def Up(i:Nat):TE:=λ σ H Q=>∃v,σ[i]? =some (some v)/\Q v H
def tC(v:V):TE:=λ _ H Q=>Q v H
theorem pZ{i:Nat}{pos:Pos}(hN:X.N[i]? =some x)(hv:Vis X.env.scope x)(hd:(x==("__debug__":Str))=false:=by decide)(hcd:(x==("__classdict__":Str))=false:=by decide):PE X (.Name x pos) (Up i):=by
 intro pins s σ H Q I h
 obtain⟨v,e,h⟩:=h
 obtain⟨m,hn,hl⟩:=I.loc
 obtain⟨u,r,l⟩:=hl i x v hN e hv
 have fin:EP X pins σ Q u s:=⟨v,H,I,r,h⟩
 rcases l with⟨hk,hm⟩ | ⟨hk,c,hc,hcell⟩
 . exact wpAny_Name (wpAny_loadName_local I.ok.kind hk hn hm fin) hd
 . rcases hk with hk | hk
   . exact wpAny_Name (wpAny_loadName_cell I.ok.kind hk hc hcell fin) hd
   . exact wpAny_Name (wpAny_loadName_free I.ok.kind hk hc hcell fin hcd) hd
theorem RK{i j pos}:PE X (.Constant (.int i) j pos) (tC (.int i)):=λ _ _ _ H _ I h=>wpAny_Constant_int ⟨.int i,H,I.tok _,⟨_,rfl⟩,h⟩
theorem LQ{b j pos}:PE X (.Constant (.bool b) j pos) (tC (.bl b)):=λ _ _ _ H _ I h=>Constant_bool ⟨.bl b,H,I,rfl,h⟩
theorem Jm{j pos}:PE X (.Constant .none j pos) (tC .non):=λ _ _ _ H _ I h=>Constant_none ⟨.non,H,I,rfl,h⟩
theorem Jt{x j pos}:PE X (.Constant (.str x) j pos) (tC (.str x)):=λ _ _ _ H _ I h=>Calls.Constant_str ⟨.str x,H,I.tok _,⟨_,rfl⟩,h⟩
def Gl(X:Cx)(x:Str):Prop:=X.env.kindOf x=some .globalImplicit
theorem jc{E:Value->Shared->Prop}{pins:List (Addr×Obj)}{s:Shared}{σ:St}{H:Hp}{pos:Pos}{Q:Value->Shared->Prop}(I:Inv X pins σ H s)(hg:Gl X x)(hm:X.mg x=some u)(h:Q u s)
 (hd:(x==("__debug__":Str))=false:=by decide):wpAny (model X.prog X.w) X.A (eval (.Name x pos) X.env) Q E s:=
 Calls.Name_function_global I.ok.kind hg (Calls.loadGlobal_global (by rw[I.ok.glob];exact I.mod.glob.keeps I.bk) hm h) hd
theorem aY{E:Value->Shared->Prop}{pins:List (Addr×Obj)}{s:Shared}{σ:St}{H:Hp}{pos:Pos}{Q:Value->Shared->Prop}(I:Inv X pins σ H s)(hg:Gl X x)(hm:X.mg x=none)(hv:bootBuiltins x=some u)(h:Q u s)
 (hn:x≠"__name__":=by decide)(hd:(x==("__debug__":Str))=false:=by decide):wpAny (model X.prog X.w) X.A (eval (.Name x pos) X.env) Q E s:=by
 obtain⟨mb,h1,h2⟩:=I.mod.blt
 exact Calls.Name_function_global I.ok.kind hg (Calls.loadGlobal_builtin (by rw[I.ok.glob];exact I.mod.glob.keeps I.bk) hm (by rw[I.ok.blt];exact h1.keeps I.bk) ((h2 x hn).trans hv) h) hd
theorem Em{v:V}{pos:Pos}(hg:Gl X x)(hm:X.mg x=some u)(r:RelV v u)(hd:(x==("__debug__":Str))=false:=by decide):PE X (.Name x pos) (tC v):=
 λ _ _ _ H _ I h=>jc I hg hm ⟨v,H,I,r,h⟩ hd
theorem Df{v:V}{pos:Pos}(hg:Gl X x)(hm:X.mg x=none)(hv:bootBuiltins x=some u)(r:RelV v u)(hn:x≠"__name__":=by decide)(hd:(x==("__debug__":Str))=false:=by decide):PE X (.Name x pos) (tC v):=
 λ _ _ _ H _ I h=>aY I hg hm hv ⟨v,H,I,r,h⟩ hn hd
variable {a b : Expr} {ta tb : TE} {pos : Pos}
variable {tA tB' : TT} {rest : List Expr}
end
end L2
namespace L2
open PySem PySem.Spec PyProof.Rows
variable {K : PySem.W.Frag} {tg : Expr}
def SqL(K:PySem.W.Frag)(H:Hp)(a:Addr)(xs:List V):Prop:=
 Rd H a (.lst xs)∨
  ∃(o:Obj) (its:Array Value) (n:Nat),K.lookup a=some o/\o.cls=.type "list"/\o.dict=none/\o.data=.seq its n/\its.size≤sizeLine/\Vals xs its.toList
def SqT(K:PySem.W.Frag)(H:Hp)(a:Addr)(xs:List V):Prop:=
 Rd H a (.tup xs)∨
  ∃(o:Obj) (its:Array Value) (n:Nat),K.lookup a=some o/\o.cls=.type "tuple"/\o.data=.seq its n/\its.size≤sizeLine/\Vals xs its.toList
def Ux:Value->Option V
 | .none=>some .non
 | .bool b=>some (.bl b)
 | .int i _=>some (.int i)
 | .str x _=>some (.str x)
 | .bytes b _=>some (.byt b)
 | .float b _=>some (.flt b)
 | .ref a=>some (.ref a)
 | .type n=>some (.ty n)
 | _=>none
theorem RelV.abs{x:V}{u:Value}(r:RelV x u):Ux u=some x:=by
 cases x with
 | non=>cases r;rfl
 | bl _=>cases r;rfl
 | int _=>obtain⟨t,rfl⟩:=r;rfl
 | str _=>obtain⟨t,rfl⟩:=r;rfl
 | byt _=>obtain⟨t,rfl⟩:=r;rfl
 | flt _=>obtain⟨t,rfl⟩:=r;rfl
 | ref _=>cases r;rfl
 | ty _=>cases r;rfl
theorem RelV.inj{x y:V}{u:Value}(r:RelV x u)(q:RelV y u):x=y:=Option.some.inj (r.abs.symm.trans q.abs)
theorem Vals.inj:∀{xs ys:List V}{us:List Value},Vals xs us->Vals ys us->xs=ys
 | _,_,_,.nil,.nil=>rfl
 | _,_,_,.cons r t,.cons r' t'=>by rw[r.inj r',Vals.inj t t']
section
variable {X : Cx} {pins : List (Addr × Obj)} {σ : St} {H : Hp} {s : Shared} {a : Addr} {xs ys : List V}
theorem SqL.of(h:H a=some (.lst xs)):SqL K H a xs:=.inl (.inl h)
theorem SqT.of(h:H a=some (.tup xs)):SqT K H a xs:=.inl (.inl h)
theorem Inv.list(I:Inv X pins σ H s)(h:SqL X.K H a xs):∃its:List Value,Vals xs its/\PlainL s.heap a its.toArray/\xs.length≤sizeLine:=by
 rcases h with h | ⟨o,its,n,hk,hc,hd,hs,hz,r⟩
 . obtain⟨z,its,n,r,e⟩:=h.ok I.hok
   exact⟨its,r,⟨_,n,e,rfl,rfl,rfl⟩,z⟩
 . refine⟨its.toList,r,⟨o,n,I.kIn a o hk,hc,hd,by simpa using hs⟩,?_⟩
   have e:=r.length
   simp only[Array.length_toList]at e
   omega
theorem Inv.tuple(I:Inv X pins σ H s)(h:SqT X.K H a xs):∃its:List Value,Vals xs its/\IsTup s.heap a its.toArray/\xs.length≤sizeLine:=by
 rcases h with h | ⟨o,its,n,hk,hc,hs,hz,r⟩
 . obtain⟨z,its,r,p⟩:=h.ok I.hok
   exact⟨its,r,p,z⟩
 . refine⟨its.toList,r,⟨o,I.kIn a o hk,hc,n,by simpa using hs⟩,?_⟩
   have e:=r.length
   simp only[Array.length_toList]at e
   omega
theorem Inv.list_inj(I:Inv X pins σ H s)(h:SqL X.K H a xs)(h':SqL X.K H a ys):xs=ys:=by
 obtain⟨its,r,⟨o,n,e,_,_,d⟩,_⟩:=I.list h
 obtain⟨its',r',⟨o',n',e',_,_,d'⟩,_⟩:=I.list h'
 rw[e]at e';cases e'
 rw[d]at d'
 injection d' with d1 _
 have:its=its':=by simpa using congrArg Array.toList d1
 subst this
 exact r.inj r'
theorem Inv.tuple_inj(I:Inv X pins σ H s)(h:SqT X.K H a xs)(h':SqT X.K H a ys):xs=ys:=by
 obtain⟨its,r,⟨o,e,_,n,d⟩,_⟩:=I.tuple h
 obtain⟨its',r',⟨o',e',_,n',d'⟩,_⟩:=I.tuple h'
 rw[e]at e';cases e'
 rw[d]at d'
 injection d' with d1 _
 have:its=its':=by simpa using congrArg Array.toList d1
 subst this
 exact r.inj r'
end
abbrev Cx.wish(X:Cx)(E:Value->Shared->Prop):Cx:={X with xe:=E}
abbrev Cx.nox(X:Cx):Cx:=X.wish λ _ _=>False
theorem Cx.Ok.wish{X:Cx}(ok:X.Ok)(E:Value->Shared->Prop):(X.wish E).Ok:=
 ⟨ok.mod,ok.kind,ok.glob,ok.blt,ok.above,ok.inj,ok.has,ok.cab,ok.hd,ok.frames,ok.stk,ok.exf,ok.bs,ok.bsz,ok.noex,ok.exfs,ok.funs,ok.frf⟩
theorem Cx.Ok.unwish{X:Cx}{E:Value->Shared->Prop}(ok:(X.wish E).Ok):X.Ok:=
 ⟨ok.mod,ok.kind,ok.glob,ok.blt,ok.above,ok.inj,ok.has,ok.cab,ok.hd,ok.frames,ok.stk,ok.exf,ok.bs,ok.bsz,ok.noex,ok.exfs,ok.funs,ok.frf⟩
section
variable {X : Cx} {pins : List (Addr × Obj)} {σ : St} {H : Hp} {s : Shared} {E : Value -> Shared -> Prop}
theorem Inv.wish(I:Inv X pins σ H s)(E:Value->Shared->Prop):Inv (X.wish E) pins σ H s:=⟨I.ok.wish E,I.os,I.bare,I.base,I.loc,I.cell,I.free,I.freeC,I.pin,I.hok,I.len⟩
theorem Inv.unwish(I:Inv (X.wish E) pins σ H s):Inv X pins σ H s:=⟨I.ok.unwish,I.os,I.bare,I.base,I.loc,I.cell,I.free,I.freeC,I.pin,I.hok,I.len⟩
theorem SP.unwish{D:Ends}{f:Flow}{s':Shared}(h:SP (X.wish E) pins D f s'):SP X pins D f s':=by
 cases f with
 | next=>obtain⟨σ',H',I,q⟩:=h;exact⟨σ',H',I.unwish,q⟩
 | brk=>obtain⟨σ',H',I,q⟩:=h;exact⟨σ',H',I.unwish,q⟩
 | cont=>obtain⟨σ',H',I,q⟩:=h;exact⟨σ',H',I.unwish,q⟩
 | ret u=>obtain⟨v,σ',H',I,r,q⟩:=h;exact⟨v,σ',H',I.unwish,r,q⟩
theorem PSs.nox{st:List Stmt}{t:TS}(h:PSs X.nox st t):PSs X st t:=λ pins s σ H D I hw=>
 wpAny_mono (h pins s σ H D (I.wish _) hw) (λ _ _ q=>q.unwish) λ _ _ z=>False.elim z
end
section
variable {X : Cx} {st : Stmt} {rest : List Stmt} {t u : TS} {e : Expr} {te : TE} {pos : Pos}
theorem Inv.quiet{pins:List (Addr×Obj)}{σ:St}{H:Hp}{s:Shared}(I:Inv X pins σ H s):interactive X.env=false:=by simp[interactive,I.ok.kind]
end
abbrev TG:=V->St->Hp->(St->Hp->Prop)->Prop
def PG(X:Cx)(target:Expr)(t:TG):Prop:=
 ∀ (pins:List (Addr×Obj))(s:Shared)(σ:St)(H:Hp)(v:V)(u:Value)(Q:St->Hp->Prop),Inv X pins σ H s->RelV v u->t v σ H Q->
   wpAny (model X.prog X.w) X.A (assign target X.env u) (λ _ s'=>∃σ' H',Inv X pins σ' H' s'/\Q σ' H') X.xe s
abbrev Ud:=V->V->V->Hp->(Hp->Prop)->Prop
def Uq(X:Cx)(t:Ud):Prop:=
 ∀ (pins:List (Addr×Obj))(s:Shared)(σ:St)(H:Hp)(o i v:V)(ov iv u:Value)(Q:Hp->Prop),Inv X pins σ H s->RelV o ov->RelV i iv->RelV v u->t o i v H Q->
   wpAny (model X.prog X.w) X.A (setItem ov iv u) (λ _ s'=>∃H',Inv X pins σ H' s'/\Q H') X.xe s
structure It where
 go:Nat->Hp->Prop
 yld:Nat->Hp->V->Hp->Prop
 stop:Nat->Hp->Prop
def dW(X:Cx)(pins:List (Addr×Obj))(H:Hp)(b:Addr):Prop:=
 H b=none/\b≠X.env.locals/\b∉X.fs/\(b∈X.ex∨X.s₀.heap.objs.size≤b)/\(∀x c,X.env.cells.lookup x=some c->c≠b)/\∀p∈X.pn++pins,p.1≠b
theorem Inv.fpOk{X:Cx}{pins:List (Addr×Obj)}{σ:St}{H H':Hp}{s:Shared}{b:Addr}(I:Inv X pins σ H s)(hb:s.heap.objs.size≤b)(hn:H' b=none):dW X pins H' b:=by
 refine⟨hn,Nat.ne_of_gt (Nat.lt_of_lt_of_le I.lt hb),I.nofs hb,.inr (Nat.le_trans I.sz hb),λ x c e z=>?_,λ p hp z=>?_⟩
 . obtain⟨v,q⟩:=I.cell x c e
   exact absurd (Nat.lt_of_lt_of_le q.lt (by rw[z];exact hb)) (Nat.lt_irrefl _)
 . exact absurd (Nat.lt_of_lt_of_le (Heap.lt_size (I.pin p hp).1) (by rw[z];exact hb)) (Nat.lt_irrefl _)
structure Turn(P:Program)(w:World)(K:PySem.W.Frag)(tg:Expr)(J:It)(fp:List Addr)(it:Addr)(tn:Nat->Heap->Prop):Prop where
 mem:it∈fp
 obj:∀i h,tn i h->∀b∈fp,∃o,h.get? b=some o/\∀v,o.data≠.cell v
 keep:∀i h h',tn i h->(∀b∈fp,∀o,h.get? b=some o->h'.get? b=some o)->tn i h'
 item:∀(X:Cx),X.prog=P->X.w=w->X.K=K->X.calm=true->∀(i:Nat)(pins:List (Addr×Obj))(s:Shared)(σ:St)(H:Hp)(E:Value->Shared->Prop),Inv X pins σ H s->(∀b∈fp,dW X pins H b)->tn i s.heap->J.go i H->
  wpAny (model P w) X.A (pyNext (.ref it)) (λ r s1=>∃u,r=some u/\
   wpAny (model P w) X.A (letOwnedTupleGo tg (.ref it) u) (λ _ s2=>∃x H',Inv X pins σ H' s2/\RelV x u/\J.yld i H x H'/\tn (i+1) s2.heap/\∀b∈fp,H' b=none) E s1) E s
 done:∀(X:Cx),X.prog=P->X.w=w->X.K=K->X.calm=true->∀(i:Nat)(pins:List (Addr×Obj))(s:Shared)(σ:St)(H:Hp)(E:Value->Shared->Prop),Inv X pins σ H s->(∀b∈fp,dW X pins H b)->tn i s.heap->J.stop i H->
  wpAny (model P w) X.A (pyNext (.ref it)) (λ r s1=>r=none/\Inv X pins σ H s1) E s
 self:∀(A:Around)(i:Nat)(s:Shared)(Q:Value->Shared->Prop)(E:Value->Shared->Prop),tn i s.heap->Q (.ref it) s->wpAny (model P w) A (pyIter (.ref it)) Q E s
abbrev TI:=St->Hp->(It->Hp->Prop)->Prop
def PIE(X:Cx)(pins:List (Addr×Obj))(σ:St)(tg:Expr)(R:It->Hp->Prop)(itv:Value)(s2:Shared):Prop:=
 ∃(it:Addr) (fp:List Addr) (tn:Nat->Heap->Prop) (J:It) (H':Hp),itv=.ref it/\Inv X pins σ H' s2/\Turn X.prog X.w X.K tg J fp it tn/\tn 0 s2.heap/\(∀b∈fp,dW X pins H' b)/\R J H'
def PI(X:Cx)(tg iter:Expr)(wi:TI):Prop:=
 ∀ (pins:List (Addr×Obj))(s:Shared)(σ:St)(H:Hp)(R:It->Hp->Prop),Inv X pins σ H s->wi σ H R->
   wpAny (model X.prog X.w) X.A (eval iter X.env) (λ v s1=>wpAny (model X.prog X.w) X.A (pyIter v) (PIE X pins σ tg R) X.xe s1) X.xe s
theorem Fi{M:Model}{A:Around}{E:Value->Shared->Prop}{s:Shared}{it:Addr}{u:Value}{o:Obj}{n:String}{vs:Array Value}{Q:Unit->Shared->Prop}(ho:s.heap.get? it=some o)(hc:o.cls=.type n)(hd:o.data=.fields vs)
 (hn:["enumerate","zip","dict_itemiterator","dict_reverseitemiterator","odict_iterator","itertools.zip_longest","itertools.pairwise"].contains n=false)(hQ:Q () s):wpAny M A (letOwnedTupleGo tg (.ref it) u) Q E s:=by
 unfold letOwnedTupleGo
 cases tg<;>first
  | exact wpAny_pure hQ
  | (cases u<;>first
   | exact wpAny_pure hQ
   | (refine wpAny_bind (wpAny_load ho ?_)
      rw[hc,hd]
      show wpAny M A (if(["enumerate","zip","dict_itemiterator","dict_reverseitemiterator","odict_iterator","itertools.zip_longest","itertools.pairwise"].contains n&&vs[0]? ==some (rawInt _))=true then _ else _) Q E s
      rw[if_neg (by intro h;rw[hn,Bool.false_and]at h;cases h)]
      exact wpAny_pure hQ))
def Itl(K:PySem.W.Frag)(a:Addr):It:=
 ⟨λ i H=>∃xs x,SqL K H a xs/\xs[i]? =some x,λ i H x H'=>H'=H/\∀xs,SqL K H a xs->xs[i]? =some x,λ i H=>∃xs,SqL K H a xs/\xs.length≤i⟩
def Itt(K:PySem.W.Frag)(a:Addr):It:=
 ⟨λ i H=>∃xs x,SqT K H a xs/\xs[i]? =some x,λ i H x H'=>H'=H/\∀xs,SqT K H a xs->xs[i]? =some x,λ i H=>∃xs,SqT K H a xs/\xs.length≤i⟩
def Itr(lo:Int)(n:Nat):It:=⟨λ i _=>i<n,λ i H x H'=>H'=H/\x=.int (lo+i),λ i _=>n≤i⟩
theorem lQ{P:Program}{w:World}(a it:Addr):Turn P w K tg (Itl K a) [it] it (λ i h=>h.IsListIter it a i) where
 mem:=by simp
 obj:=λ i h st b hb=>by
  have e:b=it:=by simpa using hb
  subst e
  obtain⟨o,e,c,d⟩:=st
  exact⟨o,e,λ v z=>by rw[d]at z;cases z⟩
 keep:=λ i h h' st k=>st.at λ o e=>k it (by simp) o e
 item:=by
  intro X hP hw hK hc i pins s σ H E I hf st hg
  subst hP hw hK
  obtain⟨xs,x,hq,hx⟩:=hg
  obtain⟨its,rv,p,hz⟩:=I.list hq
  obtain⟨u,hu,ru⟩:=rv.get hx
  obtain⟨f0,f1,f2,f3,f4,f5⟩:=hf it (by simp)
  refine wpAny_pyNext_list_item st p.isList (x:=u) (by simpa using hu) λ h' st' sb=>?_
  have I1:Inv X pins σ H {s with heap:=h'}:=I.turned (t':=s.toks) (λ b o hb e=>(sb.2 b hb).trans e) f0 f1 f3 f4 f5
  obtain⟨o,e,c,d⟩:=id st'
  exact⟨u,rfl,Fi (s:={s with heap:=h'}) e c d (by decide) ⟨x,H,I1,ru,⟨rfl,λ ys hy=>by rw[I.list_inj hy hq];exact hx⟩,st',λ b hb=>(hf b hb).1⟩⟩
 done:=by
  intro X hP hw hK hc i pins s σ H E I hf st hg
  subst hP hw hK
  obtain⟨xs,hq,hx⟩:=hg
  obtain⟨its,rv,p,hz⟩:=I.list hq
  obtain⟨f0,f1,f2,f3,f4,f5⟩:=hf it (by simp)
  have hl:=rv.length
  exact wpAny_pyNext_list_end (I.ok.hd hc) st p.isList (by simp;omega) λ h' eb=>⟨rfl,I.turned (t':=s.toks) (λ b o hb e=>eb b o hb e) f0 f1 f3 f4 f5⟩
 self:=λ _ _ _ _ _ st h=>wpAny_pyIter_listiter st h
theorem qz{P:Program}{w:World}(a it:Addr):Turn P w K tg (Itt K a) [it] it (λ i h=>h.IsTupleIter it a i) where
 mem:=by simp
 obj:=λ i h st b hb=>by
  have e:b=it:=by simpa using hb
  subst e
  obtain⟨o,e,c,d⟩:=st
  exact⟨o,e,λ v z=>by rw[d]at z;cases z⟩
 keep:=λ i h h' st k=>st.at λ o e=>k it (by simp) o e
 item:=by
  intro X hP hw hK hc i pins s σ H E I hf st hg
  subst hP hw hK
  obtain⟨xs,x,hq,hx⟩:=hg
  obtain⟨its,rv,p,hz⟩:=I.tuple hq
  obtain⟨u,hu,ru⟩:=rv.get hx
  obtain⟨f0,f1,f2,f3,f4,f5⟩:=hf it (by simp)
  refine wpAny_pyNext_tuple_item st (show s.heap.IsTuple a its.toArray from p) (x:=u) (by simpa using hu) λ h' st' sb=>?_
  have I1:Inv X pins σ H {s with heap:=h'}:=I.turned (t':=s.toks) (λ b o hb e=>(sb.2 b hb).trans e) f0 f1 f3 f4 f5
  obtain⟨o,e,c,d⟩:=id st'
  exact⟨u,rfl,Fi (s:={s with heap:=h'}) e c d (by decide) ⟨x,H,I1,ru,⟨rfl,λ ys hy=>by rw[I.tuple_inj hy hq];exact hx⟩,st',λ b hb=>(hf b hb).1⟩⟩
 done:=by
  intro X hP hw hK hc i pins s σ H E I hf st hg
  subst hP hw hK
  obtain⟨xs,hq,hx⟩:=hg
  obtain⟨its,rv,p,hz⟩:=I.tuple hq
  obtain⟨f0,f1,f2,f3,f4,f5⟩:=hf it (by simp)
  have hl:=rv.length
  exact wpAny_pyNext_tuple_end (I.ok.hd hc) st (show s.heap.IsTuple a its.toArray from p) (by simp;omega) λ h' eb=>⟨rfl,I.turned (t':=s.toks) (λ b o hb e=>eb b o hb e) f0 f1 f3 f4 f5⟩
 self:=λ _ _ _ _ _ st h=>wpAny_pyIter_tupleiter st h
theorem Gh{P:Program}{w:World}(it:Addr)(lo:Int)(n:Nat):Turn P w K tg (Itr lo n) [it] it (λ i h=>IsRangeIter h it (lo+(i:Nat)*1) ((n:Int)-(i:Nat)) 1) where
 mem:=by simp
 obj:=λ i h st b hb=>by
  have e:b=it:=by simpa using hb
  subst e
  exact⟨_,st,λ v z=>by
   have z':Data.fields _=Data.cell v:=z
   cases z'⟩
 keep:=λ i h h' st k=>k it (by simp) _ st
 item:=by
  intro X hP hw hK hc i pins s σ H E I hf st hg
  subst hP hw hK
  obtain⟨f0,f1,f2,f3,f4,f5⟩:=hf it (by simp)
  have W:=Walks.range (prog:=X.prog) (w:=X.w) (I.ok.hd hc) it lo 1 n
  refine W.item i s _ _ hg st λ v h' tk hv st' kk=>?_
  obtain⟨t,rfl⟩:=hv
  have I1:Inv X pins σ H {s with heap:=h',toks:=tk}:=I.turned (λ b o hb e=>kk b o (by simpa using hb) e) f0 f1 f3 f4 f5
  refine⟨_,rfl,Fi (s:={s with heap:=h',toks:=tk}) (n:="range_iterator") st' rfl rfl (by decide) ⟨.int (lo+i),H,I1,⟨t,?_⟩,⟨rfl,rfl⟩,st',λ b hb=>(hf b hb).1⟩⟩
  rw[Int.mul_one]
 done:=by
  intro X hP hw hK hc i pins s σ H E I hf st hg
  subst hP hw hK
  obtain⟨f0,f1,f2,f3,f4,f5⟩:=hf it (by simp)
  exact wpAny_pyNext_range_end (I.ok.hd hc) st (by have:n≤i:=hg;omega) λ h' eb=>⟨rfl,I.turned (t':=s.toks) (λ b o hb e=>eb b o hb e) f0 f1 f3 f4 f5⟩
 self:=λ _ _ _ _ _ st h=>wpAny_pyIter_rangeiter st h
end L2
namespace L2
open PySem PySem.Spec PyProof.Rows
section
variable {X : Cx} {tg : Expr}
theorem yw{pins:List (Addr×Obj)}{σ:St}{H:Hp}{s:Shared}{R:It->Hp->Prop}{E:Value->Shared->Prop}{lo hi:Int}{t u v:Tok}{tk:Nat}(I:Inv X pins σ H s)(h1: -(2 ^ 62)≤lo)(h2:lo<2 ^ 62)(h3: -(2 ^ 62)≤hi)(h4:hi<2 ^ 62)
 (q:R (Itr lo (hi-lo).toNat) H):wpAny (model X.prog X.w) X.A (pyIter (.ref s.heap.objs.size)) (PIE X pins σ tg R) E {s with heap:=s.heap.push {cls:=.type "range",data:=.fields #[.int lo t,.int hi u,.int 1 v]},toks:=tk}:=by
 refine wpAny_pyIter_range (IsRange.new ..) (small_one h1 h2 h3 h4) ?_
 have I1:Inv X pins σ H {s with heap:=s.heap.push {cls:=.type "range",data:=.fields #[.int lo t,.int hi u,.int 1 v]},toks:=tk}:=I.kept λ b o e=>Heap.get?_push_of_some _ e
 refine⟨(s.heap.push {cls:=.type "range",data:=.fields #[.int lo t,.int hi u,.int 1 v]}).objs.size,[(s.heap.push {cls:=.type "range",data:=.fields #[.int lo t,.int hi u,.int 1 v]}).objs.size],_,_,H,rfl,
  I1.kept (t':=tk) λ b o e=>Heap.get?_push_of_some _ e,Gh _ lo (hi-lo).toNat,?_,λ b hb=>?_,q⟩
 . have e1:lo+((0:Nat):Int)*1=lo:=by simp
   have e2:(((hi-lo).toNat:Nat):Int)-((0:Nat):Int)=Builtin.Range.rangeSize lo hi 1:=by rw[rangeSize_one];split<;>omega
   show IsRangeIter _ _ (lo+((0:Nat):Int)*1) ((((hi-lo).toNat:Nat):Int)-((0:Nat):Int)) 1
   rw[e1,e2]
   exact Heap.get?_push_size _ rfl
 . have e:b=(s.heap.push {cls:=.type "range",data:=.fields #[.int lo t,.int hi u,.int 1 v]}).objs.size:=by simpa using hb
   subst e
   exact I1.fpOk (x5 _) (I1.hok.fresh (x5 _))
def Sg(ta:TA):TI:=λ σ H R=>ta σ H λ vs H1=>∃j:Int,vs=[.int j]/\ -(2 ^ 62)≤j/\j<2 ^ 62/\R (Itr 0 j.toNat) H1
def R7(ta:TA):TI:=λ σ H R=>ta σ H λ vs H1=>∃i j:Int,vs=[.int i,.int j]/\(-(2 ^ 62)≤i/\i<2 ^ 62/\ -(2 ^ 62)≤j/\j<2 ^ 62)/\R (Itr i (j-i).toNat) H1
theorem Ho{a:Expr}{ta:TA}{p pos:Pos}(hg:Gl X "range")(hm:X.mg "range"=none)(ha:PA X [a] ta)(hs:starEach [a] X.env=[(false,eval a X.env)]:=by rfl):PI X tg (.Call (.Name "range" p) [a] [] pos) (Sg ta):=by
 intro pins s σ H R I h
 refine Call_ (aY I hg hm boot_range (PyProof.Rows.callWith_type1 (thn (ha pos pins s σ H _ I h) λ us s1 ⟨vs,H1,I1,r1,q1⟩=>?_) hs rfl))
 obtain⟨j,e,q1,q2,q⟩:=q1
 subst e
 cases r1 with
 | cons r rr=>
   cases rr
   obtain⟨t,rfl⟩:=r
   exact call_range_1 (yw I1 (by omega) (by omega) q1 q2 (by simpa using q))
theorem G9{a b:Expr}{ta:TA}{p pos:Pos}(hg:Gl X "range")(hm:X.mg "range"=none)(ha:PA X [a,b] ta)(hs:starEach [a,b] X.env=[(false,eval a X.env),(false,eval b X.env)]:=by rfl)(hs2:starEach [b] X.env=[(false,eval b X.env)]:=by rfl):
 PI X tg (.Call (.Name "range" p) [a,b] [] pos) (R7 ta):=by
 intro pins s σ H R I h
 refine Call_ (aY I hg hm boot_range (PyProof.Rows.callWith_type1 (thn (ha pos pins s σ H _ I h) λ us s1 ⟨vs,H1,I1,r1,q1⟩=>?_) (by rw[hs,hs2]) (by rw[hs2];rfl)))
 obtain⟨i,j,e,⟨q1,q2,q3,q4⟩,q⟩:=q1
 subst e
 cases r1 with
 | cons r rr=>
   cases rr with
   | cons r' rr=>
     cases rr
     obtain⟨t,rfl⟩:=r
     obtain⟨t',rfl⟩:=r'
     exact call_range_2 (yw I1 q1 q2 q3 q4 q)
def U0(wi:TI)(g:TG)(tb:TS):TS:=λ D σ H=>wi σ H λ J H1=>∃W:Nat->Nat->St->Hp->Prop,(∃m,W 0 m σ H1)/\∀i m σ H,W i m σ H->
 (J.stop i H/\D.nx σ H)∨(J.go i H/\∃N:St->Hp->Prop,(∀σ' H',N σ' H'->∃m',m'<m/\W (i+1) m' σ' H')/\∀x H',J.yld i H x H'->g x σ H' λ σ2 H2=>tb {D with nx:=N,ct:=N,bk:=D.nx} σ2 H2)
def lN(fp:List Addr)(h:Heap):List (Addr×Obj):=fp.filterMap λ b=>(h.get? b).map λ o=>(b,o)
theorem fG{fp:List Addr}{h:Heap}{b:Addr}{o:Obj}(hb:b∈fp)(e:h.get? b=some o):(b,o)∈lN fp h:=List.mem_filterMap.mpr ⟨b,hb,by rw[e];rfl⟩
theorem Jb{fp:List Addr}{h:Heap}{p:Addr×Obj}(hp:p∈lN fp h):p.1∈fp/\h.get? p.1=some p.2:=by
 obtain⟨b,hb,e⟩:=List.mem_filterMap.mp hp
 cases q:h.get? b with
 | none=>rw[q]at e;cases e
 | some o=>
   rw[q]at e
   have e':(b,o)=p:=Option.some.inj e
   subst e'
   exact⟨hb,q⟩
theorem Inv.pinned{pins:List (Addr×Obj)}{σ:St}{H:Hp}{s:Shared}{fp:List Addr}(I:Inv X pins σ H s)(hf:∀b∈fp,dW X pins H b)(ho:∀b∈fp,∃o,s.heap.get? b=some o/\∀v,o.data≠.cell v):Inv X (pins++lN fp s.heap) σ H s:=
 I.pins_of λ p hp=>(List.mem_append.mp hp).elim (λ z=>I.pin p (List.mem_append_right _ z)) λ z=>by
  obtain⟨hb,e⟩:=Jb z
  obtain⟨f0,f1,f2,_⟩:=hf p.1 hb
  obtain⟨o,e',d⟩:=ho p.1 hb
  rw[e]at e';cases e'
  exact⟨e,f0,f1,f2,d⟩
theorem Inv.unpinned{pins pl:List (Addr×Obj)}{σ:St}{H:Hp}{s:Shared}(I:Inv X (pins++pl) σ H s):Inv X pins σ H s:=I.pins_of λ p hp=>I.pin p (List.mem_append_right _ (List.mem_append_left _ hp))
theorem Je{iter:Expr}{body:List Stmt}{wi:TI}{g:TG}{tb:TS}{pos:Pos}(hp:PassesOwn (model X.prog X.w) X.A X.env X.xe)(hc:X.calm=true)(hi:PI X tg iter wi)(hg:PG X tg g)(hb:PSs X body tb)
 (hs:∀x,foldedSetIterable iter X.env x=pure x:=by intro _;rfl):PS X (.For tg iter body [] pos) (U0 wi g tb):=by
 intro pins s σ H D I h
 refine wpAny_For (thn (hi pins s σ H _ I h) λ v s1 h1=>thn h1 λ itv s2 h2=>?_) hs
 obtain⟨it,fp,tn,J,H2,e,I2,T,st2,f2,W,⟨m0,w0⟩,turn⟩:=h2
 subst e
 have stat:∀{H':Hp},(∀b∈fp,H' b=none)->∀b∈fp,dW X pins H' b:=λ hn b hb=>⟨hn b hb,(f2 b hb).2⟩
 refine codeAny_forLoop_any (λ n s'=>∃i σ' H',Inv X pins σ' H' s'/\tn i s'.heap/\(∀b∈fp,H' b=none)/\W i n σ' H') ?_ m0 ⟨0,σ,H2,I2,st2,λ b hb=>(f2 b hb).1,w0⟩
 rintro n s3 ⟨i,σ3,H3,I3,st3,fr3,w3⟩
 rcases turn i n σ3 H3 w3 with⟨stop,qn⟩ | ⟨go,N,hN,step⟩
 . refine wpAny_passesOwn hp (thn (T.done X rfl rfl rfl hc i pins s3 σ3 H3 X.xe I3 (stat fr3) st3 stop) λ r s4 ⟨hr,I4⟩=>?_)
   subst hr
   exact wpAny_execs_nil ⟨σ3,H3,I4,qn⟩
 . refine wpAny_passesOwn hp (thn (T.item X rfl rfl rfl hc i pins s3 σ3 H3 X.xe I3 (stat fr3) st3 go) λ r s4 ⟨u,hr,h4⟩=>?_)
   subst hr
   refine wpAny_passesOwn hp (thn h4 λ _ s5 ⟨x,H5,I5,r5,y5,st5,fr5⟩=>?_)
   have I5':=I5.pinned (stat fr5) (T.obj _ _ st5)
   refine wpAny_passesOwn hp (thn (hg _ s5 σ3 H5 x u _ I5' r5 (step x H5 y5)) λ _ s6 ⟨σ6,H6,I6,q6⟩=>?_)
   refine wpAny_passesOwn hp (thn (hb _ s6 σ6 H6 _ I6 q6) λ f s7 q7=>?_)
   have again:∀{σ7:St}{H7:Hp},Inv X (pins++lN fp s5.heap) σ7 H7 s7->N σ7 H7->∃m,m<n/\∃i σ' H',Inv X pins σ' H' s7/\tn i s7.heap/\(∀b∈fp,H' b=none)/\W i m σ' H':=λ{σ7 H7} I7 n7=>by
    obtain⟨m',hm,w7⟩:=hN σ7 H7 n7
    refine⟨m',hm,i+1,σ7,H7,I7.unpinned,T.keep _ _ _ st5 λ b hb o e=>(I7.pin (b,o) (List.mem_append_right _ (List.mem_append_right _ (fG hb e)))).1,λ b hb=>?_,w7⟩
    obtain⟨o,e,d⟩:=T.obj _ _ st5 b hb
    exact(I7.pin (b,o) (List.mem_append_right _ (List.mem_append_right _ (fG hb e)))).2.1
   cases f with
   | next=>obtain⟨σ7,H7,I7,n7⟩:=q7;exact again I7 n7
   | cont=>obtain⟨σ7,H7,I7,n7⟩:=q7;exact again I7 n7
   | brk=>obtain⟨σ7,H7,I7,q7⟩:=q7;exact⟨σ7,H7,I7.unpinned,q7⟩
   | ret v=>obtain⟨x7,σ7,H7,I7,r7,q7⟩:=q7;exact⟨x7,σ7,H7,I7.unpinned,r7,q7⟩
end
end L2
namespace L2
open PySem PySem.Spec PyProof.Rows
abbrev R2:=V->V->Hp->VK->Prop
def OpR(X:Cx)(f:Value->Value->Sem Value)(r:R2):Prop:=
 ∀ (pins:List (Addr×Obj))(s:Shared)(σ:St)(H:Hp)(x y:V)(v u:Value)(Q:VK),Inv X pins σ H s->RelV x v->RelV y u->r x y H Q->
   wpAny (model X.prog X.w) X.A (f v u) (EP X pins σ Q) X.xe s
def UnR(X:Cx)(f:Value->Sem Value)(r:V->Hp->VK->Prop):Prop:=
 ∀ (pins:List (Addr×Obj))(s:Shared)(σ:St)(H:Hp)(x:V)(v:Value)(Q:VK),Inv X pins σ H s->RelV x v->r x H Q->
   wpAny (model X.prog X.w) X.A (f v) (EP X pins σ Q) X.xe s
def cI(X:Cx)(f:Value)(r:List V->Hp->VK->Prop):Prop:=
 ∀ (pins:List (Addr×Obj))(s:Shared)(σ:St)(H:Hp)(xs:List V)(us:List Value)(Q:VK),Inv X pins σ H s->Vals xs us->r xs H Q->
   wpAny (model X.prog X.w) X.A (call f us) (EP X pins σ Q) X.xe s
def tOp(r:R2)(ta tb:TE):TE:=λ σ H Q=>ta σ H λ x H1=>tb σ H1 λ y H2=>r x y H2 Q
def rI(C:Int->Int->Prop)(g:Int->Int->V):R2:=λ x y H Q=>∃i j,x=.int i/\y=.int j/\C i j/\Q (g i j) H
def rI0(g:Int->Int->V):R2:=λ x y H Q=>∃i j,x=.int i/\y=.int j/\Q (g i j) H
def rU(g:Int->V):V->Hp->VK->Prop:=λ x H Q=>∃i,x=.int i/\Q (g i) H
section
variable {X : Cx} {a b c : Expr} {ta tb tc : TE} {pos : Pos}
theorem Uv(ha:PE X a ta)(hb:PE X b tb){pins:List (Addr×Obj)}{s:Shared}{σ:St}{H:Hp}{R:V->V->Hp->Prop}(I:Inv X pins σ H s)
 (h:ta σ H λ x H1=>tb σ H1 λ y H2=>R x y H2){Q:Value->Shared->Prop}{f:Value->Value->Sem Value}
 (hf:∀v u s2 x y H2,Inv X pins σ H2 s2->RelV x v->RelV y u->R x y H2->wpAny (model X.prog X.w) X.A (f v u) Q X.xe s2):
 wpAny (model X.prog X.w) X.A (eval a X.env) (λ v s₁=>wpAny (model X.prog X.w) X.A (eval b X.env) (λ u s₂=>wpAny (model X.prog X.w) X.A (f v u) Q X.xe s₂) X.xe s₁) X.xe s:=by
 refine thn (ha pins s σ H _ I h) λ v s1 ⟨x,H1,I1,r1,q1⟩=>?_
 refine thn (hb pins s1 σ H1 _ I1 q1) λ u s2 ⟨y,H2,I2,r2,q2⟩=>?_
 exact hf v u s2 x y H2 I2 r1 r2 q2
theorem opI{f:Value->Value->Sem Value}{C:Int->Int->Prop}{g:Int->Int->Int}
 (rule:∀(i j:Int)(t u:Tok)(s:Shared)(Q:Value->Shared->Prop)(E:Value->Shared->Prop),C i j->Q (.int (g i j) s.toks) {s with toks:=s.toks+1}->wpAny (model X.prog X.w) X.A (f (.int i t) (.int j u)) Q E s):
 OpR X f (rI C λ i j=>.int (g i j)):=by
 intro pins s σ H x y v u Q I rx ry h
 obtain⟨i,j,rfl,rfl,hc,q⟩:=h
 obtain⟨t,rfl⟩:=rx
 obtain⟨t',rfl⟩:=ry
 exact rule i j t t' s _ _ hc ⟨.int (g i j),H,I.tok _,⟨_,rfl⟩,q⟩
theorem Pu{f:Value->Value->Sem Value}{g:Int->Int->Int}
 (rule:∀(i j:Int)(t u:Tok)(s:Shared)(Q:Value->Shared->Prop)(E:Value->Shared->Prop),Q (.int (g i j) s.toks) {s with toks:=s.toks+1}->wpAny (model X.prog X.w) X.A (f (.int i t) (.int j u)) Q E s):
 OpR X f (rI0 λ i j=>.int (g i j)):=by
 intro pins s σ H x y v u Q I rx ry h
 obtain⟨i,j,rfl,rfl,q⟩:=h
 obtain⟨t,rfl⟩:=rx
 obtain⟨t',rfl⟩:=ry
 exact rule i j t t' s _ _ ⟨.int (g i j),H,I.tok _,⟨_,rfl⟩,q⟩
theorem FW{f:Value->Value->Sem Value}{g:Int->Int->Bool}
 (rule:∀(i j:Int)(t u:Tok)(s:Shared)(Q:Value->Shared->Prop)(E:Value->Shared->Prop),Q (.bool (g i j)) s->wpAny (model X.prog X.w) X.A (f (.int i t) (.int j u)) Q E s):
 OpR X f (rI0 λ i j=>.bl (g i j)):=by
 intro pins s σ H x y v u Q I rx ry h
 obtain⟨i,j,rfl,rfl,q⟩:=h
 obtain⟨t,rfl⟩:=rx
 obtain⟨t',rfl⟩:=ry
 exact rule i j t t' s _ _ ⟨.bl (g i j),H,I,rfl,q⟩
def Ul(i j:Int):Prop:=0<j/\j<1073741824
def CPow(i j:Int):Prop:=0≤j/\j≤1000000/\i.natAbs<2 ^ 64
def CMul(i j:Int):Prop:=(-(2 ^ 64)<i/\i<2 ^ 64)∨(-(2 ^ 64)<j/\j<2 ^ 64)
theorem CMul.ok{i j:Int}(h:CMul i j):IntMulOk i j:=by
 rcases h with⟨h1,h2⟩ | ⟨h1,h2⟩
 . exact .of_left (intBits_le_64 h1 h2)
 . exact .of_right (intBits_le_64 h1 h2)
theorem Ph:OpR X (binaryOp .Add) (rI0 λ i j=>.int (i+j)):=Pu λ _ _ _ _ _ _ _ q=>add_int q
theorem Qi:OpR X (binaryOp .Sub) (rI0 λ i j=>.int (i-j)):=Pu λ _ _ _ _ _ _ _ q=>sub_int q
theorem Q0:OpR X (binaryOp .Mult) (rI CMul λ i j=>.int (i*j)):=opI λ _ _ _ _ _ _ _ hc q=>mul_int q hc.ok
theorem Oi:OpR X (binaryOp .FloorDiv) (rI Ul λ i j=>.int (i/j)):=opI λ i j _ _ _ _ _ hc q=>by
 have h1:(0:Int)<j:=hc.1
 have h2:j<1073741824:=hc.2
 exact floordiv_int (by omega) (by rw[Int.fdiv_eq_ediv_of_nonneg i (by omega)];exact q) (.inl (PyProof.noPylong_small (by omega)))
theorem RJ:OpR X (binaryOp .Mod) (rI (λ _ j=>0<j) λ i j=>.int (i % j)):=opI λ i j _ _ _ _ _ hc q=>by
 have h1:(0:Int)<j:=hc
 exact mod_int' (by omega) (by rw[Int.fmod_eq_emod_of_nonneg i (by omega)];exact q)
theorem Pk:OpR X (binaryOp .Pow) (rI CPow λ i j=>.int (i ^ j.toNat)):=opI λ _ _ _ _ _ _ _ hc q=>pow_int_small hc.1 hc.2.1 hc.2.2 q
theorem unI{f:Value->Sem Value}{g:Int->Int}
 (rule:∀(i:Int)(t:Tok)(s:Shared)(Q:Value->Shared->Prop)(E:Value->Shared->Prop),Q (.int (g i) s.toks) {s with toks:=s.toks+1}->wpAny (model X.prog X.w) X.A (f (.int i t)) Q E s):
 UnR X f (rU λ i=>.int (g i)):=by
 intro pins s σ H x v Q I rx h
 obtain⟨i,rfl,q⟩:=h
 obtain⟨t,rfl⟩:=rx
 exact rule i t s _ _ ⟨.int (g i),H,I.tok _,⟨_,rfl⟩,q⟩
theorem Rf:UnR X (unaryOp .USub) (rU λ i=>.int (-i)):=unI λ _ _ _ _ _ q=>neg_int q
end
def Qu:V->V->Bool
 | .non,.non=>true | .non,.int _=>true | .int _,.non=>true | .non,.bl _=>true | .bl _,.non=>true | .non,.str _=>true | .str _,.non=>true
 | .int _,.int _=>true | .bl _,.bl _=>true | .str _,.str _=>true | .byt _,.byt _=>true
 | .int _,.str _=>true | .str _,.int _=>true | .bl _,.str _=>true | .str _,.bl _=>true
 | _,_=>false
def rEq:R2:=λ x y H Q=>Qu x y=true/\Q (.bl (decide (x=y))) H
def rNe:R2:=λ x y H Q=>Qu x y=true/\Q (.bl (!decide (x=y))) H
theorem mF{i j:Int}:decide (V.int i=V.int j)=(i==j):=by
 rw[Bool.eq_iff_iff]
 simp
theorem kY{i j:Bool}:decide (V.bl i=V.bl j)=(i==j):=by
 rw[Bool.eq_iff_iff]
 simp
theorem Dc{i j:Str}:decide (V.str i=V.str j)=(i==j):=by
 rw[Bool.eq_iff_iff]
 simp
theorem Dy{i j:Array UInt8}:decide (V.byt i=V.byt j)=(i.toList==j.toList):=by
 rw[Bool.eq_iff_iff]
 cases i
 cases j
 simp
section
variable {X : Cx} {a b c : Expr} {ta tb tc : TE} {pos : Pos}
theorem aC{pins:List (Addr×Obj)}{σ:St}{H:Hp}{s:Shared}{Q:VK}{k k':Bool}(I:Inv X pins σ H s)(q:Q (.bl k) H)(e:k=k'):EP X pins σ Q (.bool k') s:=by
 subst e
 exact⟨.bl k,H,I,rfl,q⟩
theorem FN:OpR X (compareOp .Eq) rEq:=by
 intro pins s σ H x y v u Q I rx ry h
 obtain⟨hs,q⟩:=h
 cases x with
 | non=>
   cases rx
   cases y with
   | non=>cases ry;exact PySem.EqNone.eq_none_none (aC I q (by simp))
   | bl j=>cases ry;exact PySem.EqNone.eq_none_bool (aC I q (by simp))
   | int j=>obtain⟨t',rfl⟩:=ry;exact PySem.EqNone.eq_none_int (aC I q (by simp))
   | str j=>obtain⟨t',rfl⟩:=ry;exact PySem.EqNone.eq_none_str (aC I q (by simp))
   | _=>exact absurd (show false=true from hs) y7
 | bl i=>
   cases rx
   cases y with
   | non=>cases ry;exact PySem.EqNone.eq_bool_none (aC I q (by simp))
   | bl j=>cases ry;exact eq_bool (aC I q kY)
   | str j=>obtain⟨t',rfl⟩:=ry;exact PySem.EqMixed.eq_bool_str (aC I q (by simp))
   | _=>exact absurd (show false=true from hs) y7
 | int i=>
   obtain⟨t,rfl⟩:=rx
   cases y with
   | non=>cases ry;exact PySem.EqNone.eq_int_none (aC I q (by simp))
   | int j=>obtain⟨t',rfl⟩:=ry;exact eq_int (aC I q mF)
   | str j=>obtain⟨t',rfl⟩:=ry;exact PySem.EqMixed.eq_int_str (aC I q (by simp))
   | _=>exact absurd (show false=true from hs) y7
 | str i=>
   obtain⟨t,rfl⟩:=rx
   cases y with
   | non=>cases ry;exact PySem.EqNone.eq_str_none (aC I q (by simp))
   | bl j=>cases ry;exact PySem.EqMixed.eq_str_bool (aC I q (by simp))
   | int j=>obtain⟨t',rfl⟩:=ry;exact PySem.EqMixed.eq_str_int (aC I q (by simp))
   | str j=>obtain⟨t',rfl⟩:=ry;exact eq_str (aC I q Dc)
   | _=>exact absurd (show false=true from hs) y7
 | byt i=>
   obtain⟨t,rfl⟩:=rx
   cases y with
   | byt j=>obtain⟨t',rfl⟩:=ry;exact PySem.W.eq_bytes (aC I q Dy)
   | _=>exact absurd (show false=true from hs) y7
 | _=>cases y<;>exact absurd (show false=true from hs) y7
theorem Lw:OpR X (compareOp .NotEq) rNe:=by
 intro pins s σ H x y v u Q I rx ry h
 obtain⟨hs,q⟩:=h
 cases x with
 | non=>
   cases rx
   cases y with
   | non=>cases ry;exact PySem.EqNone.ne_none_none (aC I q (by simp))
   | bl j=>cases ry;exact PySem.EqNone.ne_none_bool (aC I q (by simp))
   | int j=>obtain⟨t',rfl⟩:=ry;exact PySem.EqNone.ne_none_int (aC I q (by simp))
   | str j=>obtain⟨t',rfl⟩:=ry;exact PySem.EqNone.ne_none_str (aC I q (by simp))
   | _=>exact absurd (show false=true from hs) y7
 | bl i=>
   cases rx
   cases y with
   | non=>cases ry;exact PySem.EqNone.ne_bool_none (aC I q (by simp))
   | bl j=>cases ry;exact ne_bool (aC I q (congrArg not kY))
   | str j=>obtain⟨t',rfl⟩:=ry;exact PySem.EqMixed.ne_bool_str (aC I q (by simp))
   | _=>exact absurd (show false=true from hs) y7
 | int i=>
   obtain⟨t,rfl⟩:=rx
   cases y with
   | non=>cases ry;exact PySem.EqNone.ne_int_none (aC I q (by simp))
   | int j=>obtain⟨t',rfl⟩:=ry;exact ne_int (aC I q (congrArg not mF))
   | str j=>obtain⟨t',rfl⟩:=ry;exact PySem.EqMixed.ne_int_str (aC I q (by simp))
   | _=>exact absurd (show false=true from hs) y7
 | str i=>
   obtain⟨t,rfl⟩:=rx
   cases y with
   | non=>cases ry;exact PySem.EqNone.ne_str_none (aC I q (by simp))
   | bl j=>cases ry;exact PySem.EqMixed.ne_str_bool (aC I q (by simp))
   | int j=>obtain⟨t',rfl⟩:=ry;exact PySem.EqMixed.ne_str_int (aC I q (by simp))
   | str j=>obtain⟨t',rfl⟩:=ry;exact ne_str (aC I q (congrArg not Dc))
   | _=>exact absurd (show false=true from hs) y7
 | byt i=>
   obtain⟨t,rfl⟩:=rx
   cases y with
   | byt j=>obtain⟨t',rfl⟩:=ry;exact PySem.W.ne_bytes (aC I q (congrArg not Dy))
   | _=>exact absurd (show false=true from hs) y7
 | _=>cases y<;>exact absurd (show false=true from hs) y7
theorem Sv:OpR X (compareOp .Lt) (rI0 λ i j=>.bl (decide (i<j))):=FW λ _ _ _ _ _ _ _ q=>lt_int q
theorem T9:OpR X (compareOp .LtE) (rI0 λ i j=>.bl (decide (i≤j))):=FW λ _ _ _ _ _ _ _ q=>le_int q
theorem Ss:OpR X (compareOp .Gt) (rI0 λ i j=>.bl (decide (j<i))):=FW λ _ _ _ _ _ _ _ q=>gt_int q
theorem Tv:OpR X (compareOp .GtE) (rI0 λ i j=>.bl (decide (j≤i))):=FW λ _ _ _ _ _ _ _ q=>ge_int q
theorem Qy:OpR X (compareOp .Is) (λ x y H Q=>y=.non/\Q (.bl (decide (x=.non))) H):=by
 intro pins s σ H x y v u Q I rx ry h
 obtain⟨rfl,q⟩:=h
 cases ry
 refine is_none_gen (aC I q ?_)
 cases x<;>first
  | (cases rx;rfl)
  | (obtain⟨t,rfl⟩:=rx;rfl)
theorem Np:OpR X (compareOp .IsNot) (λ x y H Q=>y=.non/\Q (.bl (!decide (x=.non))) H):=by
 intro pins s σ H x y v u Q I rx ry h
 obtain⟨rfl,q⟩:=h
 cases ry
 refine isnot_none_gen (aC I q ?_)
 cases x<;>first
  | (cases rx;rfl)
  | (obtain⟨t,rfl⟩:=rx;rfl)
theorem pN:(sizeLine:Nat)<2 ^ 63:=by rw[sizeLine_eq];decide
theorem vals1{x:V}{us:List Value}(r:Vals [x] us):∃u,us=[u]/\RelV x u:=by
 cases r with
 | cons r1 r2=>cases r2;exact⟨_,rfl,r1⟩
theorem vals2{x y:V}{us:List Value}(r:Vals [x,y] us):∃u w',us=[u,w']/\RelV x u/\RelV y w':=by
 cases r with
 | cons r1 r2=>
   cases r2 with
   | cons r3 r4=>cases r4;exact⟨_,_,rfl,r1,r3⟩
theorem J4:cI X (.builtin "abs") (λ xs H Q=>∃i,xs=[.int i]/\Q (.int (if i<0 then-i else i)) H):=by
 intro pins s σ H xs us Q I r h
 obtain⟨i,rfl,q⟩:=h
 obtain⟨u,rfl,t,rfl⟩:=vals1 r
 exact call_abs_int λ u tk=>⟨.int (if i<0 then-i else i),H,I.tok _,⟨_,rfl⟩,q⟩
theorem G5(hc:X.calm=true):cI X (.builtin "max") (λ xs H Q=>∃i j,xs=[.int i,.int j]/\Q (.int (if j>i then j else i)) H):=by
 intro pins s σ H xs us Q I r h
 obtain⟨i,j,rfl,q⟩:=h
 obtain⟨u,w',rfl,⟨t,rfl⟩,⟨t',rfl⟩⟩:=vals2 r
 refine max_two_ints (I.ok.hd hc) λ h' tk k=>⟨_,H,I.kept k,?_,q⟩
 by_cases hj:j>i
 . rw[if_pos hj,if_pos hj];exact⟨_,rfl⟩
 . rw[if_neg hj,if_neg hj];exact⟨_,rfl⟩
theorem HR(hc:X.calm=true):cI X (.builtin "min") (λ xs H Q=>∃i j,xs=[.int i,.int j]/\Q (.int (if j<i then j else i)) H):=by
 intro pins s σ H xs us Q I r h
 obtain⟨i,j,rfl,q⟩:=h
 obtain⟨u,w',rfl,⟨t,rfl⟩,⟨t',rfl⟩⟩:=vals2 r
 refine min_two_ints (I.ok.hd hc) λ h' tk k=>⟨_,H,I.kept k,?_,q⟩
 by_cases hj:j<i
 . rw[if_pos hj,if_pos hj];exact⟨_,rfl⟩
 . rw[if_neg hj,if_neg hj];exact⟨_,rfl⟩
theorem lK:cI X (.type "int") (λ xs H Q=>(∃i,xs=[.int i]/\Q (.int i) H)∨∃k,xs=[.bl k]/\Q (.int (if k then 1 else 0)) H):=by
 intro pins s σ H xs us Q I r h
 rcases h with⟨i,rfl,q⟩ | ⟨k,rfl,q⟩
 . obtain⟨u,rfl,t,rfl⟩:=vals1 r
   exact call_int_int ⟨.int i,H,I,⟨_,rfl⟩,q⟩
 . obtain⟨u,rfl,r1⟩:=vals1 r
   cases r1
   exact call_int_bool ⟨.int (if k then 1 else 0),H,I.tok _,⟨_,rfl⟩,q⟩
end
end L2
namespace L2
open PySem PySem.Spec PyProof.Rows
structure Room(k:Nat)(A:Around):Prop where
 hd:A.handled=none
 dp:A.depth+3*k+5<recursionLimit
 un:A.units+16*k+200<cLine
theorem Room.mono{j k:Nat}{A:Around}(r:Room k A)(h:j≤k):Room j A:=⟨r.hd,by have:=r.dp;omega,by have:=r.un;omega⟩
theorem Room.deeper{k:Nat}{A:Around}(r:Room (k+1) A)(env:Env):Room k (A.deeper env):=
 ⟨r.hd,by have:=r.dp;show A.depth+1+3*k+5<_;omega,by have:=r.un;show A.units+3+16*k+200<_;omega⟩
theorem Room.depth{k:Nat}{A:Around}(r:Room k A):A.depth<recursionLimit:=by have:=r.dp;omega
def Uk:TA:=λ _ H Q=>Q [] H
def R8(ta:TE)(tr:TA):TA:=λ σ H Q=>ta σ H λ x H1=>tr σ H1 λ xs H2=>Q (x::xs) H2
section
variable {X : Cx} {e : Expr} {es : List Expr} {te : TE} {t : TA} {pos : Pos}
theorem eQ:PA X [] Uk:=λ _ _ _ _ H Q I h=>Calls.spliced_nil ⟨[],H,I,.nil,h⟩
theorem bH(ha:PE X e te)(hr:PA X es t)(hs:starEach (e::es) X.env=(false,eval e X.env)::starEach es X.env:=by rfl):PA X (e::es) (R8 te t):=by
 intro pos pins s σ H Q I h
 rw[hs]
 show wpAny _ _ (spliced ((false,eval e X.env)::backTo pos (starEach es X.env))) _ _ s
 refine Calls.spliced_cons (thn (ha pins s σ H _ I h) λ u s1 ⟨x,H1,I1,r1,q1⟩=>?_)
 exact thn (hr pos pins s1 σ H1 _ I1 q1) λ us s2 ⟨xs,H2,I2,r2,q2⟩=>⟨x::xs,H2,I2,.cons r1 r2,q2⟩
def Ut(t:TA):TE:=λ σ H Q=>t σ H λ xs H1=>xs.length≤sizeLine/\∀p,H1 p=none->Q (.ref p) (upd H1 p (.tup xs))
def Us(t:TA):TE:=λ σ H Q=>t σ H λ xs H1=>xs.length≤sizeLine/\∀p,H1 p=none->Q (.ref p) (upd H1 p (.lst xs))
theorem QB{x1}(h:PA X es t):PE X (.Tuple es x1 pos) (Ut t):=by
 intro pins s σ H Q I hq
 refine wpAny_Tuple_spliced (thn (h pos pins s σ H _ I hq) λ us s1 ⟨xs,H1,I1,r,z,q⟩=>⟨by rw[←r.length];exact z,?_⟩)
 have hf:H1 s1.heap.objs.size=none:=I1.hok.fresh (x5 _)
 refine⟨.ref s1.heap.objs.size,upd H1 s1.heap.objs.size (.tup xs),I1.laid (t':=s1.toks) (λ b u e=>Heap.get?_push_of_some _ e) (x5 _) ?_,rfl,q _ hf⟩
 exact⟨z,us,r,⟨_,Heap.get?_push_size _ rfl,rfl,_,rfl⟩⟩
theorem Qe(h:PA X es t):PE X (.List es pos) (Us t):=by
 intro pins s σ H Q I hq
 refine wpAny_List_spliced (thn (h pos pins s σ H _ I hq) λ us s1 ⟨xs,H1,I1,r,z,q⟩=>⟨by rw[←r.length];exact z,?_⟩)
 have hf:H1 s1.heap.objs.size=none:=I1.hok.fresh (x5 _)
 refine⟨.ref s1.heap.objs.size,upd H1 s1.heap.objs.size (.lst xs),I1.laid (t':=s1.toks) (λ b u e=>Heap.get?_push_of_some _ e) (x5 _) ?_,rfl,q _ hf⟩
 exact⟨z,us,0,r,Heap.get?_push_size _ rfl⟩
end
abbrev Sp:=List V->Hp->VK->XK->Prop
abbrev CXT:=List Env->Hp->Shared->XK->Value->Shared->Prop
structure Env0(P:Program)(w:World)(K:PySem.W.Frag)(mg:Str->Option Value)(base:Heap)(A:Around)(outer:List Env)(s:Shared)(H:Hp):Prop where
 frames:A.frames=some outer
 mod:Mod K mg base
 bs:∀b o,base.get? b=some o->s.heap.get? b=some o/\H b=none
 bsz:base.objs.size≤s.heap.objs.size
 funs:s.heap.FunFrames base outer
 frf:∀b∈frs outer,H b=none
 hok:HOk P w H s.heap
 bare:AllBare s.gens
def CE(outer:List Env)(P:Program)(w:World)(H:Hp)(s:Shared)(Q:VK)(u:Value)(s':Shared):Prop:=
 ∃v H',s'.os=s.os/\AllBare s'.gens/\Un (frs outer) [] H H' s.heap s'.heap/\HOk P w H' s'.heap/\RelV v u/\Q v H'
def CR(CX:CXT)(outer:List Env)(P:Program)(w:World)(H:Hp)(s:Shared)(Q:VK)(E:XK)(r:Result)(s':Shared):Prop:=
 match r with
 | .ok (.ret u)=>CE outer P w H s Q u s'
 | .ok _=>False
 | .error e=>CX outer H s E e s'
structure FnOk(P:Program)(w:World)(K:PySem.W.Frag)(mg:Str->Option Value)(base:Heap)(CX:CXT)(k:Nat)(f:Addr)(fd:FuncData)(ps:List Str)(sp:Sp):Prop where
 len:∀vs H Q E,sp vs H Q E->vs.length=ps.length
 run:∀(A:Around)(outer:List Env)(s:Shared)(H:Hp)(args:Args)(us:List Value)(vs:List V)(Q:VK)(E:XK),Room k A->Env0 P w K mg base A outer s H->BindsTo s fd args (ps.zip us)->Vals vs us->sp vs H Q E->
  codeAny (model P w) A (.call (.ref f) args) (CR CX outer P w H s Q E) s
section
variable {X : Cx} {pins : List (Addr × Obj)} {σ : St} {H : Hp} {s s' : Shared}
theorem Inv.env0(I:Inv X pins σ H s):Env0 X.prog X.w X.K X.mg X.base X.A X.stack s H:=
 ⟨I.ok.frames,I.ok.mod,I.bs,Nat.le_trans I.ok.bsz I.sz,I.stack,I.stkFree,I.hok,I.bare⟩
theorem Inv.after{Q:VK}{u:Value}(I:Inv X pins σ H s)(h:CE X.stack X.prog X.w H s Q u s'):EP X pins σ Q u s':=by
 obtain⟨v,H',os,bare,un,hok,r,q⟩:=h
 obtain⟨hh,g,d,t,os'⟩:=s'
 obtain rfl:os'=s.os:=os
 exact⟨v,H',I.call (h':=hh) (g':=g) (d':=d) (t':=t) (ch:=[]) un hok bare (λ b z=>absurd z (by simp)),r,q⟩
end
def Binds(K:PySem.W.Frag)(fd:FuncData)(ps:List Str)(ds:List Value):Prop:=
 ∀(s:Shared)(us:List Value),K.In s.heap->(us++ds).length=ps.length->BindsTo s fd ⟨us,[]⟩ (ps.zip (us++ds))
theorem Binds.all{K:PySem.W.Frag}{fd:FuncData}{ps:List Str}(h:∀us:List Value,us.length=ps.length->bindArgs fd ⟨us,[]⟩=pure (ps.zip us)):Binds K fd ps []:=λ s us _ hl=>by
 rw[List.append_nil]at hl ⊢
 exact .of_eq (h us hl)
def Ih(CX:CXT)(X:Cx)(E:XK):Prop:=∀(pins:List (Addr×Obj))(σ:St)(H:Hp)(s:Shared)(e:Value)(s':Shared),Inv X pins σ H s->CX X.stack H s E e s'->X.xe e s'
section
variable {X : Cx} {CX : CXT} {k : Nat} {f C : Addr} {fd : FuncData} {ps : List Str} {sp : Sp} {dvs : List V} {ds : List Value} {E : XK} {x m : Str} {p pos apos : Pos} {e o : Expr} {es : List Expr} {ta : TE} {t : TA}
theorem PT{pins:List (Addr×Obj)}{σ:St}{H:Hp}{s:Shared}{Q:VK}{us:List Value}{vs:List V}(F:FnOk X.prog X.w X.K X.mg X.base CX k f fd ps sp)(hr:Room k X.A)(hb:Binds X.K fd ps ds)(hd:Vals dvs ds)(hx:Ih CX X E)
 (I:Inv X pins σ H s)(r:Vals vs us)(h:sp (vs++dvs) H Q E):wpAny (model X.prog X.w) X.A (call (.ref f) us) (EP X pins σ Q) X.xe s:=by
 have r2:Vals (vs++dvs) (us++ds):=r.append hd
 have hl:(us++ds).length=ps.length:=by rw[←r2.length];exact F.len _ _ _ _ h
 refine wpAny_call (codeAny_mono (F.run X.A X.stack s H ⟨us,[]⟩ (us++ds) (vs++dvs) Q E hr I.env0 (hb s us I.kIn hl) r2 h) λ r s' hq=>?_)
 cases r with
 | error e=>exact hx pins σ H s e s' I hq
 | ok fl=>
   cases fl with
   | ret u=>exact I.after hq
   | next=>exact False.elim hq
   | brk=>exact False.elim hq
   | cont=>exact False.elim hq
end
structure FnScope(N P:List Str)(sc:Scope):Prop where
 kind:sc.kind=.function
 co:sc.isCoroutine=false
 gen:sc.isGenerator=false
 nd:N.Nodup
 pre:N.take P.length=P
 par:∀x∈P,sc.names.lookup x=some .local∨sc.names.lookup x=some .cell
 nofree:∀y∈sc.names,y.2≠.free
theorem vy{kindOf:Str->Option NameKind}{x:Str}:∀{binds:List (Str×Value)}{m:Str->Option Value},(∀v,(x,v)∉binds)->bindL kindOf binds m x=m x
 | [],_,_=>rfl
 | (n,v)::r,m,h=>by
   unfold bindL
   rw[vy λ w hw=>h w (x6 _ hw)]
   split
   . have:x≠n:=by rintro rfl;exact h v x9
     simp[this]
   . rfl
theorem vq{kindOf:Str->Option NameKind}{x:Str}:∀{binds:List (Str×Value)}{m:Str->Option Value},(∀v,(x,v)∉binds)->bindC kindOf binds m x=m x
 | [],_,_=>rfl
 | (n,v)::r,m,h=>by
   unfold bindC
   rw[vq λ w hw=>h w (x6 _ hw)]
   split
   . rfl
   . have:x≠n:=by rintro rfl;exact h v x9
     simp[this]
theorem vA{kindOf:Str->Option NameKind}{x:Str}{v:Value}:∀{P:List Str}{vs:List Value}{i:Nat}{m:Str->Option Value},P.Nodup->P[i]? =some x->vs[i]? =some v->kindOf x=some .local->
 bindL kindOf (P.zip vs) m x=some v
 | [],_,_,_,_,h,_,_=>by simp at h
 | _::_,[],_,_,_,_,h,_=>by simp at h
 | p::P,w::vs,0,m,nd,h1,h2,hk=>by
   simp at h1 h2;subst h1;subst h2
   show bindL kindOf ((p,w)::P.zip vs) m p=_
   unfold bindL
   rw[vy λ v hv=>(List.nodup_cons.mp nd).1 (List.of_mem_zip hv).1,if_pos hk]
   simp
 | p::P,w::vs,i+1,m,nd,h1,h2,hk=>by
   show bindL kindOf ((p,w)::P.zip vs) m x=_
   unfold bindL
   exact vA (i:=i) (List.nodup_cons.mp nd).2 (by simpa using h1) (by simpa using h2) hk
theorem uW{kindOf:Str->Option NameKind}{x:Str}{v:Value}:∀{P:List Str}{vs:List Value}{i:Nat}{m:Str->Option Value},P.Nodup->P[i]? =some x->vs[i]? =some v->kindOf x≠some .local->
 bindC kindOf (P.zip vs) m x=some v
 | [],_,_,_,_,h,_,_=>by simp at h
 | _::_,[],_,_,_,_,h,_=>by simp at h
 | p::P,w::vs,0,m,nd,h1,h2,hk=>by
   simp at h1 h2;subst h1;subst h2
   show bindC kindOf ((p,w)::P.zip vs) m p=_
   unfold bindC
   rw[vq λ v hv=>(List.nodup_cons.mp nd).1 (List.of_mem_zip hv).1,if_neg hk]
   simp
 | p::P,w::vs,i+1,m,nd,h1,h2,hk=>by
   show bindC kindOf ((p,w)::P.zip vs) m x=_
   unfold bindC
   exact uW (i:=i) (List.nodup_cons.mp nd).2 (by simpa using h1) (by simpa using h2) hk
def start(N:List Str)(vs:List V):St:=vs.map some++List.replicate (N.length-vs.length) none
def cN(CX:CXT)(P:Program)(w:World)(K:PySem.W.Frag)(mg:Str->Option Value)(base:Heap)(N:List Str)(qual:Str)(scope:Scope)(f:Addr)(cd:Value)(A:Around)(outer:List Env)(s:Shared)(H:Hp)(E:XK):Cx where
 prog:=P
 w:=w
 K:=K
 mg:=mg
 base:=base
 A:=A.deeper (envOfC qual scope s.heap.objs.size f cd)
 N:=N
 s₀:=s
 H₀:=H
 env:=envOfC qual scope s.heap.objs.size f cd
 outer:=outer
 stack:=envOfC qual scope s.heap.objs.size f cd::outer
 ex:=[]
 calm:=true
 fn:=λ _=>true
 pn:=[]
 xe:=λ e s'=>wpAny (model P w) (A.deeper (envOfC qual scope s.heap.objs.size f cd)) (leaving (envOfC qual scope s.heap.objs.size f cd) e) (λ _ s''=>CX outer H s E e s'') (λ e' s''=>CX outer H s E e' s'') s'
theorem yI{sc:Scope}{n:Nat}{x:Str}(h:sc.names.lookup x=some .cell):∃c,(cellsFrom n sc.names []).lookup x=some c:=by
 have q:=PySem.W.cellsFrom_some sc.names n [] (.inl h)
 exact Option.isSome_iff_exists.mp q
theorem Hy{CX:CXT}{P:Program}{w:World}{K:PySem.W.Frag}{mg:Str->Option Value}{base:Heap}{N ps:List Str}{qual:Str}{scope:Scope}{f:Addr}{cd:Value}{A:Around}{outer:List Env}{s s1:Shared}{H:Hp}{E:XK}{us:List Value}{vs:List V}
 (S:FnScope N ps scope)(hd:A.handled=none)(e0:Env0 P w K mg base A outer s H)(hl:vs.length=ps.length)(r:Vals vs us)
 (x:InCallC s s.heap.objs.size (bindL (envOfC qual scope s.heap.objs.size f cd).kindOf (ps.zip us) λ _=>none) (cellsFrom (s.heap.objs.size+1) scope.names []) (bindC (envOfC qual scope s.heap.objs.size f cd).kindOf (ps.zip us) λ _=>none) s1):
 Inv (cN CX P w K mg base N qual scope f cd A outer s H E) [] (start N vs) H s1:=by
 have hpl:ps.length≤N.length:=by have:=congrArg List.length S.pre;rw[List.length_take]at this;omega
 obtain⟨h1,tk,rfl,hk⟩:=x.done
 have noA:∀b:Addr,b∉(cN CX P w K mg base N qual scope f cd A outer s H E).ex:=λ b z=>absurd (show b∈([]:List Addr)from z) (by simp)
 refine⟨⟨e0.mod,S.kind,rfl,rfl,x5 _,λ y z c h1 h2=>?_,λ y hy=>?_,λ y c _ h=>?_,λ _=>hd,Around.frames_deeper e0.frames,.inr ⟨rfl,rfl⟩,λ b z=>absurd z (noA b),e0.bs,e0.bsz,λ b _ _=>noA b,λ b z=>absurd z (noA b),e0.funs,e0.frf⟩,
  rfl,e0.bare,Un.kept hk,⟨_,x.toInCall.ns,λ i y v h1 h2 h3=>?_⟩,λ y c h=>⟨_,x.cell y c h⟩,e0.hok.fresh (x5 _),λ y c h=>?_,λ p hp=>absurd (show p∈([]:List (Addr×Obj))from hp) (by simp),e0.hok.kept hk,?_⟩
 . exact name_of_addr x.apart (PySem.mem_of_lookup h1) (PySem.mem_of_lookup h2)
 . have hy:scope.names.lookup y=some .cell∨scope.names.lookup y=some .free:=hy
   rcases hy with hy | hy
   . exact yI hy
   . exact absurd rfl (S.nofree _ (PySem.mem_of_lookup hy))
 . exact Nat.le_of_lt (x.above y c (PySem.mem_of_lookup h))
 . have hi:i<vs.length:=by
    unfold start at h2
    by_cases hi:i<vs.length
    . exact hi
    . rw[List.getElem?_append_right (by simpa using hi)]at h2
      rw[List.getElem?_replicate]at h2
      split at h2<;>cases h2
   have ha:vs[i]? =some v:=by
    unfold start at h2
    rw[v3 (by simpa using hi),y9]at h2
    cases e:vs[i]? with
    | none=>rw[e]at h2;cases h2
    | some a=>rw[e]at h2;cases h2;rfl
   obtain⟨u,hu,rv⟩:=r.get ha
   have hp:ps[i]? =some y:=by
    rw[←S.pre,List.getElem?_take_of_lt (by omega)];exact h1
   have ndP:ps.Nodup:=by rw[←S.pre];exact S.nd.sublist (List.take_sublist _ _)
   refine⟨u,rv,?_⟩
   rcases S.par y (y6 hp)with k | k
   . exact .inl ⟨k,vA ndP hp hu k⟩
   . obtain⟨c,e⟩:=yI (n:=s.heap.objs.size+1) k
     refine .inr ⟨.inl k,c,e,?_⟩
     have q:=x.cell y c e
     rw[uW ndP hp hu (by show scope.names.lookup y≠_;rw[k];decide)]at q
     exact q
 . exact e0.hok.fresh (Nat.le_of_lt (x.above y c (PySem.mem_of_lookup h)))
 . unfold start
   show _=N.length
   rw[w9,y8,List.length_replicate]
   omega
theorem Lk{CX:CXT}{P:Program}{w:World}{K:PySem.W.Frag}{mg:Str->Option Value}{base:Heap}{k:Nat}{f:Addr}{name qual:Str}{params:Arguments}{body:List Stmt}{scope:Scope}{dV kV doc pm cdv ct oc:Value}{an od:Option Addr}
 {osl:Array (Option Value)}{N ps:List Str}{sp:Sp}(lk:K.lookup f=some ⟨oc,od,.func (PySem.W.fnOf name qual params body scope dV kV doc pm an cdv ct),osl⟩)(hcd:PySem.W.codeIn K cdv qual=true)(S:FnScope N ps scope)
 (len:∀vs H Q E,sp vs H Q E->vs.length=ps.length)
 (hbody:∀(A:Around)(outer:List Env)(s:Shared)(H:Hp)(vs:List V)(Q:VK)(E:XK),Room k (A.deeper (envOfC qual scope s.heap.objs.size f cdv))->sp vs H Q E->
  ∃t,PSs (cN CX P w K mg base N qual scope f cdv A outer s H E) body t/\t {nx:=λ _ H'=>Q .non H',rt:=Q} (start N vs) H):
 FnOk P w K mg base CX (k+1) f (PySem.W.fnOf name qual params body scope dV kV doc pm an cdv ct) ps sp:=by
 refine⟨len,λ A outer s H args us vs Q E hr e0 hb r hsp=>?_⟩
 have hl:=len _ _ _ _ hsp
 have KX:K.In s.heap:=e0.mod.kin.keeps λ b o e=>(e0.bs b o e).1
 have lim:s.heap.NoLimit:=e0.mod.nolimit.keeps λ b o e=>(e0.bs b o e).1
 have hkind:∀y∈ps.zip us,scope.names.lookup y.1=some .local∨(scope.names.lookup y.1=some .cell/\((cellsFrom (s.heap.objs.size+1) scope.names []).lookup y.1).isSome=true):=λ⟨n,v⟩ hy=>by
  rcases S.par n (List.of_mem_zip hy).1 with q | q
  . exact .inl q
  . exact .inr ⟨q,PySem.W.cellsFrom_some _ _ _ (.inl q)⟩
 refine codeAny_call_function hr.depth (KX _ _ lk) rfl S.co S.gen rfl (PySem.W.codeRec_of KX hcd) (hb _ _ _ _ ?_)
 refine wpAny_newFunctionEnv_cells S.kind hkind λ env he s1 x=>?_
 subst he
 refine⟨lim.keeps x.toInCall.keep,codeAny_func ?_⟩
 obtain⟨t,ht,hq⟩:=hbody A outer s H vs Q E (hr.deeper _) hsp
 have I:Inv (cN CX P w K mg base N qual scope f cdv A outer s H E) [] (start N vs) H s1:=Hy S hr.hd e0 hl r x
 refine wpAny_mono (ht [] s1 (start N vs) H _ I hq) (λ fl s' hs=>?_) λ e s' hs=>hs
 have fin:∀{σ':St}{H':Hp}{v:V}{u:Value},Inv (cN CX P w K mg base N qual scope f cdv A outer s H E) [] σ' H' s'->RelV v u->Q v H'->CE outer P w H s Q u s':=
  λ{σ' H' v u} J rv q=>⟨v,H',J.os,J.bare,J.base,J.hok,rv,q⟩
 cases fl with
 | ret u=>
   obtain⟨v,σ',H',J,rv,q⟩:=hs
   exact fin J rv q
 | next=>
   obtain⟨σ',H',J,q⟩:=hs
   exact fin (v:=V.non) (u:=Value.none) J rfl q
 | brk=>
   obtain⟨_,_,_,q⟩:=hs
   exact False.elim q
 | cont=>
   obtain⟨_,_,_,q⟩:=hs
   exact False.elim q
end L2
namespace L2
open PySem PySem.Spec PyProof.Rows
section
variable {X : Cx} {x : Str} {p pos : Pos} {e : Expr} {es : List Expr} {t : TA} {id T : String} {r : List V -> Hp -> VK -> Prop}
def tCB(r:List V->Hp->VK->Prop)(t:TA):TE:=λ σ H Q=>t σ H λ vs H1=>r vs H1 Q
theorem oZ(hc:cI X (.builtin id) r)(hg:Gl X x)(hm:X.mg x=none)(hv:bootBuiltins x=some (.builtin id))(ha:PA X (e::es) t)(hn:x≠"__name__":=by decide)(hdb:(x==("__debug__":Str))=false:=by decide)
 (he:starEach (e::es) X.env=(false,eval e X.env)::starEach es X.env:=by rfl)(hpl:(backTo pos (starEach es X.env)).any (·.1)=false:=by rfl):PE X (.Call (.Name x p) (e::es) [] pos) (tCB r t):=by
 intro pins s σ H Q I h
 refine wpAny_Call_Name_kw (aY I hg hm hv ?_ hn hdb)
 exact PyProof.Rows.callWith_builtin1 (thn (ha pos pins s σ H _ I h) λ us s1 ⟨vs,H1,I1,r1,q1⟩=>hc pins s1 σ H1 vs us Q I1 r1 q1) he hpl
theorem Js(hc:cI X (.type T) r)(hg:Gl X x)(hm:X.mg x=none)(hv:bootBuiltins x=some (.type T))(ha:PA X (e::es) t)(hn:x≠"__name__":=by decide)(hdb:(x==("__debug__":Str))=false:=by decide)
 (he:starEach (e::es) X.env=(false,eval e X.env)::starEach es X.env:=by rfl)(hpl:(backTo pos (starEach es X.env)).any (·.1)=false:=by rfl):PE X (.Call (.Name x p) (e::es) [] pos) (tCB r t):=by
 intro pins s σ H Q I h
 refine wpAny_Call_Name_kw (aY I hg hm hv ?_ hn hdb)
 exact PyProof.Rows.callWith_type1 (thn (ha pos pins s σ H _ I h) λ us s1 ⟨vs,H1,I1,r1,q1⟩=>hc pins s1 σ H1 vs us Q I1 r1 q1) he hpl
end
end L2
namespace HT
open PySem PyProof.Rows
section
variable {prog : Program} {w : World} {A : Around} {E : Value -> Shared -> Prop} {s : Shared}
theorem cat_tup{t b:Addr}{vs ws:List Value}{Q:Value->Shared->Prop}(ht:IsTup s.heap t vs.toArray)(hb:IsTup s.heap b ws.toArray)(hv:vs≠[])
 (h1:ws=[]->Q (.ref t) s)(h2:ws≠[]->Q (.ref s.heap.objs.size) {s with heap:=s.heap.push {cls:=.type "tuple",data:=.seq (vs++ws).toArray}})
 (hsz:vs.length+ws.length≤sizeLine):wpAny (model prog w) A (binaryOp .Add (.ref t) (.ref b)) Q E s:=by
 obtain⟨⟨cls,dd,data,sl⟩,ho,hc,n,hd⟩:=id ht
 obtain⟨⟨cls2,dd2,data2,sl2⟩,ho2,hc2,n2,hd2⟩:=id hb
 simp only at hc hd hc2 hd2
 subst hc hd hc2 hd2
 have e:vs.toArray++ws.toArray=(vs++ws).toArray:=by simp
 by_cases hw:ws=[]
 . exact concat_meets ⟨_,ho,rfl⟩ ⟨_,ho2,rfl⟩ noFill_tuple_add seq_tuple_add PySem.F.slot_tuple_add PySem.F.entry_tuple_add (PySem.F.args_tuple_add_2 _ _)
    (tuple_addW1 t b vs.toArray ws.toArray n n2 dd dd2 sl sl2 (by simpa using hv) (by simp[hw])) ⟨ho,ho2,h1 hw⟩
 . refine concat_meets ⟨_,ho,rfl⟩ ⟨_,ho2,rfl⟩ noFill_tuple_add seq_tuple_add PySem.F.slot_tuple_add PySem.F.entry_tuple_add (PySem.F.args_tuple_add_2 _ _)
    (tuple_addW2 t b vs.toArray ws.toArray n n2 dd dd2 sl sl2 (by simpa using hv) (by simpa using hw) (by rw[x8,x8];exact hsz)) ⟨ho,ho2,?_⟩
   rw[e]
   exact h2 hw
def sIx(n d:Nat):Option Int->Nat
 | none=>d
 | some v=>if v<0 then(v+(n:Int)).toNat else min v.toNat n
theorem sIx_none(n d:Nat):sIx n d none=d:=rfl
theorem sIx_nat(n d k:Nat):sIx n d (some (k:Int))=min k n:=by
 show(if(k:Int)<0 then((k:Int)+(n:Int)).toNat else min (k:Int).toNat n)=min k n
 rw[if_neg (by omega),Int.toNat_natCast]
theorem Rh(n d:Nat)(hd:d≤n)(o:Option Int):sIx n d o≤n:=by
 cases o with
 | none=>exact hd
 | some v=>
   show(if v<0 then(v+(n:Int)).toNat else min v.toNat n)≤n
   by_cases hv:v<0
   . rw[if_pos hv];omega
   . rw[if_neg hv];exact Nat.min_le_right _ _
theorem DK(v:Int)(n d:Nat):(if v<0 then max (v+(n:Int)) 0 else min v (n:Int))=((sIx n d (some v):Nat):Int):=by
 show(if v<0 then max (v+(n:Int)) 0 else min v (n:Int))=(((if v<0 then(v+(n:Int)).toNat else min v.toNat n):Nat):Int)
 by_cases hv:v<0
 . simp only[if_pos hv];omega
 . simp only[if_neg hv];omega
theorem Fw(lo hi:Option Int)(n:Nat):Builtin.Slice.sliceAdjust lo hi 1 (n:Int)=(((sIx n 0 lo:Nat):Int),((sIx n n hi:Nat):Int)):=by
 have h1:¬((1:Int)<0):=by omega
 unfold Builtin.Slice.sliceAdjust
 simp only[h1,if_false]
 refine Prod.ext ?_ ?_
 . cases lo with
   | none=>rfl
   | some v=>exact DK v n 0
 . cases hi with
   | none=>rfl
   | some v=>exact DK v n n
theorem Gn(i j:Nat):Builtin.Slice.slicePlaces (i:Int) (j:Int) 1=j-i:=by
 unfold Builtin.Slice.slicePlaces
 have h1:(1:Int)>0:=by omega
 simp only[h1,if_true,Int.ediv_one]
 split<;>omega
theorem qM{v:Value}{o:Option Int}{Q:Option Int->Shared->Prop}(p:IsPart v o)(h:Q o s):wpAny (model prog w) A (Builtin.Slice.slicePartIndex v) Q E s:=by
 cases p with
 | none=>exact slicePart_none h
 | int i t=>exact slicePart_int h
theorem sliceApplied_gen{sl:Addr}{vl vu:Value}{lo hi:Option Int}{n:Nat}{Q:Int×Int×Nat->Shared->Prop}(hs:s.heap.IsSliceOf sl vl vu .none)(pl:IsPart vl lo)(pu:IsPart vu hi)
 (h:Q (((sIx n 0 lo:Nat):Int),1,sIx n n hi-sIx n 0 lo) s):wpAny (model prog w) A (Builtin.Slice.sliceApplied (.ref sl) (pure (n:Int))) Q E s:=by
 obtain⟨os,hos,hcs,hds⟩:=id hs
 unfold Builtin.Slice.sliceApplied Builtin.Slice.sliceFields
 refine wpAny_bind (wpAny_bind (wpAny_field hos hds (x:=vl) rfl (wpAny_bind (wpAny_field hos hds (x:=vu) rfl (wpAny_bind (wpAny_field hos hds (x:=.none) rfl (wpAny_pure ?_)))))))
 refine wpAny_bind (slicePart_none ?_)
 show wpAny _ _ (if((1:Int)==0)=true then _ else _) _ _ s
 rw[if_neg (by decide)]
 refine wpAny_bind (qM pl (wpAny_bind (qM pu (wpAny_bind (wpAny_pure ?_)))))
 show wpAny _ _ (match Builtin.Slice.sliceAdjust lo hi 1 (n:Int)with | (lo,hi)=>pure (lo,(1:Int),Builtin.Slice.slicePlaces lo hi 1)) _ _ s
 rw[Fw lo hi n]
 show wpAny _ _ (pure (((sIx n 0 lo:Nat):Int),(1:Int),Builtin.Slice.slicePlaces ((sIx n 0 lo:Nat):Int) ((sIx n n hi:Nat):Int) 1)) _ _ s
 rw[Gn]
 exact wpAny_pure h
theorem JQ(xs:Array Value)(i k:Nat):((List.range k).filterMap λ(m:Nat)=>xs[((i:Int)+(m:Int)*1).toNat]?).toArray=((xs.toList.drop i).take k).toArray:=by
 have e:(λ(m:Nat)=>xs[((i:Int)+(m:Int)*1).toNat]?)=λ m=>xs[i+m]?:=by
  funext m
  have:((i:Int)+(m:Int)*1).toNat=i+m:=by omega
  rw[this]
 rw[e]
 have:=pick_run xs i k
 rw[List.filterMap_map]at this
 have e2:((λ x=>xs[x]?) ∘ λ x=>i+x)=λ m=>xs[i+m]?:=rfl
 rw[e2]at this
 rw[this]
theorem getItem_tuple_cut{t sl:Addr}{items:Array Value}{vl vu:Value}{lo hi:Option Int}{Q:Value->Shared->Prop}(ht:IsTup s.heap t items)(hs:s.heap.IsSliceOf sl vl vu .none)(pl:IsPart vl lo)(pu:IsPart vu hi)
 (hw:¬(sIx items.size 0 lo=0/\sIx items.size items.size hi=items.size))
 (h:Q (.ref s.heap.objs.size) {s with heap:=s.heap.push {cls:=.type "tuple",data:=.seq ((items.toList.drop (sIx items.size 0 lo)).take (sIx items.size items.size hi-sIx items.size 0 lo)).toArray}})
 (hsz:items.size≤sizeLine):wpAny (model prog w) A (getItem (.ref t) (.ref sl)) Q E s:=by
 have htake:sizeOk (.seq ((items.toList.drop (sIx items.size 0 lo)).take (sIx items.size items.size hi-sIx items.size 0 lo)).toArray):=by
  show((items.toList.drop (sIx items.size 0 lo)).take (sIx items.size items.size hi-sIx items.size 0 lo)).toArray.size≤sizeLine
  rw[x8,List.length_take,List.length_drop,Array.length_toList]
  omega
 have hj:sIx items.size items.size hi≤items.size:=Rh _ _ (x5 _) hi
 obtain⟨os,hos,hcs,hds⟩:=id hs
 have hTs:s.TypeIs (.ref sl) "slice":=⟨os,hos,hcs⟩
 unfold getItem
 try with_reducible refine wpAny_holding ?_
 first | refine wpAny_bind (wpAny_pure ?_) | skip
 refine wpAny_bind (wpAny_sequenceKey ht.typeIs (by decide) ?_)
 refine wpAny_bind (wpAny_callSpecial?_slot (name:=Str.ofString "__getitem__") ht.typeIs PyProof.Rows.slot_tuple_getitem
  (wpAny_call_entry PyProof.Rows.slot_tuple_getitem ht.typeIs entry_tuple_getitem ?_ (args_tuple_getitem _ _)))
 show wpAny _ _ (Builtin.Tuple.tupleItemsOf (.ref t)>>=_) _ _ s
 refine wpAny_bind (tupleItemsOf_ ht ?_)
 refine wpAny_bind (wpAny_typeOf hTs ?_)
 rw[if_pos (by decide)]
 refine wpAny_bind (sliceApplied_gen hs pl pu ?_)
 have hno:¬((((sIx items.size 0 lo:Nat):Int)==0&&(1:Int)==1&&(sIx items.size items.size hi-sIx items.size 0 lo)==items.size)=true):=by
  intro q
  rw[Bool.and_eq_true,Bool.and_eq_true]at q
  have q1:((sIx items.size 0 lo:Nat):Int)=0:=eq_of_beq q.1.1
  have q2:sIx items.size items.size hi-sIx items.size 0 lo=items.size:=eq_of_beq q.2
  exact hw ⟨by omega,by omega⟩
 show wpAny _ _ (if(((sIx items.size 0 lo:Nat):Int)==0&&(1:Int)==1&&(sIx items.size items.size hi-sIx items.size 0 lo)==items.size)=true then _ else _) _ _ s
 rw[if_neg hno,JQ]
 first
  | exact wpAny_bind (m:=Builtin.Tuple.tupleExact _) (wpAny_newObj_type (wpAny_pure ⟨_,rfl,wpAny_pure h⟩) htake)
  | exact wpAny_bind (m:=Builtin.Tuple.tupleExact _) (wpAny_newObj_type (wpAny_bind (wpAny_pure (wpAny_pure ⟨_,rfl,wpAny_pure h⟩))) htake)
  | exact wpAny_bind (wpAny_bind (m:=Builtin.Tuple.tupleExact _) (wpAny_newObj_type (wpAny_pure (wpAny_pure ⟨_,rfl,wpAny_pure h⟩)) htake))
  | exact wpAny_bind (wpAny_bind (m:=Builtin.Tuple.tupleExact _) (wpAny_newObj_type (wpAny_pure ⟨_,rfl,wpAny_pure h⟩) htake))
end
end HT
namespace L2
open PySem PySem.Spec PyProof.Rows
abbrev TO:=St->Hp->(Option Int->Hp->Prop)->Prop
theorem intsAre_of{ns:List Int}:∀{us:List Value},Vals (ns.map V.int) us->IntsAre us ns:=by
 induction ns with
 | nil=>intro us r;rw[List.map_nil]at r;cases r;exact .nil
 | cons n ns ih=>
   intro us r
   rw[List.map_cons]at r
   cases r with
   | cons r1 r2=>
     obtain⟨t,e⟩:=r1
     subst e
     exact .cons n t (ih r2)
section
variable {X : Cx} {e : Expr} {te : TE} {lo hi : Option Expr} {tl th : TO} {pos p2 : Pos}
def SlR(X:Cx)(r:V->Option Int->Option Int->Hp->VK->Prop):Prop:=
 ∀ (pins:List (Addr×Obj))(s:Shared)(σ:St)(H:Hp)(x:V)(v vl vu:Value)(lo hi:Option Int)(sl:Addr)(Q:VK),Inv X pins σ H s->RelV x v->s.heap.IsSliceOf sl vl vu .none->IsPart vl lo->IsPart vu hi->r x lo hi H Q->
   ∃T id,typeLookup (.type T) "__getitem__"=pure (some (.builtin id))/\s.TypeIs v T/\wpAny (model X.prog X.w) X.A (getItem v (.ref sl)) (EP X pins σ Q) X.xe s
def km(xs:List V)(lo hi:Option Int):List V:=(xs.drop (HT.sIx xs.length 0 lo)).take (HT.sIx xs.length xs.length hi-HT.sIx xs.length 0 lo)
theorem nA(xs:List V)(lo hi:Option Int):(km xs lo hi).length≤xs.length:=by
 unfold km
 rw[List.length_take,List.length_drop]
 omega
def Uz(K:PySem.W.Frag):V->Option Int->Option Int->Hp->VK->Prop:=λ x lo hi H Q=>∃a xs,x=.ref a/\SqT K H a xs/\
 ¬(HT.sIx xs.length 0 lo=0/\HT.sIx xs.length xs.length hi=xs.length)/\∀p,H p=none->Q (.ref p) (upd H p (.tup (km xs lo hi)))
theorem Qg:SlR X (Uz X.K):=by
 intro pins s σ H x v vl vu lo hi sl Q I rx hs pl pu h
 obtain⟨a,xs,rfl,hx,hw,q⟩:=h
 cases rx
 obtain⟨its,r,ht,hz⟩:=I.tuple hx
 have hlen:its.toArray.size=xs.length:=by rw[x8];exact r.length.symm
 refine⟨"tuple",_,PyProof.Rows.slot_tuple_getitem.lookup,ht.typeIs,?_⟩
 refine HT.getItem_tuple_cut ht hs pl pu (by rw[hlen];exact hw) ?_ (by rw[hlen];exact hz)
 rw[hlen]
 refine⟨.ref s.heap.objs.size,_,I.laid (t':=s.toks) (o:=.tup (km xs lo hi)) (λ b ob q=>Heap.get?_push_of_some _ q) (x5 _) ?_,rfl,q _ (I.hok.fresh (x5 _))⟩
 exact⟨Nat.le_trans (nA xs lo hi) hz,_,(r.drop (HT.sIx xs.length 0 lo)).take (HT.sIx xs.length xs.length hi-HT.sIx xs.length 0 lo),IsTup.new _ _⟩
def SX(K:PySem.W.Frag):R2:=λ x y H Q=>∃a b xs ys,x=.ref a/\y=.ref b/\SqT K H a xs/\SqT K H b ys/\xs≠[]/\xs.length+ys.length≤sizeLine/\
 (ys=[]->Q (.ref a) H)/\(ys≠[]->∀p,H p=none->Q (.ref p) (upd H p (.tup (xs++ys))))
theorem Vals.nil_iff{xs:List V}{us:List Value}(r:Vals xs us):us=[]↔xs=[]:=by
 cases r with
 | nil=>simp
 | cons _ _=>simp
theorem N6:OpR X (binaryOp .Add) (SX X.K):=by
 intro pins s σ H x y v u Q I rx ry h
 obtain⟨a,b,xs,ys,rfl,rfl,ha,hb,hx,hz,q1,q2⟩:=h
 cases rx
 cases ry
 obtain⟨its,r1,p1,_⟩:=I.tuple ha
 obtain⟨its2,r2,p2,_⟩:=I.tuple hb
 refine HT.cat_tup p1 p2 (λ z=>hx (r1.nil_iff.mp z)) (λ z=>⟨.ref a,H,I,rfl,q1 (r2.nil_iff.mp z)⟩) (λ z=>?_) (by rw[←r1.length,←r2.length];exact hz)
 refine⟨.ref s.heap.objs.size,_,I.laid (t':=s.toks) (o:=.tup (xs++ys)) (λ b ob q=>Heap.get?_push_of_some _ q) (x5 _) ?_,rfl,q2 (λ w=>z (r2.nil_iff.mpr w)) _ (I.hok.fresh (x5 _))⟩
 exact⟨by rw[w9];exact hz,_,r1.append r2,IsTup.new _ _⟩
end
end L2
namespace L2
open PySem PySem.Spec PyProof.Rows
def ixN(n:Nat)(i:Int):Option Nat:=if 0≤i then(if i<n then some i.toNat else none)else if-(n:Int)≤i then some (i+n).toNat else none
def atI{α:Type}(xs:List α)(i:Int):Option α:=(ixN xs.length i).bind λ j=>xs[j]?
theorem Dp{n:Nat}{i:Int}{j:Nat}(h:ixN n i=some j):seqIndex? i n=some j/\j<n/\ -(n:Int)≤i/\i<n:=by
 unfold ixN at h
 by_cases h0:0≤i
 . rw[if_pos h0]at h
   by_cases h1:i<n
   . rw[if_pos h1]at h
     have e:i.toNat=j:=Option.some.inj h
     exact⟨by rw[seqIndex_of h0 h1,e],by omega,by omega,h1⟩
   . rw[if_neg h1]at h;cases h
 . rw[if_neg h0]at h
   by_cases h1: -(n:Int)≤i
   . rw[if_pos h1]at h
     have e:(i+n).toNat=j:=Option.some.inj h
     exact⟨by rw[seqIndex_neg (by omega) h1,e],by omega,h1,by omega⟩
   . rw[if_neg h1]at h;cases h
theorem Dj{α:Type}{xs:List α}{i:Int}{v:α}(h:atI xs i=some v):∃j,seqIndex? i xs.length=some j/\xs[j]? =some v/\j<xs.length/\ -(xs.length:Int)≤i/\i<xs.length:=by
 unfold atI at h
 cases e:ixN xs.length i with
 | none=>rw[e]at h;cases h
 | some j=>
   rw[e]at h
   obtain⟨h1,h2,h3,h4⟩:=Dp e
   exact⟨j,h1,h,h2,h3,h4⟩
theorem dZ{α:Type}{xs:List α}{j:Nat}{v:α}(h:xs[j]? =some v):atI xs (j:Int)=some v:=by
 have hj:j<xs.length:=(y3.mp h).1
 have e:ixN xs.length (j:Int)=some j:=by
  unfold ixN
  rw[if_pos (by omega),if_pos (by omega)];simp
 unfold atI;rw[e];exact h
def uz(b:Expr):Prop:=∀o i,subscripted b false o i=operate [o,i] (getItem o i)
def IxR(X:Cx)(r:R2):Prop:=
 ∀ (value slice:Expr)(pins:List (Addr×Obj))(s:Shared)(σ:St)(H:Hp)(x y:V)(v u:Value)(Q:VK),Inv X pins σ H s->RelV x v->RelV y u->r x y H Q->
   subscripted slice false v u=operate [v,u] (getItem v u)->wpAny (model X.prog X.w) X.A (subscriptTail value slice v u) (EP X pins σ Q) X.xe s
def MtR(X:Cx)(id:String)(r:V->List V->Hp->VK->Prop):Prop:=
 ∀ (pins:List (Addr×Obj))(s:Shared)(σ:St)(H:Hp)(x:V)(xs:List V)(v:Value)(us:List Value)(Q:VK),Inv X pins σ H s->RelV x v->Vals xs us->r x xs H Q->
   wpAny (model X.prog X.w) X.A (call (.builtin id) (v::us)) (EP X pins σ Q) X.xe s
section
variable {X : Cx} {a b : Expr} {ta tb : TE} {pos : Pos}
theorem TY{r:R2}(hr:IxR X r)(ha:PE X a ta)(hb:PE X b tb)(hs:uz b):PE X (.Subscript a b pos) (tOp r ta tb):=by
 intro pins s σ H Q I h
 exact Subscript_ (Uv ha hb I h λ v u s2 x y H2 I2 rx ry q=>hr a b pins s2 σ H2 x y v u Q I2 rx ry q (hs _ _))
def Ur(K:PySem.W.Frag):R2:=λ x y H Q=>∃p xs i v,x=.ref p/\y=.int i/\SqL K H p xs/\atI xs i=some v/\Q v H
def UJ(K:PySem.W.Frag):R2:=λ x y H Q=>∃p xs i v,x=.ref p/\y=.int i/\SqT K H p xs/\atI xs i=some v/\Q v H
theorem sH:IxR X (Ur X.K):=by
 intro value slice pins s σ H x y v u Q I rx ry h hs
 obtain⟨p,xs,i,z,rfl,rfl,hq,he,q⟩:=h
 cases rx
 obtain⟨t,rfl⟩:=ry
 obtain⟨its,r,pl,hz⟩:=I.list hq
 obtain⟨j,h1,h2,h3,h4,h5⟩:=Dj he
 obtain⟨w,ew,rw'⟩:=r.get h2
 have hl:=r.length
 have hn:=pN
 have fin:EP X pins σ Q w s:=⟨z,H,I,rw',q⟩
 by_cases h0:0≤i
 . have hj:i.toNat=j:=by
    rw[seqIndex_of h0 h5]at h1
    exact Option.some.inj h1
   exact item_listR pl.isList h0 (by omega) (by rw[hj];simpa using ew) fin hs
 . have hj:(i+(its.toArray.size:Int)).toNat=j:=by
    rw[seqIndex_neg (by omega) h4]at h1
    rw[x8,←hl]
    exact Option.some.inj h1
   exact subscriptTail_builtinR (x:=w) pl.isList.typeIs slot_list_getitem.lookup
    (wpAny_getItem_list_neg (Q:=λ r s'=>r=w/\EP X pins σ Q r s') pl.isList (by omega) (by rw[x8]<;>omega) (by omega) (by rw[hj];simpa using ew) ⟨rfl,fin⟩) hs
theorem Pa:IxR X (UJ X.K):=by
 intro value slice pins s σ H x y v u Q I rx ry h hs
 obtain⟨p,xs,i,z,rfl,rfl,hq,he,q⟩:=h
 cases rx
 obtain⟨t,rfl⟩:=ry
 obtain⟨its,r,pl,hz⟩:=I.tuple hq
 obtain⟨j,h1,h2,h3,h4,h5⟩:=Dj he
 obtain⟨w,ew,rw'⟩:=r.get h2
 have hl:=r.length
 have hn:=pN
 have fin:EP X pins σ Q w s:=⟨z,H,I,rw',q⟩
 exact subscriptTail_builtinR (x:=w) pl.typeIs slot_tuple_getitem.lookup
  (getItem_tuple (j:=j) (Q:=λ r s'=>r=w/\EP X pins σ Q r s') pl (by omega) (by omega) (by rw[x8,←hl];exact h1) (by simpa using ew) ⟨rfl,fin⟩) hs
theorem Er(its:List Value)(n j:Nat)(u:Value):Obj.mapSeq (·.setIfInBounds j u) {cls:=.type "list",data:=.seq its.toArray n}={cls:=.type "list",data:=.seq (its.set j u).toArray n}:=by
 simp[Obj.mapSeq]
theorem Inv.lst{pins:List (Addr×Obj)}{σ:St}{H:Hp}{s:Shared}{p:Addr}{xs:List V}(I:Inv X pins σ H s)(h:H p=some (.lst xs)):
 ∃(its:List Value) (n:Nat),Vals xs its/\s.heap.get? p=some {cls:=.type "list",data:=.seq its.toArray n}/\xs.length≤sizeLine:=by
 obtain⟨z,its,n,r,e⟩:=I.hok p _ h
 exact⟨its,n,r,e,z⟩
theorem Inv.lstUpd{pins:List (Addr×Obj)}{σ:St}{H:Hp}{s:Shared}{p:Addr}{xs ys:List V}{its its':List Value}{n n':Nat}{f:Obj->Obj}(I:Inv X pins σ H s)(h:H p=some (.lst xs))
 (ho:s.heap.get? p=some {cls:=.type "list",data:=.seq its.toArray n})(hf:f {cls:=.type "list",data:=.seq its.toArray n}={cls:=.type "list",data:=.seq its'.toArray n'})(r:Vals ys its')(hz:ys.length≤sizeLine)(t:Nat):
 Inv X pins σ (upd H p (.lst ys)) {s with heap:=s.heap.update p f,toks:=t}:=by
 have e:(s.heap.update p f).get? p=some {cls:=.type "list",data:=.seq its'.toArray n'}:=by
  rw[Heap.get?_update_self f ho (by rw[hf]<;>rfl),hf]
 refine I.write (x:=p) (e:=p) (by rw[h];trivial) (.inl rfl) (λ b u hb q=>(Heap.get?_update_other _ _ (Ne.symm hb)).trans q) ⟨_,e⟩ ?_
 exact⟨hz,its',n',r,e⟩
def R0:V->V->V->Hp->(Hp->Prop)->Prop:=λ o i v H Q=>∃p xs k j,o=.ref p/\i=.int k/\H p=some (.lst xs)/\ixN xs.length k=some j/\Q (upd H p (.lst (xs.set j v)))
theorem set_list:Uq X R0:=by
 intro pins s σ H o i v ov iv u Q I ro ri rv h
 obtain⟨p,xs,k,j,rfl,rfl,hp,hj,q⟩:=h
 cases ro
 obtain⟨t,rfl⟩:=ri
 obtain⟨its,n,r,ho,hz⟩:=I.lst hp
 obtain⟨h1,h2,h3,h4⟩:=Dp hj
 have hl:=r.length
 have hn:=pN
 have I':Inv X pins σ (upd H p (.lst (xs.set j v))) {s with heap:=s.heap.update p (Obj.mapSeq (·.setIfInBounds j u))}:=
  I.lstUpd hp ho (Er its n j u) (r.set rv j) (by rw[List.length_set];exact hz) s.toks
 by_cases h0:0≤k
 . have hk:k.toNat=j:=by
    rw[seqIndex_of h0 h4]at h1
    exact Option.some.inj h1
   exact PySem.W.ki_setAt ho h0 (by omega) (by rw[x8,←hl];exact h4) (by rw[hk];exact⟨_,I',q⟩)
 . have hk:(k+(its.toArray.size:Int)).toNat=j:=by
    rw[seqIndex_neg (by omega) h3]at h1
    rw[x8,←hl]
    exact Option.some.inj h1
   exact PySem.W.ki_setBack ho (by omega) (by rw[x8,←hl];exact h3) (by omega) (by rw[hk];exact⟨_,I',q⟩)
theorem Ba(lo hi:Option Int)(n:Nat):(sliceBounds lo hi none n).1=((HT.sIx n 0 lo:Nat):Int)/\(sliceBounds lo hi none n).2.1=((HT.sIx n n hi:Nat):Int)/\(sliceBounds lo hi none n).2.2=1:=by
 refine⟨?_,?_,rfl⟩
 . cases lo with
   | none=>simp[sliceBounds,HT.sIx]
   | some i=>
     simp only[sliceBounds,HT.sIx,Option.getD_none,show(1:Int)>0 by decide,if_true]
     by_cases h:i<0
     . simp only[h,if_true]<;>omega
     . simp only[h,if_false]<;>omega
 . cases hi with
   | none=>simp[sliceBounds,HT.sIx]
   | some i=>
     simp only[sliceBounds,HT.sIx,Option.getD_none,show(1:Int)>0 by decide,if_true]
     by_cases h:i<0
     . simp only[h,if_true]<;>omega
     . simp only[h,if_false]<;>omega
theorem wH(its:List Value)(lo hi:Option Int):slicePick its.toArray lo hi none=((its.drop (HT.sIx its.length 0 lo)).take (HT.sIx its.length its.length hi-HT.sIx its.length 0 lo)).toArray:=by
 obtain⟨h1,h2,h3⟩:=Ba lo hi its.toArray.size
 unfold slicePick
 rw[h1,h2,h3]
 simp only[sliceRange_one,pick_run,x8]<;>rfl
def Uo(K:PySem.W.Frag):V->Option Int->Option Int->Hp->VK->Prop:=λ x lo hi H Q=>∃a xs,x=.ref a/\SqL K H a xs/\∀p,H p=none->Q (.ref p) (upd H p (.lst (km xs lo hi)))
theorem Dt:SlR X (Uo X.K):=by
 intro pins s σ H x v vl vu lo hi sl Q I rx hs pl pu h
 obtain⟨a,xs,rfl,hx,q⟩:=h
 cases rx
 obtain⟨its,r,ht,hz⟩:=I.list hx
 have hlen:=r.length
 refine⟨"list",_,slot_list_getitem.lookup,ht.isList.typeIs,?_⟩
 refine wpAny_getItem_list_slice ht.isList hs pl pu .none (by simp) ?_ (by rw[x8]<;>omega)
 rw[wH,←hlen]
 refine⟨.ref s.heap.objs.size,_,I.laid (t':=s.toks) (o:=.lst (km xs lo hi)) (λ b ob q=>Heap.get?_push_of_some _ q) (x5 _) ?_,rfl,q _ (I.hok.fresh (x5 _))⟩
 exact⟨Nat.le_trans (nA xs lo hi) hz,_,0,(r.drop (HT.sIx xs.length 0 lo)).take (HT.sIx xs.length xs.length hi-HT.sIx xs.length 0 lo),Heap.get?_push_size _ rfl⟩
theorem gw:cI X (.builtin "len") (λ xs H Q=>∃p ys,xs=[.ref p]/\(SqL X.K H p ys∨SqT X.K H p ys)/\Q (.int ys.length) H):=by
 intro pins s σ H xs us Q I r h
 obtain⟨p,ys,rfl,hq,q⟩:=h
 obtain⟨u,rfl,rx⟩:=vals1 r
 cases rx
 have hn:=pN
 rcases hq with hq | hq
 . obtain⟨its,r',pl,hz⟩:=I.list hq
   have hlen:=r'.length
   exact Calls.call_len_list pl.isList (by simp only[x8]<;>omega) ⟨.int ys.length,H,I.tok _,⟨s.toks+1,by rw[x8,hlen]⟩,q⟩
 . obtain⟨its,r',pl,hz⟩:=I.tuple hq
   have hlen:=r'.length
   exact len_tuple pl (by simp only[x8]<;>omega) ⟨.int ys.length,H,I.tok _,⟨s.toks+1,by rw[x8,hlen]⟩,q⟩
theorem dj:cI X (.type "list") (λ xs H Q=>∃p ys,xs=[.ref p]/\(SqL X.K H p ys∨SqT X.K H p ys)/\∀l,H l=none->Q (.ref l) (upd H l (.lst ys))):=by
 intro pins s σ H xs us Q I r h
 obtain⟨p,ys,rfl,hq,q⟩:=h
 obtain⟨u,rfl,rx⟩:=vals1 r
 cases rx
 have fin:∀(its:List Value),Vals ys its->ys.length≤sizeLine->∀(h':Heap)(c':Nat),(∀b o',s.heap.get? b=some o'->h'.get? b=some o')->
  h'.get? s.heap.objs.size=some {cls:=.type "list",dict:=none,data:=.seq its.toArray c',slots:=#[]}->EP X pins σ Q (.ref s.heap.objs.size) {s with heap:=h'}:=λ its r' hz h' c' kp e=>
  ⟨.ref s.heap.objs.size,_,I.laid (t':=s.toks) kp (x5 _) (show aU X.prog X.w _ h' _ (.lst ys)from⟨hz,its,c',r',e⟩),rfl,q _ (I.hok.fresh (x5 _))⟩
 rcases hq with hq | hq
 . obtain⟨its,r',pl,hz⟩:=I.list hq
   have hlen:=r'.length
   obtain⟨o,ho,hc,n,hd⟩:=pl.isList
   exact call_list_seq p (.inl rfl) ho hc hd (λ h' c' kp e=>fin its r' hz h' c' kp e) (by simp only[x8]<;>omega)
 . obtain⟨its,r',pl,hz⟩:=I.tuple hq
   have hlen:=r'.length
   obtain⟨o,ho,hc,n,hd⟩:=pl
   exact call_list_seq p (.inr rfl) ho hc hd (λ h' c' kp e=>fin its r' hz h' c' kp e) (by simp only[x8]<;>omega)
theorem jN:cI X (.type "tuple") (λ xs H Q=>∃p ys,xs=[.ref p]/\((SqL X.K H p ys/\∀l,H l=none->Q (.ref l) (upd H l (.tup ys)))∨(SqT X.K H p ys/\Q (.ref p) H))):=by
 intro pins s σ H xs us Q I r h
 obtain⟨p,ys,rfl,h⟩:=h
 obtain⟨u,rfl,rx⟩:=vals1 r
 cases rx
 rcases h with⟨hq,q⟩ | ⟨hq,q⟩
 . obtain⟨its,r',pl,hz⟩:=I.list hq
   have hlen:=r'.length
   refine call_tuple_list pl.isList (λ h' kp=>?_) (by simp only[x8]<;>omega)
   have I1:Inv X pins σ H {s with heap:=h'}:=I.kept (t':=s.toks) kp
   have I2:Inv X pins σ (upd H h'.objs.size (.tup ys)) {s with heap:=h'.push {cls:=.type "tuple",data:=.seq its.toArray}}:=
    I1.laid (t':=s.toks) (λ b o e=>Heap.get?_push_of_some _ e) (x5 _) (show aU X.prog X.w _ _ _ (.tup ys)from⟨hz,its,r',IsTup.new _ _⟩)
   exact⟨.ref h'.objs.size,_,I2,rfl,q _ (I1.hok.fresh (x5 _))⟩
 . obtain⟨its,r',pl,hz⟩:=I.tuple hq
   exact call_tuple_same pl ⟨.ref p,H,I,rfl,q⟩
def tyV(K:PySem.W.Frag)(T:String)(x:V)(H:Hp):Prop:=match x with
 | .str _=>T="str"
 | .int _=>T="int"
 | .ref p=>(T="list"/\∃xs,SqL K H p xs)∨(T="tuple"/\∃o,K.lookup p=some o/\o.cls=.type "tuple"/\o.dict=none)∨
  (T="dict"/\((∃kvs,H p=some (.dK kvs))∨∃kvs,H p=some (.dT kvs)))∨(T="set"/\∃S n,H p=some (.set S n))
 | _=>False
theorem GQ{pins:List (Addr×Obj)}{σ:St}{H:Hp}{s:Shared}{T:String}{x:V}{v:Value}(I:Inv X pins σ H s)(r:RelV x v)(ty:tyV X.K T x H):
 s.TypeIs v T/\∀a,v=.ref a->∃ob,s.heap.get? a=some ob/\ob.dict=none:=by
 cases x with
 | str z=>
   obtain⟨t,rfl⟩:=r
   cases (show T="str" from ty)
   exact⟨typeIs_str s z t,λ _ e=>nomatch e⟩
 | int i=>
   obtain⟨t,rfl⟩:=r
   cases (show T="int" from ty)
   exact⟨typeIs_int s i t,λ _ e=>nomatch e⟩
 | ref p=>
   cases r
   rcases ty with⟨rfl,xs,hq⟩ | ⟨rfl,o,hk,hc,hd⟩ | ⟨rfl,hk⟩ | ⟨rfl,S,n,hk⟩
   . obtain⟨its,_,pl,_⟩:=I.list hq
     refine⟨pl.isList.typeIs,λ a e=>?_⟩
     cases e
     obtain⟨o,n,e,c,hd,_⟩:=pl
     exact⟨o,e,hd⟩
   . refine⟨⟨o,I.kIn p o hk,hc⟩,λ a e=>?_⟩
     cases e
     exact⟨o,I.kIn _ o hk,hd⟩
   . have z:∃o,s.heap.get? p=some o/\o.ExactDict:=by
      rcases hk with⟨kvs,hk⟩ | ⟨kvs,hk⟩
      . obtain⟨_,_,_,_,o,_,_,e,ex,_⟩:=I.hok p _ hk
        exact⟨o,e,ex⟩
      . obtain⟨_,_,_,_,o,_,_,e,ex,_⟩:=I.hok p _ hk
        exact⟨o,e,ex⟩
     obtain⟨o,e,ex⟩:=z
     refine⟨⟨o,e,ex.1⟩,λ a e2=>?_⟩
     cases e2
     exact⟨o,e,ex.2.1⟩
   . obtain⟨o,_,_,_,e,ex,_⟩:=I.hok p _ hk
     refine⟨⟨o,e,ex.1⟩,λ a e2=>?_⟩
     cases e2
     exact⟨o,e,ex.2.1⟩
 | _=>exact False.elim ty
def Uj(K:PySem.W.Frag)(T:String)(r:V->List V->Hp->VK->Prop)(to:TE):TE:=λ σ H Q=>to σ H λ x H1=>tyV K T x H1/\r x [] H1 Q
def tBM(K:PySem.W.Frag)(T:String)(r:V->List V->Hp->VK->Prop)(to:TE)(t:TA):TE:=λ σ H Q=>to σ H λ x H1=>tyV K T x H1/\t σ H1 λ xs H2=>r x xs H2 Q
variable {o e : Expr} {es : List Expr} {to : TE} {t : TA} {name : Str} {apos cpos : Pos} {T id : String} {r : V -> List V -> Hp -> VK -> Prop}
theorem Jo(pa:PlainAttrs T)(slot:Slot T name id)(hty:typeOf (.builtin id)=pure (.type "method_descriptor"))(hm:MtR X id r)(ho:PE X o to)
 (hbase:attributeBase o name X.env (eval o X.env)=eval o X.env:=by rfl)(hline:(apos.endLine==cpos.line)=true:=by rfl):PE X (.Call (.Attribute o name apos) [] [] cpos) (Uj X.K T r to):=by
 intro pins s σ H Q I h
 refine wpAny_Call_method0_late hbase hline (thn (ho pins s σ H _ I h) λ v s1 ⟨x,H1,I1,r1,ty,q1⟩=>?_)
 obtain⟨h1,h2⟩:=GQ I1 r1 ty
 exact⟨T,id,pa,slot,hty,h1,h2,Calls.callWith_builtin rfl (PySem.evalArgs_none (hm pins s1 σ H1 x [] v [] Q I1 r1 .nil q1))⟩
theorem LK(pa:PlainAttrs T)(slot:Slot T name id)(hty:typeOf (.builtin id)=pure (.type "method_descriptor"))(hm:MtR X id r)(ho:PE X o to)(ha:PA X (e::es) t)
 (hbase:attributeBase o name X.env (eval o X.env)=eval o X.env:=by rfl)
 (hfew:((backTo cpos (starEach (e::es) X.env)).all (λ x=>!x.1)&&(backToKw cpos (keywordEach [] X.env)).all (λ x=>x.1.isSome)
  &&decide ((e::es).length+([]:List Keyword).length+(if([]:List Keyword).isEmpty then 0 else 1)<30))=true:=by rfl)
 (hline:(apos.endLine==cpos.line)=true:=by rfl)(hs:starEach (e::es) X.env=(false,eval e X.env)::starEach es X.env:=by rfl)(hplain:(backTo cpos (starEach es X.env)).any (·.1)=false:=by rfl):
 PE X (.Call (.Attribute o name apos) (e::es) [] cpos) (tBM X.K T r to t):=by
 intro pins s σ H Q I h
 refine wpAny_Call_method_late hbase hfew hline rfl (thn (ho pins s σ H _ I h) λ v s1 ⟨x,H1,I1,r1,ty,q1⟩=>?_)
 obtain⟨h1,h2⟩:=GQ I1 r1 ty
 refine⟨T,id,pa,slot,hty,h1,h2,?_⟩
 have hA:=ha cpos pins s1 σ H1 _ I1 q1
 rw[hs]at hA ⊢
 refine Calls.callWith_builtin (by show(false||(backTo cpos (starEach es X.env)).any (·.1))=false;rw[hplain]<;>rfl) (Calls.evalArgs_plain ?_)
 exact thn hA λ us s2 ⟨vs,H2,I2,r2,q2⟩=>hm pins s2 σ H2 x vs v us Q I2 r1 r2 q2
end
end L2
namespace L2
open PySem PySem.Spec PyProof.Rows
def MtM(X:Cx)(id:String)(r:V->List V->Hp->VK->Prop):Prop:=
 ∀ (pins:List (Addr×Obj))(s:Shared)(σ:St)(H:Hp)(x:V)(xs:List V)(v:Value)(us:List Value)(Q:VK),Inv X pins σ H s->RelV x v->Vals xs us->r x xs H Q->
   wpAny (model X.prog X.w) X.A (call (.builtin id) (v::us)) (EP X pins σ Q) X.xe s
theorem Vals.one:∀{x:V}{us:List Value},Vals [x] us->∃u,us=[u]/\RelV x u
 | _,_,.cons r .nil=>⟨_,rfl,r⟩
theorem Vals.zero:∀{us:List Value},Vals [] us->us=[]
 | _,.nil=>rfl
theorem Vals.dropLast{xs:List V}{us:List Value}(h:Vals xs us):Vals xs.dropLast us.dropLast:=by
 induction h with
 | nil=>exact .nil
 | cons r t ih=>
   cases t with
   | nil=>exact .nil
   | cons q t'=>exact .cons r ih
theorem Vals.eraseIdx:∀{xs:List V}{us:List Value}(i:Nat),Vals xs us->Vals (xs.eraseIdx i) (us.eraseIdx i)
 | _,_,_,.nil=>.nil
 | _,_,0,.cons _ t=>t
 | _,_,i+1,.cons r t=>.cons r (Vals.eraseIdx i t)
theorem Vals.reverse{xs:List V}{us:List Value}(h:Vals xs us):Vals xs.reverse us.reverse:=by
 induction h with
 | nil=>exact .nil
 | cons r t ih=>rw[List.reverse_cons,List.reverse_cons];exact Vals.append ih (.cons r .nil)
theorem Vals.rep{xs:List V}{us:List Value}(h:Vals xs us):∀k:Nat,Vals (List.replicate k xs).flatten (List.replicate k us).flatten
 | 0=>.nil
 | k+1=>by
   rw[List.replicate_succ,List.replicate_succ,List.flatten_cons,List.flatten_cons]
   exact Vals.append h (Vals.rep h k)
theorem Ft{α:Type}(l:List α):l.eraseIdx (l.length-1)=l.dropLast:=by
 induction l with
 | nil=>rfl
 | cons a r ih=>
   cases r with
   | nil=>rfl
   | cons b r=>
     have e:(a::b::r).length-1=((b::r).length-1)+1:=by
      have h1:(a::b::r).length=r.length+2:=rfl
      have h2:(b::r).length=r.length+1:=rfl
      omega
     rw[e,List.eraseIdx_cons_succ,ih]
     all_goals rfl
theorem uV{α:Type}:∀(l:List α)(i:Nat),(l.eraseIdx i).length≤l.length
 | [],_=>x5 _
 | _::_,0=>Nat.le_succ _
 | _::r,i+1=>Nat.succ_le_succ (uV r i)
theorem foldl_rep(its:List Value):∀(k:Nat)(acc:List Value),
 List.foldl (λ x1 x2=>x1++x2) acc.toArray (List.replicate k its.toArray)=(acc++(List.replicate k its).flatten).toArray
 | 0,acc=>by simp
 | k+1,acc=>by
   have e:acc.toArray++its.toArray=(acc++its).toArray:=by simp
   have e2:(acc++its)++(List.replicate k its).flatten=acc++(List.replicate (k+1) its).flatten:=by
    rw[List.replicate_succ,List.flatten_cons,List.append_assoc]
   rw[←e2,←foldl_rep its k (acc++its),←e,List.replicate_succ,List.foldl_cons]
section
variable {X : Cx} {pins : List (Addr × Obj)} {σ : St} {H : Hp} {s : Shared} {l b : Addr} {xs ys zs : List V}
theorem Inv.lset{its its':List Value}{n:Nat}{f:Array Value->Array Value}{t':Nat}(I:Inv X pins σ H s)(hH:H l=some (.lst xs))
 (e:s.heap.get? l=some {cls:=.type "list",data:=.seq its.toArray n})(hf:f its.toArray=its'.toArray)(hv:Vals ys its')(hz:ys.length≤sizeLine):
 Inv X pins σ (upd H l (.lst ys)) {s with heap:=s.heap.update l (Obj.mapSeq f),toks:=t'}:=by
 have q:=PySem.IsL.update e f
 rw[hf]at q
 refine I.write (x:=l) (e:=l) (by rw[hH];exact trivial) (.inl rfl) (λ b' u hb hu=>(Heap.get?_update_other s.heap (Obj.mapSeq f) (Ne.symm hb)).trans hu) ⟨_,q⟩ ?_
 exact⟨hz,its',_,hv,q⟩
theorem Inv.lnew{its:List Value}{t':Nat}(I:Inv X pins σ H s)(hv:Vals ys its)(hz:ys.length≤sizeLine):
 Inv X pins σ (upd H s.heap.objs.size (.lst ys)) {s with heap:=s.heap.push {cls:=.type "list",data:=.seq its.toArray},toks:=t'}:=
 I.laid (λ _ _ q=>Heap.get?_push_of_some _ q) (x5 _) ⟨hz,its,0,hv,Heap.get?_push_size _ rfl⟩
theorem Inv.fresh(I:Inv X pins σ H s):H s.heap.objs.size=none:=I.hok.fresh (x5 _)
theorem Inv.lstM(I:Inv X pins σ H s)(hH:H l=some (.lst xs)):xs.length≤sizeLine/\∃(its:List Value) (n:Nat),Vals xs its/\xs.length=its.length/\s.heap.get? l=some {cls:=.type "list",data:=.seq its.toArray n}:=by
 obtain⟨z,its,n,r,e⟩:=I.hok l _ hH
 exact⟨z,its,n,r,r.length,e⟩
theorem Kh{n:Nat}(h:n≤sizeLine):Builtin.List.listTooLong n=false:=by
 unfold Builtin.List.listTooLong
 exact decide_eq_false (by omega)
end
section
variable {X : Cx}
def Mq:V->List V->Hp->VK->Prop:=λ x vs H Q=>∃l xs y,x=.ref l/\vs=[y]/\H l=some (.lst xs)/\xs.length<sizeLine/\Q .non (upd H l (.lst (xs++[y])))
theorem vp:MtM X "list.append" Mq:=by
 intro pins s σ H x vs v us Q I rx rv h
 obtain⟨l,xs,y,rfl,rfl,hH,hz,q⟩:=h
 cases rx
 obtain⟨u,rfl,ru⟩:=rv.one
 obtain⟨z,its,n,r,hl,e⟩:=I.lstM hH
 refine call_meets F.slot_list_append ⟨_,e,rfl⟩ F.entry_list_append (F.args_list_append_2 _ _) (PySem.list_append l its.toArray n u (by rw[x8];omega)) ⟨e,?_⟩
 refine⟨.non,_,I.lset (its':=its++[u]) hH e (by simp) (r.append (.cons ru .nil)) ?_,rfl,q⟩
 rw[w9,List.length_singleton]
 omega
def U3:V->List V->Hp->VK->Prop:=λ x vs H Q=>∃l xs y,x=.ref l/\vs=[]/\H l=some (.lst xs)/\xs[xs.length-1]? =some y/\Q y (upd H l (.lst xs.dropLast))
theorem Qm:MtM X "list.pop" U3:=by
 intro pins s σ H x vs v us Q I rx rv h
 obtain⟨l,xs,y,rfl,rfl,hH,hy,q⟩:=h
 cases rx
 have hus:=rv.zero
 subst hus
 obtain⟨z,its,n,r,hl,e⟩:=I.lstM hH
 obtain⟨u,hu,ru⟩:=r.get hy
 have hy':its.toArray[its.toArray.size-1]? =some u:=by
  show its.toArray[its.length-1]? =some u
  rw[←Array.getElem?_toList,←hl]
  exact hu
 refine call_meets F.slot_list_pop ⟨_,e,rfl⟩ F.entry_list_pop (F.args_list_pop_1 _) (MeetsSeq.list_pop_last l its.toArray n u hy' (by rw[x8];omega)) ⟨e,?_⟩
 refine⟨y,_,I.lset (its':=its.dropLast) hH e ?_ r.dropLast ?_,ru,q⟩
 . show its.toArray.eraseIdxIfInBounds (its.toArray.size-1)=its.dropLast.toArray
   rw[x8,List.eraseIdxIfInBounds_toArray,Ft]
 . rw[List.length_dropLast]
   omega
def zT:V->List V->Hp->VK->Prop:=λ x vs H Q=>∃l xs i k y,x=.ref l/\vs=[.int i]/\H l=some (.lst xs)/\ -(2 ^ 63)≤i/\i<2 ^ 63/\seqIndex? i xs.length=some k/\xs[k]? =some y/\Q y (upd H l (.lst (xs.eraseIdx k)))
theorem Ka:MtM X "list.pop" zT:=by
 intro pins s σ H x vs v us Q I rx rv h
 obtain⟨l,xs,i,k,y,rfl,rfl,hH,h1,h2,hk,hy,q⟩:=h
 cases rx
 obtain⟨u,rfl,ru⟩:=rv.one
 obtain⟨t,rfl⟩:=ru
 obtain⟨z,its,n,r,hl,e⟩:=I.lstM hH
 obtain⟨w,hw,rw'⟩:=r.get hy
 refine call_meets F.slot_list_pop ⟨_,e,rfl⟩ F.entry_list_pop (F.args_list_pop_2 _ _)
  (MeetsSeq.list_pop_at l its.toArray n i t k w (fitsIndex_both h1 h2) (by rw[x8,←hl];exact hk) (by rw[←Array.getElem?_toList];exact hw) (by rw[x8];omega)) ⟨e,?_⟩
 refine⟨y,_,I.lset (its':=its.eraseIdx k) hH e ?_ (r.eraseIdx k) ?_,rw',q⟩
 . show its.toArray.eraseIdxIfInBounds k=(its.eraseIdx k).toArray
   rw[List.eraseIdxIfInBounds_toArray]
 . have:=uV xs k
   omega
def QW:V->List V->Hp->VK->Prop:=λ x vs H Q=>∃l xs,x=.ref l/\vs=[]/\H l=some (.lst xs)/\Q .non (upd H l (.lst []))
theorem JW:MtM X "list.clear" QW:=by
 intro pins s σ H x vs v us Q I rx rv h
 obtain⟨l,xs,rfl,rfl,hH,q⟩:=h
 cases rx
 have hus:=rv.zero
 subst hus
 obtain⟨z,its,n,r,hl,e⟩:=I.lstM hH
 refine call_meets F.slot_list_clear ⟨_,e,rfl⟩ F.entry_list_clear (F.args_list_clear_1 _) (AutoSeq1.list_clear_list_0 l its.toArray n (by rw[x8];omega)) ⟨e,?_⟩
 exact⟨.non,_,I.lset (its':=[]) (ys:=[]) hH e rfl .nil (Nat.zero_le _),rfl,q⟩
theorem len_rep{α:Type}(xs:List α)(k:Nat):(List.replicate k xs).flatten.length=k*xs.length:=by
 induction k with
 | zero=>simp
 | succ k ih=>rw[List.replicate_succ,List.flatten_cons,w9,ih,Nat.succ_mul,Nat.add_comm]
end
end L2
namespace Att
open PySem PySem.W PySem.Calls PyProof.Rows
theorem pW{P:Params}{h:Heap}:∀(ns:List Int)(vs:List Value),WellAll P h vs (ns.map WData.int)->IntsAre vs ns:=by
 intro ns
 induction ns with
 | nil=>
   intro vs w
   rw[List.map_nil]at w
   cases w
   exact .nil
 | cons n ns ih=>
   intro vs w
   rw[List.map_cons]at w
   cases w with
   | cons a b=>
     cases a
     exact .cons _ _ (ih _ b)
theorem Gz{l:OpenLaw}{n:Nat}(hn:l.most=some n){P:Params}{h:Heap}{args:List WData}{vals:List Value}
 (hpre:l.row.toRowW.claim.pre args=true)(hwl:WellAll P h vals args):
 ∃a vs ns,vals=[Value.ref a]/\args=[WData.list (ns.map WData.int)]/\h.get? a=some {cls:=.type "list",data:=.seq vs.toArray}/\IntsAre vs ns/\ns.length≤n:=by
 have hsh:WShape.hasAll [] args [.list .int]=true:=(pre_splitW hpre).1
 have hc:l.pre.holds [] {args:=args}=true:=(pre_splitW hpre).2
 obtain⟨d,r,rfl,h1,h2⟩:=hasAllW_cons hsh
 obtain rfl:=hasAllW_nil h2
 obtain⟨xs,rfl,h3⟩:=hasW_list h1
 obtain⟨ns,rfl⟩:=items_int h3
 have hlen:ns.length≤n:=by
  unfold OpenLaw.pre at hc
  have h4:(WTm.not (.lt (.lit (.int (n:Int))) (.len (.arg 0)))).holds [] {args:=[.list (ns.map .int)]}=true:=by
   have h4:=(holds_andW hc).1
   rw[hn]at h4
   exact h4
  have h5:=condW_of h4 (w_not (w_lt w_lit (w_len_list (w_arg rfl))))
  rw[y8]at h5
  refine Nat.le_of_not_lt λ q=>?_
  have q':(n:Int)<((ns.length:Nat):Int):=by omega
  first
   | (rw[decide_eq_true q']at h5;exact absurd h5 (by decide))
   | (simp at h5;omega)
 cases hwl with
 | cons w1 w2=>
   cases w2
   cases w1 with
   | list ho hall=>exact⟨_,_,ns,rfl,rfl,ho,pW ns _ hall,hlen⟩
theorem Ii(l:OpenLaw)(args:List WData):l.row.toRowW.claim.post args (.bool true) args=true:=
 postW_of (r:=l.row.toRowW) (X:=(true==true))
  (show WShape.has [] (.bool true) .bool=true by first | rfl | decide | simp[WShape.has,WShape.arms,WShape.armsAll])
  (show(WTm.eq .res (.lit (.bool true))).value [] {args:=args,res:=some (.bool true),after:=args}=some (.bool (true==true))from w_eq_bool (w_res rfl) w_lit) rfl
theorem attach_call{l:OpenLaw}{n:Nat}{q:Program}{loose:List Str}{XP:(Str->Option Value)->Heap->Prop}{YP:World->Heap->Prop}{d:DefRec}
 (hn:l.most=some n)(hdf:d.params.defaults=[])
 (call:∀(w:World)(s₀ s₁:Shared)(mg mb:Str->Option Value)(fa:Addr)(o:Obj)(pm cd doc:Value)(a:Addr)(vs:List Value)(ns:List Int),
  Ground q loose [] XP w s₀ mg mb s₁.heap->YP w s₁.heap->
  s₁.heap.get? fa=some o->o.data=.func (docDef d.name d.params d.body d.scope pm cd doc)->s₁.heap.CodeRec cd d.name->mg d.name=some (.ref fa)->
  s₁.heap.get? a=some {cls:=.type "list",data:=.seq vs.toArray}->IntsAre vs ns->ns.length≤n->s₁.gens=#[]->
  codeAny (model l.prog w) callerA (.call (.ref fa) ⟨[.ref a],[]⟩) (λ r s'=>r=.ok (.ret (.bool true))/\OldK s₁.heap s'.heap/\s'.os=s₁.os/\AllBare s'.gens) s₁):
 WalkO q loose XP YP l.row.toRowW d [] (λ f vs=>PySem.call f vs):=by
 intro w s₀ s₁ mg mb G Y fa o pm cd doc dV kV ho hd hcd hD hmg hg args vals as hpre hlay hrd hwl hlo
 obtain rfl:dV=.none:=Dflts.none hD hdf
 obtain rfl:kV=.none:=Dflts.noKw hD
 obtain⟨a,vs,ns,rfl,rfl,hobj,hints,hlen⟩:=Gz hn hpre hwl
 refine enter_call (codeAny_mono (call w s₀ s₁ mg mb fa o pm cd doc a vs ns G Y ho (fd_plain hd) hcd hmg hobj hints hlen hg) λ r s' hq=>?_)
 obtain⟨rfl,h2,h3,h4⟩:=hq
 exact⟨.inl ⟨.bool true,.bool true,[],rfl,λ _=>rfl,.bool true,Ii l _,λ _=>⟨List.Pairwise.nil,λ _ hm=>(nomatch hm)⟩⟩,h2,h3,h4⟩
end Att
namespace L2
open PySem PySem.Spec PyProof.Rows
theorem cU:∀{vs:List Value}{ns:List Int},IntsAre vs ns->Vals (ns.map V.int) vs
 | _,_,.nil=>.nil
 | _,_,.cons n t h=>.cons ⟨t,rfl⟩ (cU h)
def Only(H:Hp):Prop:=∀b,H b=none∨∃o xs,H b=some (.frz o (.lst xs))
theorem JF{P:Program}{w:World}{K:PySem.W.Frag}{mg mb:Str->Option Value}{CX:CXT}{k:Nat}{fa a:Addr}{fd:FuncData}{x:Str}{sp:Sp}{s₁:Shared}{vs:List Value}{ns:List Int}
 (KX:K.In s₁.heap)(hns:s₁.heap.Ns mainGlobals mg)(hb:s₁.heap.Ns builtinsNs mb)(hbb:∀x:Str,x≠"__name__"->mb x=bootBuiltins x)(hlim:s₁.heap.NoLimit)(hg:s₁.gens=#[])
 (ha:s₁.heap.get? a=some {cls:=.type "list",data:=.seq vs.toArray})(hi:IntsAre vs ns)(hl:ns.length≤sizeLine)(hr:Room k callerA)
 (F:∀base:Heap,K.In base->base.Ns mainGlobals mg->FnOk P w K mg base CX k fa fd [x] sp)(hbind:∀(s:Shared)(u:Value),BindsTo s fd ⟨[u],[]⟩ [(x,u)])
 (hsp:∀H:Hp,Only H->SqL K H a (ns.map V.int)->sp [.ref a] H (λ v _=>v=.bl true) λ _ _ _=>False)
 (hCX:∀H e s',CX [] H s₁ (λ _ _ _=>False) e s'->False):
 codeAny (model P w) callerA (.call (.ref fa) ⟨[.ref a],[]⟩) (λ r s'=>r=.ok (.ret (.bool true))/\OldK s₁.heap s'.heap/\s'.os=s₁.os/\AllBare s'.gens) s₁:=by
 have rv:=cU hi
 have lenV:=hi.length
 have core:∀H:Hp,Only H->SqL K H a (ns.map V.int)->HOk P w H s₁.heap->(∀b,H b≠none->b=a)->(H a≠none->K.lookup a=none)->
  codeAny (model P w) callerA (.call (.ref fa) ⟨[.ref a],[]⟩) (λ r s'=>r=.ok (.ret (.bool true))/\OldK s₁.heap s'.heap/\s'.os=s₁.os/\AllBare s'.gens) s₁:=by
  intro H hO hS hok hA hK
  have base_of:∀{b:Addr}{o:Obj},s₁.heap.get? b=some o->H b=none->(jE s₁.heap H).get? b=some o:=λ e n=>J1 e n
  have noA:∀{b:Addr}{o:Obj}{es:Array DictEntry}{ep:Nat},s₁.heap.get? b=some o->o.data=.dict es ep->H b=none:=λ{b o es ep} e d=>by
   cases q:H b with
   | none=>rfl
   | some u=>
     have e':b=a:=hA b (by rw[q];simp)
     subst e'
     rw[ha]at e;cases e
     have d':Data.seq vs.toArray _=Data.dict es ep:=d
     cases d'
  have nsK:∀{b:Addr}{m:Str->Option Value},s₁.heap.Ns b m->(jE s₁.heap H).Ns b m:=λ{b m} ⟨o,es,ep,e,d,r⟩=>⟨o,es,ep,base_of e (noA e d),d,r⟩
  have hKb:K.In (jE s₁.heap H):=λ b o e=>base_of (KX b o e) (by
   cases q:H b with
   | none=>rfl
   | some u=>
     have e':b=a:=hA b (by rw[q];simp)
     subst e'
     rw[hK (by rw[q];simp)]at e;cases e)
  have hM:Mod K mg (jE s₁.heap H):=⟨hKb,nsK hns,⟨mb,nsK hb,hbb⟩,let ⟨mc,h1,h2⟩:=hlim;⟨mc,nsK h1,h2⟩⟩
  have e0:Env0 P w K mg (jE s₁.heap H) callerA [] s₁ H:=⟨rfl,hM,λ b o e=>NZ e,Nat.le_of_eq (Jh _ _),trivial,λ b hb=>absurd (show b∈([]:List Addr)from hb) (by simp),hok,.of_eq hg⟩
  refine codeAny_mono ((F _ hKb (nsK hns)).run callerA [] s₁ H ⟨[.ref a],[]⟩ [.ref a] [.ref a] _ _ hr e0 (hbind s₁ (.ref a)) (.cons rfl .nil) (hsp H hO hS)) λ r s' h=>?_
  cases r with
  | error e=>exact(hCX H e s' h).elim
  | ok fl =>
    cases fl with
    | next=>exact False.elim h
    | brk=>exact False.elim h
    | cont=>exact False.elim h
    | ret u=>
      obtain⟨v,H',os,bare,un,hok',r',q⟩:=h
      have q':v=.bl true:=q
      subst q'
      obtain rfl:u=Value.bool true:=r'
      refine⟨rfl,OldK.of_keep λ b o e=>?_,os,bare⟩
      cases q:H b with
      | none=>exact un.keep b o e q (by intro z;exact absurd (show b∈([]:List Addr)from z) (by simp)) (by simp)
      | some u=>
        rcases hO b with z | ⟨ob,xs,z⟩
        . rw[q]at z;cases z
        . have z2:=un.frzs b ob _ z
          obtain⟨e1,_⟩:=hok b _ z
          obtain⟨e2,_⟩:=hok' b _ z2
          rw[e]at e1;cases e1
          exact e2
 cases hk:K.lookup a with
 | some o=>
   have e:=KX a o hk
   rw[ha]at e
   cases e
   refine core (λ _=>none) (λ _=>.inl rfl) (.inr ⟨_,vs.toArray,_,hk,rfl,rfl,rfl,by rw[x8,lenV];exact hl,by simpa using rv⟩) (λ b u z=>by have z':(none:Option HO)=some u:=z;cases z') (λ b z=>absurd rfl z) λ z=>absurd rfl z
 | none=>
   refine core (λ b=>if b=a then some (.frz {cls:=.type "list",data:=.seq vs.toArray} (.lst (ns.map V.int)))else none) (λ b=>?_) (.inl (.inr ⟨{cls:=.type "list",data:=.seq vs.toArray},if_pos rfl⟩)) (λ b u z=>?_) (λ b z=>?_) λ _=>hk
   . by_cases hb:b=a
     . exact .inr ⟨_,_,if_pos hb⟩
     . exact .inl (if_neg hb)
   . by_cases hb:b=a
     . have z':=(if_pos hb).symm.trans z
       cases z'
       subst hb
       exact⟨ha,by rw[y8];exact hl,vs,_,rv,ha⟩
     . have z':=(if_neg hb).symm.trans z
       cases z'
   . by_cases hb:b=a
     . exact hb
     . exact absurd (if_neg hb) z
end L2
namespace L2
open PySem PySem.Spec PyProof.Rows
abbrev KOf{K:PySem.W.Frag}{h:Heap}(_:K.In h):PySem.W.Frag:=K
theorem walk_of{l:PySem.W.OpenLaw}{n k:Nat}{q:Program}{loose:List Str}{XP:(Str->Option Value)->Heap->Prop}{YP:World->Heap->Prop}{d:DefRec}{K:Params->PySem.W.Frag}{CX:World->CXT}{sp:World->Sp}{x:Str}
 (hn:l.most=some n)(hn2:n≤sizeLine)(hdf:d.params.defaults=[])(hr:Room k callerA)
 (hY:∀(w:World)(h:Heap),YP w h->(K w.params).In h)
 (F :∀(w:World)(mg:Str->Option Value)(fa:Addr)(h:Heap),(K w.params).In h->h.Ns mainGlobals mg->mg d.name=some (.ref fa)->
  ∃ fd:FuncData,(∀(s:Shared)(u:Value),BindsTo s fd ⟨[u],[]⟩ [(x,u)])/\
    ∀base:Heap,(K w.params).In base->base.Ns mainGlobals mg->FnOk l.prog w (K w.params) mg base (CX w) k fa fd [x] (sp w))
 (hsp:∀(w:World)(H:Hp)(a:Addr)(ns:List Int),ns.length≤n->Only H->SqL (K w.params) H a (ns.map V.int)->sp w [.ref a] H (λ v _=>v=.bl true) λ _ _ _=>False)
 (hCX:∀(w:World)(H:Hp)(s:Shared)(e:Value)(s':Shared),CX w [] H s (λ _ _ _=>False) e s'->False):
 PySem.W.WalkO q loose XP YP l.row.toRowW d [] (λ f vs=>PySem.call f vs):=by
 refine Att.attach_call hn hdf λ w s₀ s₁ mg mb fa o pm cd doc a vs ns G Y ho hd hcd hmg hobj hints hlen hg=>?_
 have KX:=hY w _ Y
 obtain⟨fd,hb,hF⟩:=F w mg fa _ KX G.T.g hmg
 exact JF KX G.T.g G.T.b G.T.builtins G.T.nolimit hg hobj hints (Nat.le_trans hlen hn2) hr hF hb (λ H hO hS=>hsp w H a ns hlen hO hS) λ H e s'=>hCX w H s₁ e s'
end L2
namespace L2
open PySem PySem.Spec PyProof.Rows
def eE(s:Stmt):Arguments:=match s with
 | .FunctionDef _ a _ _ _ _ _ _ _ _=>a
 | _=>{posonlyargs:=[],args:=[],vararg:=none,kwonlyargs:=[],kw_defaults:=[],kwarg:=none,defaults:=[]}
def bw(s:Stmt):List Stmt:=match s with
 | .FunctionDef _ _ b _ _ _ _ _ _ _=>b
 | _=>[]
def aq(s:Stmt):Scope:=match s with
 | .FunctionDef _ _ _ _ _ _ sc _ _ _=>sc
 | _=>{kind:=.function,names:=[],isGenerator:=false,isCoroutine:=false}
abbrev CX0:CXT:=λ _ _ _ _ _ _=>False
abbrev E0:XK:=λ _ _ _=>False
theorem R5{X:Cx}:Ih CX0 X E0:=λ _ _ _ _ _ _ _ h=>h.elim
structure Fun(K:PySem.W.Frag)(x qual:Str)(st:Stmt)(f:Addr)(fd:FuncData):Prop where
 ex:∃(oc:Value) (od:Option Addr) (kV doc pm:Value) (an:Option Addr) (cdv ct:Value) (osl:Array (Option Value)),
  fd=PySem.W.fnOf x qual (eE st) (bw st) (aq st) .none kV doc pm an cdv ct/\K.lookup f=some ⟨oc,od,.func fd,osl⟩/\PySem.W.codeIn K cdv qual=true
 kp:PySem.W.keepIn K (.ref f)=true
section
variable {P : Program} {w : World} {K : PySem.W.Frag} {mg : Str -> Option Value} {base : Heap}
theorem Fun.binds{x qual:Str}{st:Stmt}{f:Addr}{fd:FuncData}{ps:List Str}(F:Fun K x qual st f fd)
 (h:∀(kV doc pm:Value)(an:Option Addr)(cdv ct:Value)(us:List Value),us.length=ps.length->bindArgs (PySem.W.fnOf x qual (eE st) (bw st) (aq st) .none kV doc pm an cdv ct) ⟨us,[]⟩=pure (ps.zip us)):Binds K fd ps []:=by
 obtain⟨oc,od,kV,doc,pm,an,cdv,ct,osl,rfl,lk,hcd⟩:=F.ex
 exact .all (h kV doc pm an cdv ct)
theorem Im{x qual:Str}{st:Stmt}{f:Addr}{oc:Value}{od an:Option Addr}{osl:Array (Option Value)}{kV doc pm cdv ct:Value}(l:K.lookup f=some ⟨oc,od,.func (PySem.W.fnOf x qual (eE st) (bw st) (aq st) .none kV doc pm an cdv ct),osl⟩)
 (c:PySem.W.codeIn K cdv qual=true)(k:PySem.W.keepIn K (.ref f)=true):Fun K x qual st f (PySem.W.fnOf x qual (eE st) (bw st) (aq st) .none kV doc pm an cdv ct):=⟨⟨oc,od,kV,doc,pm,an,cdv,ct,osl,rfl,l,c⟩,k⟩
end
def aV(H H':Hp):Prop:=∀b o,H b=some o->H' b=some o
theorem aV.refl(H:Hp):aV H H:=λ _ _ h=>h
end L2
set_option maxHeartbeats 4000000
namespace DL
open PySem PySem.Spec L2
open PyProof.Rows
variable {a p : Addr} {K : PySem.W.Frag} {O O' : Own} {H H' : Hp} {xs : List V} {S : Store}
abbrev St:=L2.St
inductive D where
 | non | bl(b:Bool) | int(i:Int) | str(x:Str) | tup(ds:List D) | lst(ds:List D) | loc(k:Nat) | dic | dlo(k:Nat)
abbrev Store:=List (List D)
abbrev Gam:=List (Option D)
structure Own where
 A:List (Addr×Bool)
 B:List Addr
abbrev adr(A:List (Addr×Bool)):List Addr:=A.map Prod.fst
theorem bN{A:List (Addr×Bool)}{k:Nat}{q:Bool}(h:A[k]? =some (a,q)):a∈adr A:=List.mem_map.mpr ⟨_,y6 h,rfl⟩
theorem cT(A N:List (Addr×Bool)):adr (A++N)=adr A++adr N:=List.map_append
abbrev Own.has(O:Own)(a:Addr):Prop:=a∈adr O.A∨a∈O.B
def Tp(K:PySem.W.Frag)(O:Own)(H:Hp)(a:Addr)(xs:List V):Prop:=¬O.has a/\H a=some (.tup xs)
def Ls(K:PySem.W.Frag)(O:Own)(H:Hp)(a:Addr)(xs:List V):Prop:=(¬O.has a/\Rd H a (.lst xs))∨SqL K (λ _=>none) a xs
theorem Tp.sq(h:Tp K O H a xs):SqT K H a xs:=.inl (.inl h.2)
theorem Ls.sq(h:Ls K O H a xs):SqL K H a xs:=by
 rcases h with⟨_,h⟩ | (h | h)
 . exact .inl h
 . rcases h with h | ⟨_,h⟩<;>cases h
 . exact .inr h
def Abv(K:PySem.W.Frag)(a:Addr):Prop:=∀c o,K.lookup c=some o->c<a
mutual
inductive Rep(K:PySem.W.Frag)(O:Own)(H:Hp):V->D->Prop
 | non:Rep K O H .non .non
 | bl(b:Bool):Rep K O H (.bl b) (.bl b)
 | int(i:Int):Rep K O H (.int i) (.int i)
 | str(x:Str):Rep K O H (.str x) (.str x)
 | tup{a:Addr}{xs:List V}{ds:List D}(h:Tp K O H a xs)(r:Reps K O H xs ds):Rep K O H (.ref a) (.tup ds)
 | lst{a:Addr}{xs:List V}{ds:List D}(h:Ls K O H a xs)(r:Reps K O H xs ds):Rep K O H (.ref a) (.lst ds)
 | loc{a:Addr}{k:Nat}(h:O.A[k]? =some (a,false)):Rep K O H (.ref a) (.loc k)
 | dlo{a:Addr}{k:Nat}(h:O.A[k]? =some (a,true))(n:Abv K a):Rep K O H (.ref a) (.dlo k)
 | dic{a:Addr}(h:¬O.has a)(e:H a=some (.dK [])):Rep K O H (.ref a) .dic
inductive Reps(K:PySem.W.Frag)(O:Own)(H:Hp):List V->List D->Prop
 | nil:Reps K O H [] []
 | cons{v:V}{d:D}{vs:List V}{ds:List D}(r:Rep K O H v d)(t:Reps K O H vs ds):Reps K O H (v::vs) (d::ds)
end
structure Step(O O':Own)(H H':Hp):Prop where
 kept:∀b o,b∉adr O.A->H b=some o->H' b=some o
 dom:∀b,H b≠none->H' b≠none
 ext:∃N,O'.A=O.A++N/\∀b∈adr N,H b=none
 hid:O'.B=O.B
theorem Step.refl(O:Own)(H:Hp):Step O O H H:=⟨λ _ _ _ h=>h,λ _ h=>h,⟨[],by simp,λ _ h=>nomatch h⟩,rfl⟩
theorem Step.trans{O1 O2:Own}{H1 H2:Hp}(a:Step O O1 H H1)(b:Step O1 O2 H1 H2):Step O O2 H H2:=by
 obtain⟨N1,e1,f1⟩:=a.ext
 obtain⟨N2,e2,f2⟩:=b.ext
 refine⟨λ c o hc h=>b.kept c o (λ z=>?_) (a.kept c o hc h),λ c h=>b.dom c (a.dom c h),⟨N1++N2,by rw[e2,e1,List.append_assoc],λ c hc=>?_⟩,b.hid.trans a.hid⟩
 . rw[e1,cT]at z
   rcases List.mem_append.mp z with z | z
   . exact hc z
   . rw[f1 c z]at h;cases h
 . rw[cT]at hc
   rcases List.mem_append.mp hc with z | z
   . exact f1 c z
   . cases q:H c with
     | none=>rfl
     | some o=>exact absurd (f2 c z) (a.dom c (by rw[q];simp))
theorem Step.nothas(s:Step O O' H H'){a:Addr}(h:¬O.has a)(t:H a≠none):¬O'.has a:=by
 obtain⟨N,e,f⟩:=s.ext
 rintro(z | z)
 . rw[e,cT]at z
   rcases List.mem_append.mp z with z | z
   . exact h (.inl z)
   . exact t (f a z)
 . rw[s.hid]at z;exact h (.inr z)
structure Conv(O O':Own)(H H':Hp):Prop where
 tr:∀a u,¬O.has a->H a=some u->¬O'.has a/\H' a=some u
 lc:∀(k:Nat)(a:Addr×Bool),O.A[k]? =some a->O'.A[k]? =some a
theorem Step.conv(s:Step O O' H H'):Conv O O' H H':=
 ⟨λ a u h t=>⟨s.nothas h (by rw[t];simp),s.kept a u (λ z=>h (.inl z)) t⟩,λ k a h=>by
  obtain⟨N,e,_⟩:=s.ext
  rw[e,v3 (y3.mp h).1];exact h⟩
theorem Rd.conv(s:Conv O O' H H'){a:Addr}{u:HO}(h:¬O.has a)(r:Rd H a u):¬O'.has a/\Rd H' a u:=by
 rcases r with r | ⟨o,r⟩
 . obtain⟨x,y⟩:=s.tr a _ h r
   exact⟨x,.inl y⟩
 . obtain⟨x,y⟩:=s.tr a _ h r
   exact⟨x,.inr ⟨o,y⟩⟩
theorem Tp.conv(h:Tp K O H a xs)(s:Conv O O' H H'):Tp K O' H' a xs:=s.tr a _ h.1 h.2
theorem Ls.conv(h:Ls K O H a xs)(s:Conv O O' H H'):Ls K O' H' a xs:=by
 rcases h with⟨n,r⟩ | h
 . exact .inl (Rd.conv s n r)
 . exact .inr h
mutual
theorem Rep.conv{K:PySem.W.Frag}{O O':Own}{H H':Hp}(s:Conv O O' H H'):∀{v:V}{d:D},Rep K O H v d->Rep K O' H' v d
 | _,_,.non=>.non
 | _,_,.bl b=>.bl b
 | _,_,.int i=>.int i
 | _,_,.str x=>.str x
 | _,_,.tup h r=>.tup (h.conv s) (Reps.conv s r)
 | _,_,.lst h r=>.lst (h.conv s) (Reps.conv s r)
 | _,_,.loc h=>.loc (s.lc _ _ h)
 | _,_,.dlo h n=>.dlo (s.lc _ _ h) n
 | _,_,.dic h e=>.dic (s.tr _ _ h e).1 (s.tr _ _ h e).2
theorem Reps.conv{K:PySem.W.Frag}{O O':Own}{H H':Hp}(s:Conv O O' H H'):∀{vs:List V}{ds:List D},Reps K O H vs ds->Reps K O' H' vs ds
 | _,_,.nil=>.nil
 | _,_,.cons r t=>.cons (Rep.conv s r) (Reps.conv s t)
end
theorem Rep.mono{v:V}{d:D}(h:Rep K O H v d)(s:Step O O' H H'):Rep K O' H' v d:=h.conv s.conv
theorem Reps.mono{v:List V}{d:List D}(h:Reps K O H v d)(s:Step O O' H H'):Reps K O' H' v d:=h.conv s.conv
abbrev Own.hide(O:Own)(p:Addr):Own:=⟨O.A,p::O.B⟩
theorem Conv.hide(h:H p=none)(o:HO):Conv O (O.hide p) H (upd H p o):=
 ⟨λ a u n t=>by
  have ne:a≠p:=aB t h
  refine⟨λ z=>?_,by rw[ao ne];exact t⟩
  rcases z with z | z
  . exact n (.inl z)
  . rcases List.mem_cons.mp z with z | z
    . exact ne z
    . exact n (.inr z),λ _ _ h=>h⟩
theorem Conv.unhide{A:List (Addr×Bool)}{B:List Addr}:Conv ⟨A,p::B⟩ ⟨A,B⟩ H H:=
 ⟨λ a u n t=>⟨λ z=>n (z.elim .inl λ z=>.inr (x6 _ z)),t⟩,λ _ _ h=>h⟩
theorem Conv.updHid(h:p∈O.B)(o:HO):Conv O O H (upd H p o):=
 ⟨λ a u n t=>⟨n,by rw[ao (λ e=>n (.inr (by rw[e];exact h)))];exact t⟩,λ _ _ h=>h⟩
theorem Reps.length{K:PySem.W.Frag}{O:Own}{H:Hp}:∀{vs:List V}{ds:List D},Reps K O H vs ds->vs.length=ds.length
 | _,_,.nil=>rfl
 | _,_,.cons _ t=>by simp[Reps.length t]
theorem Reps.get{K:PySem.W.Frag}{O:Own}{H:Hp}:∀{vs:List V}{ds:List D}{i:Nat}{d:D},Reps K O H vs ds->ds[i]? =some d->∃v,vs[i]? =some v/\Rep K O H v d
 | _,_,_,_,.nil,e=>by simp at e
 | _,_,0,_,.cons r _,e=>by simp at e;subst e;exact⟨_,rfl,r⟩
 | _,_,i+1,d,.cons _ t,e=>by
   obtain⟨v,h1,h2⟩:=Reps.get (i:=i) (d:=d) t (by simpa using e)
   exact⟨v,by simpa using h1,h2⟩
theorem Reps.append{K:PySem.W.Frag}{O:Own}{H:Hp}:∀{vs ws:List V}{ds es:List D},Reps K O H vs ds->Reps K O H ws es->Reps K O H (vs++ws) (ds++es)
 | _,_,_,_,.nil,s=>s
 | _,_,_,_,.cons r t,s=>.cons r (Reps.append t s)
theorem Reps.take{K:PySem.W.Frag}{O:Own}{H:Hp}:∀{vs:List V}{ds:List D}(n:Nat),Reps K O H vs ds->Reps K O H (vs.take n) (ds.take n)
 | _,_,0,_=>.nil
 | _,_,_+1,.nil=>.nil
 | _,_,n+1,.cons r t=>.cons r (Reps.take n t)
theorem Reps.drop{K:PySem.W.Frag}{O:Own}{H:Hp}:∀{vs:List V}{ds:List D}(n:Nat),Reps K O H vs ds->Reps K O H (vs.drop n) (ds.drop n)
 | _,_,0,r=>r
 | _,_,_+1,.nil=>.nil
 | _,_,n+1,.cons _ t=>Reps.drop n t
theorem Reps.set{K:PySem.W.Frag}{O:Own}{H:Hp}{v:V}{d:D}(r:Rep K O H v d):∀{vs:List V}{ds:List D}(i:Nat),Reps K O H vs ds->Reps K O H (vs.set i v) (ds.set i d)
 | _,_,_,.nil=>.nil
 | _,_,0,.cons _ t=>.cons r t
 | _,_,i+1,.cons q t=>.cons q (Reps.set r i t)
theorem Reps.ints{K:PySem.W.Frag}{O:Own}{H:Hp}:∀{vs:List V}{ns:List Int},Reps K O H vs (ns.map D.int)->vs=ns.map V.int
 | _,[],.nil=>rfl
 | _,_::_,.cons r t=>by cases r;simp[Reps.ints t]
theorem Reps.of_ints{K:PySem.W.Frag}{O:Own}{H:Hp}:∀ns:List Int,Reps K O H (ns.map V.int) (ns.map D.int)
 | []=>.nil
 | n::ns=>.cons (.int n) (Reps.of_ints ns)
theorem Reps.bools{K:PySem.W.Frag}{O:Own}{H:Hp}:∀{vs:List V}{ns:List Bool},Reps K O H vs (ns.map D.bl)->vs=ns.map V.bl
 | _,[],.nil=>rfl
 | _,_::_,.cons r t=>by cases r;simp[Reps.bools t]
def Ug(ns:List Int):List Key:=ns.map Sum.inl
inductive Kps(K:PySem.W.Frag)(O:Own)(H:Hp):List (List Key×V)->List D->Prop
 | nil:Kps K O H [] []
 | cons{ns:List Int}{v:V}{d:D}{kvs:List (List Key×V)}{ds:List D}(r:Rep K O H v d)(t:Kps K O H kvs ds):Kps K O H ((Ug ns,v)::kvs) (.tup [.tup (ns.map .int),d]::ds)
theorem Kps.conv{K:PySem.W.Frag}{O O':Own}{H H':Hp}(s:Conv O O' H H'):∀{kvs:List (List Key×V)}{ds:List D},Kps K O H kvs ds->Kps K O' H' kvs ds
 | _,_,.nil=>.nil
 | _,_,.cons r t=>.cons (r.conv s) (Kps.conv s t)
def hC0(c:Int×List Int):Int:=reduceHash (Builtin.Tuple.tupleHashOf [hashInt c.1,reduceHash (Builtin.Tuple.tupleHashOf (c.2.map hashInt))])
abbrev Cy:=List ((Int×List Int)×Addr×Value)
def Ra(a:Addr)(ys:Cy)(h:Heap):Prop:=ys.length≤sizeLine/\(a==sysModules)=false/\(ys.map (·.1)).Nodup/\
 ∃o es ep,h.get? a=some o/\o.ExactDict/\o.data=.dict es ep/\es.toList=ys.map λ y=>(⟨hC0 y.1,.ref y.2.1,y.2.2⟩:DictEntry)
inductive Kcs(K:PySem.W.Frag)(O:Own)(H:Hp):Cy->List D->Prop
 | nil:Kcs K O H [] []
 | cons{c:Int×List Int}{b:Addr}{u:Value}{v:V}{k d:D}{ys:Cy}{ds:List D}(e:k=.tup [.int c.1,.tup (c.2.map .int)])(rk:Rep K O H (.ref b) k)(rv:RelV v u)(r:Rep K O H v d)(t:Kcs K O H ys ds):Kcs K O H ((c,b,u)::ys) (.tup [k,d]::ds)
theorem Kcs.conv{K:PySem.W.Frag}{O O':Own}{H H':Hp}(s:Conv O O' H H'):∀{ys:Cy}{ds:List D},Kcs K O H ys ds->Kcs K O' H' ys ds
 | _,_,.nil=>.nil
 | _,_,.cons e rk rv r t=>.cons e (rk.conv s) rv (r.conv s) (Kcs.conv s t)
def isO:Option Int->Value->Bool
 | some i,.int j _=>decide (i=j)
 | none,.none=>true
 | _,_=>false
def hO0:Option Int->Int
 | some i=>hashInt i
 | none=>4238894112
abbrev Oy:=List (Option Int×Value)
inductive OEs:List DictEntry->Oy->Prop
 | nil:OEs [] []
 | cons{e:DictEntry}{k:Option Int}{v:Value}{es:List DictEntry}{ys:Oy}(i:isO k e.key=true)(h:e.hash=hO0 k)(q:e.val=v)(t:OEs es ys):OEs (e::es) ((k,v)::ys)
def Rw(a:Addr)(ys:Oy)(h:Heap):Prop:=ys.length≤sizeLine/\(a==sysModules)=false/\(ys.map (·.1)).Nodup/\
 ∃o es ep,h.get? a=some o/\o.ExactDict/\o.data=.dict es ep/\OEs es.toList ys
def oD:Option Int->D
 | some i=>.int i
 | none=>.non
inductive Kos(K:PySem.W.Frag)(O:Own)(H:Hp):Oy->List D->Prop
 | nil:Kos K O H [] []
 | cons{c:Option Int}{u:Value}{v:V}{k d:D}{ys:Oy}{ds:List D}(e:k=oD c)(rv:RelV v u)(r:Rep K O H v d)(t:Kos K O H ys ds):Kos K O H ((c,u)::ys) (.tup [k,d]::ds)
theorem Kos.conv{K:PySem.W.Frag}{O O':Own}{H H':Hp}(s:Conv O O' H H'):∀{ys:Oy}{ds:List D},Kos K O H ys ds->Kos K O' H' ys ds
 | _,_,.nil=>.nil
 | _,_,.cons e rv r t=>.cons e rv (r.conv s) (Kos.conv s t)
abbrev tbD(b:Bool)(l c:Nat)(q:Str)(z:Nat):List D:=[.bl b,.int l,.int c,.str q,.int z,.tup (List.replicate (sizeLine+1) .non)]
def Sh(K:PySem.W.Frag)(z a:Addr):Prop:=∃o vs,K.lookup z=some o/\o.data=.fields vs/\vs[11]? =some (.ref a)
def Ue(x:Addr)(q:Str)(h:Heap):Prop:=h.CodeRec (.ref x) q
inductive DOb(K:PySem.W.Frag)(O:Own)(H:Hp)(a:Addr)(ds:List D):Prop
 | t(kvs:List (List Key×V))(e:H a=some (.dT kvs))(r:Kps K O H kvs ds):DOb K O H a ds
 | c(ys:Cy)(n:ys≠[])(e:H a=some (.ext (Ra a ys)))(r:Kcs K O H ys ds):DOb K O H a ds
 | o(ys:Oy)(n:ys≠[])(e:H a=some (.ext (Rw a ys)))(r:Kos K O H ys ds):DOb K O H a ds
 | p(ps:Array Value)(n:¬Abv K a)(b:Bool)(l c z:Nat)(q:Str)(k:Sh K z a)(e:H a=some (.tbl ps))(hd:ds=tbD b l c q z)
   (g:(b=false/\ps=#[])∨(b=true/\∃x,ps=#[rawInt l,rawInt c,.ref x]/\¬O.has x/\H x=some (.ext (Ue x q)))):DOb K O H a ds
theorem DOb.move{ds:List D}(s:Conv O O' H H')(b:DOb K O H a ds)(h:∀o,H a=some o->H' a=some o):DOb K O' H' a ds:=by
 cases b with
 | t kvs e r=>exact .t kvs (h _ e) (r.conv s)
 | c ys n e r=>exact .c ys n (h _ e) (r.conv s)
 | o ys n e r=>exact .o ys n (h _ e) (r.conv s)
 | p ps n b l c z q k e hd g=>exact .p ps n b l c z q k (h _ e) hd (g.imp id λ⟨g1,x,g2,g3,g4⟩=>⟨g1,x,g2,s.tr _ _ g3 g4⟩)
theorem DOb.there{ds:List D}(b:DOb K O H a ds):H a≠none:=by
 cases b with
 | t kvs e r=>rw[e];simp
 | c ys n e r=>rw[e];simp
 | o ys n e r=>rw[e];simp
 | p ps n b l c z q k e hd g=>rw[e];simp
structure StOk(K:PySem.W.Frag)(O:Own)(H:Hp)(S:Store):Prop where
 nd:(adr O.A).Nodup
 len:O.A.length=S.length
 obj:∀(k:Nat)(a:Addr)(ds:List D),O.A[k]? =some (a,false)->S[k]? =some ds->∃xs,H a=some (.lst xs)/\Reps K O H xs ds
 dob:∀(k:Nat)(a:Addr)(ds:List D),O.A[k]? =some (a,true)->S[k]? =some ds->DOb K O H a ds
 apart:∀a∈adr O.A,a∉O.B
 hidden:∀b∈O.B,H b≠none
structure EnvOk(K:PySem.W.Frag)(O:Own)(H:Hp)(σ:St)(Γ:Gam):Prop where
 len:σ.length=Γ.length
 at_:∀(i:Nat)(d:D),Γ[i]? =some (some d)->∃v,σ[i]? =some (some v)/\Rep K O H v d
theorem EnvOk.mono{σ:St}{Γ:Gam}(e:EnvOk K O H σ Γ)(s:Step O O' H H'):EnvOk K O' H' σ Γ:=
 ⟨e.len,λ i d h=>let ⟨v,a,b⟩:=e.at_ i d h;⟨v,a,b.mono s⟩⟩
theorem EnvOk.set{σ:St}{Γ:Gam}(e:EnvOk K O H σ Γ){v:V}{d:D}(r:Rep K O H v d)(i:Nat):EnvOk K O H (σ.set i (some v)) (Γ.set i (some d)):=by
 refine⟨by simp[e.len],λ j c h=>?_⟩
 by_cases hj:i=j
 . subst hj
   have hl:i<Γ.length:=by
    have:=(y3.mp h).1
    simpa using this
   rw[List.getElem?_set_self hl]at h
   cases h
   exact⟨v,List.getElem?_set_self (by rw[e.len];exact hl),r⟩
 . rw[List.getElem?_set_ne hj]at h
   rw[List.getElem?_set_ne hj]
   exact e.at_ j c h
theorem StOk.tracked(s:StOk K O H S){a:Addr}(h:O.has a):H a≠none:=by
 rcases h with h | h
 . obtain⟨⟨a',c⟩,hm,rfl⟩:=List.mem_map.mp h
   obtain⟨k,hk⟩:=List.getElem?_of_mem hm
   have hl:k<S.length:=by rw[←s.len];exact(y3.mp hk).1
   cases c with
   | false=>
     obtain⟨xs,q,_⟩:=s.obj k a' S[k] hk (y4 hl)
     rw[show(a',false).1=a' from rfl,q];simp
   | true=>
     exact(s.dob k a' S[k] hk (y4 hl)).there
 . exact s.hidden a h
theorem Step.fresh(h:H p=none)(o:HO):Step O O H (upd H p o):=
 ⟨λ b u _ q=>by rw[ao (aB q h)];exact q,λ b q=>by
  by_cases e:b=p
  . subst e;rw[aH];simp
  . rw[ao e];exact q,⟨[],by simp,λ _ z=>nomatch z⟩,rfl⟩
theorem Step.same(h:aV H H'):Step O O H H':=
 ⟨λ b o _ q=>h b o q,λ b q=>by
  cases e:H b with
  | none=>exact absurd e q
  | some o=>rw[h b o e];simp,⟨[],by simp,λ _ z=>nomatch z⟩,rfl⟩
theorem aV.fresh(h:H p=none)(o:HO):aV H (upd H p o):=λ b u q=>by rw[ao (aB q h)];exact q
theorem StOk.same(s:StOk K O H S)(h:aV H H'):StOk K O H' S:=
 ⟨s.nd,s.len,λ k a ds e1 e2=>let ⟨xs,q,r⟩:=s.obj k a ds e1 e2;⟨xs,h _ _ q,r.mono (Step.same h)⟩,λ k a ds e1 e2=>(s.dob k a ds e1 e2).move (Step.same h).conv λ o q=>h _ _ q,s.apart,λ b hb=>(Step.same (O:=O) h).dom b (s.hidden b hb)⟩
theorem StOk.fresh_not(s:StOk K O H S){p:Addr}(h:H p=none):¬O.has p:=λ z=>s.tracked z h
theorem StOk.fresh(s:StOk K O H S){p:Addr}(h:H p=none)(o:HO):StOk K O (upd H p o) S:=s.same (aV.fresh h o)
abbrev Own.more(O:Own)(p:Addr)(q:Bool:=false):Own:=⟨O.A++[(p,q)],O.B⟩
theorem Step.own(h:H p=none)(o:HO)(q:Bool:=false):Step O (O.more p q) H (upd H p o):=
 ⟨(Step.fresh (O:=O) h o).kept,(Step.fresh (O:=O) h o).dom,⟨[(p,q)],rfl,λ b z=>by rw[List.mem_singleton.mp z];exact h⟩,rfl⟩
theorem rn{A:List (Addr×Bool)}{p:Addr×Bool}{k:Nat}{x:Addr×Bool}(h:(A++[p])[k]? =some x):A[k]? =some x∨(k=A.length/\x=p):=by
 by_cases hk:k<A.length
 . rw[v3 hk]at h;exact .inl h
 . rw[List.getElem?_append_right (by omega)]at h
   have hk0:k-A.length=0:=by
    have:=(y3.mp h).1
    simp at this;omega
   rw[hk0]at h
   exact .inr ⟨by omega,(Option.some.inj h).symm⟩
theorem Jr{A:List (Addr×Bool)}{q:Bool}(h:(adr A).Nodup)(n:p∉adr A):(adr (A++[(p,q)])).Nodup:=by
 rw[cT]
 refine List.nodup_append.mpr ⟨h,by simp,λ a ha b hb e=>?_⟩
 rw[List.mem_singleton.mp hb]at e;rw[e]at ha;exact n ha
theorem StOk.own(s:StOk K O H S){p:Addr}(h:H p=none){xs:List V}{ds:List D}(r:Reps K O H xs ds):
 StOk K (O.more p) (upd H p (.lst xs)) (S++[ds]):=by
 have st:=Step.own (O:=O) h (.lst xs)
 have np:=s.fresh_not h
 refine⟨Jr s.nd λ z=>np (.inl z),by simp[s.len],λ k a es e1 e2=>?_,λ k a es e1 e2=>?_,λ a ha=>?_,λ b hb=>st.dom b (s.hidden b hb)⟩
 . rcases rn e1 with e1 | ⟨rfl,e⟩
   . have hk:=(y3.mp e1).1
     rw[v3 (by rw[←s.len];exact hk)]at e2
     obtain⟨ys,q,r'⟩:=s.obj k a es e1 e2
     exact⟨ys,by rw[ao (aB q h)];exact q,r'.mono st⟩
   . cases e
     rw[List.getElem?_append_right (by rw[s.len];exact x5 _),s.len,Nat.sub_self]at e2
     cases e2
     exact⟨xs,aH,r.mono st⟩
 . rcases rn e1 with e1 | ⟨rfl,e⟩
   . have hk:=(y3.mp e1).1
     rw[v3 (by rw[←s.len];exact hk)]at e2
     exact(s.dob k a es e1 e2).move st.conv λ o q=>by rw[ao (aB q h)];exact q
   . cases e
 . rw[cT]at ha
   rcases List.mem_append.mp ha with z | z
   . exact s.apart a z
   . rw[List.mem_singleton.mp z];exact λ q=>np (.inr q)
theorem Step.put(h:a∈adr O.A)(o:HO):Step O O H (upd H a o):=
 ⟨λ b u hb q=>by rw[ao (λ e=>hb (by rw[e];exact h))];exact q,λ b q=>by
  by_cases e:b=a
  . subst e;rw[aH];simp
  . rw[ao e];exact q,⟨[],by simp,λ _ z=>nomatch z⟩,rfl⟩
theorem Gv{A:List (Addr×Bool)}(nd:(adr A).Nodup){k j:Nat}{a b:Addr}{p q:Bool}(h:A[k]? =some (a,p))(h2:A[j]? =some (b,q))(hj:k≠j):b≠a:=λ e=>hj (by
 have g1:(adr A)[k]? =some a:=by rw[y9,h];rfl
 have g2:(adr A)[j]? =some b:=by rw[y9,h2];rfl
 obtain⟨h1,e1'⟩:=y3.mp g1
 obtain⟨h2,e2'⟩:=y3.mp g2
 exact(List.getElem_inj nd).mp (e1'.trans (e.symm.trans e2'.symm)))
theorem StOk.put(s:StOk K O H S){k:Nat}{a:Addr}(h:O.A[k]? =some (a,false)){xs:List V}{ds:List D}(r:Reps K O H xs ds):
 StOk K O (upd H a (.lst xs)) (S.set k ds):=by
 have st:=Step.put (O:=O) (H:=H) (bN h) (.lst xs)
 refine⟨s.nd,by simp[s.len],λ j b es e1 e2=>?_,λ j b es e1 e2=>?_,s.apart,λ b hb=>st.dom b (s.hidden b hb)⟩
 . by_cases hj:k=j
   . subst hj
     rw[h]at e1;cases e1
     have hl:=(y3.mp e2).1
     rw[List.getElem?_set_self (by simpa using hl)]at e2
     cases e2
     exact⟨xs,aH,r.mono st⟩
   . rw[List.getElem?_set_ne hj]at e2
     obtain⟨ys,q,r'⟩:=s.obj j b es e1 e2
     exact⟨ys,by rw[ao (Gv s.nd h e1 hj)];exact q,r'.mono st⟩
 . have hj:k≠j:=λ e=>by subst e;rw[h]at e1;cases e1
   rw[List.getElem?_set_ne hj]at e2
   exact(s.dob j b es e1 e2).move st.conv λ o q=>by rw[ao (Gv s.nd h e1 hj)];exact q
theorem StOk.hide(s:StOk K O H S){p:Addr}(h:H p=none)(o:HO):StOk K (O.hide p) (upd H p o) S:=by
 have st:=Step.fresh (O:=O) h o
 refine⟨s.nd,s.len,λ k a ds e1 e2=>?_,λ k a ds e1 e2=>?_,λ a ha z=>?_,λ b hb=>?_⟩
 . obtain⟨xs,q,r⟩:=s.obj k a ds e1 e2
   exact⟨xs,by rw[ao (aB q h)];exact q,r.conv (Conv.hide h o)⟩
 . exact(s.dob k a ds e1 e2).move (Conv.hide h o) λ o q=>by rw[ao (aB q h)];exact q
 . rcases List.mem_cons.mp z with z | z
   . exact s.tracked (.inl ha) (z▸h)
   . exact s.apart a ha z
 . rcases List.mem_cons.mp hb with z | z
   . subst z;rw[aH];simp
   . exact st.dom b (s.hidden b z)
theorem StOk.unhide{A:List (Addr×Bool)}{B:List Addr}(s:StOk K ⟨A,p::B⟩ H S):StOk K ⟨A,B⟩ H S:=
 ⟨s.nd,s.len,λ k a ds e1 e2=>let ⟨xs,q,r⟩:=s.obj k a ds e1 e2;⟨xs,q,r.conv Conv.unhide⟩,λ k a ds e1 e2=>(s.dob k a ds e1 e2).move Conv.unhide λ _ q=>q,λ a ha z=>s.apart a ha (x6 _ z),λ b hb=>s.hidden b (x6 _ hb)⟩
theorem StOk.updHid(s:StOk K O H S){p:Addr}(h:p∈O.B)(o:HO):StOk K O (upd H p o) S:=
 ⟨s.nd,s.len,λ k a ds e1 e2=>by
  obtain⟨xs,q,r⟩:=s.obj k a ds e1 e2
  have ne:a≠p:=λ e=>s.apart a (bN e1) (e▸h)
  exact⟨xs,by rw[ao ne];exact q,r.conv (Conv.updHid h o)⟩,λ k a ds e1 e2=>by
  have ne:a≠p:=λ e=>s.apart a (bN e1) (e▸h)
  exact(s.dob k a ds e1 e2).move (Conv.updHid h o) λ _ q=>by rw[ao ne];exact q,s.apart,λ b hb=>by
  by_cases e:b=p
  . subst e;rw[aH];simp
  . rw[ao e];exact s.hidden b hb⟩
theorem Step.adopt{A:List (Addr×Bool)}(s:Step O ⟨A,O.B⟩ H H')(h:H p=none):Step O ⟨A++[(p,false)],O.B⟩ H H':=by
 obtain⟨N,e,f⟩:=s.ext
 refine⟨s.kept,s.dom,⟨N++[(p,false)],?_,λ b hb=>?_⟩,rfl⟩
 . show A++[(p,false)]=_
   rw[show A=O.A++N from e,List.append_assoc]
 . rw[cT]at hb
   rcases List.mem_append.mp hb with z | z
   . exact f b z
   . rw[List.mem_singleton.mp z];exact h
theorem Conv.adopt{A:List (Addr×Bool)}{B:List Addr}:Conv ⟨A,p::B⟩ ⟨A++[(p,false)],B⟩ H H:=
 ⟨λ a u n t=>⟨λ z=>n (z.elim (λ z=>(List.mem_append.mp (by rw[←cT];exact z)).elim .inl λ z=>.inr (by rw[List.mem_singleton.mp z];exact x9)) λ z=>.inr (x6 _ z)),t⟩,
  λ k a h=>by
   show(A++[(p,false)])[k]? =some a
   rw[v3 (y3.mp h).1];exact h⟩
theorem StOk.adopt{A:List (Addr×Bool)}{B:List Addr}{ds:List D}(s:StOk K ⟨A,p::B⟩ H S)(hp:p∉B)(h:H p=some (.lst xs))(r:Reps K ⟨A,p::B⟩ H xs ds):StOk K ⟨A++[(p,false)],B⟩ H (S++[ds]):=by
 have np:p∉adr A:=λ z=>s.apart p z x9
 have sl:A.length=S.length:=s.len
 refine⟨Jr s.nd np,by simp[sl],λ k a es e1 e2=>?_,λ k a es e1 e2=>?_,λ a ha=>?_,λ b hb=>s.hidden b (x6 _ hb)⟩
 . rcases rn e1 with e1 | ⟨rfl,e⟩
   . have hk:=(y3.mp e1).1
     rw[v3 (by omega)]at e2
     obtain⟨ys,q,r'⟩:=s.obj k a es e1 e2
     exact⟨ys,q,r'.conv Conv.adopt⟩
   . cases e
     rw[List.getElem?_append_right (by omega),sl,Nat.sub_self]at e2
     cases e2
     exact⟨xs,h,r.conv Conv.adopt⟩
 . rcases rn e1 with e1 | ⟨rfl,e⟩
   . have hk:=(y3.mp e1).1
     rw[v3 (by omega)]at e2
     exact(s.dob k a es e1 e2).move Conv.adopt λ _ q=>q
   . cases e
 . have ha:a∈adr (A++[(p,false)]):=ha
   rw[cT]at ha
   rcases List.mem_append.mp ha with z | z
   . exact λ q=>s.apart a z (x6 _ q)
   . rw[List.mem_singleton.mp z];exact hp
theorem Step.inner{A1 A2:List (Addr×Bool)}{B:List Addr}{H1 H2:Hp}(a:Step O ⟨A1,B⟩ H H1)(b:Step ⟨A1,p::B⟩ ⟨A2,p::B⟩ H1 H2)(h:H p=none)(o:HO):Step O ⟨A2,B⟩ H (upd H2 p o):=by
 have b':Step ⟨A1,B⟩ ⟨A2,B⟩ H1 H2:=⟨b.kept,b.dom,b.ext,rfl⟩
 have c:=a.trans b'
 refine⟨λ x u hx t=>?_,λ x t=>?_,c.ext,c.hid⟩
 . rw[ao (aB t h)];exact c.kept x u hx t
 . by_cases e:x=p
   . subst e;rw[aH];simp
   . rw[ao e];exact c.dom x t
end DL
namespace DL
open PySem PySem.Spec L2
open PyProof.Rows
variable {K : PySem.W.Frag} {O : Own} {H : Hp} {x : D} {ds : List D} {i j : Int} {p : Addr} {xs : List V}
abbrev Pins:=List (Addr×Obj)
abbrev WD:=D->Store->Prop
def QG(K:PySem.W.Frag)(O:Own)(H:Hp)(W:WD):VK:=λ v H'=>∃O' d S',W d S'/\Step O O' H H'/\StOk K O' H' S'/\Rep K O' H' v d
def QA(K:PySem.W.Frag)(O:Own)(H:Hp)(W:List D->Store->Prop):List V->Hp->Prop:=λ vs H'=>∃O' ds S',W ds S'/\Step O O' H H'/\StOk K O' H' S'/\Reps K O' H' vs ds
def QT(K:PySem.W.Frag)(O:Own)(H:Hp)(W:Bool->Store->Prop):Bool->Hp->Prop:=λ b H'=>∃O' S',W b S'/\Step O O' H H'/\StOk K O' H' S'
def Ev(X:Cx)(Γ:Gam)(S:Store)(e:Expr)(W:WD):Prop:=
 ∀ (pins:Pins)(s:Shared)(σ:St)(H:Hp)(O:Own),Inv X pins σ H s->EnvOk X.K O H σ Γ->StOk X.K O H S->
   wpAny (model X.prog X.w) X.A (eval e X.env) (EP X pins σ (QG X.K O H W)) X.xe s
def EvA(X:Cx)(Γ:Gam)(S:Store)(es:List Expr)(W:List D->Store->Prop):Prop:=
 ∀ (pos:Pos)(pins:Pins)(s:Shared)(σ:St)(H:Hp)(O:Own),Inv X pins σ H s->EnvOk X.K O H σ Γ->StOk X.K O H S->
   wpAny (model X.prog X.w) X.A (spliced (backTo pos (starEach es X.env))) (AP X pins σ (QA X.K O H W)) X.xe s
def TsW(X:Cx)(Γ:Gam)(S:Store)(e:Expr)(W:Bool->Store->Prop):Prop:=
 ∀ (whole:Sem Value)(pins:Pins)(s:Shared)(σ:St)(H:Hp)(O:Own),Inv X pins σ H s->EnvOk X.K O H σ Γ->StOk X.K O H S->
   wpAny (model X.prog X.w) X.A (isTrue e X.env whole) (TP X pins σ (QT X.K O H W)) X.xe s
def Ts(X:Cx)(Γ:Gam)(S:Store)(e:Expr)(W:Bool->Store->Prop):Prop:=
 ∀ (pins:Pins)(s:Shared)(σ:St)(H:Hp)(O:Own),Inv X pins σ H s->EnvOk X.K O H σ Γ->StOk X.K O H S->
   wpAny (model X.prog X.w) X.A (isTrue e X.env (eval e X.env)) (TP X pins σ (QT X.K O H W)) X.xe s
def OpW(X:Cx)(f:Value->Value->Sem Value)(x y:D)(S:Store)(W:WD):Prop:=
 ∀ (pins:Pins)(s:Shared)(σ:St)(H:Hp)(O:Own)(v w:V)(u u':Value),Inv X pins σ H s->StOk X.K O H S->Rep X.K O H v x->Rep X.K O H w y->RelV v u->RelV w u'->
   wpAny (model X.prog X.w) X.A (f u u') (EP X pins σ (QG X.K O H W)) X.xe s
def cz(X:Cx)(f:Value)(ds:List D)(S:Store)(W:WD):Prop:=
 ∀ (pins:Pins)(s:Shared)(σ:St)(H:Hp)(O:Own)(vs:List V)(us:List Value),Inv X pins σ H s->StOk X.K O H S->Reps X.K O H vs ds->Vals vs us->
   wpAny (model X.prog X.w) X.A (call f us) (EP X pins σ (QG X.K O H W)) X.xe s
abbrev cL(X:Cx)(op:Operator):=OpW X (binaryOp op)
abbrev aZ(X:Cx)(op:CmpOp):=OpW X (compareOp op)
section
variable {X : Cx} {Γ : Gam} {S S1 : Store} {W : WD} {a b e : Expr} {es rest : List Expr} {pos : Pos}
theorem QG.pre{O1:Own}{H1:Hp}(st:Step O O1 H H1){v:V}{H':Hp}(q:QG K O1 H1 W v H'):QG K O H W v H':=by
 obtain⟨O',d,S',w,s',ok,r⟩:=q
 exact⟨O',d,S',w,st.trans s',ok,r⟩
theorem bM{pins:Pins}{σ:St}{O1:Own}{H1:Hp}(st:Step O O1 H H1){u:Value}{s':Shared}(q:EP X pins σ (QG X.K O1 H1 W) u s'):EP X pins σ (QG X.K O H W) u s':=by
 obtain⟨v,H',I,r,q⟩:=q
 exact⟨v,H',I,r,q.pre st⟩
theorem Ly{pins:Pins}{σ:St}{O1:Own}{H1:Hp}(st:Step O O1 H H1){W:Bool->Store->Prop}{u:Bool}{s':Shared}(q:TP X pins σ (QT X.K O1 H1 W) u s'):TP X pins σ (QT X.K O H W) u s':=by
 obtain⟨H',I,O',S',w,s2,ok⟩:=q
 exact⟨H',I,O',S',w,st.trans s2,ok⟩
theorem Ev.mono{W':WD}(h:Ev X Γ S e W)(k:∀d S',W d S'->W' d S'):Ev X Γ S e W':=λ pins s σ H O I env st=>
 thn (h pins s σ H O I env st) λ _ _ ⟨v,H',I',r,O',d,S',w,q⟩=>⟨v,H',I',r,O',d,S',k d S' w,q⟩
theorem OpW.mono{f:Value->Value->Sem Value}{y:D}{W':WD}(h:OpW X f x y S W)(k:∀d S',W d S'->W' d S'):OpW X f x y S W':=λ pins s σ H O v w u u' I st r1 r2 r3 r4=>
 thn (h pins s σ H O v w u u' I st r1 r2 r3 r4) λ _ _ ⟨v,H',I',r,O',d,S',w,q⟩=>⟨v,H',I',r,O',d,S',k d S' w,q⟩
theorem dq{f:Value->Value->Sem Value}{r:R2}{y:D}(ho:OpR X f r)(h:∀O H v w,StOk X.K O H S->Rep X.K O H v x->Rep X.K O H w y->r v w H (QG X.K O H W)):OpW X f x y S W:=
 λ pins s σ H O v w u u' I st r1 r2 r3 r4=>ho pins s σ H v w u u' _ I r3 r4 (h O H v w st r1 r2)
theorem bx{f:Value}{r:List V->Hp->VK->Prop}(hc:cI X f r)(h:∀O H vs,StOk X.K O H S->Reps X.K O H vs ds->r vs H (QG X.K O H W)):cz X f ds S W:=
 λ pins s σ H O vs us I st r1 r2=>hc pins s σ H vs us _ I r2 (h O H vs st r1)
theorem QG.here{v:V}{d:D}(w:W d S)(st:StOk K O H S)(r:Rep K O H v d):QG K O H W v H:=⟨O,d,S,w,Step.refl O H,st,r⟩
theorem Qz(i:Nat){x:Str}{d:D}(hΓ:Γ[i]? =some (some d))(w:W d S)(hN:X.N[i]? =some x:=by rfl)
 (hv:Vis X.env.scope x:=by first | exact Or.inl rfl | exact Or.inr (Or.inl rfl) | exact Or.inr (Or.inr rfl))(hd:(x==("__debug__":Str))=false:=by decide)(hcd:(x==("__classdict__":Str))=false:=by decide):
 Ev X Γ S (.Name x pos) W:=by
 intro pins s σ H O I env st
 obtain⟨v,e,r⟩:=env.at_ i d hΓ
 exact pZ hN hv hd hcd pins s σ H _ I ⟨v,e,QG.here w st r⟩
theorem Ig{j}(w:W (.int i) S):Ev X Γ S (.Constant (.int i) j pos) W:=λ pins s σ H O I _ st=>RK pins s σ H _ I (QG.here w st (.int i))
theorem Tc{i:Bool}{j}(w:W (.bl i) S):Ev X Γ S (.Constant (.bool i) j pos) W:=λ pins s σ H O I _ st=>LQ pins s σ H _ I (QG.here w st (.bl i))
theorem Qd{j}(w:W .non S):Ev X Γ S (.Constant .none j pos) W:=λ pins s σ H O I _ st=>Jm pins s σ H _ I (QG.here w st .non)
theorem Hr{x:Str}{j}(w:W (.str x) S):Ev X Γ S (.Constant (.str x) j pos) W:=λ pins s σ H O I _ st=>Jt pins s σ H _ I (QG.here w st (.str x))
theorem KC{x:Str}{t:Tok}(hm:X.mg x=some (.int i t))(w:W (.int i) S)(hg:Gl X x:=by rfl)(hd:(x==("__debug__":Str))=false:=by decide):Ev X Γ S (.Name x pos) W:=
 λ pins s σ H O I _ st=>Em hg hm (v:=.int i) ⟨t,rfl⟩ hd pins s σ H _ I (QG.here w st (.int i))
theorem yK{op:Operator}(h:Ev X Γ S a λ x S1=>Ev X Γ S1 b λ y S2=>cL X op x y S2 W):Ev X Γ S (.BinOp a op b pos) W:=by
 intro pins s σ H O I env st
 refine wpAny_BinOp (thn (h pins s σ H O I env st) λ u s1 hq_=>?_)
 obtain⟨v,H1,I1,r1,O1,x,S1,hb,st1,ok1,rep1⟩:=hq_
 refine thn (hb pins s1 σ H1 O1 I1 (env.mono st1) ok1) λ u' s2 hq_=>?_
 obtain⟨w,H2,I2,r2,O2,y,S2,hw,st2,ok2,rep2⟩:=hq_
 exact thn (hw pins s2 σ H2 O2 v w u u' I2 ok2 (rep1.mono st2) rep2 r1 r2) λ _ _ q=>bM (st1.trans st2) q
theorem Py{op:CmpOp}(h:Ev X Γ S a λ x S1=>Ev X Γ S1 b λ y S2=>aZ X op x y S2 W)(hm:behindInMarks op b=false:=by first | exact nomark _ | (with_unfolding_all rfl)):Ev X Γ S (.Compare a [op] [b] pos) W:=by
 intro pins s σ H O I env st
 refine wpAny_Compare1 (thn (h pins s σ H O I env st) λ u s1 hq_=>?_) hm
 obtain⟨v,H1,I1,r1,O1,x,S1,hb,st1,ok1,rep1⟩:=hq_
 refine thn (hb pins s1 σ H1 O1 I1 (env.mono st1) ok1) λ u' s2 hq_=>?_
 obtain⟨w,H2,I2,r2,O2,y,S2,hw,st2,ok2,rep2⟩:=hq_
 exact thn (hw pins s2 σ H2 O2 v w u u' I2 ok2 (rep1.mono st2) rep2 r1 r2) λ _ _ q=>bM (st1.trans st2) q
abbrev asB(W:Bool->Store->Prop):WD:=λ d S=>∃c,d=.bl c/\W c S
theorem Rc{op:CmpOp}{W:Bool->Store->Prop}(h:Ev X Γ S a λ x S1=>Ev X Γ S1 b λ y S2=>aZ X op x y S2 (asB W))(hm:behindInMarks op b=false:=by first | exact nomark _ | (with_unfolding_all rfl)):Ts X Γ S (.Compare a [op] [b] pos) W:=by
 intro pins s σ H O I env st
 refine wpAny_isTrue_Compare1 (thn (h pins s σ H O I env st) λ u s1 hq_=>?_) hm
 obtain⟨v,H1,I1,r1,O1,x,S1,hb,st1,ok1,rep1⟩:=hq_
 refine thn (hb pins s1 σ H1 O1 I1 (env.mono st1) ok1) λ u' s2 hq_=>?_
 obtain⟨w,H2,I2,r2,O2,y,S2,hw,st2,ok2,rep2⟩:=hq_
 refine thn (hw pins s2 σ H2 O2 v w u u' I2 ok2 (rep1.mono st2) rep2 r1 r2) λ _ _ hq_=>?_
 obtain⟨z,H3,I3,r3,O3,d,S3,⟨c,hd,wc⟩,st3,ok3,rep3⟩:=hq_
 subst hd
 cases rep3
 cases r3
 exact wpAny_truthy_bool ⟨H3,I3,O3,S3,wc,(st1.trans st2).trans st3,ok3⟩
theorem PL{W:Bool->Store->Prop}(h:Ev X Γ S e (asB W))(he:∀whole,isTrue e X.env whole=(do let v ←whole;standAt e.pos;holding [v] (truthy v)):=by intro _;rfl):Ts X Γ S e W:=by
 intro pins s σ H O I env st
 refine isTrue_plain (thn (h pins s σ H O I env st) λ _ _ hq_=>?_) (he _)
 obtain⟨z,H3,I3,r3,O3,d,S3,⟨c,hd,wc⟩,st3,ok3,rep3⟩:=hq_
 subst hd
 cases rep3
 cases r3
 exact wpAny_truthy_bool ⟨H3,I3,O3,S3,wc,st3,ok3⟩
theorem TsW.ts{W:Bool->Store->Prop}(h:TsW X Γ S e W):Ts X Γ S e W:=λ pins s σ H O I env st=>h _ pins s σ H O I env st
theorem tw_and1{W:Bool->Store->Prop}(h:Ts X Γ S a W):TsW X Γ S (.BoolOp .And [a] pos) W:=by
 intro wh pins s σ H O I env st
 refine isTrue_and (thn (h pins s σ H O I env st) λ c s1 e=>?_)
 cases c with
 | true=>exact isTrue_and_nil e
 | false=>exact e
theorem tw_or1{W:Bool->Store->Prop}(h:Ts X Γ S a W):TsW X Γ S (.BoolOp .Or [a] pos) W:=by
 intro wh pins s σ H O I env st
 refine isTrue_or (thn (h pins s σ H O I env st) λ c s1 e=>?_)
 cases c with
 | false=>exact isTrue_or_nil e
 | true=>exact e
theorem tw_and{W:Bool->Store->Prop}(h:Ts X Γ S a λ c S1=>(c=true->TsW X Γ S1 (.BoolOp .And (b::rest) pos) W)/\(c=false->W false S1)):TsW X Γ S (.BoolOp .And (a::b::rest) pos) W:=by
 intro wh pins s σ H O I env st
 refine isTrue_and (thn (h pins s σ H O I env st) λ c s1 hq_=>?_)
 obtain⟨H1,I1,O1,S1,w1,st1,ok1⟩:=hq_
 cases c with
 | true=>exact thn (w1.1 rfl wh pins s1 σ H1 O1 I1 (env.mono st1) ok1) λ _ _ q=>Ly st1 q
 | false=>exact⟨H1,I1,O1,S1,w1.2 rfl,st1,ok1⟩
theorem tw_or{W:Bool->Store->Prop}(h:Ts X Γ S a λ c S1=>(c=true->W true S1)/\(c=false->TsW X Γ S1 (.BoolOp .Or (b::rest) pos) W)):TsW X Γ S (.BoolOp .Or (a::b::rest) pos) W:=by
 intro wh pins s σ H O I env st
 refine isTrue_or (thn (h pins s σ H O I env st) λ c s1 hq_=>?_)
 obtain⟨H1,I1,O1,S1,w1,st1,ok1⟩:=hq_
 cases c with
 | false=>exact thn (w1.2 rfl wh pins s1 σ H1 O1 I1 (env.mono st1) ok1) λ _ _ q=>Ly st1 q
 | true=>exact⟨H1,I1,O1,S1,w1.1 rfl,st1,ok1⟩
theorem RQ{W:Bool->Store->Prop}(h:Ts X Γ S a λ c S1=>W (!c) S1):Ts X Γ S (.UnaryOp .Not a pos) W:=by
 intro pins s σ H O I env st
 exact isTrue_not (thn (h pins s σ H O I env st) λ c s1 ⟨H1,I1,O1,S1,w1,st1,ok1⟩=>⟨H1,I1,O1,S1,w1,st1,ok1⟩)
theorem HN{op}(h:Ev X Γ S a W):Ev X Γ S (.BoolOp op [a] pos) W:=λ pins s σ H O I env st=>BoolOp_one (h pins s σ H O I env st)
theorem Pj(h:Ev X Γ S a λ x S1=>∃c,x=.bl c/\(c=true->Ev X Γ S1 (.BoolOp .And (b::rest) pos) W)/\(c=false->W (.bl false) S1)):Ev X Γ S (.BoolOp .And (a::b::rest) pos) W:=by
 intro pins s σ H O I env st
 refine BoolOp_and (thn (h pins s σ H O I env st) λ u s1 hq_=>?_)
 obtain⟨v,H1,I1,r1,O1,x,S1,⟨c,hx,h1,h2⟩,st1,ok1,rep1⟩:=hq_
 subst hx
 cases rep1
 cases r1
 refine wpAny_truthy_bool ?_
 cases c with
 | true=>exact thn (h1 rfl pins s1 σ H1 O1 I1 (env.mono st1) ok1) λ _ _ q=>bM st1 q
 | false=>exact⟨.bl false,H1,I1,rfl,O1,.bl false,S1,h2 rfl,st1,ok1,.bl false⟩
theorem Ua(h:Ev X Γ S a λ x S1=>∃c,x=.bl c/\(c=true->W (.bl true) S1)/\(c=false->Ev X Γ S1 (.BoolOp .Or (b::rest) pos) W)):Ev X Γ S (.BoolOp .Or (a::b::rest) pos) W:=by
 intro pins s σ H O I env st
 refine BoolOp_or (thn (h pins s σ H O I env st) λ u s1 hq_=>?_)
 obtain⟨v,H1,I1,r1,O1,x,S1,⟨c,hx,h1,h2⟩,st1,ok1,rep1⟩:=hq_
 subst hx
 cases rep1
 cases r1
 refine wpAny_truthy_bool ?_
 cases c with
 | false=>exact thn (h2 rfl pins s1 σ H1 O1 I1 (env.mono st1) ok1) λ _ _ q=>bM st1 q
 | true=>exact⟨.bl true,H1,I1,rfl,O1,.bl true,S1,h1 rfl,st1,ok1,.bl true⟩
theorem QH(h:Ev X Γ S a λ x S1=>∃c,x=.bl c/\W (.bl (!c)) S1):Ev X Γ S (.UnaryOp .Not a pos) W:=by
 intro pins s σ H O I env st
 refine UnaryOp_ (thn (h pins s σ H O I env st) λ u s1 hq_=>?_)
 obtain⟨v,H1,I1,r1,O1,x,S1,⟨c,hx,h1⟩,st1,ok1,rep1⟩:=hq_
 subst hx
 cases rep1
 cases r1
 exact not_of (wpAny_truthy_bool ⟨.bl (!c),H1,I1,rfl,O1,.bl (!c),S1,h1,st1,ok1,.bl (!c)⟩)
theorem Hd(h:Ev X Γ S a λ x S1=>∃i,x=.int i/\W (.int (-i)) S1):Ev X Γ S (.UnaryOp .USub a pos) W:=by
 intro pins s σ H O I env st
 refine UnaryOp_ (thn (h pins s σ H O I env st) λ u s1 hq_=>?_)
 obtain⟨v,H1,I1,r1,O1,x,S1,⟨c,hx,h1⟩,st1,ok1,rep1⟩:=hq_
 subst hx
 cases rep1
 exact Rf pins s1 σ H1 _ _ _ I1 r1 ⟨c,rfl,O1,.int (-c),S1,h1,st1,ok1,.int (-c)⟩
theorem JL{c:Expr}(h:Ts X Γ S c λ k S1=>(k=true->Ev X Γ S1 a W)/\(k=false->Ev X Γ S1 b W)):Ev X Γ S (.IfExp c a b pos) W:=by
 intro pins s σ H O I env st
 refine wpAny_IfExp (thn (h pins s σ H O I env st) λ d s1 hq_=>?_)
 obtain⟨H1,I1,O1,S1,w1,st1,ok1⟩:=hq_
 cases d with
 | true=>exact thn (w1.1 rfl pins s1 σ H1 O1 I1 (env.mono st1) ok1) λ _ _ q=>bM st1 q
 | false=>exact thn (w1.2 rfl pins s1 σ H1 O1 I1 (env.mono st1) ok1) λ _ _ q=>bM st1 q
theorem Ld{c:Expr}{op op':CmpOp}(h:Ev X Γ S a λ x S1=>Ev X Γ S1 b λ y S2=>aZ X op x y S2 λ z S3=>∃k,z=.bl k/\(k=false->W (.bl false) S3)/\(k=true->Ev X Γ S3 c λ t S4=>aZ X op' y t S4 W))
 (hm:lastMarks [op,op'] [b,c]=false:=by with_unfolding_all rfl):Ev X Γ S (.Compare a [op,op'] [b,c] pos) W:=by
 intro pins s σ H O I env st
 refine Compare_chain (thn (h pins s σ H O I env st) λ u s1 ⟨v,H1,I1,r1,O1,x,S1,hb,st1,ok1,rep1⟩=>chain_link (thn (hb pins s1 σ H1 O1 I1 (env.mono st1) ok1) λ u' s2 hq_=>?_)) hm
 obtain⟨w,H2,I2,r2,O2,y,S2,hw,st2,ok2,rep2⟩:=hq_
 refine thn (hw pins s2 σ H2 O2 v w u u' I2 ok2 (rep1.mono st2) rep2 r1 r2) λ _ s3 hq_=>?_
 obtain⟨z,H3,I3,r3,O3,d,S3,⟨k,hd,k1,k2⟩,st3,ok3,rep3⟩:=hq_
 subst hd
 cases rep3
 cases r3
 refine wpAny_truthy_bool ?_
 cases k with
 | false=>exact ite_ff ⟨.bl false,H3,I3,rfl,O3,.bl false,S3,k1 rfl,(st1.trans st2).trans st3,ok3,.bl false⟩
 | true=>
   refine ite_tt (chain_last (thn (k2 rfl pins s3 σ H3 O3 I3 (((env.mono st1).mono st2).mono st3) ok3) λ u4 s4 hq_=>?_))
   obtain⟨w4,H4,I4,r4,O4,t,S4,h4,st4,ok4,rep4⟩:=hq_
   exact thn (h4 pins s4 σ H4 O4 w w4 u' u4 I4 ok4 ((rep2.mono st3).mono st4) rep4 r2 r4) λ _ _ q=>bM (((st1.trans st2).trans st3).trans st4) q
theorem cH{W:List D->Store->Prop}(w:W [] S):EvA X Γ S [] W:=λ _ pins s σ H O I _ st=>Calls.spliced_nil ⟨[],H,I,.nil,O,[],S,w,Step.refl O H,st,.nil⟩
theorem bz{W:List D->Store->Prop}(h:Ev X Γ S e λ d S1=>EvA X Γ S1 es λ ds S2=>W (d::ds) S2)(hs:starEach (e::es) X.env=(false,eval e X.env)::starEach es X.env:=by rfl):EvA X Γ S (e::es) W:=by
 intro pos pins s σ H O I env st
 rw[hs]
 show wpAny _ _ (spliced ((false,eval e X.env)::backTo pos (starEach es X.env))) _ _ s
 refine Calls.spliced_cons (thn (h pins s σ H O I env st) λ u s1 hq_=>?_)
 obtain⟨v,H1,I1,r1,O1,x,S1,hb,st1,ok1,rep1⟩:=hq_
 exact thn (hb pos pins s1 σ H1 O1 I1 (env.mono st1) ok1) λ us s2 ⟨xs,H2,I2,r2,O2,ds,S2,w,st2,ok2,rep2⟩=>⟨v::xs,H2,I2,.cons r1 r2,O2,x::ds,S2,w,st1.trans st2,ok2,.cons (rep1.mono st2) rep2⟩
theorem small{n:Nat}(h:n≤1000000):n≤sizeLine:=Nat.le_trans h (by decide)
theorem Q5(st:StOk K O H S)(h:H p=none):Tp K O (upd H p (.tup xs)) p xs:=⟨st.fresh_not h,aH⟩
theorem Qo(st:StOk K O H S)(h:H p=none):Ls K O (upd H p (.lst xs)) p xs:=.inl ⟨st.fresh_not h,.inl aH⟩
theorem eU(w:W (.tup ds) S)(st:StOk K O H S)(h:H p=none)(r:Reps K O H xs ds):QG K O H W (.ref p) (upd H p (.tup xs)):=
 ⟨O,.tup ds,S,w,Step.fresh h _,st.fresh h _,.tup (Q5 st h) (r.mono (Step.fresh h _))⟩
theorem du(w:W (.lst ds) S)(st:StOk K O H S)(h:H p=none)(r:Reps K O H xs ds):QG K O H W (.ref p) (upd H p (.lst xs)):=
 ⟨O,.lst ds,S,w,Step.fresh h _,st.fresh h _,.lst (Qo st h) (r.mono (Step.fresh h _))⟩
theorem lJ(w:W (.loc S.length) (S++[ds]))(st:StOk K O H S)(h:H p=none)(r:Reps K O H xs ds):QG K O H W (.ref p) (upd H p (.lst xs)):=
 ⟨O.more p,.loc S.length,S++[ds],w,Step.own h _,st.own h r,.loc (by show(O.A++[(p,false)])[S.length]? =some (p,false);rw[←st.len];simp)⟩
theorem PB{x1}(h:EvA X Γ S es λ ds S1=>ds.length≤1000000/\W (.tup ds) S1):Ev X Γ S (.Tuple es x1 pos) W:=by
 intro pins s σ H O I env st
 refine wpAny_Tuple_spliced (thn (h pos pins s σ H O I env st) λ us s1 ⟨xs,H1,I1,r,O1,ds,S1,⟨z,w⟩,st1,ok1,rep⟩=>⟨by rw[←r.length,rep.length];exact small z,?_⟩)
 have hf:H1 s1.heap.objs.size=none:=I1.hok.fresh (x5 _)
 refine⟨.ref s1.heap.objs.size,upd H1 s1.heap.objs.size (.tup xs),I1.laid (t':=s1.toks) (λ b u e=>Heap.get?_push_of_some _ e) (x5 _) ?_,rfl,(eU w ok1 hf rep).pre st1⟩
 exact⟨by rw[rep.length];exact small z,us,r,⟨_,Heap.get?_push_size _ rfl,rfl,_,rfl⟩⟩
theorem Pq(h:EvA X Γ S es λ ds S1=>ds.length≤1000000/\W (.lst ds) S1):Ev X Γ S (.List es pos) W:=by
 intro pins s σ H O I env st
 refine wpAny_List_spliced (thn (h pos pins s σ H O I env st) λ us s1 ⟨xs,H1,I1,r,O1,ds,S1,⟨z,w⟩,st1,ok1,rep⟩=>⟨by rw[←r.length,rep.length];exact small z,?_⟩)
 have hf:H1 s1.heap.objs.size=none:=I1.hok.fresh (x5 _)
 refine⟨.ref s1.heap.objs.size,upd H1 s1.heap.objs.size (.lst xs),I1.laid (t':=s1.toks) (λ b u e=>Heap.get?_push_of_some _ e) (x5 _) ?_,rfl,(du w ok1 hf rep).pre st1⟩
 exact⟨by rw[rep.length];exact small z,us,0,r,Heap.get?_push_size _ rfl⟩
theorem M9(h:EvA X Γ S es λ ds S1=>ds.length≤1000000/\W (.loc S1.length) (S1++[ds])):Ev X Γ S (.List es pos) W:=by
 intro pins s σ H O I env st
 refine wpAny_List_spliced (thn (h pos pins s σ H O I env st) λ us s1 ⟨xs,H1,I1,r,O1,ds,S1,⟨z,w⟩,st1,ok1,rep⟩=>⟨by rw[←r.length,rep.length];exact small z,?_⟩)
 have hf:H1 s1.heap.objs.size=none:=I1.hok.fresh (x5 _)
 refine⟨.ref s1.heap.objs.size,upd H1 s1.heap.objs.size (.lst xs),I1.laid (t':=s1.toks) (λ b u e=>Heap.get?_push_of_some _ e) (x5 _) ?_,rfl,(lJ w ok1 hf rep).pre st1⟩
 exact⟨by rw[rep.length];exact small z,us,0,r,Heap.get?_push_size _ rfl⟩
theorem jf{op:Operator}{C:Int->Int->Prop}{g:Int->Int->Int}(ho:OpR X (binaryOp op) (rI C λ i j=>.int (g i j))){i j:Int}(c:C i j)(w:W (.int (g i j)) S):cL X op (.int i) (.int j) S W:=
 dq ho λ O H v w' st r1 r2=>by cases r1;cases r2;exact⟨i,j,rfl,rfl,c,QG.here w st (.int _)⟩
theorem zf{op:Operator}{g:Int->Int->Int}(ho:OpR X (binaryOp op) (rI0 λ i j=>.int (g i j))){i j:Int}(w:W (.int (g i j)) S):cL X op (.int i) (.int j) S W:=
 dq ho λ O H v w' st r1 r2=>by cases r1;cases r2;exact⟨i,j,rfl,rfl,QG.here w st (.int _)⟩
theorem Tu(w:W (.int (i+j)) S):cL X .Add (.int i) (.int j) S W:=zf Ph w
theorem Sy(w:W (.int (i-j)) S):cL X .Sub (.int i) (.int j) S W:=zf Qi w
theorem R6(c:CMul i j)(w:W (.int (i*j)) S):cL X .Mult (.int i) (.int j) S W:=jf Q0 c w
theorem S9(c:0<j)(w:W (.int (i % j)) S):cL X .Mod (.int i) (.int j) S W:=jf RJ c w
theorem Pz(c:0<j/\j<1073741824)(w:W (.int (i/j)) S):cL X .FloorDiv (.int i) (.int j) S W:=jf Oi c w
theorem Tr(c:CPow i j)(w:W (.int (i ^ j.toNat)) S):cL X .Pow (.int i) (.int j) S W:=jf Pk c w
theorem mD{op:CmpOp}{g:Int->Int->Bool}(ho:OpR X (compareOp op) (rI0 λ i j=>.bl (g i j))){i j:Int}(w:W (.bl (g i j)) S):aZ X op (.int i) (.int j) S W:=
 dq ho λ O H v w' st r1 r2=>by cases r1;cases r2;exact⟨i,j,rfl,rfl,QG.here w st (.bl _)⟩
theorem UT(w:W (.bl (decide (i<j))) S):aZ X .Lt (.int i) (.int j) S W:=mD Sv w
theorem Uw(w:W (.bl (decide (i≤j))) S):aZ X .LtE (.int i) (.int j) S W:=mD T9 w
theorem UV(w:W (.bl (decide (j<i))) S):aZ X .Gt (.int i) (.int j) S W:=mD Ss w
theorem Um(w:W (.bl (decide (j≤i))) S):aZ X .GtE (.int i) (.int j) S W:=mD Tv w
theorem R9(w:W (.bl (decide (i=j))) S):aZ X .Eq (.int i) (.int j) S W:=
 dq FN λ O H v w' st r1 r2=>by
  cases r1;cases r2
  have e:decide (V.int i=V.int j)=decide (i=j):=by rw[mF];exact(Bool.beq_eq_decide_eq i j)
  exact⟨rfl,by rw[e];exact QG.here w st (.bl _)⟩
theorem TF(w:W (.bl (!decide (i=j))) S):aZ X .NotEq (.int i) (.int j) S W:=
 dq Lw λ O H v w' st r1 r2=>by
  cases r1;cases r2
  have e:decide (V.int i=V.int j)=decide (i=j):=by rw[mF];exact(Bool.beq_eq_decide_eq i j)
  exact⟨rfl,by rw[e];exact QG.here w st (.bl _)⟩
theorem R4{i j:Bool}(w:W (.bl (i==j)) S):aZ X .Eq (.bl i) (.bl j) S W:=
 dq FN λ O H v w' st r1 r2=>by
  cases r1;cases r2
  exact⟨rfl,by rw[kY];exact QG.here w st (.bl _)⟩
theorem R3{i j:Bool}(w:W (.bl (!(i==j))) S):aZ X .NotEq (.bl i) (.bl j) S W:=
 dq Lw λ O H v w' st r1 r2=>by
  cases r1;cases r2
  exact⟨rfl,by rw[kY];exact QG.here w st (.bl _)⟩
theorem RZ(w:W (.bl (match x with | .non=>true | _=>false)) S):aZ X .Is x .non S W:=
 dq Qy λ O H v w' st r1 r2=>by
  cases r2
  refine⟨rfl,?_⟩
  cases r1<;>exact QG.here w st (.bl _)
theorem MP(w:W (.bl (match x with | .non=>false | _=>true)) S):aZ X .IsNot x .non S W:=
 dq Np λ O H v w' st r1 r2=>by
  cases r2
  refine⟨rfl,?_⟩
  cases r1<;>exact QG.here w st (.bl _)
theorem Qk{es:List D}(hz:ds.length+es.length≤1000000)(w:W (.tup (ds++es)) S):cL X .Add (.tup ds) (.tup es) S W:=by
 intro pins s σ H O v w' u u' I st r1 r2 r3 r4
 cases r1 with
 | @tup a xs _ h1 q1=>
   cases r2 with
   | @tup b ys _ h2 q2=>
     by_cases hx:xs=[]
     . subst hx
       have e:ds=[]:=by have:=q1.length;simpa using this.symm
       subst e
       cases r3
       cases r4
       obtain⟨its,v1,p1,_⟩:=I.tuple h1.sq
       obtain⟨its2,v2,p2,_⟩:=I.tuple h2.sq
       cases v1
       obtain⟨⟨cls,dd,data,sl⟩,ho,hc,n,hd⟩:=id p1
       obtain⟨⟨cls2,dd2,data2,sl2⟩,ho2,hc2,n2,hd2⟩:=id p2
       simp only at hc hd hc2 hd2
       subst hc hd hc2 hd2
       exact concat_meets ⟨_,ho,rfl⟩ ⟨_,ho2,rfl⟩ noFill_tuple_add seq_tuple_add PySem.F.slot_tuple_add PySem.F.entry_tuple_add (PySem.F.args_tuple_add_2 _ _)
        (tuple_addW0 a b ([]:List Value).toArray its2.toArray n n2 dd dd2 sl sl2 rfl) ⟨ho,ho2,⟨.ref b,H,I,rfl,QG.here w st (.tup h2 q2)⟩⟩
     . refine N6 pins s σ H _ _ u u' _ I r3 r4 ⟨a,b,xs,ys,rfl,rfl,h1.sq,h2.sq,hx,by rw[q1.length,q2.length];exact small hz,λ e=>?_,λ _ p hp=>eU w st hp (q1.append q2)⟩
       subst e
       have e:es=[]:=by have:=q2.length;simpa using this.symm
       subst e
       rw[List.append_nil]at w
       exact QG.here w st (.tup h1 q1)
theorem Rk{es:List D}(hz:ds.length+es.length≤1000000)(w:W (.lst (ds++es)) S):cL X .Add (.lst ds) (.lst es) S W:=by
 intro pins s σ H O v w' u u' I st r1 r2 r3 r4
 cases r1 with
 | @lst a xs _ h1 q1=>
   cases r2 with
   | @lst b ys _ h2 q2=>
     cases r3
     cases r4
     obtain⟨its,v1,p1,_⟩:=I.list h1.sq
     obtain⟨its2,v2,p2,_⟩:=I.list h2.sq
     obtain⟨⟨cls,dd,data,sl⟩,n,ho,hc,hdd,hd⟩:=id p1
     obtain⟨⟨cls2,dd2,data2,sl2⟩,n2,ho2,hc2,hdd2,hd2⟩:=id p2
     simp only at hc hd hc2 hd2
     subst hc hd hc2 hd2
     have z:its.length+its2.length≤sizeLine:=by rw[←v1.length,←v2.length,q1.length,q2.length];exact small hz
     refine concat_meets ⟨_,ho,rfl⟩ ⟨_,ho2,rfl⟩ noFill_list_add seq_list_add PySem.F.slot_list_add PySem.F.entry_list_add (PySem.F.args_list_add_2 _ _)
      (list_addW a b its.toArray its2.toArray n n2 dd dd2 sl sl2 (by simpa using z)) ⟨ho,ho2,?_⟩
     have ea:its.toArray++its2.toArray=(its++its2).toArray:=by simp
     rw[ea]
     refine⟨.ref s.heap.objs.size,_,I.lnew (t':=s.toks) (v1.append v2) (by rw[w9,q1.length,q2.length];exact small hz),rfl,du w st I.fresh (q1.append q2)⟩
end
end DL
namespace DL
open PySem PySem.Spec L2
open PyProof.Rows
variable {K : PySem.W.Frag} {O : Own} {H : Hp} {xs : List V} {ds : List D} {i : Int} {d : D} {k : Nat} {x : Str} {p : Pos}
section
variable {X : Cx} {Γ : Gam} {S : Store} {W : WD} {a b e : Expr} {es : List Expr} {pos : Pos}
def IxW(X:Cx)(a b:Expr)(x y:D)(S:Store)(W:WD):Prop:=
 ∀ (pins:Pins)(s:Shared)(σ:St)(H:Hp)(O:Own)(v w:V)(u u':Value),Inv X pins σ H s->StOk X.K O H S->Rep X.K O H v x->Rep X.K O H w y->RelV v u->RelV w u'->
   subscripted b false u u'=operate [u,u'] (getItem u u')->wpAny (model X.prog X.w) X.A (subscriptTail a b u u') (EP X pins σ (QG X.K O H W)) X.xe s
theorem Ti(h:Ev X Γ S a λ x S1=>Ev X Γ S1 b λ y S2=>IxW X a b x y S2 W)(hs:uz b:=by intro _ _;rfl):Ev X Γ S (.Subscript a b pos) W:=by
 intro pins s σ H O I env st
 refine Subscript_ (thn (h pins s σ H O I env st) λ u s1 hq_=>?_)
 obtain⟨v,H1,I1,r1,O1,x,S1,hb,st1,ok1,rep1⟩:=hq_
 refine thn (hb pins s1 σ H1 O1 I1 (env.mono st1) ok1) λ u' s2 hq_=>?_
 obtain⟨w,H2,I2,r2,O2,y,S2,hw,st2,ok2,rep2⟩:=hq_
 exact thn (hw pins s2 σ H2 O2 v w u u' I2 ok2 (rep1.mono st2) rep2 r1 r2 (hs _ _)) λ _ _ q=>bM (st1.trans st2) q
theorem ut(r:Reps K O H xs ds)(h:atI ds i=some d):∃v,atI xs i=some v/\Rep K O H v d:=by
 unfold atI at h ⊢
 rw[r.length]
 cases e:ixN ds.length i with
 | none=>rw[e]at h;cases h
 | some j=>
   rw[e]at h
   exact r.get (i:=j) h
theorem Td(h:atI ds i=some d)(w:W d S):IxW X a b (.tup ds) (.int i) S W:=by
 intro pins s σ H O v w' u u' I st r1 r2 r3 r4 hs
 cases r2
 cases r1 with
 | @tup p xs _ h1 q1=>
   obtain⟨z,hz,rz⟩:=ut q1 h
   exact Pa a b pins s σ H _ _ u u' _ I r3 r4 ⟨p,xs,i,z,rfl,rfl,h1.sq,hz,QG.here w st rz⟩ hs
theorem T6(h:atI ds i=some d)(w:W d S):IxW X a b (.lst ds) (.int i) S W:=by
 intro pins s σ H O v w' u u' I st r1 r2 r3 r4 hs
 cases r2
 cases r1 with
 | @lst p xs _ h1 q1=>
   obtain⟨z,hz,rz⟩:=ut q1 h
   exact sH a b pins s σ H _ _ u u' _ I r3 r4 ⟨p,xs,i,z,rfl,rfl,h1.sq,hz,QG.here w st rz⟩ hs
theorem T4(hk:S[k]? =some ds)(h:atI ds i=some d)(w:W d S):IxW X a b (.loc k) (.int i) S W:=by
 intro pins s σ H O v w' u u' I st r1 r2 r3 r4 hs
 cases r2
 cases r1 with
 | @loc p _ h1=>
   obtain⟨xs,hx,q1⟩:=st.obj k p ds h1 hk
   obtain⟨z,hz,rz⟩:=ut q1 h
   exact sH a b pins s σ H _ _ u u' _ I r3 r4 ⟨p,xs,i,z,rfl,rfl,SqL.of hx,hz,QG.here w st rz⟩ hs
def PoD(X:Cx)(Γ:Gam)(S:Store)(o:Option Expr)(W:Option Int->Store->Prop):Prop:=match o with
 | none=>W none S
 | some e=>Ev X Γ S e λ d S1=>∃i,d=.int i/\W (some i) S1
def SlW(X:Cx)(x:D)(lo hi:Option Int)(S:Store)(W:WD):Prop:=
 ∀ (pins:Pins)(s:Shared)(σ:St)(H:Hp)(O:Own)(v:V)(u vl vu:Value)(sl:Addr),Inv X pins σ H s->StOk X.K O H S->Rep X.K O H v x->RelV v u->s.heap.IsSliceOf sl vl vu .none->IsPart vl lo->IsPart vu hi->
   ∃T id,typeLookup (.type T) "__getitem__"=pure (some (.builtin id))/\s.TypeIs u T/\wpAny (model X.prog X.w) X.A (getItem u (.ref sl)) (EP X pins σ (QG X.K O H W)) X.xe s
theorem Hw{W:Option Int->Store->Prop}{o:Option Expr}(h:PoD X Γ S o W){pins:Pins}{s:Shared}{σ:St}{H:Hp}{O:Own}(I:Inv X pins σ H s)(env:EnvOk X.K O H σ Γ)(st:StOk X.K O H S):
 wpAny (model X.prog X.w) X.A (evalPart o X.env) (λ u s'=>∃p H' O' S',Inv X pins σ H' s'/\IsPart u p/\W p S'/\Step O O' H H'/\StOk X.K O' H' S') X.xe s:=by
 cases o with
 | none=>
   rw[evalPart_none]
   exact wpAny_pure ⟨none,H,O,S,I,.none,h,Step.refl O H,st⟩
 | some e=>
   rw[evalPart_some]
   refine thn (h pins s σ H O I env st) λ u s1 hq_=>?_
   obtain⟨v,H1,I1,r1,O1,x,S1,⟨i,hx,w⟩,st1,ok1,rep1⟩:=hq_
   subst hx
   cases rep1
   obtain⟨t,rfl⟩:=r1
   exact⟨some i,H1,O1,S1,I1,.int i t,w,st1,ok1⟩
theorem JK{lo hi:Option Expr}{p2:Pos}(h:Ev X Γ S e λ x S1=>PoD X Γ S1 lo λ l S2=>PoD X Γ S2 hi λ r S3=>SlW X x l r S3 W):Ev X Γ S (.Subscript e (.Slice lo hi none p2) pos) W:=by
 intro pins s σ H O I env st
 refine Subscript_ (thn (h pins s σ H O I env st) λ v s1 hq_=>?_)
 obtain⟨y,H1,I1,r1,O1,x,S1,hb,st1,ok1,rep1⟩:=hq_
 refine wpAny_Slice (thn (Hw hb I1 (env.mono st1) ok1) λ vl s2 ⟨l,H2,O2,S2,I2,pl,hc,st2,ok2⟩=>thn (Hw hc I2 ((env.mono st1).mono st2) ok2) λ vu s3 hq_=>?_)
 obtain⟨r,H3,O3,S3,I3,pu,hd,st3,ok3⟩:=hq_
 rw[evalPart_none]
 refine wpAny_pure ?_
 have I4:Inv X pins σ H3 {s3 with heap:=s3.heap.push {cls:=.type "slice",data:=.fields #[vl,vu,.none]}}:=I3.kept (t':=s3.toks) λ b ob q=>Heap.get?_push_of_some _ q
 obtain⟨T,id,hT,ht,hg⟩:=hd pins {s3 with heap:=s3.heap.push {cls:=.type "slice",data:=.fields #[vl,vu,.none]}} σ H3 O3 y v vl vu s3.heap.objs.size I4 ok3 ((rep1.mono st2).mono st3) r1 (Heap.IsSliceOf.new ..) pl pu
 show wpAny (model X.prog X.w) X.A (subscriptTail e (.Slice lo hi none p2) v (.ref s3.heap.objs.size)) _ X.xe {s3 with heap:=s3.heap.push {cls:=.type "slice",data:=.fields #[vl,vu,.none]}}
 exact tail_any (ops:=[.ref s3.heap.objs.size,v]) ht hT (thn hg λ _ _ q=>bM ((st1.trans st2).trans st3) q) (by with_unfolding_all rfl)
def cutD(ds:List D)(lo hi:Option Int):List D:=(ds.drop (HT.sIx ds.length 0 lo)).take (HT.sIx ds.length ds.length hi-HT.sIx ds.length 0 lo)
theorem t7(r:Reps K O H xs ds)(lo hi:Option Int):Reps K O H (km xs lo hi) (cutD ds lo hi):=by
 unfold km cutD
 rw[r.length]
 exact(r.drop _).take _
theorem By{prog:Program}{w:World}{A:Around}{E:Value->Shared->Prop}{s:Shared}{t sl:Addr}{items:Array Value}{vl vu:Value}{lo hi:Option Int}{Q:Value->Shared->Prop}(ht:IsTup s.heap t items)(hs:s.heap.IsSliceOf sl vl vu .none)(pl:IsPart vl lo)(pu:IsPart vu hi)
 (h0:HT.sIx items.size 0 lo=0)(h1:HT.sIx items.size items.size hi=items.size)(h:Q (.ref t) s):wpAny (model prog w) A (getItem (.ref t) (.ref sl)) Q E s:=by
 obtain⟨os,hos,hcs,hds⟩:=id hs
 have isS:s.TypeIs (.ref sl) "slice":=⟨os,hos,hcs⟩
 unfold getItem
 try with_reducible refine wpAny_holding ?_
 first | refine wpAny_bind (wpAny_pure ?_) | skip
 refine wpAny_bind (wpAny_sequenceKey ht.typeIs (by decide) ?_)
 refine wpAny_bind (wpAny_callSpecial?_slot (name:=Str.ofString "__getitem__") ht.typeIs PyProof.Rows.slot_tuple_getitem
  (wpAny_call_entry PyProof.Rows.slot_tuple_getitem ht.typeIs entry_tuple_getitem ?_ (args_tuple_getitem _ _)))
 show wpAny _ _ (Builtin.Tuple.tupleItemsOf (.ref t)>>=_) _ _ s
 refine wpAny_bind (tupleItemsOf_ ht (wpAny_bind (wpAny_typeOf isS ?_)))
 rw[if_pos (by decide)]
 refine wpAny_bind (HT.sliceApplied_gen hs pl pu ?_)
 rw[h0,h1]
 show wpAny _ _ (if(((0:Nat):Int)==0&&(1:Int)==1&&(items.size-0)==items.size)=true then _ else _) _ _ s
 rw[if_pos (by simp)]
 unfold Builtin.Tuple.tupleIsExact
 first
  | exact wpAny_bind (wpAny_bind (wpAny_typeOf ht.typeIs (wpAny_pure (by rw[if_pos (by decide)];exact wpAny_bind (wpAny_rule (wpAny_pure ⟨_,rfl,wpAny_pure h⟩))))))
  | (refine wpAny_bind (wpAny_bind (wpAny_typeOf ht.typeIs (wpAny_pure ?_)))
     simp only[beq_self_eq_true,if_true]
     exact wpAny_bind (wpAny_rule (wpAny_pure ⟨_,rfl,wpAny_pure h⟩)))
theorem Tj{lo hi:Option Int}(w:W (.tup (cutD ds lo hi)) S):SlW X (.tup ds) lo hi S W:=by
 intro pins s σ H O v u vl vu sl I st r1 r3 hs pl pu
 cases r1 with
 | @tup p xs _ h1 q1=>
   by_cases hw:HT.sIx xs.length 0 lo=0/\HT.sIx xs.length xs.length hi=xs.length
   . cases r3
     obtain⟨its,r,ht,hz⟩:=I.tuple h1.sq
     have hlen:its.toArray.size=xs.length:=by rw[x8];exact r.length.symm
     refine⟨"tuple",_,PyProof.Rows.slot_tuple_getitem.lookup,ht.typeIs,By ht hs pl pu (by rw[hlen];exact hw.1) (by rw[hlen];exact hw.2) ⟨.ref p,H,I,rfl,?_⟩⟩
     have e:cutD ds lo hi=ds:=by
      unfold cutD
      rw[←q1.length,hw.1,hw.2,List.drop_zero,List.take_of_length_le (by rw[←q1.length];omega)]
     rw[e]at w
     exact QG.here w st (.tup h1 q1)
   . exact Qg pins s σ H _ u vl vu lo hi sl _ I r3 hs pl pu ⟨p,xs,rfl,h1.sq,hw,λ p' hp=>eU w st hp (t7 q1 lo hi)⟩
theorem RX{lo hi:Option Int}(w:W (.lst (cutD ds lo hi)) S):SlW X (.lst ds) lo hi S W:=by
 intro pins s σ H O v u vl vu sl I st r1 r3 hs pl pu
 cases r1 with
 | @lst p xs _ h1 q1=>exact Dt pins s σ H _ u vl vu lo hi sl _ I r3 hs pl pu ⟨p,xs,rfl,h1.sq,λ p' hp=>du w st hp (t7 q1 lo hi)⟩
theorem Kz{id:String}(h:EvA X Γ S (e::es) λ ds S1=>cz X (.builtin id) ds S1 W)(hm:X.mg x=none)(hv:bootBuiltins x=some (.builtin id))(hg:Gl X x:=by rfl)(hn:x≠"__name__":=by decide)(hdb:(x==("__debug__":Str))=false:=by decide)
 (he:starEach (e::es) X.env=(false,eval e X.env)::starEach es X.env:=by rfl)(hpl:(backTo pos (starEach es X.env)).any (·.1)=false:=by rfl):Ev X Γ S (.Call (.Name x p) (e::es) [] pos) W:=by
 intro pins s σ H O I env st
 refine wpAny_Call_Name_kw (aY I hg hm hv ?_ hn hdb)
 exact PyProof.Rows.callWith_builtin1 (thn (h pos pins s σ H O I env st) λ us s1 ⟨vs,H1,I1,r1,O1,ds,S1,w,st1,ok1,rep⟩=>thn (w pins s1 σ H1 O1 vs us I1 ok1 rep r1) λ _ _ q=>bM st1 q) he hpl
theorem JT{T:String}(h:EvA X Γ S (e::es) λ ds S1=>cz X (.type T) ds S1 W)(hm:X.mg x=none)(hv:bootBuiltins x=some (.type T))(hg:Gl X x:=by rfl)(hn:x≠"__name__":=by decide)(hdb:(x==("__debug__":Str))=false:=by decide)
 (he:starEach (e::es) X.env=(false,eval e X.env)::starEach es X.env:=by rfl)(hpl:(backTo pos (starEach es X.env)).any (·.1)=false:=by rfl):Ev X Γ S (.Call (.Name x p) (e::es) [] pos) W:=by
 intro pins s σ H O I env st
 refine wpAny_Call_Name_kw (aY I hg hm hv ?_ hn hdb)
 exact PyProof.Rows.callWith_type1 (thn (h pos pins s σ H O I env st) λ us s1 ⟨vs,H1,I1,r1,O1,ds,S1,w,st1,ok1,rep⟩=>thn (w pins s1 σ H1 O1 vs us I1 ok1 rep r1) λ _ _ q=>bM st1 q) he hpl
theorem bR{vs:List V}(r:Reps K O H vs [d]):∃v,vs=[v]/\Rep K O H v d:=by
 cases r with
 | cons a t=>cases t;exact⟨_,rfl,a⟩
theorem RD(w:W (.int ds.length) S):cz X (.builtin "len") [.tup ds] S W:=bx gw λ O H vs st r=>by
 obtain⟨v,rfl,r'⟩:=bR r
 cases r' with
 | @tup p xs _ h1 q1=>exact⟨p,xs,rfl,.inr h1.sq,by rw[q1.length];exact QG.here w st (.int _)⟩
theorem Px(w:W (.int ds.length) S):cz X (.builtin "len") [.lst ds] S W:=bx gw λ O H vs st r=>by
 obtain⟨v,rfl,r'⟩:=bR r
 cases r' with
 | @lst p xs _ h1 q1=>exact⟨p,xs,rfl,.inl h1.sq,by rw[q1.length];exact QG.here w st (.int _)⟩
theorem QV(hk:S[k]? =some ds)(w:W (.int ds.length) S):cz X (.builtin "len") [.loc k] S W:=bx gw λ O H vs st r=>by
 obtain⟨v,rfl,r'⟩:=bR r
 cases r' with
 | @loc p _ h1=>
   obtain⟨xs,hx,q1⟩:=st.obj k p ds h1 hk
   exact⟨p,xs,rfl,.inl (SqL.of hx),by rw[q1.length];exact QG.here w st (.int _)⟩
theorem RL(w:W (.tup ds) S):cz X (.type "tuple") [.lst ds] S W:=bx jN λ O H vs st r=>by
 obtain⟨v,rfl,r'⟩:=bR r
 cases r' with
 | @lst p xs _ h1 q1=>exact⟨p,xs,rfl,.inl ⟨h1.sq,λ l hl=>eU w st hl q1⟩⟩
theorem Qj(hk:S[k]? =some ds)(w:W (.tup ds) S):cz X (.type "tuple") [.loc k] S W:=bx jN λ O H vs st r=>by
 obtain⟨v,rfl,r'⟩:=bR r
 cases r' with
 | @loc p _ h1=>
   obtain⟨xs,hx,q1⟩:=st.obj k p ds h1 hk
   exact⟨p,xs,rfl,.inl ⟨SqL.of hx,λ l hl=>eU w st hl q1⟩⟩
theorem O9(w:W (.lst ds) S):cz X (.type "list") [.tup ds] S W:=bx dj λ O H vs st r=>by
 obtain⟨v,rfl,r'⟩:=bR r
 cases r' with
 | @tup p xs _ h1 q1=>exact⟨p,xs,rfl,.inr h1.sq,λ l hl=>du w st hl q1⟩
theorem QC(w:W (.lst ds) S):cz X (.type "list") [.lst ds] S W:=bx dj λ O H vs st r=>by
 obtain⟨v,rfl,r'⟩:=bR r
 cases r' with
 | @lst p xs _ h1 q1=>exact⟨p,xs,rfl,.inl h1.sq,λ l hl=>du w st hl q1⟩
abbrev Ct:=List D->Store->WD->Prop
def spC(K:PySem.W.Frag)(n:Nat)(F:Ct):Sp:=λ vs H Q _=>∃O ds S W,ds.length=n/\Reps K O H vs ds/\StOk K O H S/\F ds S W/\∀v H',QG K O H W v H'->Q v H'
structure Callee(P:Program)(w:World)(K:PySem.W.Frag)(mg:Str->Option Value)(base:Heap)(x:Str)(k n:Nat)(F:Ct):Prop where
 ex:∃f fd ps,FnOk P w K mg base CX0 k f fd ps (spC K n F)/\mg x=some (.ref f)/\PySem.W.keepIn K (.ref f)=true/\Binds K fd ps []
theorem Oe{n:Nat}{F:Ct}(C:Callee X.prog X.w X.K X.mg X.base x k n F)(hr:Room k X.A)(h:EvA X Γ S (e::es) λ ds S1=>ds.length=n/\F ds S1 W)(hg:Gl X x:=by rfl)(hdb:(x==("__debug__":Str))=false:=by decide)
 (he:starEach (e::es) X.env=(false,eval e X.env)::starEach es X.env:=by rfl)(hpl:(backTo pos (starEach es X.env)).any (·.1)=false:=by rfl):Ev X Γ S (.Call (.Name x p) (e::es) [] pos) W:=by
 intro pins s σ H O I env st
 obtain⟨f,fd,ps,hF,hm,hk,hb⟩:=C.ex
 refine wpAny_Call_Name_kw (jc I hg hm ?_ hdb)
 refine PySem.W.callWith_K (h₀:=X.base) I.ok.mod.kin hk (thn (h pos pins s σ H O I env st) λ us s1 ⟨vs,H1,I1,r1,O1,ds,S1,⟨hl,w⟩,st1,ok1,rep⟩=>⟨I1.kIn,?_⟩) he hpl
 refine PT hF hr hb .nil R5 I1 r1 ?_
 rw[List.append_nil]
 exact⟨O1,ds,S1,W,hl,rep,ok1,w,λ v H' q=>q.pre st1⟩
structure Fin where
 nx:Gam->Store->Prop
 rt:WD
 bk:Gam->Store->Prop:=λ _ _=>False
 ct:Gam->Store->Prop:=λ _ _=>False
def QN(K:PySem.W.Frag)(O:Own)(H:Hp)(W:Gam->Store->Prop):St->Hp->Prop:=λ σ' H'=>∃O' Γ' S',W Γ' S'/\Step O O' H H'/\StOk K O' H' S'/\EnvOk K O' H' σ' Γ'
def ends(K:PySem.W.Frag)(O:Own)(H:Hp)(W:Fin):Ends:={nx:=QN K O H W.nx,rt:=QG K O H W.rt,bk:=QN K O H W.bk,ct:=QN K O H W.ct}
def Rn(X:Cx)(Γ:Gam)(S:Store)(st:Stmt)(W:Fin):Prop:=
 ∀ (pins:Pins)(s:Shared)(σ:St)(H:Hp)(O:Own),Inv X pins σ H s->EnvOk X.K O H σ Γ->StOk X.K O H S->
   wpAny (model X.prog X.w) X.A (exec st X.env) (SP X pins (ends X.K O H W)) X.xe s
def Rns(X:Cx)(Γ:Gam)(S:Store)(sts:List Stmt)(W:Fin):Prop:=
 ∀ (pins:Pins)(s:Shared)(σ:St)(H:Hp)(O:Own),Inv X pins σ H s->EnvOk X.K O H σ Γ->StOk X.K O H S->
   wpAny (model X.prog X.w) X.A (execs sts X.env) (SP X pins (ends X.K O H W)) X.xe s
theorem QN.pre{O1:Own}{H1:Hp}(st:Step O O1 H H1){W:Gam->Store->Prop}{v:St}{H':Hp}(q:QN K O1 H1 W v H'):QN K O H W v H':=by
 obtain⟨O',d,S',w,s',ok,r⟩:=q
 exact⟨O',d,S',w,st.trans s',ok,r⟩
theorem mJ{pins:Pins}{O1:Own}{H1:Hp}{W:Fin}(st:Step O O1 H H1){f:Flow}{s':Shared}(q:SP X pins (ends X.K O1 H1 W) f s'):SP X pins (ends X.K O H W) f s':=by
 cases f with
 | next=>obtain⟨σ,H',I,q⟩:=q;exact⟨σ,H',I,QN.pre st q⟩
 | brk=>obtain⟨σ,H',I,q⟩:=q;exact⟨σ,H',I,QN.pre st q⟩
 | cont=>obtain⟨σ,H',I,q⟩:=q;exact⟨σ,H',I,QN.pre st q⟩
 | ret u=>obtain⟨v,σ,H',I,r,q⟩:=q;exact⟨v,σ,H',I,r,QG.pre st q⟩
variable {W : Fin} {st : Stmt} {sts : List Stmt}
theorem QR(w:W.nx Γ S):Rns X Γ S [] W:=λ pins s σ H O I env st=>wpAny_execs_nil ⟨σ,H,I,O,Γ,S,w,Step.refl O H,st,env⟩
theorem Dr(h:Rn X Γ S st {W with nx:=λ Γ1 S1=>Rns X Γ1 S1 sts W}):Rns X Γ S (st::sts) W:=by
 intro pins s σ H O I env ok
 refine wpAny_execs_cons (thn (h pins s σ H O I env ok) λ f s1 q=>?_)
 cases f with
 | next=>
   obtain⟨σ',H',I',O1,Γ1,S1,w,st1,ok1,env1⟩:=q
   exact thn (w pins s1 σ' H' O1 I' env1 ok1) λ _ _ q=>mJ st1 q
 | ret v=>exact q
 | brk=>exact q
 | cont=>exact q
theorem TX(h:Ev X Γ S e W.rt):Rn X Γ S (.Return (some e) pos) W:=by
 intro pins s σ H O I env ok
 exact wpAny_Return_some (thn (h pins s σ H O I env ok) λ v s1 ⟨x,H1,I1,r1,q1⟩=>⟨x,σ,H1,I1,r1,q1⟩)
theorem Uy{c:Expr}{xs ys:List Stmt}(h:Ts X Γ S c λ k S1=>(k=true->Rns X Γ S1 xs W)/\(k=false->Rns X Γ S1 ys W)):Rn X Γ S (.If c xs ys pos) W:=by
 intro pins s σ H O I env ok
 refine wpAny_If (thn (h pins s σ H O I env ok) λ d s1 hq_=>?_)
 obtain⟨H1,I1,O1,S1,w,st1,ok1⟩:=hq_
 cases d with
 | true=>exact thn (w.1 rfl pins s1 σ H1 O1 I1 (env.mono st1) ok1) λ _ _ q=>mJ st1 q
 | false=>exact thn (w.2 rfl pins s1 σ H1 O1 I1 (env.mono st1) ok1) λ _ _ q=>mJ st1 q
theorem Lj(i:Nat){x:Str}{pos':Pos}(h:Ev X Γ S e λ d S1=>W.nx (Γ.set i (some d)) S1)(hN:X.N.Nodup)(hi:X.N[i]? =some x:=by rfl)(hx:Loc X.env.scope x:=by first | exact Or.inl rfl | exact Or.inr rfl)
 (hs:swapsWith e (some (.Name x pos')) pos.line X.env=pure false:=by rfl)(hf:X.fn x=true∨X.env.scope.names.lookup x=some .local:=by first | exact .inl rfl | exact .inr rfl):Rn X Γ S (.Assign [.Name x pos'] e pos) W:=by
 intro pins s σ H O I env ok
 refine wpAny_Assign_Name (thn (h pins s σ H O I env ok) λ v s1 hq_=>?_) hs
 obtain⟨y,H1,I1,r1,O1,d,S1,w,st1,ok1,rep1⟩:=hq_
 exact jk I1 hN hi hx r1 (λ s2 I2=>⟨_,H1,I2,O1,_,S1,w,st1,ok1,(env.mono st1).set rep1 i⟩) hf
theorem Ru(h:Ev X Γ S e λ d S1=>W.nx Γ S1)(hs:swapsWith e none pos.line X.env=pure false:=by rfl):Rn X Γ S (.Expr e pos) W:=by
 intro pins s σ H O I env ok
 exact wpAny_Expr_any (thn (h pins s σ H O I env ok) λ v s1 ⟨x,H1,I1,r1,O1,d,S1,w,st1,ok1,rep1⟩=>⟨σ,H1,I1,O1,Γ,S1,w,st1,ok1,env.mono st1⟩) I.quiet hs
def tE(K:PySem.W.Frag)(Γ:Gam)(S:Store)(W:WD):TE:=λ σ H Q=>∃O,EnvOk K O H σ Γ/\StOk K O H S/\∀v H',QG K O H W v H'->Q v H'
theorem PK{pins:Pins}{σ:St}{Q Q':VK}{u:Value}{s':Shared}(q:EP X pins σ Q u s')(k:∀v H',Q v H'->Q' v H'):EP X pins σ Q' u s':=by
 obtain⟨v,H',I,r,q⟩:=q
 exact⟨v,H',I,r,k v H' q⟩
theorem Ev.pe{W:WD}(h:Ev X Γ S e W):PE X e (tE X.K Γ S W):=λ pins s σ H Q I ⟨O,env,st,k⟩=>thn (h pins s σ H O I env st) λ _ _ q=>PK q k
def tEA(K:PySem.W.Frag)(Γ:Gam)(S:Store)(W:List D->Store->Prop):TA:=λ σ H Q=>∃O,EnvOk K O H σ Γ/\StOk K O H S/\∀v H',QA K O H W v H'->Q v H'
theorem EvA.pa{W:List D->Store->Prop}(h:EvA X Γ S es W):PA X es (tEA X.K Γ S W):=λ pos pins s σ H Q I ⟨O,env,st,k⟩=>thn (h pos pins s σ H O I env st) λ _ _ ⟨v,H',I',r,q⟩=>⟨v,H',I',r,k v H' q⟩
theorem MN{o i:Expr}{tpos:Pos}(h:Ev X Γ S e λ d S1=>Ev X Γ S1 o λ x S2=>Ev X Γ S2 i λ y S3=>∃k n ds j,x=.loc k/\y=.int n/\S3[k]? =some ds/\ixN ds.length n=some j/\W.nx Γ (S3.set k (ds.set j d)))
 (ha:∀v,assign (.Subscript o i tpos) X.env v=(do
  let ov ←holding [v] (eval o X.env)
  let iv ←holding [v,ov] (eval i X.env)
  standAt tpos
  holding [v,ov,iv] (setItem ov iv v)
  release [v,ov,iv] []):=by intro _;rfl)(hs:swapsWithSole [.Subscript o i tpos] e pos.line X.env=pure false:=by rfl)(hw:swappedStores [.Subscript o i tpos] e X.env=pure none:=by rfl)
 (h1:(assignEach [.Subscript o i tpos] X.env).map (·.2)=[assign (.Subscript o i tpos) X.env]:=by rfl):Rn X Γ S (.Assign [.Subscript o i tpos] e pos) W:=by
 intro pins s σ H O I env ok
 refine wpAny_Assign_stores (thn (h pins s σ H O I env ok) λ u s1 hq_=>?_) hs hw
 obtain⟨v,H1,I1,r1,O1,d,S1,w1,st1,ok1,rep1⟩:=hq_
 rw[h1]
 show wpAny _ _ (assign (.Subscript o i tpos) X.env u) _ _ _
 rw[ha]
 refine wpAny_bind (wpAny_holding (thn (w1 pins s1 σ H1 O1 I1 (env.mono st1) ok1) λ ov s2 hq_=>?_))
 obtain⟨x,H2,I2,r2,O2,dx,S2,w2,st2,ok2,rep2⟩:=hq_
 refine wpAny_bind (wpAny_holding (thn (w2 pins s2 σ H2 O2 I2 ((env.mono st1).mono st2) ok2) λ iv s3 hq_=>?_))
 obtain⟨y,H3,I3,r3,O3,dy,S3,⟨k,n,ds,j,ex,ey,hk,hj,w⟩,st3,ok3,rep3⟩:=hq_
 subst ex
 subst ey
 have rx:=rep2.mono st3
 cases rx with
 | @loc p _ hp=>
   cases rep3
   obtain⟨xs,hx,q⟩:=ok3.obj k p ds hp hk
   have rd:=(rep1.mono st2).mono st3
   refine wpAny_bind (wpAny_standAt (wpAny_bind (wpAny_holding (thn (set_list pins s3 σ H3 _ _ v ov iv u (λ H'=>H'=upd H3 p (.lst (xs.set j v))) I3 r2 r3 r1 ⟨p,xs,n,j,rfl,rfl,hx,by rw[q.length];exact hj,rfl⟩) λ _ s4 hq_=>?_))))
   obtain⟨H4,I4,e4⟩:=hq_
   subst e4
   refine wpAny_release ⟨σ,_,I4,O3,Γ,_,w,((st1.trans st2).trans st3).trans (Step.put (bN hp) _),ok3.put hp (q.set rd j),(((env.mono st1).mono st2).mono st3).mono (Step.put (bN hp) _)⟩
def BdW(X:Cx)(tg:Expr)(d:D)(Γ:Gam)(S:Store)(W:Gam->Store->Prop):Prop:=
 ∀ (pins:Pins)(s:Shared)(σ:St)(H:Hp)(O:Own)(v:V)(u:Value),Inv X pins σ H s->EnvOk X.K O H σ Γ->StOk X.K O H S->Rep X.K O H v d->RelV v u->
   wpAny (model X.prog X.w) X.A (assign tg X.env u) (λ _ s'=>∃σ' H',Inv X pins σ' H' s'/\QN X.K O H W σ' H') X.xe s
def Aa(X:Cx)(ts:List Expr)(ds:List D)(Γ:Gam)(S:Store)(W:Gam->Store->Prop):Prop:=
 ∀ (pins:Pins)(s:Shared)(σ:St)(H:Hp)(O:Own)(vs:List V)(us:List Value),Inv X pins σ H s->EnvOk X.K O H σ Γ->StOk X.K O H S->Reps X.K O H vs ds->Vals vs us->
   wpAny (model X.prog X.w) X.A (assignInOrder ((assignEach ts X.env).map (·.2)) us) (λ _ s'=>∃σ' H',Inv X pins σ' H' s'/\QN X.K O H W σ' H') X.xe s
theorem N5(i:Nat){x:Str}{d:D}{W:Gam->Store->Prop}(w:W (Γ.set i (some d)) S)(hN:X.N.Nodup)(hi:X.N[i]? =some x:=by rfl)(hx:Loc X.env.scope x:=by first | exact Or.inl rfl | exact Or.inr rfl)
 (hf:X.fn x=true∨X.env.scope.names.lookup x=some .local:=by first | exact .inl rfl | exact .inr rfl):BdW X (.Name x pos) d Γ S W:=λ pins s σ H O v u I env st r ru=>
 wpAny_assign_Name (jk I hN hi hx ru (λ s' I'=>⟨_,H,I',O,_,S,w,Step.refl O H,st,env.set r i⟩) hf)
theorem Mx{W:Gam->Store->Prop}(w:W Γ S):Aa X [] [] Γ S W:=λ pins s σ H O vs us I env st r ru=>by
 cases r
 cases ru
 exact assignInOrder_nil ⟨σ,H,I,O,Γ,S,w,Step.refl O H,st,env⟩
theorem Ke{t:Expr}{ts:List Expr}{W:Gam->Store->Prop}(h:BdW X t d Γ S λ Γ1 S1=>Aa X ts ds Γ1 S1 W)
 (hs:(assignEach (t::ts) X.env).map (·.2)=assign t X.env::(assignEach ts X.env).map (·.2):=by rfl):Aa X (t::ts) (d::ds) Γ S W:=λ pins s σ H O vs us I env st r ru=>by
 cases r with
 | cons r rr=>
   cases ru with
   | cons ru rru=>
     rw[hs]
     refine assignInOrder_cons (thn (h pins s σ H O _ _ I env st r ru) λ _ s1 hq_=>?_)
     obtain⟨σ1,H1,I1,O1,Γ1,S1,w,st1,ok1,env1⟩:=hq_
     refine thn (w pins s1 σ1 H1 O1 _ _ I1 env1 ok1 (rr.mono st1) rru) λ _ s2 ⟨σ2,H2,I2,q⟩=>⟨σ2,H2,I2,QN.pre st1 q⟩
theorem RM{ts:List Expr}{W:Gam->Store->Prop}(h:Aa X ts ds Γ S W)(hc:X.calm=true:=by rfl)(hn:(assignEach ts X.env).length=ds.length:=by rfl)(hst:(assignEach ts X.env).findIdx? (·.1)=none:=by rfl):BdW X (.Tuple ts k pos) (.tup ds) Γ S W:=λ pins s σ H O v u I env st r ru=>by
 cases r with
 | @tup p xs _ h1 q1=>
   cases ru
   obtain⟨its,rv,ht,hz⟩:=I.tuple h1.sq
   refine assign_Tuple_tuple (I.ok.hd hc) ht (by simp[hn,←q1.length,rv.length]) hst λ h' hx=>?_
   have I1:Inv X pins σ H {s with heap:=h'}:=I.kept (t':=s.toks) λ b o e=>hx b o (Nat.ne_of_lt (Heap.lt_size e)) e
   exact h pins _ σ H O xs _ I1 env st q1 (by simpa using rv)
def gO(K:PySem.W.Frag)(J:It)(O:Own)(H:Hp)(ds:List D):Prop:=
 ∀(O':Own)(H':Hp),Conv O O' H H'->(∀a,O'.has a->H' a≠none)->∀i:Nat,(∀d,ds[i]? =some d->J.go i H'/\∀x H'',J.yld i H' x H''->aV H' H''/\Rep K O' H'' x d)/\(i=ds.length->J.stop i H')
def QI(K:PySem.W.Frag)(O:Own)(H:Hp)(W:List D->Store->Prop):It->Hp->Prop:=λ J H'=>∃O' ds S',W ds S'/\Step O O' H H'/\StOk K O' H' S'/\gO K J O' H' ds
def ItW(X:Cx)(Γ:Gam)(S:Store)(tg iter:Expr)(W:List D->Store->Prop):Prop:=
 ∀ (pins:Pins)(s:Shared)(σ:St)(H:Hp)(O:Own),Inv X pins σ H s->EnvOk X.K O H σ Γ->StOk X.K O H S->
   wpAny (model X.prog X.w) X.A (eval iter X.env) (λ v s1=>wpAny (model X.prog X.w) X.A (pyIter v) (PIE X pins σ tg (QI X.K O H W)) X.xe s1) X.xe s
theorem nD{a:Addr}(h:Ls K O H a xs)(r:Reps K O H xs ds):gO K (Itl K a) O H ds:=by
 intro O' H' st _ i
 have hq:=(h.conv st).sq
 refine⟨λ d hd=>?_,λ hi=>⟨xs,hq,by rw[r.length];exact Nat.le_of_eq hi.symm⟩⟩
 obtain⟨v,hv,rv⟩:=r.get hd
 refine⟨⟨xs,v,hq,hv⟩,λ x H'' y=>?_⟩
 obtain⟨e,y⟩:=y
 subst e
 have e:=y xs hq
 rw[hv]at e
 cases e
 exact⟨aV.refl _,rv.conv st⟩
theorem pX{a:Addr}(h:Tp K O H a xs)(r:Reps K O H xs ds):gO K (Itt K a) O H ds:=by
 intro O' H' st _ i
 have hq:=(h.conv st).sq
 refine⟨λ d hd=>?_,λ hi=>⟨xs,hq,by rw[r.length];exact Nat.le_of_eq hi.symm⟩⟩
 obtain⟨v,hv,rv⟩:=r.get hd
 refine⟨⟨xs,v,hq,hv⟩,λ x H'' y=>?_⟩
 obtain⟨e,y⟩:=y
 subst e
 have e:=y xs hq
 rw[hv]at e
 cases e
 exact⟨aV.refl _,rv.conv st⟩
def upTo(lo:Int)(n:Nat):List D:=(List.range n).map λ(k:Nat)=>D.int (lo+(k:Int))
theorem au(lo:Int)(n:Nat):(upTo lo n).length=n:=by simp[upTo]
theorem aM{lo:Int}{n i:Nat}(h:(upTo lo n)[i]? =some d):i<n/\d=.int (lo+i):=by
 unfold upTo at h
 rw[y9]at h
 cases e:(List.range n)[i]? with
 | none=>rw[e]at h;cases h
 | some k=>
   rw[e]at h
   obtain⟨hl,hk⟩:=y3.mp e
   simp at hl hk
   subst hk
   cases h
   exact⟨hl,rfl⟩
theorem lg(lo:Int)(n:Nat):gO K (Itr lo n) O H (upTo lo n):=by
 intro O' H' st _ i
 refine⟨λ d hd=>?_,λ hi=>by rw[au]at hi;exact Nat.le_of_eq hi.symm⟩
 obtain⟨hi,ed⟩:=aM hd
 subst ed
 refine⟨hi,λ x H'' y=>?_⟩
 obtain⟨e,ex⟩:=y
 subst e
 subst ex
 exact⟨aV.refl _,.int _⟩
theorem Hs{tg a:Expr}{W:List D->Store->Prop}(h:Ev X Γ S a λ d S1=>∃j:Int,d=.int j/\ -(2 ^ 62)≤j/\j<2 ^ 62/\W (upTo 0 j.toNat) S1)(hm:X.mg "range"=none)(hg:Gl X "range":=by rfl)(hs:starEach [a] X.env=[(false,eval a X.env)]:=by rfl):
 ItW X Γ S tg (.Call (.Name "range" p) [a] [] pos) W:=by
 intro pins s σ H O I env st
 refine Ho hg hm (bH h.pe eQ hs) hs pins s σ H _ I ⟨O,env,st,λ v H' q=>?_⟩
 obtain⟨O',d,S',⟨j,ed,h1,h2,w⟩,st1,ok1,rep⟩:=q
 subst ed
 cases rep
 exact⟨j,rfl,h1,h2,O',_,S',w,st1,ok1,lg 0 _⟩
theorem Jg{tg a b:Expr}{W:List D->Store->Prop}(h:Ev X Γ S a λ d S1=>Ev X Γ S1 b λ d' S2=>∃i j:Int,d=.int i/\d'=.int j/\(-(2 ^ 62)≤i/\i<2 ^ 62/\ -(2 ^ 62)≤j/\j<2 ^ 62)/\W (upTo i (j-i).toNat) S2)(hm:X.mg "range"=none)(hg:Gl X "range":=by rfl)
 (hs:starEach [a,b] X.env=[(false,eval a X.env),(false,eval b X.env)]:=by rfl)(hs2:starEach [b] X.env=[(false,eval b X.env)]:=by rfl):
 ItW X Γ S tg (.Call (.Name "range" p) [a,b] [] pos) W:=by
 intro pins s σ H O I env st
 have hA:EvA X Γ S [a,b] λ ds S2=>∃i j:Int,ds=[.int i,.int j]/\(-(2 ^ 62)≤i/\i<2 ^ 62/\ -(2 ^ 62)≤j/\j<2 ^ 62)/\W (upTo i (j-i).toNat) S2:=
  bz (h.mono λ d S1 h1=>bz (h1.mono λ d' S2 ⟨i,j,e1,e2,hb,w⟩=>cH ⟨i,j,by rw[e1,e2],hb,w⟩) hs2) (by rw[hs,hs2])
 refine G9 hg hm hA.pa hs hs2 pins s σ H _ I ⟨O,env,st,λ v H' q=>?_⟩
 obtain⟨O',ds,S',⟨i,j,ed,hb,w⟩,st1,ok1,rep⟩:=q
 subst ed
 cases rep with
 | cons r1 r2=>
   cases r2 with
   | cons r2 r3=>
     cases r3
     cases r1
     cases r2
     exact⟨i,j,rfl,hb,O',_,S',w,st1,ok1,lg i _⟩
theorem Sd{tg iter:Expr}{body:List Stmt}(h:ItW X Γ S tg iter λ ds S1=>∃Pv:Nat->Gam->Store->Prop,Pv 0 Γ S1/\
 (∀i d Γ' S',ds[i]? =some d->Pv i Γ' S'->BdW X tg d Γ' S' λ Γ2 S2=>Rns X Γ2 S2 body {W with nx:=Pv (i+1),ct:=Pv (i+1),bk:=W.nx})/\(∀Γ' S',Pv ds.length Γ' S'->W.nx Γ' S'))
 (hp:PassesOwn (model X.prog X.w) X.A X.env X.xe:=by exact PassesOwn.never)(hc:X.calm=true:=by rfl)(hs:∀x,foldedSetIterable iter X.env x=pure x:=by intro _;rfl):Rn X Γ S (.For tg iter body [] pos) W:=by
 intro pins s σ H O I env ok
 let WI:List D->Store->Prop:=λ ds S1=>∃Pv:Nat->Gam->Store->Prop,Pv 0 Γ S1/\
     (∀i d Γ' S',ds[i]? =some d->Pv i Γ' S'->BdW X tg d Γ' S' λ Γ2 S2=>Rns X Γ2 S2 body {W with nx:=Pv (i+1),ct:=Pv (i+1),bk:=W.nx})/\(∀Γ' S',Pv ds.length Γ' S'->W.nx Γ' S')
 have hI:PI X tg iter (λ σ H R=>∃O,EnvOk X.K O H σ Γ/\StOk X.K O H S/\∀J H',QI X.K O H WI J H'->R J H'):=λ pins s σ H R I hh=>by
  obtain⟨O,env,st,k⟩:=hh
  refine thn (h pins s σ H O I env st) λ _ _ q=>thn q λ _ _ q2=>?_
  obtain⟨it,fp,tn,J,H',e1,e2,e3,e4,e5,e6⟩:=q2
  exact⟨it,fp,tn,J,H',e1,e2,e3,e4,e5,k J H' e6⟩
 have hG:PG X tg (λ v σ H Q=>∃O d Γ S W',EnvOk X.K O H σ Γ/\StOk X.K O H S/\Rep X.K O H v d/\BdW X tg d Γ S W'/\∀σ' H',QN X.K O H W' σ' H'->Q σ' H'):=λ pins s σ H v u Q I ru hh=>by
  obtain⟨O,d,Γ,S,W',env,st,r,b,k⟩:=hh
  refine thn (b pins s σ H O v u I env st r ru) λ _ _ q2=>?_
  obtain⟨σ',H',I',q⟩:=q2
  exact⟨σ',H',I',k σ' H' q⟩
 have hB:PSs X body (λ D σ H=>∃O Γ S W',EnvOk X.K O H σ Γ/\StOk X.K O H S/\Rns X Γ S body W'/\(∀σ' H',QN X.K O H W'.nx σ' H'->D.nx σ' H')/\(∀v H',QG X.K O H W'.rt v H'->D.rt v H')/\(∀σ' H',QN X.K O H W'.bk σ' H'->D.bk σ' H')/\∀σ' H',QN X.K O H W'.ct σ' H'->D.ct σ' H'):=
  λ pins s σ H D I hh=>by
   obtain⟨O,Γ,S,W',env,st,b,k1,k2,k3,k4⟩:=hh
   refine thn (b pins s σ H O I env st) λ f s' q=>?_
   cases f with
   | next=>obtain⟨σ',H',I',q⟩:=q;exact⟨σ',H',I',k1 σ' H' q⟩
   | brk=>obtain⟨σ',H',I',q⟩:=q;exact⟨σ',H',I',k3 σ' H' q⟩
   | cont=>obtain⟨σ',H',I',q⟩:=q;exact⟨σ',H',I',k4 σ' H' q⟩
   | ret u=>obtain⟨v,σ',H',I',r,q⟩:=q;exact⟨v,σ',H',I',r,k2 v H' q⟩
 refine Je hp hc hI hG hB hs pins s σ H _ I ⟨O,env,ok,λ J H1 q=>?_⟩
 obtain⟨O1,ds,S1,⟨Pv,p0,pt,pe⟩,st1,ok1,yl⟩:=q
 refine⟨λ i m σ' H'=>m=ds.length-i/\i≤ds.length/\∃O' Γ' S',Pv i Γ' S'/\Step O1 O' H1 H'/\StOk X.K O' H' S'/\EnvOk X.K O' H' σ' Γ',⟨ds.length,by simp,Nat.zero_le _,O1,Γ,S1,p0,Step.refl _ _,ok1,env.mono st1⟩,?_⟩
 rintro i m σ2 H2 ⟨rfl,hi,O2,Γ2,S2,p2,st2,ok2,env2⟩
 obtain⟨y1,y2⟩:=yl O2 H2 st2.conv (λ a ha=>ok2.tracked ha) i
 by_cases hlt:i<ds.length
 . obtain⟨go,yy⟩:=y1 ds[i] (y4 hlt)
   refine .inr ⟨go,λ σ' H'=>i+1≤ds.length/\∃O' Γ' S',Pv (i+1) Γ' S'/\Step O1 O' H1 H'/\StOk X.K O' H' S'/\EnvOk X.K O' H' σ' Γ',λ σ' H' q=>⟨ds.length-(i+1),by omega,rfl,q.1,q.2⟩,λ x H3 y=>?_⟩
   obtain⟨sm,rx⟩:=yy x H3 y
   have st3:=Step.same (O:=O2) sm
   refine⟨O2,ds[i],Γ2,S2,_,env2.mono st3,ok2.same sm,rx,pt i ds[i] Γ2 S2 (y4 hlt) p2,λ σ4 H4 q4=>?_⟩
   obtain⟨O4,Γ4,S4,w4,st4,ok4,env4⟩:=q4
   have stA:=(st2.trans st3).trans st4
   refine⟨O4,Γ4,S4,_,env4,ok4,w4,?_,?_,?_,?_⟩
   . rintro σ5 H5 ⟨O5,Γ5,S5,w5,st5,ok5,env5⟩
     exact⟨hlt,O5,Γ5,S5,w5,stA.trans st5,ok5,env5⟩
   . exact λ v H' q=>QG.pre (st1.trans stA) q
   . exact λ σ' H' q=>QN.pre (st1.trans stA) q
   . rintro σ5 H5 ⟨O5,Γ5,S5,w5,st5,ok5,env5⟩
     exact⟨hlt,O5,Γ5,S5,w5,stA.trans st5,ok5,env5⟩
 . have e:i=ds.length:=by omega
   subst e
   exact .inl ⟨y2 rfl,O2,Γ2,S2,pe Γ2 S2 p2,st1.trans st2,ok2,env2⟩
theorem Ma {P:Program}{w:World}{mg:Str->Option Value}{base:Heap}{qual:Str}{sm:Stmt}{f:Addr}{fd:FuncData}{N ps:List Str}{F:Ct}(FF:Fun K x qual sm f fd)(SC:FnScope N ps (aq sm))
 (body:∀(cdv:Value)(A:Around)(outer:List Env)(s:Shared)(H:Hp)(E:XK)(ds:List D)(S:Store)(W:WD),fd.code=cdv->Room k (A.deeper (envOfC qual (aq sm) s.heap.objs.size f cdv))->ds.length=ps.length->F ds S W->
  Rns (cN CX0 P w K mg base N qual (aq sm) f cdv A outer s H E).nox (ds.map some++List.replicate (N.length-ds.length) none) S (bw sm) {nx:=λ _ S1=>W .non S1,rt:=W}):FnOk P w K mg base CX0 (k+1) f fd ps (spC K ps.length F):=by
 obtain⟨oc,od,kV,doc,pm,an,cdv,ct,osl,rfl,lk,hcd⟩:=FF.ex
 refine Lk lk hcd SC (λ vs H Q E h=>?_) λ A outer s H vs Q E hr h=>?_
 . obtain⟨O,ds,S,W,hl,r,_⟩:=h
   rw[r.length,hl]
 . obtain ⟨O,ds,S,W,hl,r,st,hF,q⟩:=h
   have hB:=body cdv A outer s H E ds S W rfl hr hl hF
   suffices key:∃t,PSs (cN CX0 P w K mg base N qual (aq sm) f cdv A outer s H E).nox (bw sm) t/\t {nx:=λ _ H'=>Q .non H',rt:=Q} (L2.start N vs) H from let ⟨t,h,q⟩:=key;⟨t,h.nox,q⟩
   refine⟨λ D σ H'=>∃O Γ S W',EnvOk K O H' σ Γ/\StOk K O H' S/\Rns (cN CX0 P w K mg base N qual (aq sm) f cdv A outer s H E).nox Γ S (bw sm) W'/\(∀σ' H2,QN K O H' W'.nx σ' H2->D.nx σ' H2)/\(∀v H2,QG K O H' W'.rt v H2->D.rt v H2)/\(∀σ' H2,QN K O H' W'.bk σ' H2->D.bk σ' H2)/\∀σ' H2,QN K O H' W'.ct σ' H2->D.ct σ' H2,?_,?_⟩
   . intro pins s σ H' D I ⟨O,Γ,S,W',env,st,b,k1,k2,k3,k4⟩
     refine thn (b pins s σ H' O I env st) λ f s' q=>?_
     cases f with
     | next=>obtain⟨σ',H',I',q⟩:=q;exact⟨σ',H',I',k1 σ' H' q⟩
     | brk=>obtain⟨σ',H',I',q⟩:=q;exact⟨σ',H',I',k3 σ' H' q⟩
     | cont=>obtain⟨σ',H',I',q⟩:=q;exact⟨σ',H',I',k4 σ' H' q⟩
     | ret u=>obtain⟨v,σ',H',I',r,q⟩:=q;exact⟨v,σ',H',I',r,k2 v H' q⟩
   . refine⟨O,_,S,_,?_,st,hB,?_,?_,?_,?_⟩
     . have hv:vs.length=ds.length:=r.length
       refine⟨by simp[L2.start,hv],λ i d h=>?_⟩
       by_cases hi:i<ds.length
       . rw[v3 (by simpa using hi),y9]at h
         cases e:ds[i]? with
         | none=>rw[e]at h;cases h
         | some d'=>
           rw[e]at h
           cases h
           obtain⟨v,hv',rv⟩:=r.get e
           refine⟨v,?_,rv⟩
           unfold L2.start
           rw[v3 (by rw[y8,hv];exact hi),y9,hv']
           rfl
       . rw[List.getElem?_append_right (by simpa using hi),List.getElem?_replicate]at h
         split at h<;>cases h
     . rintro σ' H2 ⟨O',Γ',S',w,st',ok',_⟩
       exact q _ _ ⟨O',.non,S',w,st',ok',.non⟩
     . exact λ v H2 z=>q v H2 z
     . rintro σ' H2 ⟨_,_,_,w,_⟩
       exact w.elim
     . rintro σ' H2 ⟨_,_,_,w,_⟩
       exact w.elim
end
end DL
namespace DL
open PySem PySem.Spec L2
open PyProof.Rows
variable {K : PySem.W.Frag} {O : Own} {H : Hp} {s : Shared}
def rk(env:Env)(n:Str)(k:NameKind):NameKind:=if(k==NameKind.free&&env.scope.kind==.function&&env.kindOf n==some .cell)=true then .cell else k
theorem jj(sc:Scope)(env:Env):(relabel sc env).names=sc.names.map λ p=>(p.1,rk env p.1 p.2):=by
 show sc.names.map _=_
 congr 1
 funext p
 obtain⟨n,k⟩:=p
 unfold rk
 by_cases h:(k==NameKind.free&&env.scope.kind==.function&&env.kindOf n==some .cell)=true
 . simp only[h,if_true]
 . simp only[h,if_false,Bool.false_eq_true]
theorem cY(g:Str->NameKind->NameKind)(x:Str):∀names:List (Str×NameKind),(names.map λ p=>(p.1,g p.1 p.2)).lookup x=(names.lookup x).map (g x)
 | []=>rfl
 | (n,k)::r=>by
   have ih:=cY g x r
   rw[List.map_cons,List.lookup_cons,List.lookup_cons]
   cases hx:x==n with
   | true=>rw[eq_of_beq hx];rfl
   | false=>exact ih
theorem oK(env:Env)(n:Str)(k:NameKind):rk env n k=k∨(k=.free/\rk env n k=.cell):=by
 unfold rk
 by_cases h:(k==NameKind.free&&env.scope.kind==.function&&env.kindOf n==some .cell)=true
 . rw[if_pos h]
   rw[Bool.and_eq_true,Bool.and_eq_true]at h
   exact .inr ⟨eq_of_beq h.1.1,rfl⟩
 . rw[if_neg h];exact .inl rfl
theorem iY{env:Env}{sc:Scope}{x:Str}{k:NameKind}(h:(relabel sc env).names.lookup x=some k):∃k0,sc.names.lookup x=some k0/\(k=k0∨(k0=.free/\k=.cell)):=by
 rw[jj,cY]at h
 cases e:sc.names.lookup x with
 | none=>rw[e]at h;cases h
 | some k0=>
   rw[e]at h
   have h':rk env x k0=k:=Option.some.inj h
   refine⟨k0,rfl,?_⟩
   rcases oK env x k0 with q | ⟨q1,q2⟩
   . exact .inl (h'.symm.trans q)
   . exact .inr ⟨q1,h'.symm.trans q2⟩
theorem Ag{env:Env}{sc:Scope}{x:Str}(h:sc.names.lookup x=some .free):(relabel sc env).names.lookup x=some .cell∨(relabel sc env).names.lookup x=some .free:=by
 rw[jj,cY,h]
 rcases oK env x .free with q | ⟨_,q⟩
 . exact .inr (congrArg some q)
 . exact .inl (congrArg some q)
def closes(env:Env):List (Str×NameKind)->List (Str×Addr)->List (Str×Addr)
 | [],cs=>cs
 | (n,k)::r,cs=>closes env r (if k==.free then(n,(env.cells.lookup n).getD 0)::cs else cs)
theorem nu{env:Env}:∀(names:List (Str×NameKind))(cs:List (Str×Addr)),(∀y∈names,y.2=.free->∃c,env.cells.lookup y.1=some c)->
 (forIn (m:=Sem) names cs λ x r=>if(x.2==.free)=true then do let a ←cellOf env x.1;pure (ForInStep.yield ((x.1,a)::r))else pure (ForInStep.yield r))=pure (closes env names cs)
 | [],cs,_=>by rw[List.forIn_nil];rfl
 | (n,k)::r,cs,h=>by
   rw[List.forIn_cons]
   have ih:=λ cs=>nu (env:=env) r cs λ y hy=>h y (x6 _ hy)
   by_cases hk:(k==NameKind.free)=true
   . obtain⟨c,hc⟩:=h (n,k) x9 (eq_of_beq hk)
     have hc':env.cells.lookup n=some c:=hc
     have e:cellOf env n=pure c:=by unfold cellOf;rw[hc']
     have q:=ih ((n,c)::cs)
     simp only[hk,if_true,e,pure_bind]
     rw[q]
     simp[closes,hk,hc']
   . have q:=ih cs
     simp only[hk,if_false,pure_bind,Bool.false_eq_true]
     rw[q]
     simp[closes,hk]
theorem jL{env:Env}{sc:Scope}(h:∀y∈sc.names,y.2=.free->∃c,env.cells.lookup y.1=some c):closureFor sc env=pure (closes env sc.names []):=by
 have q:=nu (env:=env) sc.names [] h
 unfold closureFor
 first
  | (simp only[bind_pure];exact q)
  | (rw[show(forIn sc.names ([]:List (Str×Addr)) _:Sem _)=_ from q];rfl)
  | (refine Eq.trans (congrArg (λ t=>t>>=pure) q) ?_;simp)
theorem nC{env:Env}{x:Str}{c:Addr}:∀(names:List (Str×NameKind))(cs:List (Str×Addr)),(∀y∈names,y.2=.free->∃c,env.cells.lookup y.1=some c)->(∀c,cs.lookup x=some c->env.cells.lookup x=some c)->(closes env names cs).lookup x=some c->env.cells.lookup x=some c
 | [],cs,_,hc,h=>hc c h
 | (n, k)::r,cs,hf,hc,h=>by
   refine nC r _ (λ y hy=>hf y (x6 _ hy)) ?_ h
   intro c' h'
   by_cases hk:(k==NameKind.free)=true
   . rw[if_pos hk]at h'
     obtain⟨c2,h2⟩:=hf (n,k) x9 (eq_of_beq hk)
     have h2:env.cells.lookup n=some c2:=h2
     rw[List.lookup_cons]at h'
     cases hx:x==n with
     | true=>
       rw[hx,h2]at h'
       have e:x=n:=eq_of_beq hx
       subst e
       simp only[Option.getD_some]at h'
       cases h'
       exact h2
     | false=>rw[hx]at h';exact hc c' h'
   . rw[if_neg hk]at h'
     exact hc c' h'
theorem fC{env:Env}{x:Str}:∀(names:List (Str×NameKind))(cs:List (Str×Addr)),((∃c,cs.lookup x=some c)∨names.lookup x=some .free)->∃c,(closes env names cs).lookup x=some c
 | [],cs,h=>by
   rcases h with h | h
   . exact h
   . simp at h
 | (n, k)::r,cs,h=>by
   refine fC r _ ?_
   rcases h with⟨c,h⟩ | h
   . refine .inl ?_
     by_cases hk:(k==NameKind.free)=true
     . rw[if_pos hk,List.lookup_cons]
       cases hx:x==n with
       | true=>exact⟨_,rfl⟩
       | false=>exact⟨c,h⟩
     . rw[if_neg hk];exact⟨c,h⟩
   . rw[List.lookup_cons]at h
     cases hx:x==n with
     | true=>
       rw[hx]at h
       simp only at h
       cases h
       refine .inl ⟨(env.cells.lookup n).getD 0,?_⟩
       simp[List.lookup_cons,hx]
     | false=>rw[hx]at h;exact .inr h
def eG(X:Cx)(sc:Scope)(N:List Str)(C:Addr)(s:Shared)(H:Hp)(ex:List Addr)(cl:List (Str×Addr)):Cx:=
 {X with N:=N,s₀:=s,H₀:=H,env:=compEnvC sc cl C X.env,outer:=X.stack,stack:=X.stack,ex:=ex,fn:=λ x=>sc.names.lookup x==some .cell,pn:=[]}
def capt{α:Type}(cap:List (Option Nat))(xs:List (Option α)):List (Option α):=cap.map λ o=>o.bind λ j=>(xs[j]?).join
def aQ(N:List Str)(names:List (Str×NameKind))(N':List Str)(names':List (Str×NameKind)):List (Option Nat)->List Str->Bool
 | [],[]=>true
 | none::r,_::t=>aQ N names N' names' r t
 | some j::r,x::t=>(N[j]? ==some x)&&(names.lookup x==some .cell||names.lookup x==some .free)&&(names'.lookup x==some .free)&&aQ N names N' names' r t
 | _,_=>false
theorem kZ{N:List Str}{names:List (Str×NameKind)}{N':List Str}{names':List (Str×NameKind)}:∀{cap:List (Option Nat)}{t:List Str},aQ N names N' names' cap t=true->cap.length=t.length
 | [],[],_=>rfl
 | [],_::_,h=>by simp[aQ]at h
 | _::_,[],h=>by
   rename_i o r
   cases o<;>simp[aQ]at h
 | none::r,_::t,h=>by simp only[aQ]at h;simp[kZ h]
 | some j::r,x::t,h=>by
   simp only[aQ,Bool.and_eq_true]at h
   simp[kZ h.2]
theorem oU{N:List Str}{names:List (Str×NameKind)}{N':List Str}{names':List (Str×NameKind)}:∀{cap:List (Option Nat)}{t:List Str}{i j:Nat},aQ N names N' names' cap t=true->cap[i]? =some (some j)->
 ∃x,t[i]? =some x/\N[j]? =some x/\(names.lookup x=some .cell∨names.lookup x=some .free)/\names'.lookup x=some .free
 | [],_,_,_,_,h=>by simp at h
 | none::r,[],_,_,h,_=>by simp[aQ]at h
 | some _::r,[],_,_,h,_=>by simp[aQ]at h
 | none::r,x::t,0,j,_,h=>by simp at h
 | none::r,x::t,i+1,j,h,e=>by
   simp only[aQ]at h
   obtain⟨y,a,b⟩:=oU (i:=i) h (by simpa using e)
   exact⟨y,by simpa using a,b⟩
 | some k::r,x::t,0,j,h,e=>by
   simp only[aQ,Bool.and_eq_true,Bool.or_eq_true,beq_iff_eq]at h
   simp at e
   subst e
   exact⟨x,rfl,h.1.1.1,h.1.1.2,h.1.2⟩
 | some k::r,x::t,i+1,j,h,e=>by
   simp only[aQ,Bool.and_eq_true]at h
   obtain⟨y,a,b⟩:=oU (i:=i) h.2 (by simpa using e)
   exact⟨y,by simpa using a,b⟩
theorem Eb{α:Type}{cap:List (Option Nat)}{xs:List (Option α)}{i:Nat}{d:α}(h:(capt cap xs)[i]? =some (some d)):∃j,cap[i]? =some (some j)/\xs[j]? =some (some d):=by
 unfold capt at h
 rw[y9]at h
 cases e:cap[i]? with
 | none=>rw[e]at h;cases h
 | some o=>
   rw[e]at h
   cases o with
   | none=>simp at h
   | some j=>
     simp at h
     refine⟨j,rfl,?_⟩
     cases q:xs[j]? with
     | none=>rw[q]at h;cases h
     | some z=>rw[q]at h;simp at h;rw[h]
theorem EnvOk.capt{σ:St}{Γ:Gam}(e:EnvOk K O H σ Γ)(cap:List (Option Nat)):EnvOk K O H (capt cap σ) (capt cap Γ):=by
 refine⟨by simp[DL.capt],λ i d h=>?_⟩
 obtain⟨j,hj,hd⟩:=Eb h
 obtain⟨v,hv,r⟩:=e.at_ j d hd
 refine⟨v,?_,r⟩
 unfold DL.capt
 rw[y9,hj]
 simp[hv]
def Sub(Γ Γ':Gam):Prop:=Γ.length=Γ'.length/\∀(i:Nat)(d:D),Γ[i]? =some (some d)->Γ'[i]? =some (some d)
theorem Sub.refl(Γ:Gam):Sub Γ Γ:=⟨rfl,λ _ _ h=>h⟩
theorem Sub.set{Γ Γ':Gam}(s:Sub Γ Γ')(i:Nat)(d:Option D)(h:Γ[i]? =some none:=by rfl):Sub Γ (Γ'.set i d):=⟨by rw[List.length_set];exact s.1,λ j c hj=>by
 have ne:i≠j:=λ e=>by subst e;rw[h]at hj;cases hj
 rw[List.getElem?_set_ne ne];exact s.2 j c hj⟩
theorem EnvOk.sub{σ:St}{Γ Γ':Gam}(e:EnvOk K O H σ Γ')(s:Sub Γ Γ'):EnvOk K O H σ Γ:=⟨e.len.trans s.1.symm,λ i d h=>e.at_ i d (s.2 i d h)⟩
theorem EnvOk.conv{O':Own}{H':Hp}{σ:St}{Γ:Gam}(e:EnvOk K O H σ Γ)(s:Conv O O' H H'):EnvOk K O' H' σ Γ:=
 ⟨e.len,λ i d h=>let ⟨v,a,b⟩:=e.at_ i d h;⟨v,a,b.conv s⟩⟩
def freeOk(names names':List (Str×NameKind)):Bool:=names'.all λ y=>!(y.2==.free)||(names.lookup y.1==some .cell||names.lookup y.1==some .free)
theorem lu{names names':List (Str×NameKind)}(h:freeOk names names'=true):∀y∈names',y.2=.free->names.lookup y.1=some .cell∨names.lookup y.1=some .free:=λ y hy e=>by
 have q:=List.all_eq_true.mp h y hy
 simp only[e,beq_self_eq_true,Bool.not_true,Bool.false_or,Bool.or_eq_true,beq_iff_eq]at q
 exact q
def ye(names:List (Str×NameKind)):Bool:=match names.filter (λ y=>y.2==.cell)with
 | []=>true
 | [y]=>names.lookup y.1==some .cell
 | _=>false
theorem yc{names:List (Str×NameKind)}(h:names.filter (λ y=>y.2==.cell)=[])(n:Nat)(acc:List (Str×Addr))(hp:Heap):cellsFrom n names acc=acc/\pushCells hp names=hp:=by
 induction names with
 | nil=>exact⟨rfl,rfl⟩
 | cons y r ih=>
   obtain⟨x,k⟩:=y
   rw[List.filter_cons]at h
   by_cases hk:(k==NameKind.cell)=true
   . rw[if_pos hk]at h;cases h
   . rw[if_neg hk]at h
     obtain⟨i1,i2⟩:=ih h
     unfold cellsFrom pushCells
     rw[if_neg hk,if_neg hk]
     exact⟨i1,i2⟩
theorem uP{names:List (Str×NameKind)}{t:Str×NameKind}(h:names.filter (λ y=>y.2==.cell)=[t])(n:Nat)(acc:List (Str×Addr))(hp:Heap):cellsFrom n names acc=(t.1,n)::acc/\pushCells hp names=hp.push {cls:=.type "cell",data:=.cell none}:=by
 induction names with
 | nil=>cases h
 | cons y r ih=>
   obtain⟨x,k⟩:=y
   rw[List.filter_cons]at h
   by_cases hk:(k==NameKind.cell)=true
   . rw[if_pos hk]at h
     have e:=List.cons.inj h
     obtain⟨i1,i2⟩:=yc e.2 (n+1) ((x,n)::acc) (hp.push {cls:=.type "cell",data:=.cell none})
     unfold cellsFrom pushCells
     rw[if_pos hk,if_pos hk,i1,i2,←e.1]
     exact⟨rfl,rfl⟩
   . rw[if_neg hk]at h
     obtain⟨i1,i2⟩:=ih h
     unfold cellsFrom pushCells
     rw[if_neg hk,if_neg hk]
     exact⟨i1,i2⟩
theorem Nk{M:Model}{A:Around}{E:Value->Shared->Prop}{scope:Scope}{globals:Addr}{closure:List (Str×Addr)}{qual:Str}{outer:Env}{Q:Env->Shared->Prop}
 (hQ:Q (newEnv scope s.heap.objs.size globals (cellsFrom (s.heap.objs.size+1) scope.names closure) qual none .none (some outer) builtinsNs) {s with heap:=pushCells (s.heap.push {cls:=.type "dict",data:=.dict #[]}) scope.names}):
 wpAny M A (newFunctionEnv scope globals closure [] qual none .none (some outer)) Q E s:=by
 simp only[newFunctionEnv,Option.isSome_some,if_true]
 refine wpAny_bind (wpAny_alloc ?_)
 refine wpAny_bind (wpAny_layCells _ (λ name kind cells=>by cases hkc:kind==NameKind.cell<;>simp[hkc]) _ _ _ _ ?_)
 rw[show({s with heap:=s.heap.push {cls:=.type "dict",data:=.dict #[]}}:Shared).heap.objs.size=s.heap.objs.size+1 from Heap.size_push ..]
 rw[List.forIn_nil]
 exact wpAny_bind (wpAny_pure (wpAny_pure hQ))
structure CelsB(X:Cx)(sc:Scope)(cl:List (Str×Addr))(z:Nat)(h1:Heap):Prop where
 lk:∀x c,cl.lookup x=some c->X.env.cells.lookup x=some c∨(c=z/\sc.names.lookup x=some .cell/\h1.IsCell c none/\∀y,cl.lookup y=some c->y=x)
 has:∀x,sc.names.lookup x=some .cell∨sc.names.lookup x=some .free->∃c,cl.lookup x=some c
 cp:∀x c,sc.names.lookup x=some .free->X.env.cells.lookup x=some c->cl.lookup x=some c
 ow:∀x c,sc.names.lookup x=some .cell->cl.lookup x=some c->z≤c
section
variable {X : Cx}
theorem Ol{pins:Pins}{σ:St}{sc:Scope}{N':List Str}{cap:List (Option Nat)}{fp:List Addr}{h1:Heap}{t:Nat}(I:Inv X pins σ H s)(hfp:∀b∈fp,dW X pins H b)(hob:∀b∈fp,∃o,s.heap.get? b=some o)
 {cl:List (Str×Addr)}(hkind:sc.kind=.function)(hcl:CelsB X sc cl (s.heap.objs.size+2) h1)(hfree:∀y∈sc.names,y.2=.free->X.env.kindOf y.1=some .cell∨X.env.kindOf y.1=some .free)(hcap:aQ X.N X.env.scope.names N' sc.names cap N'=true)
 (k:∀b u,s.heap.get? b=some u->h1.get? b=some u)(hD:h1.get? s.heap.objs.size=some {cls:=.type "list",data:=.seq #[] 0})(hC:∃m,h1.Ns (s.heap.objs.size+1) m):
 Inv (eG X sc N' (s.heap.objs.size+1) s H fp cl) [] (capt cap σ) (upd H s.heap.objs.size (.lst [])) {s with heap:=h1,toks:=t}:=by
 have fr0:H s.heap.objs.size=none:=I.hok.fresh (x5 _)
 have fr1:H (s.heap.objs.size+1)=none:=I.hok.fresh (Nat.le_succ _)
 have fr2:H (s.heap.objs.size+2)=none:=I.hok.fresh (by omega)
 have lt:∀b∈fp,b<s.heap.objs.size:=λ b hb=>let ⟨o,e⟩:=hob b hb;Heap.lt_size e
 have clt:∀{x c},X.env.cells.lookup x=some c->c<s.heap.objs.size:=λ{x c} h=>by
  obtain⟨v,q⟩:=I.cell x c h
  exact q.lt
 refine⟨⟨I.ok.mod,hkind,I.ok.glob,I.ok.blt,Nat.le_succ _,λ x y c a b=>?_,λ x hx=>?_,λ x c z e=>?_,I.ok.hd,I.ok.frames,.inl rfl,λ b hb=>⟨Nat.ne_of_lt (Nat.lt_succ_of_lt (lt b hb)),λ x c h=>?_⟩,
  I.bs,Nat.le_trans I.ok.bsz I.sz,λ b o e hb=>?_,λ b hb z=>?_,I.stack,I.stkFree⟩,rfl,I.bare,Un.laid k (x5 _) fr0,?_,λ x c h=>?_,?_,λ x c h=>?_,λ p hp=>absurd (show p∈([]:Pins)from hp) (by simp),I.hok.laid k (x5 _) ⟨Nat.zero_le _,[],0,.nil,hD⟩,?_⟩
 . rcases hcl.lk x c a with q | ⟨_,_,_,q⟩
   . rcases hcl.lk y c b with q' | ⟨_,_,_,q'⟩
     . exact I.ok.inj x y c q q'
     . exact q' x a
   . exact(q y b).symm
 . have hx':(relabel sc X.env).names.lookup x=some .cell∨(relabel sc X.env).names.lookup x=some .free:=hx
   have z:sc.names.lookup x=some .cell∨sc.names.lookup x=some .free:=by
    rcases hx' with q | q
    . obtain⟨k0,e,r⟩:=iY q
      rcases r with r | r
      . exact .inl (by rw[e,r])
      . exact .inr (by rw[e,r.1])
    . obtain⟨k0,e,r⟩:=iY q
      rcases r with r | r
      . exact .inr (by rw[e,r])
      . exact absurd r.2 (by decide)
   exact hcl.has x z
 . have z':sc.names.lookup x=some .cell:=eq_of_beq z
   have:=hcl.ow x c z' e
   show s.heap.objs.size≤c
   omega
 . rcases hcl.lk x c h with q | ⟨q,_⟩
   . exact(hfp b hb).2.2.2.2.1 x c q
   . exact λ e=>Nat.lt_irrefl _ (Nat.lt_of_lt_of_le (lt b hb) (by rw[←e,q];exact Nat.le_add_right _ _))
 . rcases(hfp b hb).2.2.2.1 with z | z
   . exact I.ok.noex b o e z
   . exact absurd (Nat.lt_of_lt_of_le (Heap.lt_size e) (Nat.le_trans I.ok.bsz z)) (Nat.lt_irrefl _)
 . rcases List.mem_cons.mp (I.stkSub b z)with q | q
   . exact(hfp b hb).2.1 q
   . exact(hfp b hb).2.2.1 q
 . obtain⟨m,hm⟩:=hC
   refine⟨m,hm,λ i x v e1 e2 e3=>?_⟩
   obtain⟨j,hj,hv⟩:=Eb e2
   obtain⟨y,a,b,c,d⟩:=oU hcap hj
   have e1':N'[i]? =some x:=e1
   rw[a]at e1'
   cases e1'
   obtain⟨m0,hn0,hl⟩:=I.loc
   have vis:Vis X.env.scope x:=by
    rcases c with c | c
    . exact .inr (.inl c)
    . exact .inr (.inr c)
   obtain⟨u,r,l⟩:=hl j x v b hv vis
   refine⟨u,r,?_⟩
   rcases l with⟨q,_⟩ | ⟨q,cc,hc,hcell'⟩
   . exfalso
     have q':X.env.scope.names.lookup x=some .local:=q
     rcases c with c | c<;>· rw[c]at q';cases q'
   . have h2:=hcl.cp x cc d hc
     obtain⟨o,ho,hd⟩:=hcell'
     refine .inr ⟨?_,cc,h2,⟨o,k _ _ ho,hd⟩⟩
     exact Ag d
 . rcases hcl.lk x c h with q | ⟨_,_,q,_⟩
   . obtain⟨v,o,ho,hd⟩:=I.cell x c q
     exact⟨v,o,k _ _ ho,hd⟩
   . exact⟨_,q⟩
 . show upd H s.heap.objs.size (.lst []) (s.heap.objs.size+1)=none
   rw[ao (Nat.succ_ne_self _)];exact fr1
 . rcases hcl.lk x c h with q | ⟨q,_⟩
   . rw[ao (Nat.ne_of_lt (clt q))];exact I.freeC x c q
   . subst q
     rw[ao (Nat.ne_of_gt (Nat.lt_add_of_pos_right (by decide)))];exact fr2
 . show(capt cap σ).length=N'.length
   rw[←kZ hcap]
   simp[capt]
theorem tY{α:Type}{t:Sem α}{Q:α->Shared->Prop}{M:Model}{A:Around}{E E':Value->Shared->Prop}(hx:E=λ _ _=>False)(h:wpAny M A t Q E s):wpAny M A t Q E' s:=wpAny_mono h (λ _ _ q=>q) λ _ _ z=>by rw[hx]at z;exact z.elim
def TsA(X:Cx)(Γ:Gam)(S:Store):List Expr->(Bool->Store->Prop)->Prop
 | [],W=>W true S
 | [c],W=>Ts X Γ S c W
 | _,_=>False
theorem Oa{X:Cx}{Γ:Gam}{S:Store}{ifs:List Expr}{W:Bool->Store->Prop}(h:TsA X Γ S ifs W){pins:Pins}{s:Shared}{σ:St}{H:Hp}{O:Own}(I:Inv X pins σ H s)(env:EnvOk X.K O H σ Γ)(st:StOk X.K O H S):
 wpAny (model X.prog X.w) X.A (forIn ifs true λ c r=>if r=true then do let ok ←isTrue c X.env (eval c X.env);pure (ForInStep.yield ok)else pure (ForInStep.yield r)) (TP X pins σ (QT X.K O H W)) X.xe s:=by
 match ifs,h with
 | [],h=>exact wpAny_tests_nil ⟨H,I,O,S,h,Step.refl O H,st⟩
 | [c],h=>exact wpAny_tests_one (h pins s σ H O I env st)
 | _::_::_,h=>exact h.elim
def uC(K:PySem.W.Frag)(J:It)(O:Own)(H:Hp)(C:Store->Prop)(ds:List D):Prop:=
 ∀(O':Own)(H':Hp)(S':Store),Conv O O' H H'->StOk K O' H' S'->C S'->∀i:Nat,(∀d,ds[i]? =some d->J.go i H'/\∀x H'',J.yld i H' x H''->aV H' H''/\Rep K O' H'' x d)/\(i=ds.length->J.stop i H')
def QIc(K:PySem.W.Frag)(O:Own)(H:Hp)(W:List D->(Store->Prop)->Store->Prop):It->Hp->Prop:=λ J H'=>∃O' ds C S',W ds C S'/\Step O O' H H'/\StOk K O' H' S'/\uC K J O' H' C ds
def ItC(X:Cx)(Γ:Gam)(S:Store)(tg iter:Expr)(W:List D->(Store->Prop)->Store->Prop):Prop:=
 ∀ (pins:Pins)(s:Shared)(σ:St)(H:Hp)(O:Own),Inv X pins σ H s->EnvOk X.K O H σ Γ->StOk X.K O H S->
   wpAny (model X.prog X.w) X.A (eval iter X.env) (λ v s1=>wpAny (model X.prog X.w) X.A (pyIter v) (PIE X pins σ tg (QIc X.K O H W)) X.xe s1) X.xe s
theorem nU{J:It}{ds:List D}(y:gO K J O H ds):uC K J O H (λ _=>True) ds:=λ O' H' S' st ok _ i=>y O' H' st (λ a ha=>ok.tracked ha) i
theorem ItW.toC{X:Cx}{Γ:Gam}{S:Store}{tg iter:Expr}{W:List D->(Store->Prop)->Store->Prop}(h:ItW X Γ S tg iter λ ds S1=>W ds (λ _=>True) S1):ItC X Γ S tg iter W:=λ pins s σ H O I env st=>
 thn (h pins s σ H O I env st) λ _ _ q=>thn q λ _ _ hq_=>by
  obtain⟨it,fp,tn,J,H',e1,e2,e3,e4,e5,O',ds,S',w,z1,z2,z3⟩:=hq_
  exact⟨it,fp,tn,J,H',e1,e2,e3,e4,e5,O',ds,_,S',w,z1,z2,nU z3⟩
abbrev xj(X:Cx)(sc:Scope)(N':List Str)(cap:List (Option Nat))(Γ:Gam)(elt tg:Expr)(ifs:List Expr)(W:WD):List D->(Store->Prop)->Store->Prop:=λ ds C0 S1=>
 ds.length≤1000000/\∃Pv:Nat->List D->Store->Prop,Pv 0 [] S1/\(∀i acc S',Pv i acc S'->C0 S')/\
  (∀i d acc S',ds[i]? =some d->Pv i acc S'->∀(C:Addr)(s:Shared)(H:Hp)(ex:List Addr)(cl:List (Str×Addr)),BdW (eG X sc N' C s H ex cl) tg d (capt cap Γ) S' λ Γ2 S2=>Sub (capt cap Γ) Γ2/\
   TsA (eG X sc N' C s H ex cl) Γ2 S2 ifs λ ok S3=>(ok=true->Ev (eG X sc N' C s H ex cl) Γ2 S3 elt λ y S4=>Pv (i+1) (acc++[y]) S4)/\(ok=false->Pv (i+1) acc S3))/\
  ∀acc S',Pv ds.length acc S'->W (.lst acc) S'∨W (.loc S'.length) (S'++[acc])
theorem vm{Γ:Gam}{S:Store}{elt tg iter:Expr}{ifs:List Expr}{sc:Scope}{cpos:Pos}{N':List Str}{cap:List (Option Nat)}{W:WD}{E:Value->Shared->Prop}{pins:Pins}{σ:St}
 {RR:Value->Addr->Result->Shared->Prop}
 (hx:X.xe=λ _ _=>False)(hc:X.calm=true)(hkind:sc.kind=.function)(hcell:ye sc.names=true)(hfree:∀y∈sc.names,y.2=.free->X.env.kindOf y.1=some .cell∨X.env.kindOf y.1=some .free)
 (hcap:aQ X.N X.env.scope.names N' sc.names cap N'=true)(h:ItC X Γ S tg iter (xj X sc N' cap Γ elt tg ifs W))(I:Inv X pins σ H s)(env:EnvOk X.K O H σ Γ)(st:StOk X.K O H S)
 (fin:∀(s':Shared)(Hc:Hp)(D0 C:Addr)(m:Str->Option Value),Inv X pins σ Hc s'->s'.heap.Ns C m->dW X pins Hc C->D0≠C->QG X.K O H W (.ref D0) Hc->RR (.ref D0) C (.ok .next) s'):
 wpAny (model X.prog X.w) X.A (eval iter X.env) (λ x s₁=>wpAny (model X.prog X.w) X.A (pyIter x) (λ it s₂=>wpAny (model X.prog X.w) X.A (newList []) (λ acc s₃=>
  wpAny (model X.prog X.w) X.A (newFunctionEnv sc X.env.globals (closes X.env sc.names []) [] X.env.qual none .none (some X.env)) (λ cenv s₄=>
   codeAny (model X.prog X.w) X.A (.compStart (.ListComp elt [⟨tg,iter,ifs,0⟩] sc cpos) 0 it acc {cenv with scope:=relabel sc X.env}) (RR acc cenv.locals) s₄) E s₃) E s₂) E s₁) E s:=by
 refine thn (tY hx (h pins s σ H O I env st)) λ xv s1 h1=>thn (tY hx h1) λ itv s2 h2=>?_
 obtain⟨it,fp,tn,J,H2,e,I2,T,st2,f2,O2,ds,C0,S2,⟨hz,Pv,p0,pC,pt,pe⟩,stp,ok2,yl⟩:=h2
 subst e
 refine wpAny_newObj_type (Nk ?_)
 dsimp only
 have hD0:H2 s2.heap.objs.size=none:=I2.hok.fresh (x5 _)
 have hsz:(s2.heap.push {cls:=.type "list",dict:=none,data:=.seq ([]:List Value).toArray}).objs.size=s2.heap.objs.size+1:=Heap.size_push ..
 rw[hsz]
 have ns0:=Heap.Ns.new (s2.heap.push {cls:=.type "list",dict:=none,data:=.seq ([]:List Value).toArray}) (.type "dict")
 rw[hsz]at ns0
 obtain⟨cl,hcleq⟩:∃cl,cellsFrom (s2.heap.objs.size+1+1) sc.names (closes X.env sc.names [])=cl:=⟨_,rfl⟩
 obtain⟨h₁,hh1⟩:∃h₁,pushCells ((s2.heap.push {cls:=.type "list",dict:=none,data:=.seq ([]:List Value).toArray}).push {cls:=.type "dict",data:=.dict #[]}) sc.names=h₁:=⟨_,rfl⟩
 have hns₁:h₁.Ns (s2.heap.objs.size+1) (λ _=>none):=by rw[←hh1];exact ns0.keeps (pushCells_keeps _ _)
 have kp0:∀b u,(s2.heap.push {cls:=.type "list",dict:=none,data:=.seq ([]:List Value).toArray}).get? b=some u->h₁.get? b=some u:=λ b u e=>by rw[←hh1];exact pushCells_keeps _ _ b u (Heap.get?_push_of_some _ e)
 have kp:∀b u,s2.heap.get? b=some u->h₁.get? b=some u:=λ b u e=>kp0 b u (Heap.get?_push_of_some _ e)
 have hD1:h₁.get? s2.heap.objs.size=some {cls:=.type "list",data:=.seq #[] 0}:=kp0 _ _ (Heap.get?_push_size _ rfl)
 have hf:∀y∈sc.names,y.2=.free->∃c,X.env.cells.lookup y.1=some c:=λ y hy e=>I.ok.has y.1 (hfree y hy e)
 have hcl :CelsB X sc cl (s2.heap.objs.size+2) h₁:=by
  have look:∀{x c},(closes X.env sc.names []).lookup x=some c->X.env.cells.lookup x=some c:=λ{x c} h=>nC sc.names [] hf (λ c h=>by simp at h) h
  have cpy:∀x c,sc.names.lookup x=some .free->X.env.cells.lookup x=some c->(closes X.env sc.names []).lookup x=some c:=λ x c d hc=>by
   obtain⟨c2,h2⟩:=fC (env:=X.env) sc.names [] (.inr d)
   have e:=look h2
   rw[hc]at e
   cases e
   exact h2
  unfold ye at hcell
  split at hcell
  . rename_i hfl
    have e1:=(yc hfl (s2.heap.objs.size+1+1) (closes X.env sc.names []) s2.heap).1
    rw[hcleq]at e1
    have no:∀x,sc.names.lookup x≠some .cell:=λ x z=>by
     have:(x,NameKind.cell)∈sc.names.filter (λ y=>y.2==.cell):=List.mem_filter.mpr ⟨PySem.mem_of_lookup z,rfl⟩
     rw[hfl]at this
     cases this
    rw[e1]
    exact⟨λ x c h=>.inl (look h),λ x hx=>hx.elim (λ z=>absurd z (no x)) λ z=>fC sc.names [] (.inr z),cpy,λ x c z=>absurd z (no x)⟩
  . rename_i y hfl
    have hy:sc.names.lookup y.1=some .cell:=eq_of_beq hcell
    obtain⟨e1,_⟩:=uP hfl (s2.heap.objs.size+1+1) (closes X.env sc.names []) s2.heap
    rw[hcleq]at e1
    have e2:=(uP hfl 0 [] ((s2.heap.push {cls:=.type "list",dict:=none,data:=.seq ([]:List Value).toArray}).push {cls:=.type "dict",data:=.dict #[]})).2
    rw[hh1]at e2
    have e3:((s2.heap.push {cls:=.type "list",dict:=none,data:=.seq ([]:List Value).toArray}).push {cls:=.type "dict",data:=.dict #[]}).objs.size=s2.heap.objs.size+2:=by rw[Heap.size_push,hsz]
    have cel:h₁.IsCell (s2.heap.objs.size+2) none:=by
     rw[e2,←e3]
     exact⟨_,Heap.get?_push_size _ rfl,rfl⟩
    have only:∀x,sc.names.lookup x=some .cell->x=y.1:=λ x z=>by
     have:(x,NameKind.cell)∈sc.names.filter (λ y=>y.2==.cell):=List.mem_filter.mpr ⟨PySem.mem_of_lookup z,rfl⟩
     rw[hfl]at this
     have:=List.mem_singleton.mp this
     rw[←this]
    have lt0:∀{x c},(closes X.env sc.names []).lookup x=some c->c<s2.heap.objs.size:=λ{x c} h=>by
     obtain⟨v,q⟩:=I2.cell x c (look h)
     exact q.lt
    have lk2:∀x,cl.lookup x=if x=y.1 then some (s2.heap.objs.size+1+1)else(closes X.env sc.names []).lookup x:=λ x=>by
     rw[e1,List.lookup_cons]
     by_cases z:x=y.1
     . subst z;simp
     . rw[if_neg z,beq_eq_false_iff_ne.mpr z]
    refine⟨λ x c h=>?_,λ x hx=>?_,λ x c d hc=>?_,λ x c z h=>?_⟩
    . rw [lk2]at h
      by_cases z:x=y.1
      . rw[if_pos z]at h
        cases h
        refine .inr ⟨rfl,by rw[z];exact hy,cel,λ u hu=>?_⟩
        rw[lk2]at hu
        by_cases z2:u=y.1
        . rw[z2,z]
        . rw[if_neg z2]at hu
          exact(Nat.lt_irrefl _ (Nat.lt_of_le_of_lt (Nat.le_add_right _ 2) (lt0 hu))).elim
      . rw[if_neg z]at h
        exact .inl (look h)
    . rw[lk2]
      by_cases z:x=y.1
      . exact⟨_,if_pos z⟩
      . rw[if_neg z]
        exact hx.elim (λ q=>absurd (only x q) z) λ q=>fC sc.names [] (.inr q)
    . rw[lk2,if_neg (λ z=>by rw[z,hy]at d;cases d)]
      exact cpy x c d hc
    . rw[lk2,if_pos (only x z)]at h
      cases h
      exact x5 _
  . cases hcell
 rw[hcleq,hh1]
 have hob:∀b∈fp,∃o,s2.heap.get? b=some o:=λ b hb=>let ⟨o,e,_⟩:=T.obj _ _ st2 b hb;⟨o,e⟩
 have I4:=Ol (t:=s2.toks) (h1:=h₁) I2 f2 hob hkind hcl hfree hcap kp hD1 ⟨_,hns₁⟩
 generalize hX':eG X sc N' (s2.heap.objs.size+1) s2 H2 fp cl=X' at I4
 have pt':=λ i d acc S' a b=>pt i d acc S' a b (s2.heap.objs.size+1) s2 H2 fp cl
 rw[hX']at pt'
 have eP:X'.prog=X.prog:=by rw[←hX'];rfl
 have ew:X'.w=X.w:=by rw[←hX'];rfl
 have eK:X'.K=X.K:=by rw[←hX'];rfl
 have eA:X'.A=X.A:=by rw[←hX'];rfl
 have ec:X'.calm=true:=by rw[←hX'];exact hc
 have ex':X'.xe=λ _ _=>False:=by rw[←hX'];exact hx
 have eenv:X'.env=compEnvC sc cl (s2.heap.objs.size+1) X.env:=by rw[←hX'];rfl
 have eex:X'.ex=fp:=by rw[←hX'];rfl
 have eout:X'.outer=X.stack:=by rw[←hX'];rfl
 have es0:X'.s₀=s2:=by rw[←hX'];rfl
 have eH0:X'.H₀=H2:=by rw[←hX'];rfl
 have epn:X'.pn=[]:=by rw[←hX'];rfl
 have stat:∀{H':Hp},(∀b∈fp,H' b=none)->∀b∈fp,dW X' [] H' b:=λ hn b hb=>by
  refine⟨hn b hb,(I4.ok.exf b (by rw[eex];exact hb)).1,I4.ok.exfs b (by rw[eex];exact hb),.inl (by rw[eex];exact hb),(I4.ok.exf b (by rw[eex];exact hb)).2,λ p hp=>?_⟩
  rw[epn]at hp
  exact absurd hp (by simp)
 have loop:∀s₃:Shared,s₃={s2 with heap:=h₁}->
  codeAny (model X.prog X.w) X.A (.compLoop (.ListComp elt [⟨tg,iter,ifs,0⟩] sc cpos) 0 (.ref it) (.ref s2.heap.objs.size) (compEnvC sc cl (s2.heap.objs.size+1) X.env))
   (RR (.ref s2.heap.objs.size) (s2.heap.objs.size+1)) s₃:=by
  intro s₃ es
  rw[←eenv]
  refine codeAny_loop rfl (λ n s'=>∃i acc xs Hc Ac Sc σc,n=ds.length-i/\i≤ds.length/\Inv X' [] σc Hc s'/\tn i s'.heap/\(∀b∈fp,Hc b=none)/\Pv i acc Sc/\Hc s2.heap.objs.size=some (.lst xs)/\xs.length≤i/\
   Reps X.K ⟨Ac,s2.heap.objs.size::O2.B⟩ Hc xs acc/\Step O2 ⟨Ac,O2.B⟩ H2 Hc/\StOk X.K ⟨Ac,s2.heap.objs.size::O2.B⟩ Hc Sc/\EnvOk X.K ⟨Ac,s2.heap.objs.size::O2.B⟩ Hc σc (capt cap Γ)) ?_ ds.length ?_
  . rintro n s' ⟨i,acc,xs,Hc,Ac,Sc,σc,rfl,hi,Ic,stc,frc,pc,hxs,hxl,rc,sc',okc,envc⟩
    show wpAny _ _ ((compTurn (.ListComp elt [⟨tg,iter,ifs,0⟩] sc cpos) 0 (.ref it) (.ref s2.heap.objs.size) X'.env).onRaise (λ x=>do noteFrame x X'.env;theTreesLotGoes x)) _ _ s'
    refine wpAny_noted ?_
    rw[compTurn_list]
    refine wpAny_bind (wpAny_standAt (wpAny_bind ?_))
    have cv:Conv O2 ⟨Ac,s2.heap.objs.size::O2.B⟩ H2 Hc:=by
     refine⟨λ a u n t=>?_,sc'.conv.lc⟩
     obtain⟨x1,x2⟩:=sc'.conv.tr a u n t
     refine⟨λ z=>?_,x2⟩
     rcases z with z | z
     . exact x1 (.inl z)
     . rcases List.mem_cons.mp z with z | z
       . subst z;rw[hD0]at t;cases t
       . exact x1 (.inr z)
    obtain⟨y1,y2⟩:=yl _ _ _ cv okc (pC _ _ _ pc) i
    by_cases hlt:i<ds.length
    . obtain⟨go,yy⟩:=y1 ds[i] (y4 hlt)
      have it1:=T.item X' eP ew eK ec i [] s' σc Hc (λ _ _=>False) Ic (stat frc) stc go
      rw[eA]at it1
      refine wpAny_mono it1 (λ r s3 hq_=>?_) λ _ _ z=>z.elim
      obtain⟨u,hr,h3⟩:=hq_
      subst hr
      refine wpAny_bind (wpAny_mono h3 (λ _ s5 hq_=>?_) λ _ _ z=>z.elim)
      obtain⟨x,H5,I5,r5,y5,st5,fr5⟩:=hq_
      obtain⟨sm,rx⟩:=yy x H5 y5
      have I5':=I5.pinned (stat fr5) (T.obj _ _ st5)
      have st35:=Step.same (O:=⟨Ac,s2.heap.objs.size::O2.B⟩) sm
      have bd:=pt' i ds[i] acc Sc (y4 hlt) pc _ s5 σc H5 ⟨Ac,s2.heap.objs.size::O2.B⟩ x u I5' (by rw[eK];exact envc.mono st35) (by rw[eK];exact okc.same sm) (by rw[eK];exact rx) r5
      rw[eP,ew,eA]at bd
      refine wpAny_bind (wpAny_mono (tY (E':=λ _ _=>False) ex' bd) (λ _ s6 hq_=>?_) λ _ _ z=>z.elim)
      obtain⟨σ6,H6,I6,O6,Γ6,S6,⟨sub6,w6⟩,st6,ok6,env6⟩:=hq_
      have tst:=Oa w6 I6 env6 ok6
      rw[eP,ew,eA]at tst
      refine wpAny_bind (wpAny_mono (tY (E':=λ _ _=>False) ex' tst) (λ ok s7 hq_=>?_) λ _ _ z=>z.elim)
      obtain⟨H7,I7,O7,S7,w7,st7,ok7⟩:=hq_
      have st57:Step ⟨Ac,s2.heap.objs.size::O2.B⟩ O7 Hc H7:=st35.trans (st6.trans st7)
      have eB7:O7.B=s2.heap.objs.size::O2.B:=st57.hid
      have next:∀(s9:Shared)(H8:Hp)(O8:Own)(S8:Store)(ys:List V)(acc':List D),Step ⟨Ac,s2.heap.objs.size::O2.B⟩ O8 Hc H8->
       StOk X.K O8 H8 S8->EnvOk X.K O8 H8 σ6 (capt cap Γ)->Pv (i+1) acc' S8->Inv X' ([]++lN fp s5.heap) σ6 (upd H8 s2.heap.objs.size (.lst ys)) s9->Reps X.K O8 H8 ys acc'->ys.length≤i+1->
       ∃ m,m<ds.length-i/\∃i acc xs Hc Ac Sc σc,m=ds.length-i/\i≤ds.length/\Inv X' [] σc Hc s9/\tn i s9.heap/\(∀b∈fp,Hc b=none)/\Pv i acc Sc/\Hc s2.heap.objs.size=some (.lst xs)/\xs.length≤i/\
         Reps X.K ⟨Ac,s2.heap.objs.size::O2.B⟩ Hc xs acc/\Step O2 ⟨Ac,O2.B⟩ H2 Hc/\StOk X.K ⟨Ac,s2.heap.objs.size::O2.B⟩ Hc Sc/\EnvOk X.K ⟨Ac,s2.heap.objs.size::O2.B⟩ Hc σc (capt cap Γ):=by
       intro s9 H8 O8 S8 ys acc' st8 ok8 env8 p8 I8 r8 hl8
       have eB:O8.B=s2.heap.objs.size::O2.B:=st8.hid
       obtain⟨A8,B8⟩:=O8
       have eB':B8=s2.heap.objs.size::O2.B:=eB
       subst eB'
       have mem:s2.heap.objs.size∈(⟨A8,s2.heap.objs.size::O2.B⟩:Own).B:=x9
       refine⟨ds.length-(i+1),by omega,i+1,acc',ys,_,A8,S8,σ6,rfl,hlt,I8.unpinned,T.keep _ _ _ st5 λ b hb o e=>(I8.pin (b,o) (List.mem_append_right _ (List.mem_append_right _ (fG hb e)))).1,λ b hb=>?_,p8,aH,hl8,
        r8.conv (Conv.updHid mem _),sc'.inner st8 hD0 _,ok8.updHid mem _,env8.conv (Conv.updHid mem _)⟩
       obtain⟨o,e,d⟩:=T.obj _ _ st5 b hb
       exact(I8.pin (b,o) (List.mem_append_right _ (List.mem_append_right _ (fG hb e)))).2.1
      rw[eK]at ok7 env6 ok6
      have hid:∀{O':Own}{H':Hp}{S':Store},Step ⟨Ac,s2.heap.objs.size::O2.B⟩ O' Hc H'->H' s2.heap.objs.size=some (.lst xs):=λ st'=>
       st'.kept _ _ (λ z=>okc.apart _ z x9) hxs
      cases ok with
      | false=>
        refine wpAny_pure ⟨rfl,?_⟩
        have hx7:=hid (S':=S7) st57
        have eq7:upd H7 s2.heap.objs.size (.lst xs)=H7:=by
         funext b
         by_cases hb:b=s2.heap.objs.size
         . subst hb;rw[aH];exact hx7.symm
         . exact ao hb
        exact next s7 H7 O7 S7 xs acc st57 ok7 ((env6.mono st7).sub sub6) (w7.2 rfl) (by rw[eq7];exact I7) (rc.mono st57) (Nat.le_succ_of_le hxl)
      | true=>
        have el:=w7.1 rfl _ s7 σ6 H7 O7 I7 (by rw[eK];exact env6.mono st7) (by rw[eK];exact ok7)
        rw[eP,ew,eA]at el
        refine wpAny_bind (wpAny_bind (wpAny_mono (tY (E':=λ _ _=>False) ex' el) (λ xe s8 hq_=>?_) λ _ _ z=>z.elim))
        obtain⟨v8,H8,I8,r8,O8,y,S8,w8,st8,ok8,rep8⟩:=hq_
        rw[eK]at ok8 rep8
        have st58:=st57.trans st8
        have hx8:=hid (S':=S8) st58
        have ap:=vp (X:=X') _ s8 σ6 H8 (.ref s2.heap.objs.size) [v8] (.ref s2.heap.objs.size) [xe] (λ v H'=>H'=upd H8 s2.heap.objs.size (.lst (xs++[v8]))) I8 rfl (.cons r8 .nil)
         ⟨s2.heap.objs.size,xs,v8,rfl,rfl,hx8,Nat.lt_of_le_of_lt (Nat.le_trans hxl (Nat.le_trans hi hz)) (by decide),rfl⟩
        rw[eP,ew,eA]at ap
        refine wpAny_bind (wpAny_mono (tY (E':=λ _ _=>False) ex' ap) (λ _ s9 hq_=>wpAny_pure (wpAny_pure ⟨rfl,?_⟩)) λ _ _ z=>z.elim)
        obtain⟨_,H9,I9,_,e9⟩:=hq_
        subst e9
        exact next s9 H8 O8 S8 (xs++[v8]) (acc++[y]) st58 ok8 (((env6.mono st7).mono st8).sub sub6) w8 I9 ((rc.mono st58).append (.cons rep8 .nil)) (by rw[w9,List.length_singleton];omega)
    . have e:i=ds.length:=by omega
      subst e
      have dn:=T.done X' eP ew eK ec ds.length [] s' σc Hc (λ _ _=>False) Ic (stat frc) stc (y2 rfl)
      rw[eA]at dn
      refine wpAny_mono dn (λ r s3 hq_=>?_) λ _ _ z=>z.elim
      obtain⟨hr,I3⟩:=hq_
      subst hr
      refine wpAny_pure ?_
      obtain⟨m,hm,_⟩:=I3.loc
      have un:Un (frs X.stack) fp H2 Hc s2.heap s3.heap:=by
       have:=I3.base
       rw[eex,eH0,es0]at this
       show Un (frs X.stack) fp H2 Hc s2.heap s3.heap
       rw[←eout]
       exact this
      have os:s3.os=s2.os:=by
       have:=I3.os
       rw[es0]at this
       exact this
      have hok3:HOk X.prog X.w Hc s3.heap:=by
       have:=I3.hok
       rw[eP,ew]at this
       exact this
      have IX:Inv X pins σ Hc s3:=I2.call' os un hok3 I3.bare (λ b hb=>⟨(f2 b hb).2.2.2.1,(f2 b hb).2.1,(f2 b hb).2.2.2.2.1,(f2 b hb).2.2.2.2.2⟩)
      have hCn:Hc (s2.heap.objs.size+1)=none:=by
       have:=I3.free
       rw[eenv]at this
       exact this
      refine fin s3 Hc _ _ m IX (by rw[eenv]at hm;exact hm) (I2.fpOk (Nat.le_succ _) hCn) (Nat.ne_of_lt (Nat.lt_succ_self _)) ?_
      rcases pe acc Sc pc with w | w
      . refine⟨⟨Ac,O2.B⟩,.lst acc,Sc,w,stp.trans sc',okc.unhide,.lst (.inl ⟨λ z=>?_,.inl hxs⟩) (rc.conv Conv.unhide)⟩
        rcases z with z | z
        . exact okc.apart _ z x9
        . exact ok2.hidden _ z hD0
      . refine⟨⟨Ac++[(s2.heap.objs.size,false)],O2.B⟩,.loc Sc.length,Sc++[acc],w,stp.trans (sc'.adopt hD0),okc.adopt (λ z=>ok2.hidden _ z hD0) hxs rc,.loc ?_⟩
        have el:Ac.length=Sc.length:=okc.len
        show(Ac++[(s2.heap.objs.size,false)])[Sc.length]? =some _
        rw[←el];simp
  . refine⟨0,[],[],upd H2 s2.heap.objs.size (.lst []),O2.A,S2,capt cap σ,rfl,Nat.zero_le _,by rw[es];exact I4,by rw[es];exact T.keep 0 s2.heap h₁ st2 λ b hb o e=>kp b o e,λ b hb=>?_,p0,aH,x5 0,.nil,Step.fresh hD0 _,ok2.hide hD0 _,((env.mono stp).capt cap).conv (Conv.hide hD0 _)⟩
    obtain⟨o,e⟩:=hob b hb
    rw[ao (Nat.ne_of_lt (Heap.lt_size e))]
    exact(f2 b hb).1
 exact codeAny_compStart_list (loop _ rfl) (T.self _ 0 _ _ _ (T.keep 0 s2.heap h₁ st2 λ b hb o e=>kp b o e) (loop _ rfl))
variable {Γ : Gam} {S : Store} {elt tg iter : Expr} {ifs : List Expr} {sc : Scope} {pos : Pos} {N' : List Str} {cap : List (Option Nat)}
theorem M4(N':List Str)(cap:List (Option Nat)){W:WD}(h:ItC X Γ S tg iter (xj X sc N' cap Γ elt tg ifs W))(hx:X.xe=λ _ _=>False:=by rfl)(hc:X.calm=true:=by rfl)(hkind:sc.kind=.function:=by rfl)
 (hcell:ye sc.names=true:=by rfl)(hfr:freeOk X.env.scope.names sc.names=true:=by rfl)
 (hnames:∀y∈sc.names,y.2=.local->sc.names.lookup y.1=some .local:=by decide+kernel)(hcap:aQ X.N X.env.scope.names N' sc.names cap N'=true:=by rfl)(hs:∀x,foldedSetIterable iter X.env x=pure x:=by intro _;rfl):
 Ev X Γ S (.ListComp elt [⟨tg,iter,ifs,0⟩] sc pos) W:=by
 intro pins s σ H O I env st
 have hfree:∀y∈sc.names,y.2=.free->X.env.kindOf y.1=some .cell∨X.env.kindOf y.1=some .free:=lu hfr
 have hf:∀y∈sc.names,y.2=.free->∃c,X.env.cells.lookup y.1=some c:=λ y hy e=>I.ok.has y.1 (hfree y hy e)
 rw[eval_ListComp]
 refine wpAny_comprehension_free (use:=none) (g:=⟨tg,iter,ifs,0⟩) (gs:=[]) rfl hs (jL hf) hkind hnames ?_
 refine vm (RR:=λ acc C=>compPost (model X.prog X.w) X.A X.xe none (EP X pins σ (QG X.K O H W)) acc C) hx hc hkind hcell hfree hcap h I env st ?_
 intro s' Hc D0 C m I' hm fp ne q
 refine⟨m,hm,λ h' sb=>⟨.ref D0,Hc,?_,rfl,q⟩⟩
 obtain⟨f0,f1,f2,f3,f4,f5⟩:=fp
 exact I'.turned (t':=s'.toks) (λ b o hb e=>(sb.2 b hb).trans e) f0 f1 f3 f4 f5
theorem GR(i:Nat){x:Str}{pos' spos:Pos}{W:Fin}(N':List Str)(cap:List (Option Nat))(h:ItC X Γ S tg iter (xj X sc N' cap Γ elt tg ifs λ d S1=>W.nx (Γ.set i (some d)) S1))(hN:X.N.Nodup)(hi:X.N[i]? =some x:=by rfl)
 (hl:Loc X.env.scope x:=by first | exact Or.inl rfl | exact Or.inr rfl)(hsw:swapsWith (.ListComp elt [⟨tg,iter,ifs,0⟩] sc pos) (some (.Name x pos')) spos.line X.env=pure true:=by rfl)
 (hfn:X.fn x=true∨X.env.scope.names.lookup x=some .local:=by first | exact .inl rfl | exact .inr rfl)(hx:X.xe=λ _ _=>False:=by rfl)(hc:X.calm=true:=by rfl)(hkind:sc.kind=.function:=by rfl)
 (hcell:ye sc.names=true:=by rfl)(hfr:freeOk X.env.scope.names sc.names=true:=by rfl)
 (hnames:∀y∈sc.names,y.2=.local->sc.names.lookup y.1=some .local:=by decide+kernel)(hcap:aQ X.N X.env.scope.names N' sc.names cap N'=true:=by rfl)(hs:∀x,foldedSetIterable iter X.env x=pure x:=by intro _;rfl):
 Rn X Γ S (.Assign [.Name x pos'] (.ListComp elt [⟨tg,iter,ifs,0⟩] sc pos) spos) W:=by
 intro pins s σ H O I env st
 have hfree:∀y∈sc.names,y.2=.free->X.env.kindOf y.1=some .cell∨X.env.kindOf y.1=some .free:=lu hfr
 have hf:∀y∈sc.names,y.2=.free->∃c,X.env.cells.lookup y.1=some c:=λ y hy e=>I.ok.has y.1 (hfree y hy e)
 rw[exec_Assign_Name_used _ _ _ _ hsw]
 refine wpAny_bind (wpAny_standAt (wpAny_bind ?_))
 show wpAny _ X.A (do let _ ←comprehension (.ListComp elt [⟨tg,iter,ifs,0⟩] sc pos) sc X.env _ (newList []) false (eval iter X.env) (some (assign (.Name x pos') X.env))) _ _ s
 refine wpAny_bind (wpAny_mono (wpAny_comprehension_free (use:=some (assign (.Name x pos') X.env)) (g:=⟨tg,iter,ifs,0⟩) (gs:=[]) (Q:=λ _ s'=>SP X pins (ends X.K O H W) .next s') rfl hs (jL hf) hkind hnames ?_) (λ _ s' hq=>wpAny_pure (wpAny_pure hq)) λ _ _ e=>e)
 refine vm (RR:=λ acc C=>compPost (model X.prog X.w) X.A X.xe (some (assign (.Name x pos') X.env)) (λ _ s'=>SP X pins (ends X.K O H W) .next s') acc C) hx hc hkind hcell hfree hcap h I env st ?_
 intro s' Hc D0 C m I' hm fp ne q
 show wpAny _ X.A (assign (.Name x pos') X.env (.ref D0)) _ _ _
 refine wpAny_assign_Name (vz I' hN hi hl (show RelV (.ref D0) (.ref D0)from rfl) (λ s2 I2 hq_=>?_) hfn)
 obtain⟨a,sa,ha⟩:=hq_
 obtain⟨f0,f1,f2,f3,f4,f5⟩:=fp
 have neC:C≠a:=by
  rcases ha with z | z
  . rw[z];exact f1
  . exact(f4 x a z).symm
 refine⟨m,hm.sameBut sa neC,λ h' sb=>?_⟩
 obtain⟨O',d,S',w,stp,okp,rep⟩:=q
 exact⟨_,Hc,I2.turned (t':=s2.toks) (λ b o hb e=>(sb.2 b hb).trans e) f0 f1 f3 f4 f5,O',_,S',w,stp,okp,(env.mono stp).set rep i⟩
end
end DL
namespace DL
open PySem PySem.Spec L2
open PyProof.Rows
def tyD:D->String
 | .non=>"NoneType" | .bl _=>"bool" | .int _=>"int" | .str _=>"str" | .tup _=>"tuple" | .lst _=>"list" | .loc _=>"list" | .dic=>"dict" | .dlo _=>"dict"
def isi(t c:String):Bool:=t==c||(t=="bool"&&c=="int")
def isT(c:String):Bool:=c=="int"||c=="bool"||c=="tuple"||c=="list"||c=="str"
theorem kit_at(K:PySem.W.Frag)(d:D){c:String}(hc:isT c=true):PySem.W.kitOne K (.type (tyD d)) (.type c)=some (isi (tyD d) c):=by
 simp only[isT,Bool.or_eq_true,beq_iff_eq]at hc
 rcases hc with(((h | h) | h) | h) | h<;>subst h<;>cases d<;>kernel_rfl
section
variable {X : Cx} {Γ : Gam} {S : Store} {W : WD} {a b e : Expr} {es : List Expr} {pos : Pos}
theorem Oq{pins:Pins}{s:Shared}{σ:St}{H:Hp}{O:Own}{v:V}{u c:Value}{d:D}{A:Around}{E:Value->Shared->Prop}{Q:Value->Shared->Prop}(I:Inv X pins σ H s)(st:StOk X.K O H S)(r:Rep X.K O H v d)(ru:RelV v u)
 (go:∀{x t:Value}{Hh:Heap->Prop},PySem.W.KitX X.K x t Hh->t=.type (tyD d)->Hh s.heap->x≠.builtin "__main__.__loader__#opaque"->wpAny (model X.prog X.w) A (call (.builtin "isinstance") [x,c]) Q E s):
 wpAny (model X.prog X.w) A (call (.builtin "isinstance") [u,c]) Q E s:=by
 cases r with
 | non=>cases ru;exact go PySem.W.kitx_none rfl True.intro (λ z=>nomatch z)
 | bl y=>cases ru;exact go PySem.W.kitx_bool rfl True.intro (λ z=>nomatch z)
 | int y=>obtain⟨t,rfl⟩:=ru;exact go PySem.W.kitx_int rfl True.intro (λ z=>nomatch z)
 | str y=>obtain⟨t,rfl⟩:=ru;exact go PySem.W.kitx_str rfl True.intro (λ z=>nomatch z)
 | tup h1 q1=>
   cases ru
   obtain⟨its,_,⟨o,h2,h3,_⟩,_⟩:=I.tuple h1.sq
   exact go PySem.W.kitx_tuple rfl ⟨o,h2,h3⟩ (λ z=>nomatch z)
 | lst h1 q1=>
   cases ru
   obtain⟨its,_,pl,_⟩:=I.list h1.sq
   obtain⟨o,h2,h3,_⟩:=pl.isList
   exact go PySem.W.kitx_list rfl ⟨o,h2,h3⟩ (λ z=>nomatch z)
 | @loc p k hk=>
   cases ru
   have hl:k<S.length:=by rw[←st.len];exact(y3.mp hk).1
   obtain⟨xs,hx,_⟩:=st.obj k p S[k] hk (y4 hl)
   obtain⟨its,_,pl,_⟩:=I.list (SqL.of hx)
   obtain⟨o,h2,h3,_⟩:=pl.isList
   exact go PySem.W.kitx_list rfl ⟨o,h2,h3⟩ (λ z=>nomatch z)
 | @dic p h1 h2=>
   cases ru
   obtain⟨_,_,vs,_,o,es,ep,h3,h4,_⟩:=(show aU X.prog X.w H s.heap p (.dK [])from I.hok p _ h2)
   exact go PySem.W.kitx_dict rfl ⟨o,h3,h4.1⟩ (λ z=>nomatch z)
 | @dlo p k hk nk=>
   cases ru
   have hl:k<S.length:=by rw[←st.len];exact(y3.mp hk).1
   cases st.dob k p S[k] hk (y4 hl)with
   | t kvs hx _=>
     obtain⟨_,_,xs,_,o,es,ep,h3,h4,_⟩:=(show aU X.prog X.w H s.heap p (.dT kvs)from I.hok p _ hx)
     exact go PySem.W.kitx_dict rfl ⟨o,h3,h4.1⟩ (λ z=>nomatch z)
   | c ys _ hx _=>
     obtain⟨⟨_,_,_,o,es,ep,h3,h4,_⟩,_,_⟩:=(show aU X.prog X.w H s.heap p (.ext (Ra p ys))from I.hok p _ hx)
     exact go PySem.W.kitx_dict rfl ⟨o,h3,h4.1⟩ (λ z=>nomatch z)
   | o ys _ hx _=>
     obtain⟨⟨_,_,_,o,es,ep,h3,h4,_⟩,_,_⟩:=(show aU X.prog X.w H s.heap p (.ext (Rw p ys))from I.hok p _ hx)
     exact go PySem.W.kitx_dict rfl ⟨o,h3,h4.1⟩ (λ z=>nomatch z)
   | p _ n=>exact absurd nk n
theorem Qs{T:Str}{Tn:String}{p q:Pos}(h:Ev X Γ S a λ x S1=>W (.bl (isi (tyD x) Tn)) S1)(hT:isT Tn=true)(hb:bootBuiltins T=some (.type Tn))(hm1:X.mg "isinstance"=none)(hm:X.mg T=none)(hg1:Gl X "isinstance":=by rfl)(hg:Gl X T:=by rfl)
 (hn:T≠"__name__":=by decide)(hdb:(T==("__debug__":Str))=false:=by decide)(hs1:starEach [a,.Name T q] X.env=(false,eval a X.env)::starEach [.Name T q] X.env:=by rfl)(hs2:starEach [.Name T q] X.env=[(false,eval (.Name T q) X.env)]:=by rfl):
 Ev X Γ S (.Call (.Name "isinstance" p) [a,.Name T q] [] pos) W:=by
 intro pins s σ H O I env st
 have hc:cI X (.builtin "isinstance") (λ xs H' Q=>∃v,xs=[v,.ty Tn]/\∃O' d S',StOk X.K O' H' S'/\Rep X.K O' H' v d/\Q (.bl (isi (tyD d) Tn)) H'):=by
  intro pins s σ H xs us Q I r h
  obtain⟨v,rfl,O',d,S',st',rep,q⟩:=h
  obtain⟨u,u2,rfl,r1,r2⟩:=vals2 r
  cases r2
  refine Oq I st' rep r1 λ Z e p ne=>?_
  subst e
  exact PySem.W.kia_one Z I.kIn p (kit_at X.K d hT) ne λ tk=>⟨.bl _,H,I.tok tk,rfl,q⟩
 refine oZ hc hg1 hm1 PyProof.Rows.boot_isinstance (bH h.pe (bH (Df hg hm hb (v:=.ty Tn) rfl hn hdb) eQ hs2) hs1) (by decide) (by decide) hs1 (by rw[hs2];rfl) pins s σ H _ I ⟨O,env,st,λ v H' q=>?_⟩
 obtain⟨O',d,S',w,st1,ok1,rep⟩:=q
 exact⟨v,rfl,O',d,S',ok1,rep,O',_,S',w,st1,ok1,.bl _⟩
theorem range_all{α:Type}(f:α->Bool)(d:α):∀(bs:List α)(k:Nat),((List.range' k bs.length).all λ i=>f ((List.replicate k d++bs).getD i d))=bs.all f
 | [],_=>by simp
 | b ::bs,k=>by
   have ih:=range_all f d bs (k+1)
   rw[List.length_cons,List.range'_succ,List.all_cons,List.all_cons]
   congr 1
   . simp[List.getD]
   . rw[←ih]
     have e:List.replicate k d++b::bs=(List.replicate k d++[b])++bs:=by simp
     rw[List.all_eq,List.all_eq]
     congr 1
     apply propext
     constructor
     . intro h i hi
       have:=h i hi
       rw[List.mem_range']at hi
       obtain⟨j,hj,rfl⟩:=hi
       simp only[List.getD,List.getElem?_append,List.length_replicate]at this ⊢
       have g1:¬(k+1+1*j<k):=by omega
       have g2:¬(k+1+1*j<k+1):=by omega
       rw[if_neg g1]at this
       rw[if_neg g2]
       have e1:k+1+1*j-k=(k+1+1*j-(k+1))+1:=by omega
       rw[e1,List.getElem?_cons_succ]at this
       exact this
     . intro h i hi
       have:=h i hi
       rw[List.mem_range']at hi
       obtain⟨j,hj,rfl⟩:=hi
       simp only[List.getD,List.getElem?_append,List.length_replicate]at this ⊢
       have g1:¬(k+1+1*j<k):=by omega
       have g2:¬(k+1+1*j<k+1):=by omega
       rw[if_neg g2]at this
       rw[if_neg g1]
       have e1:k+1+1*j-k=(k+1+1*j-(k+1))+1:=by omega
       rw[e1,List.getElem?_cons_succ]
       exact this
theorem Ge(bs:List Bool):((List.range bs.length).all λ i=>bs.getD i false)=bs.all id:=by
 have:=range_all id false bs 0
 simpa[List.range_eq_range']using this
theorem k_all{bs:List Bool}(w:W (.bl (bs.all id)) S)(hc:X.calm=true:=by rfl):cz X (.builtin "all") [.lst (bs.map .bl)] S W:=by
 intro pins s σ H O vs us I st r ru
 obtain⟨v,rfl,r'⟩:=bR r
 obtain⟨u,rfl,ru'⟩:=vals1 ru
 cases r' with
 | @lst a xs _ h1 q1=>
   cases ru'
   obtain⟨its,rv,pl,hz⟩:=I.list h1.sq
   have ex:=q1.bools
   subst ex
   have hlen:its.length=bs.length:=by rw[←rv.length];simp
   refine call_all_walk (wpAny_pyIter_list pl.isList ?_)
   have ne:a≠s.heap.objs.size:=by
    obtain⟨o,e,_⟩:=pl.isList
    exact Nat.ne_of_lt (Heap.lt_size e)
   refine⟨_,_,_,_,_,_,λ i=>bs.getD i false,rfl,Walks.list (A:=X.A.in1) (I.ok.hd hc) _ a ne its.toArray,⟨⟨_,Heap.get?_push_size _ rfl,rfl,rfl⟩,pl.isList.push _⟩,λ i v s' Q' E' hv hq=>?_,λ h' tk hk=>?_⟩
   . have hv:its[i]? =some v:=by simpa using hv
     have hi:i<bs.length:=by rw[←hlen];exact(y3.mp hv).1
     obtain⟨z,hz',rz⟩:=rv.get (i:=i) (x:=V.bl bs[i]) (by rw[y9,y4 hi];rfl)
     rw[hv]at hz'
     cases hz'
     cases rz
     have e:bs.getD i false=bs[i]:=by simp[List.getD,hi]
     have hq':Q' (bs.getD i false) s':=hq
     rw[e]at hq'
     exact wpAny_truthy_bool hq'
   . have e:(List.range its.toArray.size).all (λ i=>bs.getD i false)=bs.all id:=by rw[x8,hlen];exact Ge bs
     rw[e]
     refine⟨.bl _,H,I.kept (λ b o q=>hk b o (λ z=>?_) (Heap.get?_push_of_some _ q)),rfl,QG.here w st (.bl _)⟩
     have z':b=s.heap.objs.size:=by simpa using z
     exact absurd (Heap.lt_size q) (by rw[z'];exact Nat.lt_irrefl _)
theorem TQ{ns:List Int}(w:W (.int ns.sum) S)(hc:X.calm=true:=by rfl):cz X (.builtin "sum") [.lst (ns.map .int)] S W:=by
 intro pins s σ H O vs us I st r ru
 obtain⟨v,rfl,r'⟩:=bR r
 obtain⟨u,rfl,ru'⟩:=vals1 ru
 cases r' with
 | @lst a xs _ h1 q1=>
   cases ru'
   obtain⟨its,rv,pl,hz⟩:=I.list h1.sq
   have ex:=q1.ints
   subst ex
   have hi:IntsAre its ns:=intsAre_of rv
   obtain⟨zs,ez⟩:=hi.allInts.items
   have hL:=pl.isList
   rw[ez]at hL
   refine sum_intListG (I.ok.hd hc) hL λ h' tk t' hk=>?_
   have e:preSum (numAt zs) zs.size=ns.sum:=by
    rw[preSum_eq,List.take_of_length_le (by simp),←nums_intItems,←ez]
    exact congrArg List.sum hi.numsOf
   rw[e]
   exact⟨.int _,H,I.kept hk,⟨_,rfl⟩,QG.here w st (.int _)⟩
mutual
def deep:D->Nat
 | .tup ds=>aO ds+1
 | .lst ds=>aO ds+1
 | .dic=>1
 | _=>0
def aO:List D->Nat
 | []=>0
 | d::ds=>max (deep d) (aO ds)
end
mutual
def ak:D->Bool
 | .tup ds=>aj ds
 | .lst ds=>aj ds
 | .loc _=>false
 | .dlo _=>false
 | _=>true
def aj:List D->Bool
 | []=>true
 | d::ds=>ak d&&aj ds
end
theorem cP{d:D}:∀{ds:List D}{i:Nat},ds[i]? =some d->deep d≤aO ds
 | [],_,h=>by simp at h
 | c::ds,0,h=>by simp at h;subst h;simp[aO];omega
 | c::ds,i+1,h=>by
   have:=cP (ds:=ds) (i:=i) (by simpa using h)
   simp[aO];omega
theorem eH{d:D}:∀{ds:List D}{i:Nat},aj ds=true->ds[i]? =some d->ak d=true
 | [],_,_,h=>by simp at h
 | c::ds,0,n,h=>by simp at h;subst h;simp[aj]at n;exact n.1
 | c::ds,i+1,n,h=>by
   simp[aj]at n
   exact eH (ds:=ds) (i:=i) n.2 (by simpa using h)
theorem jl{pins:Pins}{s:Shared}{σ:St}{H:Hp}{a:Addr}(I:Inv X pins σ H s)(h:H a=some (.dK [])):(a==sysModules)=false/\s.heap.DictOf (cQ X.prog X.w) a []:=by
 obtain⟨_,h2,vs,h3,h4⟩:=(show aU X.prog X.w H s.heap a (.dK [])from I.hok a _ h)
 cases h3
 exact⟨h2,h4⟩
theorem Lz{P P':Program}{w w':World}{h:Heap}{a:Addr}(d:h.DictOf (cQ P w) a []):h.DictOf (cQ P' w') a []:=by
 obtain⟨o,es,ep,h1,h2,h3,h4,h5,h6⟩:=d
 have e:es=#[]:=by
  have q0:∀l,Pairs (cQ P w) l ([]:List (Key×Value))->l=[]:=by
   intro l hl
   cases hl
   rfl
  have q:es.toList=[]:=q0 _ h5
  exact Array.toList_eq_nil_iff.mp q
 subst e
 exact⟨o,#[],ep,h1,h2,h3,λ _ he=>by simp at he,Pairs.nil,List.nodup_nil⟩
theorem HH (n:Nat):∀(x:D),deep x≤n->ak x=true->∀{pins:Pins}{s:Shared}{σ:St}{H:Hp}{O:Own}{v w:V}{u u':Value}{A:Around},Inv X pins σ H s->Rep X.K O H v x->Rep X.K O H w x->RelV v u->RelV w u'->A.units+n<cLine->SeqAt.EqAt A s u u' true:=by
 induction n with
 | zero=>
   intro x hx hn pins s σ H O v w u u' A I r1 r2 ru ru' hu
   cases r1 with
   | non=>cases r2;cases ru;cases ru';exact SeqAt.EqAt.same _
   | bl b=>cases r2;cases ru;cases ru';exact SeqAt.EqAt.same _
   | int i=>
     cases r2;obtain⟨t,rfl⟩:=ru;obtain⟨t',rfl⟩:=ru'
     have:=SeqAt.EqAt.int_int (A:=A) (s:=s) i t i t'
     rw[beq_self_eq_true]at this
     exact this
   | str i=>
     cases r2;obtain⟨t,rfl⟩:=ru;obtain⟨t',rfl⟩:=ru'
     have:=SeqAt.EqAt.str_str (A:=A) (s:=s) i t i t'
     rw[beq_self_eq_true]at this
     exact this
   | tup _ _=>simp[deep]at hx
   | lst _ _=>simp[deep]at hx
   | loc _=>simp[ak]at hn
   | dlo _=>simp[ak]at hn
   | dic _ _=>simp[deep]at hx
 | succ n ih=>
   intro x hx hn pins s σ H O v w u u' A I r1 r2 ru ru' hu
   cases r1 with
   | non=>cases r2;cases ru;cases ru';exact SeqAt.EqAt.same _
   | bl b=>cases r2;cases ru;cases ru';exact SeqAt.EqAt.same _
   | int i=>
     cases r2;obtain⟨t,rfl⟩:=ru;obtain⟨t',rfl⟩:=ru'
     have:=SeqAt.EqAt.int_int (A:=A) (s:=s) i t i t'
     rw[beq_self_eq_true]at this
     exact this
   | str i=>
     cases r2;obtain⟨t,rfl⟩:=ru;obtain⟨t',rfl⟩:=ru'
     have:=SeqAt.EqAt.str_str (A:=A) (s:=s) i t i t'
     rw[beq_self_eq_true]at this
     exact this
   | @tup a xs ds h1 q1=>
     cases r2 with
     | @tup b ys _ h2 q2=>
       cases ru;cases ru'
       by_cases e:a=b
       . subst e;exact SeqAt.EqAt.same _
       . obtain⟨its,v1,p1,_⟩:=I.tuple h1.sq
         obtain⟨its2,v2,p2,_⟩:=I.tuple h2.sq
         have l1:its.length=ds.length:=by rw[←v1.length,q1.length]
         have l2:its2.length=ds.length:=by rw[←v2.length,q2.length]
         have rc:=SeqAt.RcAt.tuples (A:=A) (e:=λ _=>true) (show s.heap.IsTuple a its.toArray from p1) (show s.heap.IsTuple b its2.toArray from p2) (by omega) (λ j j1 j2=>?_)
         . have e2:((List.range (min its.toArray.size its2.toArray.size)).all (λ _=>true)&&its.toArray.size==its2.toArray.size)=true:=by simp[l1,l2]
           rw[e2]at rc
           exact SeqAt.EqAt.of_refs e rc
         . have hj:j<ds.length:=by simpa[l1]using j1
           obtain⟨z1,a1,b1⟩:=q1.get (y4 hj)
           obtain⟨z2,a2,b2⟩:=q2.get (y4 hj)
           obtain⟨u1,c1,d1⟩:=v1.get a1
           obtain⟨u2,c2,d2⟩:=v2.get a2
           have e1:its.toArray[j]=u1:=by have:=(y3.mp c1).2;simpa using this
           have e2:its2.toArray[j]=u2:=by have:=(y3.mp c2).2;simpa using this
           rw[e1,e2]
           have hd:=cP (y4 hj)
           exact ih ds[j] (by simp[deep]at hx;omega) (eH (by simpa[ak]using hn) (y4 hj)) I b1 b2 d1 d2 (by show A.units+1+n<cLine;omega)
   | @lst a xs ds h1 q1=>
     cases r2 with
     | @lst b ys _ h2 q2=>
       cases ru;cases ru'
       by_cases e:a=b
       . subst e;exact SeqAt.EqAt.same _
       . obtain⟨its,v1,p1,_⟩:=I.list h1.sq
         obtain⟨its2,v2,p2,_⟩:=I.list h2.sq
         have l1:its.length=ds.length:=by rw[←v1.length,q1.length]
         have l2:its2.length=ds.length:=by rw[←v2.length,q2.length]
         have rc:=SeqAt.RcAt.lists (A:=A) (e:=λ _=>true) p1.isList p2.isList (by simp[l1,l2]) (by omega) (λ j j1 j2=>?_)
         . have e2:(List.range its.toArray.size).all (λ _=>true)=true:=by simp
           rw[e2]at rc
           exact SeqAt.EqAt.of_refs e rc
         . have hj:j<ds.length:=by simpa[l1]using j1
           obtain⟨z1,a1,b1⟩:=q1.get (y4 hj)
           obtain⟨z2,a2,b2⟩:=q2.get (y4 hj)
           obtain⟨u1,c1,d1⟩:=v1.get a1
           obtain⟨u2,c2,d2⟩:=v2.get a2
           have e1:its.toArray[j]=u1:=by have:=(y3.mp c1).2;simpa using this
           have e2:its2.toArray[j]=u2:=by have:=(y3.mp c2).2;simpa using this
           rw[e1,e2]
           have hd:=cP (y4 hj)
           exact ih ds[j] (by simp[deep]at hx;omega) (eH (by simpa[ak]using hn) (y4 hj)) I b1 b2 d1 d2 (by show A.units+1+n<cLine;omega)
   | loc _=>simp[ak]at hn
   | dlo _=>simp[ak]at hn
   | @dic a h1 e1=>
     cases r2 with
     | @dic b h2 e2=>
       cases ru;cases ru'
       by_cases e:a=b
       . subst e;exact SeqAt.EqAt.same _
       . obtain⟨z1,d1⟩:=jl I e1
         obtain⟨z2,d2⟩:=jl I e2
         refine SeqAt.EqAt.of_refs e λ prog w' E Q hq=>?_
         exact PySem.W.keq_eq (knd:=cQ prog w') z1 z2 (Lz d1) (Lz d2) (by omega) (λ _=>.nil) (by simpa using hq)
end
end DL
namespace DL
open PySem PySem.Spec L2
open PyProof.Rows
variable {pins : Pins} {H : Hp} {s : Shared}
section
variable {X : Cx} {Γ : Gam} {S : Store} {W : WD} {a b e : Expr} {es : List Expr} {pos : Pos}
theorem Ku{x:D}(hu:X.A.units+60<cLine)(hn:ak x=true)(hd:deep x≤50)(w:W (.bl false) S):aZ X .NotEq x x S W:=by
 intro pins s σ H O v w' u u' I st r1 r2 r3 r4
 have fin:∀{k:Bool},SeqAt.RcNeAt X.A s u u' k->k=false->wpAny (model X.prog X.w) X.A (compareOp .NotEq u u') (EP X pins σ (QG X.K O H W)) X.xe s:=λ h e=>by
  subst e
  exact h _ _ _ _ ⟨.bl false,H,I,rfl,QG.here w st (.bl false)⟩
 cases r1 with
 | non=>cases r2;cases r3;cases r4;exact fin SeqAt.RcNeAt.none_none rfl
 | bl y=>cases r2;cases r3;cases r4;exact fin (SeqAt.RcNeAt.bool_bool y y) (by simp)
 | int y=>cases r2;obtain⟨t,rfl⟩:=r3;obtain⟨t',rfl⟩:=r4;exact fin (SeqAt.RcNeAt.int_int y t y t') (by simp)
 | str y=>cases r2;obtain⟨t,rfl⟩:=r3;obtain⟨t',rfl⟩:=r4;exact fin (SeqAt.RcNeAt.str_str y t y t') (by simp)
 | @tup a xs ds h1 q1=>
   cases r2 with
   | @tup b ys _ h2 q2=>
     cases r3;cases r4
     obtain⟨its,v1,p1,_⟩:=I.tuple h1.sq
     obtain⟨its2,v2,p2,_⟩:=I.tuple h2.sq
     have l1:its.length=ds.length:=by rw[←v1.length,q1.length]
     have l2:its2.length=ds.length:=by rw[←v2.length,q2.length]
     refine fin (SeqAt.RcNeAt.tuples (e:=λ _=>true) (show s.heap.IsTuple a its.toArray from p1) (show s.heap.IsTuple b its2.toArray from p2) (by omega) (λ j j1 j2=>?_)) (by simp[l1,l2])
     have hj:j<ds.length:=by simpa[l1]using j1
     obtain⟨z1,a1,b1⟩:=q1.get (y4 hj)
     obtain⟨z2,a2,b2⟩:=q2.get (y4 hj)
     obtain⟨u1,c1,d1⟩:=v1.get a1
     obtain⟨u2,c2,d2⟩:=v2.get a2
     have e1:its.toArray[j]=u1:=by have:=(y3.mp c1).2;simpa using this
     have e2:its2.toArray[j]=u2:=by have:=(y3.mp c2).2;simpa using this
     rw[e1,e2]
     have hd':=cP (y4 hj)
     exact HH 49 ds[j] (by simp[deep]at hd;omega) (eH (by simpa[ak]using hn) (y4 hj)) I b1 b2 d1 d2 (by show X.A.units+1+49<cLine;omega)
 | @lst a xs ds h1 q1=>
   cases r2 with
   | @lst b ys _ h2 q2=>
     cases r3;cases r4
     obtain⟨its,v1,p1,_⟩:=I.list h1.sq
     obtain⟨its2,v2,p2,_⟩:=I.list h2.sq
     have l1:its.length=ds.length:=by rw[←v1.length,q1.length]
     have l2:its2.length=ds.length:=by rw[←v2.length,q2.length]
     refine fin (SeqAt.RcNeAt.lists (e:=λ _=>true) p1.isList p2.isList (by simp[l1,l2]) (by omega) (λ j j1 j2=>?_)) (by simp)
     have hj:j<ds.length:=by simpa[l1]using j1
     obtain⟨z1,a1,b1⟩:=q1.get (y4 hj)
     obtain⟨z2,a2,b2⟩:=q2.get (y4 hj)
     obtain⟨u1,c1,d1⟩:=v1.get a1
     obtain⟨u2,c2,d2⟩:=v2.get a2
     have e1:its.toArray[j]=u1:=by have:=(y3.mp c1).2;simpa using this
     have e2:its2.toArray[j]=u2:=by have:=(y3.mp c2).2;simpa using this
     rw[e1,e2]
     have hd':=cP (y4 hj)
     exact HH 49 ds[j] (by simp[deep]at hd;omega) (eH (by simpa[ak]using hn) (y4 hj)) I b1 b2 d1 d2 (by show X.A.units+1+49<cLine;omega)
 | loc _=>simp[ak]at hn
 | dlo _=>simp[ak]at hn
 | @dic a h1 e1=>
   cases r2 with
   | @dic b h2 e2=>
     cases r3;cases r4
     obtain⟨z1,d1⟩:=jl I e1
     obtain⟨z2,d2⟩:=jl I e2
     exact PySem.W.keq_ne (knd:=cQ X.prog X.w) z1 z2 d1 d2 (by omega) (λ _=>.nil) ⟨.bl false,H,I,rfl,QG.here w st (.bl false)⟩
end
set_option genInjectivity false in
structure SqKind(P:Program)(w:World)(K:PySem.W.Frag) where
 Sq:Hp->Addr->List V->Prop
 It:Heap->Addr->Addr->Nat->Prop
 Ob:Heap->Addr->Array Value->Prop
 itObj:∀{h it a i},It h it a i->∃o vs,h.get? it=some o/\o.data=.fields vs
 itAt:∀{h h' it a i},It h it a i->(∀o,h.get? it=some o->h'.get? it=some o)->It h' it a i
 obObj:∀{h a its},Ob h a its->∃o n,h.get? a=some o/\o.data=.seq its n
 draws:∀(A:Around),A.handled=none->∀(it a:Addr),a≠it->∀items:Array Value,Draws P w A it [it,a] items.size (λ i v=>items[i]? =some v) (λ i h=>It h it a i/\Ob h a items)
 get:∀{X:Cx}{pins:Pins}{σ:St}{H:Hp}{s:Shared}{a:Addr}{xs:List V},X.prog=P->X.w=w->X.K=K->Inv X pins σ H s->Sq H a xs->∃its:List Value,Vals xs its/\Ob s.heap a its.toArray
 inj:∀{X:Cx}{pins:Pins}{σ:St}{H:Hp}{s:Shared}{a:Addr}{xs ys:List V},X.prog=P->X.w=w->X.K=K->Inv X pins σ H s->Sq H a xs->Sq H a ys->xs=ys
 far:∀{X:Cx}{pins:Pins}{σ:St}{H:Hp}{s:Shared}{a b:Addr}{xs:List V},X.K=K->Inv X pins σ H s->Sq H a xs->dW X pins H b->a≠b
section
variable {P : Program} {w : World} {K : PySem.W.Frag}
theorem SqKind.ne(q:SqKind P w K){h:Heap}{it a:Addr}{i:Nat}{its:Array Value}(x:q.It h it a i)(y:q.Ob h a its):a≠it:=λ e=>by
 obtain⟨o,vs,h1,h2⟩:=q.itObj x
 obtain⟨o',n,h3,h4⟩:=q.obObj y
 rw[e,h1]at h3
 cases h3
 rw[h2]at h4
 cases h4
theorem PQ{X:Cx}{σ:St}{a b:Addr}{o:Obj}(I:Inv X pins σ H s)(h:X.K.lookup a=some o)(f:dW X pins H b):a≠b:=λ z=>by
 have e:=I.ok.mod.kin a o h
 rw[z]at e
 rcases f.2.2.2.1 with q | q
 . exact I.ok.noex b o e q
 . exact absurd (Nat.lt_of_lt_of_le (Heap.lt_size e) (Nat.le_trans I.ok.bsz q)) (Nat.lt_irrefl _)
def Ga(P:Program)(w:World)(K:PySem.W.Frag):SqKind P w K where
 Sq:=SqL K
 It:=λ h it a i=>h.IsListIter it a i
 Ob:=λ h a its=>h.IsList a its
 itObj:=λ x=>let ⟨o,e,_,d⟩:=x;⟨o,_,e,d⟩
 itAt:=λ x k=>x.at k
 obObj:=λ x=>let ⟨o,e,_,n,d⟩:=x;⟨o,n,e,d⟩
 draws:=λ A hh it a ne items=>Draws.list hh it a ne items
 get:=λ hP hw hK I h=>by
  subst hP hw hK
  obtain⟨its,rv,p,_⟩:=I.list h
  exact⟨its,rv,p.isList⟩
 inj:=λ hP hw hK I h h'=>by
  subst hP hw hK
  exact I.list_inj h h'
 far:=λ hK I h f=>by
  subst hK
  rcases h with(h | ⟨_,h⟩) | ⟨o,_,_,h,_⟩
  . exact aB h f.1
  . exact aB h f.1
  . exact PQ I h f
theorem RV{prog:Program}{w:World}{A:Around}{E:Value->Shared->Prop}{it t:Addr}{i:Nat}{items:Array Value}{x:Value}{Q:Value->Shared->Prop}(hi:s.heap.IsTupleIter it t i)(ht:s.heap.IsTuple t items)(hx:items[i]? =some x)
 (hQ:∀h',h'.IsTupleIter it t (i+1)->Heap.SameBut it s.heap h'->Q x {s with heap:=h'}):wpAny (model prog w) A (Builtin.SmallTypes.nextOf (.ref it)) Q E s:=by
 obtain⟨o,ho,hc,hd⟩:=id hi
 obtain⟨o2,ho2,_,n2,hd2⟩:=ht
 unfold Builtin.SmallTypes.nextOf
 refine wpAny_bind (wpAny_callSpecial?_slot (name:=Str.ofString "__next__") hi.typeIs F.slot_tuple_iterator_next (wpAny_call_entry F.slot_tuple_iterator_next hi.typeIs F.entry_tuple_iterator_next ?_ (F.args_tuple_iterator_next_1 _)))
 refine wpAny_bind (m:=field (.ref it) 0) (wpAny_field ho hd (x:=.ref t) rfl ?_)
 rw[if_neg (show ¬((Value.ref t==Value.none)=true)from y7)]
 refine wpAny_bind (m:=field (.ref it) 1) (wpAny_field ho hd (x:=.int i 0) rfl ?_)
 refine wpAny_bind (m:=seqItems? (.ref t)) (wpAny_seqItems ho2 hd2 ?_)
 simp only[Int.toNat_natCast,hx]
 refine wpAny_bind (wpAny_setField ho hd (by simp) (wpAny_pure ⟨x,rfl,wpAny_pure (hQ _ ⟨_,Heap.get?_update_self _ ho (Obj.isFreed_of_fields (Obj.data_mapFields hd _)),(Obj.cls_mapFields ..).trans hc,by rw[Obj.data_mapFields hd];simp[rawInt]⟩ (Heap.SameBut.update ..))⟩))
theorem GK{prog:Program}{w:World}{A:Around}{E:Value->Shared->Prop}{it t:Addr}{i:Nat}{items:Array Value}{Q:Value->Shared->Prop}(hh:A.handled=none)(hi:s.heap.IsTupleIter it t i)(ht:s.heap.IsTuple t items)(hx:items[i]? =none)
 (hE:∀h' e,Heap.ExtBut it s.heap h'->(∃o,h'.get? e=some o/\o.cls=.type "StopIteration")->E (.ref e) {s with heap:=h'}):wpAny (model prog w) A (Builtin.SmallTypes.nextOf (.ref it)) Q E s:=by
 obtain⟨o,ho,hc,hd⟩:=id hi
 obtain⟨o2,ho2,_,n2,hd2⟩:=ht
 unfold Builtin.SmallTypes.nextOf
 refine wpAny_bind (wpAny_callSpecial?_slot (name:=Str.ofString "__next__") hi.typeIs F.slot_tuple_iterator_next (wpAny_call_entry F.slot_tuple_iterator_next hi.typeIs F.entry_tuple_iterator_next ?_ (F.args_tuple_iterator_next_1 _)))
 refine wpAny_bind (m:=field (.ref it) 0) (wpAny_field ho hd (x:=.ref t) rfl ?_)
 rw[if_neg (show ¬((Value.ref t==Value.none)=true)from y7)]
 refine wpAny_bind (m:=field (.ref it) 1) (wpAny_field ho hd (x:=.int i 0) rfl ?_)
 refine wpAny_bind (m:=seqItems? (.ref t)) (wpAny_seqItems ho2 hd2 ?_)
 simp only[Int.toNat_natCast,hx]
 refine wpAny_bind (wpAny_rule (wpAny_bind (wpAny_setField ho hd (by simp) (wpAny_bind (m:=newExc (.type "StopIteration") []) ?_))))
 simp only[newExc,newTuple]
 refine wpAny_bind (wpAny_newObj_type (wpAny_bind (m:=firstArgMember _ _) (wpAny_of_eq (a:=Value.none) (by first | rfl | (simp only[firstArgMember];rfl)) (wpAny_newObj_type ?_ (by size_fits)))) (by size_fits))
 simp only[raiseNew]
 refine wpAny_bind (wpAny_handled ?_)
 first | rw[show A.in1.handled=none from hh] | rw[hh]
 exact wpAny_bind (wpAny_pure (wpAny_throw (hE _ _ (((Heap.SameBut.update ..).extBut.push _).push _) ⟨_,Heap.get?_push_size _ rfl,rfl⟩)))
theorem K3{prog:Program}{w:World}{A:Around}(hh:A.handled=none)(it t:Addr)(ne:t≠it)(items:Array Value):
 Draws prog w A it [it,t] items.size (λ i v=>items[i]? =some v) (λ i h=>h.IsTupleIter it t i/\h.IsTuple t items) where
 live:=λ i h x=>let ⟨o,e,_⟩:=x.1;⟨o,e⟩
 frame:=λ i h h' x k=>by
  obtain⟨⟨o,e,r⟩,⟨o2,e2,r2⟩⟩:=x
  exact⟨⟨o,k it (by simp) o e,r⟩,⟨o2,k t (by simp) o2 e2,r2⟩⟩
 item:=λ i s Q E hi x hQ=>RV x.1 x.2 (x:=items[i]) (by simp[hi]) λ h' y sb=>hQ _ h' s.toks (by simp[hi]) ⟨y,x.2.extBut sb.extBut ne⟩ sb
 done:=λ s Q E x hE=>GK hh x.1 x.2 (by simp) hE
def K8(P:Program)(w:World)(K:PySem.W.Frag):SqKind P w K where
 Sq:=SqT K
 It:=λ h it a i=>h.IsTupleIter it a i
 Ob:=λ h a its=>h.IsTuple a its
 itObj:=λ x=>let ⟨o,e,_,d⟩:=x;⟨o,_,e,d⟩
 itAt:=λ x k=>let ⟨o,e,r⟩:=x;⟨o,k o e,r⟩
 obObj:=λ x=>let ⟨o,e,_,n,d⟩:=x;⟨o,n,e,d⟩
 draws:=λ A hh it a ne items=>K3 hh it a ne items
 get:=λ hP hw hK I h=>by
  subst hP hw hK
  obtain⟨its,rv,p,_⟩:=I.tuple h
  exact⟨its,rv,p⟩
 inj:=λ hP hw hK I h h'=>by
  subst hP hw hK
  exact I.tuple_inj h h'
 far:=λ hK I h f=>by
  subst hK
  rcases h with(h | ⟨_,h⟩) | ⟨o,_,_,h,_⟩
  . exact aB h f.1
  . exact aB h f.1
  . exact PQ I h f
theorem rW{X:Cx}{σ:St}{h':Heap}{t:Nat}{ch:List Addr}(I:Inv X pins σ H s)(hf:∀b∈ch,dW X pins H b)(k:∀b o,b∉ch->s.heap.get? b=some o->h'.get? b=some o):Inv X pins σ H {s with heap:=h',toks:=t}:=by
 have nch:∀b u,H b=some u->b∉ch:=λ b u e z=>by rw[(hf b z).1]at e;cases e
 refine I.step (g':=s.gens) (d':=s.drawn) (ch:=ch) (λ b hb=>⟨(hf b hb).2.2.2.1,(hf b hb).2.1,(hf b hb).2.2.2.2.1,(hf b hb).2.2.2.2.2⟩) (λ b o _ _ hc e _=>k b o hc e) (λ b o _ _ hc e _=>⟨o.slots,k b o hc e⟩) (λ _ _ _ _ n=>n) (λ b o hc e=>⟨o,k b o hc e⟩)
  (λ _ _ e=>e) (λ _ _ _ e=>e) (λ b ps e=>⟨#[],by rw[e];simp⟩) (λ m hm=>?_) (λ b u e=>?_) I.bare
 . obtain⟨o,es,ep,ho,r⟩:=hm
   exact⟨o,es,ep,k _ o (λ z=>(hf _ z).2.1 rfl) ho,r⟩
 . refine(I.hok b u e).stay (λ c v hc q=>k c v ?_ q) (λ _ q=>q) λ _ _ q=>q
   rcases hc with z | z
   . rw[z];exact nch b u e
   . exact nch c _ z
theorem Ai{X:Cx}{σ:St}{s':Shared}{p:Addr}{o:HO}(I:Inv X pins σ H s)(I':Inv X pins σ H s')(hp:s.heap.objs.size≤p)(ob:aU X.prog X.w (upd H p o) s'.heap p o):Inv X pins σ (upd H p o) s':=by
 have hn:H p=none:=I.hok.fresh hp
 have nt:∀b u,H b=some u->b≠p:=λ b u e=>aB e hn
 refine⟨I'.ok,I'.os,I'.bare,⟨I'.base.keep,I'.base.slot,λ b ob e n hx=>?_,I'.base.there,λ b xs e=>?_,λ b ob u e=>?_,λ b ps e=>?_⟩,I'.loc,I'.cell,?_,λ x c e=>?_,λ q hq=>?_,λ b u e=>?_,I'.len⟩
 . have lt:b<s.heap.objs.size:=Nat.lt_of_lt_of_le (Heap.lt_size e) I.sz
   rw[ao (Nat.ne_of_lt (Nat.lt_of_lt_of_le lt hp))]
   exact I'.base.free b ob e n hx
 . have:=I'.base.tups b xs e
   rw[ao (nt b _ this)];exact this
 . have:=I'.base.frzs b ob u e
   rw[ao (nt b _ this)];exact this
 . obtain⟨m,e'⟩:=I'.base.tbls b ps e
   exact⟨m,by rw[ao (nt b _ e')];exact e'⟩
 . rw[ao (Nat.ne_of_lt (Nat.lt_of_lt_of_le I.lt hp))];exact I'.free
 . obtain⟨v,z⟩:=I.cell x c e
   rw[ao (Nat.ne_of_lt (Nat.lt_of_lt_of_le z.lt hp))];exact I'.freeC x c e
 . obtain⟨e1,_⟩:=I.pin q hq
   obtain⟨a1,a2,a3⟩:=I'.pin q hq
   exact⟨a1,by rw[ao (Nat.ne_of_lt (Nat.lt_of_lt_of_le (Heap.lt_size e1) hp))];exact a2,a3⟩
 . by_cases hb:b=p
   . subst hb;rw[aH]at e;cases e;exact ob
   . rw[ao hb]at e
     exact(I'.hok b u e).stay (λ c v _ q=>q) (λ c q=>by rw[ao (nt c _ q)];exact q) λ c xs q=>by rw[ao (nt c _ q)];exact q
def Ite(q:SqKind P w K)(a:Addr):It:=
 ⟨λ i H=>∃xs x,q.Sq H a xs/\xs[i]? =some x,λ i H x H'=>∃p y,H p=none/\H'=upd H p (.tup [.int i,y])/\x=.ref p/\∀xs,q.Sq H a xs->xs[i]? =some y,λ i H=>∃xs,q.Sq H a xs/\i=xs.length⟩
theorem Hu(q:SqKind P w K){elts:List Expr}{k:Nat}{pos:Pos}(a e it:Addr)(hne:e≠it):Turn P w K (.Tuple elts k pos) (Ite q a) [e,it] e (λ i h=>(∃old,IsEnum h e it i old)/\q.It h it a i) where
 mem:=by simp
 obj:=λ i h st b hb=>by
  obtain⟨⟨old,he⟩,hi⟩:=st
  rcases List.mem_cons.mp hb with rfl | hb
  . exact⟨_,he,λ v z=>nomatch z⟩
  . rw[List.mem_singleton.mp hb]
    obtain⟨o,vs,h1,h2⟩:=q.itObj hi
    exact⟨o,h1,λ v z=>by rw[h2]at z;cases z⟩
 keep:=λ i h h' st k=>⟨let ⟨old,he⟩:=st.1;⟨old,k e (by simp) _ he⟩,q.itAt st.2 λ o e=>k it (by simp) o e⟩
 item :=by
  intro X hP hw hK hc i pins s σ H E I hf st hg
  obtain⟨xs,x,hq,hx⟩:=hg
  obtain⟨its,rv,ob⟩:=q.get hP hw hK I hq
  obtain⟨u,hu,ru⟩:=rv.get hx
  obtain⟨⟨old,he⟩,hi⟩:=st
  have ne:=q.ne hi ob
  have hea:e≠a:=λ z=>by
   obtain⟨o,n,h1,h2⟩:=q.obObj ob
   rw[←z,he]at h1
   cases h1
   cases h2
  have hlt:i<its.toArray.size:=by simpa using(y3.mp hu).1
  have uq:∀ys,q.Sq H a ys->ys[i]? =some x:=λ ys hy=>by rw[q.inj hP hw hK I hy hq];exact hx
  subst hP hw
  refine wpAny_pyNext_enum_itemD (q.draws X.A.in1 (I.ok.hd hc) it a ne its.toArray) he ⟨hi,ob⟩ hlt hne (by simp[hne,hea]) λ x' h' tk hPx ho hs' hT hsz hk=>?_
  have ex:x'=u:=by
   have:its.toArray[i]? =some u:=by simpa using hu
   rw[this]at hPx
   exact(Option.some.inj hPx).symm
  subst ex
  refine⟨_,rfl,wpAny_letOwnedTupleGo_enum ho λ h2 he2 sb=>?_⟩
  have I1:Inv X pins σ H {s with heap:=h2,toks:=tk+1}:=rW (ch:=[e,it]) I hf λ b o hb q'=>(sb.2 b (λ z=>hb (by simp[z]))).trans (hk b o (λ z=>hb (by simp[z])) (λ z=>hb (by simp[z])) q')
  have hp:H s.heap.objs.size=none:=I.hok.fresh (x5 _)
  have elt:e<s.heap.objs.size:=Heap.lt_size he
  have hT2:h2.get? s.heap.objs.size=some {cls:=.type "tuple",data:=.seq #[.int i tk,x']}:=(sb.2 _ (Nat.ne_of_gt elt)).trans hT
  have I2:Inv X pins σ (upd H s.heap.objs.size (.tup [.int i,x])) {s with heap:=h2,toks:=tk+1}:=Ai I I1 (x5 _) ⟨by show 2≤sizeLine;decide,[.int i tk,x'],.cons ⟨tk,rfl⟩ (.cons ru .nil),_,hT2,rfl,_,rfl⟩
  refine⟨.ref s.heap.objs.size,_,I2,rfl,⟨_,x,hp,rfl,rfl,uq⟩,⟨⟨_,by simpa using he2⟩,q.itAt hs'.1 λ o q'=>(sb.2 it hne.symm).trans q'⟩,λ b hb=>?_⟩
  rw[ao (Nat.ne_of_lt ?_)]
  . exact(hf b hb).1
  . rcases List.mem_cons.mp hb with rfl | hb
    . exact elt
    . rw[List.mem_singleton.mp hb]
      obtain⟨o,vs,h1,_⟩:=q.itObj hi
      exact Heap.lt_size h1
 done:=by
  intro X hP hw hK hc i pins s σ H E I hf st hg
  obtain⟨xs,hq,hx⟩:=hg
  obtain⟨its,rv,ob⟩:=q.get hP hw hK I hq
  obtain⟨⟨old,he⟩,hi⟩:=st
  have ne:=q.ne hi ob
  subst hP hw
  obtain⟨f0,f1,f2,f3,f4,f5⟩:=hf it (by simp)
  have hn:i=its.toArray.size:=by rw[hx,rv.length];simp
  have st':q.It s.heap it a its.toArray.size/\q.Ob s.heap a its.toArray:=⟨hn▸hi,ob⟩
  exact wpAny_pyNext_enum_endD (q.draws X.A.in1 (I.ok.hd hc) it a ne its.toArray) he st' λ h' ext=>⟨rfl,I.turned (t':=s.toks) (λ b o hb e=>ext b o hb e) f0 f1 f3 f4 f5⟩
 self:=λ _ _ _ _ _ st h=>let ⟨old,he⟩:=st.1;wpAny_pyIter_enum he h
theorem nj(q:SqKind P w K){O:Own}{H:Hp}{a:Addr}{ds:List D}(h:∀O' H',Conv O O' H H'->∃xs,q.Sq H' a xs/\Reps K O' H' xs ds):gO K (Ite q a) O H (ds.mapIdx λ i d=>.tup [.int i,d]):=by
 intro O' H' cv tr i
 obtain⟨xs,hq,r⟩:=h O' H' cv
 refine⟨λ d hd=>?_,λ hi=>⟨xs,hq,by rw[hi,r.length];simp⟩⟩
 rw[List.getElem?_mapIdx]at hd
 cases e:ds[i]? with
 | none=>rw[e]at hd;cases hd
 | some d0=>
   rw[e]at hd
   cases hd
   obtain⟨v,hv,rv⟩:=r.get e
   refine⟨⟨xs,v,hq,hv⟩,λ x H'' y=>?_⟩
   obtain⟨p,y,hp,rfl,rfl,hy⟩:=y
   have ey:=hy xs hq
   rw[hv]at ey
   cases ey
   have np:¬O'.has p:=λ z=>tr p z hp
   exact⟨aV.fresh hp _,.tup ⟨np,aH⟩ (.cons (.int _) (.cons (rv.mono (Step.fresh hp _)) .nil))⟩
section
variable {X : Cx} {Γ : Gam} {S : Store} {e : Expr} {pos : Pos}
theorem CZ{σ:St}{elts:List Expr}{k:Nat}{tp:Pos}{R:It->Hp->Prop}{E:Value->Shared->Prop}{h':Heap}(q:SqKind X.prog X.w X.K){a:Addr}(I:Inv X pins σ H s)(he:IsEnum h' (s.heap.objs.size+1) s.heap.objs.size 0 .none)(hi:q.It h' s.heap.objs.size a 0)
 (kp:∀b o,s.heap.get? b=some o->h'.get? b=some o)(r:R (Ite q a) H):wpAny (model X.prog X.w) X.A (pyIter (.ref (s.heap.objs.size+1))) (PIE X pins σ (.Tuple elts k tp) R) E {s with heap:=h'}:=by
 refine wpAny_pyIter_enum he ?_
 refine⟨s.heap.objs.size+1,[s.heap.objs.size+1,s.heap.objs.size],_,_,H,rfl,I.kept (t':=s.toks) kp,Hu q a (s.heap.objs.size+1) s.heap.objs.size (Nat.succ_ne_self _),⟨⟨_,he⟩,hi⟩,λ b hb=>?_,r⟩
 rcases List.mem_cons.mp hb with rfl | hb
 . exact I.fpOk (Nat.le_succ _) (I.hok.fresh (Nat.le_succ _))
 . rw[List.mem_singleton.mp hb]
   exact I.fpOk (x5 _) (I.hok.fresh (x5 _))
theorem GF(l:Addr)(items:Array Value)(n:Nat)(dct:Option Addr)(sl:Array (Option Value)):
 Meets (Builtin.«enumerate.__new__» ⟨[.type "enumerate",.ref l],[]⟩) (λ _ R s=>s.heap.get? l=some {cls:=.type "tuple",dict:=dct,data:=.seq items n,slots:=sl}/\
  R (.ok (.ret (.ref (s.heap.push {cls:=.type "tuple_iterator",data:=.fields #[.ref l,.int 0 0]}).objs.size)))
    {s with heap:=(s.heap.push {cls:=.type "tuple_iterator",data:=.fields #[.ref l,.int 0 0]}).push {cls:=.type "enumerate",data:=.fields #[.none,.bool false,.ref s.heap.objs.size,rawInt 0,.none,.none]}}):=
 .of_wp λ prog w A R s h=>by
  obtain⟨hp,g,d,tk,os⟩:=s;obtain⟨hl,h⟩:=h
  have hsub:=sub_enumerate
  have hT:Heap.IsTuple (Shared.heap ⟨hp,g,d,tk,os⟩) l items:=⟨_,hl,rfl,n,rfl⟩
  wp_walk using AutoSeq1.wpAny_loadPart' hl
  refine wpAny_stack_any λ st=>wpAny_pure ?_
  split
  . rename_i c _ _ _ _ _
    cases (c==Value.type "enumerate")<;>(wp_walk using AutoSeq1.wpAny_loadPart' hl,wpAny_pyIter_tuple hT;exact⟨_,rfl,h⟩)
  . wp_walk using AutoSeq1.wpAny_loadPart' hl,wpAny_pyIter_tuple hT
    exact⟨_,rfl,h⟩
end
end
end DL
namespace DL
open PySem PySem.Spec L2
open PyProof.Rows
structure Zd(z TI TO i1 i2:Addr)(f1 f2:List Addr):Prop where
 a:TI≠z
 b:TO≠z
 c:TI≠TO
 d:TI≠i1
 e:TI≠i2
 f:TO≠i1
 g:TO≠i2
 h:i1≠z
 i:i2≠z
 j:z∉f1
 k:z∉f2
 l:TO∉f1
 m:TO∉f2
 n:i1∉f2
 o:i2∉f1
section
variable {prog : Program} {w : World} {A : Around} {E : Value -> Shared -> Prop} {s : Shared} {z TI TO i1 i2 : Addr} {f1 f2 : List Addr} {n1 n2 k : Nat} {P1 P2 : Nat -> Value -> Prop} {T1 T2 : Nat -> Heap -> Prop} {va vb : Value}
theorem Qf{Q:Value->Shared->Prop}(D1:Draws prog w A i1 f1 n1 P1 T1)(D2:Draws prog w A i2 f2 n2 P2 T2)(Z:Zd z TI TO i1 i2 f1 f2)(hz:IsZip s.heap z TI TO .none)(hTI:IsPair s.heap TI (.ref i1) (.ref i2))(hTO:IsPair s.heap TO va vb)(t1:T1 k s.heap)(t2:T2 k s.heap)(k1:k<n1)(k2:k<n2)
 (hQ:∀x y h' tk,P1 k x->P2 k y->IsZip h' z TI TO (rawInt s.heap.objs.size)->IsPair h' TO x y->T1 (k+1) h'->T2 (k+1) h'->IsPair h' s.heap.objs.size x y->
  (∀c o,c≠z->c≠TO->c≠i1->c≠i2->s.heap.get? c=some o->h'.get? c=some o)->Q (.ref s.heap.objs.size) {s with heap:=h',toks:=tk}):
 wpAny (model prog w) A (Builtin.«zip.__next__» ⟨[.ref z],[]⟩) (λ fin s'=>∃v,fin=.done (.ret v)/\Q v s') E s:=by
 obtain⟨hp,g,d,tk0,os⟩:=s
 refine wpAny_bind (m:=field (.ref z) 2) (wpAny_field hz rfl (x:=.bool false) rfl (wpAny_bind (m:=field (.ref z) 3) (wpAny_field hz rfl (x:=.ref TI) rfl (wpAny_bind (wpAny_seqItems hTI rfl ?_)))))
 refine wpAny_bind (m:=Builtin.SmallTypes.ownedTupleIsFree (.ref z)) ?_
 unfold Builtin.SmallTypes.ownedTupleIsFree
 refine wpAny_bind (wpAny_field hz rfl (x:=.none) rfl (wpAny_pure ?_))
 simp only[if_true]
 refine wpAny_bind (wpAny_rule (wpAny_bind (wpAny_field hz rfl (x:=.ref TO) rfl (wpAny_bind (wpAny_setField_rec hz (by simp) λ h1 hz1 s1=>?_)))))
 replace hz1:IsZip h1 z TI TO .ellipsis:=hz1
 refine wpAny_bind ?_
 simp only[List.zipIdx_cons,List.zipIdx_nil,List.forIn_cons,List.forIn_nil]
 refine wpAny_bind (wpAny_bind (wpAny_onRaise (wpAny_bind (m:=Builtin.SmallTypes.nextOf (.ref i1)) ?_)))
 refine D1.item k _ _ _ k1 (D1.frame _ _ _ t1 λ b hb o e=>s1.extBut b o (λ q=>Z.j (q▸hb)) e) λ x h2 tk1 p1 t1' s2=>wpAny_pure ?_
 replace s2:Heap.SameBut i1 h1 h2:=s2
 have o2:IsPair h2 TO va vb:=s2.extBut _ _ Z.f (s1.extBut _ _ Z.b hTO)
 refine wpAny_bind (wpAny_seqItems o2 rfl (wpAny_bind (wpAny_updateSeq_pair o2 λ h3 o3 s3=>wpAny_bind (wpAny_letGo (wpAny_pure ?_)))))
 replace o3:IsPair h3 TO x vb:=o3
 refine wpAny_bind (wpAny_bind (wpAny_onRaise (wpAny_bind (m:=Builtin.SmallTypes.nextOf (.ref i2)) ?_)))
 have t2':T2 k h3:=D2.frame _ _ _ t2 λ b hb o e=>s3.extBut b o (λ q=>Z.m (q▸hb)) (s2.extBut b o (λ q=>Z.n (q▸hb)) (s1.extBut b o (λ q=>Z.k (q▸hb)) e))
 refine D2.item k _ _ _ k2 t2' λ y h4 tk2 p2 t2'' s4=>wpAny_pure ?_
 replace s4:Heap.SameBut i2 h3 h4:=s4
 have o4:IsPair h4 TO x vb:=s4.extBut _ _ Z.g o3
 refine wpAny_bind (wpAny_seqItems o4 rfl (wpAny_bind (wpAny_updateSeq_pair o4 λ h5 o5 s5=>wpAny_bind (wpAny_letGo (wpAny_pure (wpAny_pure ?_))))))
 replace o5:IsPair h5 TO x y:=o5
 refine wpAny_bind (wpAny_seqItems o5 rfl (wpAny_bind (wpAny_newTuple ?_)))
 have sz:h5.objs.size=hp.objs.size:=by rw[s5.1,s4.1,s3.1,s2.1,s1.1]
 have hz5:IsZip h5 z TI TO .ellipsis:=s5.extBut _ _ Z.b.symm (s4.extBut _ _ Z.i.symm (s3.extBut _ _ Z.b.symm (s2.extBut _ _ Z.h.symm hz1)))
 have k5:∀c o,c≠z->c≠TO->c≠i1->c≠i2->hp.get? c=some o->h5.get? c=some o:=λ c o c1 c2 c3 c4 q=>s5.extBut _ _ c2 (s4.extBut _ _ c4 (s3.extBut _ _ c2 (s2.extBut _ _ c3 (s1.extBut _ _ c1 q))))
 have zlt:z<h5.objs.size:=Heap.lt_size hz5
 refine wpAny_bind (m:=Builtin.SmallTypes.ownedTupleHandOut (.ref z) (.ref h5.objs.size)) ?_
 unfold Builtin.SmallTypes.ownedTupleHandOut
 have hz6:IsZip (h5.push {cls:=.type "tuple",data:=.seq #[x,y]}) z TI TO .ellipsis:=Heap.get?_push_of_some _ hz5
 refine wpAny_bind (wpAny_setField_rec hz6 (by simp) λ h7 hz7 s7=>?_)
 replace hz7:IsZip h7 z TI TO (rawInt h5.objs.size):=hz7
 refine wpAny_setField_rec hz7 (by simp) λ h8 hz8 s8=>?_
 replace hz8:IsZip h8 z TI TO (rawInt h5.objs.size):=hz8
 have up:∀c o,c≠z->h5.get? c=some o->h8.get? c=some o:=λ c o c1 q=>s8.extBut _ _ c1 (s7.extBut _ _ c1 (Heap.get?_push_of_some _ q))
 have p8:IsPair h8 h5.objs.size x y:=s8.extBut _ _ (Nat.ne_of_gt zlt) (s7.extBut _ _ (Nat.ne_of_gt zlt) (Heap.get?_push_size _ rfl))
 rw[sz]at hz8 p8
 refine wpAny_pure ⟨_,rfl,?_⟩
 show Q (.ref h5.objs.size) _
 rw[sz]
 have u1:T1 (k+1) h8:=D1.frame _ _ _ t1' λ b hb o q=>up b o (λ r=>Z.j (r▸hb)) (s5.extBut b o (λ r=>Z.l (r▸hb)) (s4.extBut b o (λ r=>Z.o (r▸hb)) (s3.extBut b o (λ r=>Z.l (r▸hb)) q)))
 have u2:T2 (k+1) h8:=D2.frame _ _ _ t2'' λ b hb o q=>up b o (λ r=>Z.k (r▸hb)) (s5.extBut b o (λ r=>Z.m (r▸hb)) q)
 exact hQ x y h8 tk2 p1 p2 hz8 (up _ _ Z.b o5) u1 u2 p8 λ c o c1 c2 c3 c4 q=>up c o c1 (k5 c o c1 c2 c3 c4 q)
theorem J9{Q:PySem.Fin->Shared->Prop}(D1:Draws prog w A i1 f1 n1 P1 T1)(D2:Draws prog w A i2 f2 n2 P2 T2)(Z:Zd z TI TO i1 i2 f1 f2)(hz:IsZip s.heap z TI TO .none)(hTI:IsPair s.heap TI (.ref i1) (.ref i2))(hTO:IsPair s.heap TO va vb)(t1:T1 k s.heap)(t2:T2 k s.heap)(hk:k=n1∨(k<n1/\k=n2))
 (hE:∀h' tk e,(∀c o,c≠z->c≠TO->c≠i1->c≠i2->s.heap.get? c=some o->h'.get? c=some o)->(∃o,h'.get? e=some o/\o.cls=.type "StopIteration")->E (.ref e) {s with heap:=h',toks:=tk}):
 wpAny (model prog w) A (Builtin.«zip.__next__» ⟨[.ref z],[]⟩) Q E s:=by
 obtain⟨hp,g,d,tk0,os⟩:=s
 refine wpAny_bind (m:=field (.ref z) 2) (wpAny_field hz rfl (x:=.bool false) rfl (wpAny_bind (m:=field (.ref z) 3) (wpAny_field hz rfl (x:=.ref TI) rfl (wpAny_bind (wpAny_seqItems hTI rfl ?_)))))
 refine wpAny_bind (m:=Builtin.SmallTypes.ownedTupleIsFree (.ref z)) ?_
 unfold Builtin.SmallTypes.ownedTupleIsFree
 refine wpAny_bind (wpAny_field hz rfl (x:=.none) rfl (wpAny_pure ?_))
 simp only[if_true]
 refine wpAny_bind (wpAny_rule (wpAny_bind (wpAny_field hz rfl (x:=.ref TO) rfl (wpAny_bind (wpAny_setField_rec hz (by simp) λ h1 hz1 s1=>?_)))))
 replace hz1:IsZip h1 z TI TO .ellipsis:=hz1
 refine wpAny_bind ?_
 simp only[List.zipIdx_cons,List.zipIdx_nil,List.forIn_cons,List.forIn_nil]
 refine wpAny_bind (wpAny_bind (wpAny_onRaise (wpAny_bind (m:=Builtin.SmallTypes.nextOf (.ref i1)) ?_)))
 have t1':T1 k h1:=D1.frame _ _ _ t1 λ b hb o e=>s1.extBut b o (λ q=>Z.j (q▸hb)) e
 rcases hk with rfl | ⟨k1,rfl⟩
 . refine D1.done _ _ _ t1' λ h2 e s2 hq_=>?_
   obtain⟨oe,he,ce⟩:=hq_
   replace s2:Heap.ExtBut i1 h1 h2:=s2
   have hz2:IsZip h2 z TI TO .ellipsis:=s2 _ _ Z.h.symm hz1
   have ez:e≠z:=λ q=>by subst q;rw[hz2]at he;cases he;simp at ce
   exact wpAny_setField_rec hz2 (by simp) λ h3 _ s3=>hE h3 _ e (λ c o c1 _ c3 _ q=>s3.extBut _ _ c1 (s2 _ _ c3 (s1.extBut _ _ c1 q))) ⟨oe,s3.extBut _ _ ez he,ce⟩
 . refine D1.item k _ _ _ k1 t1' λ x h2 tk1 p1 _ s2=>wpAny_pure ?_
   replace s2:Heap.SameBut i1 h1 h2:=s2
   have o2:IsPair h2 TO va vb:=s2.extBut _ _ Z.f (s1.extBut _ _ Z.b hTO)
   refine wpAny_bind (wpAny_seqItems o2 rfl (wpAny_bind (wpAny_updateSeq_pair o2 λ h3 o3 s3=>wpAny_bind (wpAny_letGo (wpAny_pure ?_)))))
   refine wpAny_bind (wpAny_bind (wpAny_onRaise (wpAny_bind (m:=Builtin.SmallTypes.nextOf (.ref i2)) ?_)))
   have t2':T2 k h3:=D2.frame _ _ _ t2 λ b hb o e=>s3.extBut b o (λ q=>Z.m (q▸hb)) (s2.extBut b o (λ q=>Z.n (q▸hb)) (s1.extBut b o (λ q=>Z.k (q▸hb)) e))
   refine D2.done _ _ _ t2' λ h4 e s4 hq_=>?_
   obtain⟨oe,he,ce⟩:=hq_
   replace s4:Heap.ExtBut i2 h3 h4:=s4
   have hz4:IsZip h4 z TI TO .ellipsis:=s4 _ _ Z.i.symm (s3.extBut _ _ Z.b.symm (s2.extBut _ _ Z.h.symm hz1))
   have ez:e≠z:=λ q=>by subst q;rw[hz4]at he;cases he;simp at ce
   exact wpAny_setField_rec hz4 (by simp) λ h5 _ s5=>hE h5 _ e (λ c o c1 c2 c3 c4 q=>s5.extBut _ _ c1 (s4 _ _ c4 (s3.extBut _ _ c2 (s2.extBut _ _ c3 (s1.extBut _ _ c1 q))))) ⟨oe,s5.extBut _ _ ez he,ce⟩
end
section
variable {P : Program} {w : World} {K : PySem.W.Frag}
def Itz(q r:SqKind P w K)(a b:Addr):It:=
 ⟨λ i H=>∃xs ys x y,q.Sq H a xs/\r.Sq H b ys/\xs[i]? =some x/\ys[i]? =some y,
  λ i H v H'=>∃p x y,H p=none/\H'=upd H p (.tup [x,y])/\v=.ref p/\(∀xs,q.Sq H a xs->xs[i]? =some x)/\∀ys,r.Sq H b ys->ys[i]? =some y,
  λ i H=>∃xs ys,q.Sq H a xs/\r.Sq H b ys/\i=min xs.length ys.length⟩
structure Zr(z TI TO i1 i2:Addr):Prop where
 a:TI≠z
 b:TO≠z
 c:TI≠TO
 d:TI≠i1
 e:TI≠i2
 f:TO≠i1
 g:TO≠i2
 h:i1≠z
 i:i2≠z
 j:i1≠i2
theorem Zr.zd(q r:SqKind P w K){X:Cx}{pins:Pins}{σ:St}{H:Hp}{s:Shared}{z TI TO i1 i2 a b:Addr}{xs ys:List V}(Z:Zr z TI TO i1 i2)(hK:X.K=K)(I:Inv X pins σ H s)(hf:∀c∈[z,TI,TO,i1,i2],dW X pins H c)(hq:q.Sq H a xs)(hr:r.Sq H b ys):Zd z TI TO i1 i2 [i1,a] [i2,b]:=by
 have fa:∀c∈[z,TI,TO,i1,i2],c≠a:=λ c hc=>(q.far hK I hq (hf c hc)).symm
 have fb:∀c∈[z,TI,TO,i1,i2],c≠b:=λ c hc=>(r.far hK I hr (hf c hc)).symm
 refine⟨Z.a,Z.b,Z.c,Z.d,Z.e,Z.f,Z.g,Z.h,Z.i,?_,?_,?_,?_,?_,?_⟩
 . simp[Z.h.symm,fa z (by simp)]
 . simp[Z.i.symm,fb z (by simp)]
 . simp[Z.f,fa TO (by simp)]
 . simp[Z.g,fb TO (by simp)]
 . simp[Z.j,fb i1 (by simp)]
 . simp[Z.j.symm,fa i2 (by simp)]
theorem JM(q r:SqKind P w K){elts:List Expr}{k:Nat}{pos:Pos}(a b z TI TO i1 i2:Addr)(Z:Zr z TI TO i1 i2):Turn P w K (.Tuple elts k pos) (Itz q r a b) [z,TI,TO,i1,i2] z
 (λ i h=>IsZip h z TI TO .none/\IsPair h TI (.ref i1) (.ref i2)/\(∃va vb,IsPair h TO va vb)/\q.It h i1 a i/\r.It h i2 b i) where
 mem:=by simp
 obj:=λ i h st c hc=>by
  obtain⟨hz,hTI,⟨va,vb,hTO⟩,hi,hj⟩:=st
  obtain⟨o,vs,h1,h2⟩:=q.itObj hi
  obtain⟨o',vs',h1',h2'⟩:=r.itObj hj
  simp only[List.mem_cons,List.not_mem_nil,or_false]at hc
  rcases hc with rfl | rfl | rfl | rfl | rfl
  . exact⟨_,hz,λ v z=>nomatch z⟩
  . exact⟨_,hTI,λ v z=>nomatch z⟩
  . exact⟨_,hTO,λ v z=>nomatch z⟩
  . exact⟨o,h1,λ v z=>by rw[h2]at z;cases z⟩
  . exact⟨o',h1',λ v z=>by rw[h2']at z;cases z⟩
 keep:=λ i h h' st k=>by
  obtain⟨hz,hTI,⟨va,vb,hTO⟩,hi,hj⟩:=st
  exact⟨k z (by simp) _ hz,k TI (by simp) _ hTI,⟨va,vb,k TO (by simp) _ hTO⟩,q.itAt hi λ o e=>k i1 (by simp) o e,r.itAt hj λ o e=>k i2 (by simp) o e⟩
 item:=by
  intro X hP hw hK hc i pins s σ H E I hf st hg
  obtain⟨xs,ys,x,y,hq,hr,hx,hy⟩:=hg
  obtain⟨its,rv,ob⟩:=q.get hP hw hK I hq
  obtain⟨its2,rv2,ob2⟩:=r.get hP hw hK I hr
  obtain⟨u,hu,ru⟩:=rv.get hx
  obtain⟨u2,hu2,ru2⟩:=rv2.get hy
  obtain⟨hz,hTI,⟨va,vb,hTO⟩,hi,hj⟩:=st
  have ux:∀zs,q.Sq H a zs->zs[i]? =some x:=λ zs h=>by rw[q.inj hP hw hK I h hq];exact hx
  have uy:∀zs,r.Sq H b zs->zs[i]? =some y:=λ zs h=>by rw[r.inj hP hw hK I h hr];exact hy
  have Z2:=Z.zd q r hK I hf hq hr
  have l1:i<its.toArray.size:=by simpa using(y3.mp hu).1
  have l2:i<its2.toArray.size:=by simpa using(y3.mp hu2).1
  subst hP hw
  have hT:s.TypeIs (.ref z) "zip":=⟨_,hz,rfl⟩
  unfold pyNext
  refine wpAny_bind (wpAny_attempt (wpAny_callSpecial?_slot (name:=Str.ofString "__next__") hT F.slot_zip_next (wpAny_call_entry F.slot_zip_next hT F.entry_zip_next ?_ (F.args_zip_next_1 _))))
  refine Qf (q.draws X.A.in1 (I.ok.hd hc) i1 a (q.ne hi ob) its.toArray) (r.draws X.A.in1 (I.ok.hd hc) i2 b (r.ne hj ob2) its2.toArray) Z2 hz hTI hTO ⟨hi,ob⟩ ⟨hj,ob2⟩ l1 l2 λ x' y' h' tk px py hz' hTO' t1 t2 hp' kp=>wpAny_pure ?_
  have ex:x'=u:=by
   have e1:its.toArray[i]? =some u:=by simpa using hu
   rw[e1]at px
   exact(Option.some.inj px).symm
  have ey:y'=u2:=by
   have e1:its2.toArray[i]? =some u2:=by simpa using hu2
   rw[e1]at py
   exact(Option.some.inj py).symm
  subst ex
  subst ey
  refine⟨_,rfl,wpAny_letOwnedTupleGo_zip hz' λ h2 hz2 sb=>?_⟩
  have I1:Inv X pins σ H {s with heap:=h2,toks:=tk}:=rW (ch:=[z,TI,TO,i1,i2]) I hf λ c o hb q'=>(sb.2 c (λ z=>hb (by simp[z]))).trans (kp c o (λ z=>hb (by simp[z])) (λ z=>hb (by simp[z])) (λ z=>hb (by simp[z])) (λ z=>hb (by simp[z])) q')
  have hp:H s.heap.objs.size=none:=I.hok.fresh (x5 _)
  have elt:z<s.heap.objs.size:=Heap.lt_size hz
  have hT2:h2.get? s.heap.objs.size=some {cls:=.type "tuple",data:=.seq #[x',y']}:=(sb.2 _ (Nat.ne_of_gt elt)).trans hp'
  have I2:Inv X pins σ (upd H s.heap.objs.size (.tup [x,y])) {s with heap:=h2,toks:=tk}:=Ai I I1 (x5 _) ⟨by show 2≤sizeLine;decide,[x',y'],.cons ru (.cons ru2 .nil),_,hT2,rfl,_,rfl⟩
  have hTI':IsPair h2 TI (.ref i1) (.ref i2):=(sb.2 _ Z.a).trans (kp _ _ Z.a Z.c Z.d Z.e hTI)
  refine⟨.ref s.heap.objs.size,_,I2,rfl,⟨_,x,y,hp,rfl,rfl,ux,uy⟩,⟨hz2,hTI',⟨_,_,(sb.2 _ Z.b).trans hTO'⟩,q.itAt t1.1 λ o q'=>(sb.2 i1 Z.h).trans q',r.itAt t2.1 λ o q'=>(sb.2 i2 Z.i).trans q'⟩,λ c hb=>?_⟩
  rw[ao (Nat.ne_of_lt ?_)]
  . exact(hf c hb).1
  . obtain⟨o,vs,h1,_⟩:=q.itObj hi
    obtain⟨o',vs',h1',_⟩:=r.itObj hj
    simp only[List.mem_cons,List.not_mem_nil,or_false]at hb
    rcases hb with rfl | rfl | rfl | rfl | rfl
    . exact elt
    . exact Heap.lt_size hTI
    . exact Heap.lt_size hTO
    . exact Heap.lt_size h1
    . exact Heap.lt_size h1'
 done:=by
  intro X hP hw hK hc i pins s σ H E I hf st hg
  obtain⟨xs,ys,hq,hr,hn⟩:=hg
  obtain⟨its,rv,ob⟩:=q.get hP hw hK I hq
  obtain⟨its2,rv2,ob2⟩:=r.get hP hw hK I hr
  obtain⟨hz,hTI,⟨va,vb,hTO⟩,hi,hj⟩:=st
  have Z2:=Z.zd q r hK I hf hq hr
  subst hP hw
  have hT:s.TypeIs (.ref z) "zip":=⟨_,hz,rfl⟩
  have hk:i=its.toArray.size∨(i<its.toArray.size/\i=its2.toArray.size):=by
   have e1:=rv.length
   have e2:=rv2.length
   simp only[x8]
   omega
  unfold pyNext
  refine wpAny_bind (wpAny_attempt (wpAny_callSpecial?_slot (name:=Str.ofString "__next__") hT F.slot_zip_next (wpAny_call_entry F.slot_zip_next hT F.entry_zip_next ?_ (F.args_zip_next_1 _))))
  refine J9 (q.draws X.A.in1 (I.ok.hd hc) i1 a (q.ne hi ob) its.toArray) (r.draws X.A.in1 (I.ok.hd hc) i2 b (r.ne hj ob2) its2.toArray) Z2 hz hTI hTO ⟨hi,ob⟩ ⟨hj,ob2⟩ hk λ h' tk e kp hq_=>?_
  obtain⟨o,he,ce⟩:=hq_
  refine wpAny_bind (wpAny_isInstance (T:="StopIteration") (b:=true) ⟨o,he,ce⟩ isSubtype_stop (wpAny_pure ⟨rfl,?_⟩))
  exact rW (ch:=[z,TI,TO,i1,i2]) I hf λ c o hb q'=>kp c o (λ z=>hb (by simp[z])) (λ z=>hb (by simp[z])) (λ z=>hb (by simp[z])) (λ z=>hb (by simp[z])) q'
 self:=λ _ _ _ _ _ st h=>wpAny_pyIter_zip st.1 h
theorem qL(q r:SqKind P w K){O:Own}{H:Hp}{a b:Addr}{ds es:List D}(h:∀O' H',Conv O O' H H'->∃xs ys,q.Sq H' a xs/\Reps K O' H' xs ds/\r.Sq H' b ys/\Reps K O' H' ys es):gO K (Itz q r a b) O H (List.zipWith (λ x y=>.tup [x,y]) ds es):=by
 intro O' H' cv tr i
 obtain⟨xs,ys,hq,r1,hr,r2⟩:=h O' H' cv
 refine⟨λ d hd=>?_,λ hi=>⟨xs,ys,hq,hr,by rw[hi,r1.length,r2.length,List.length_zipWith]⟩⟩
 rw[List.getElem?_zipWith]at hd
 cases e1:ds[i]? with
 | none=>rw[e1]at hd;cases hd
 | some d1=>
   cases e2:es[i]? with
   | none=>rw[e1,e2]at hd;cases hd
   | some d2=>
     rw[e1,e2]at hd
     cases hd
     obtain⟨v1,hv1,rv1⟩:=r1.get e1
     obtain⟨v2,hv2,rv2⟩:=r2.get e2
     refine⟨⟨xs,ys,v1,v2,hq,hr,hv1,hv2⟩,λ x H'' y=>?_⟩
     obtain⟨p,x',y',hp,rfl,rfl,hx,hy⟩:=y
     have ex:=hx xs hq
     have ey:=hy ys hr
     rw[hv1]at ex
     rw[hv2]at ey
     cases ex
     cases ey
     have np:¬O'.has p:=λ z=>tr p z hp
     exact⟨aV.fresh hp _,.tup ⟨np,aH⟩ (.cons (rv1.mono (Step.fresh hp _)) (.cons (rv2.mono (Step.fresh hp _)) .nil))⟩
abbrev zh(h:Heap)(c1 c2:String)(l1 l2:Addr):Heap:=
 ((((h.push {cls:=.type c1,data:=.fields #[.ref l1,.int 0 0]}).push {cls:=.type c2,data:=.fields #[.ref l2,.int 0 0]}).push {cls:=.type "tuple",data:=.seq #[.ref h.objs.size,.ref (h.push {cls:=.type c1,data:=.fields #[.ref l1,.int 0 0]}).objs.size]}).push {cls:=.type "tuple",data:=.seq #[.none,.none]})
abbrev zhz(h:Heap)(c1 c2:String)(l1 l2:Addr):Heap:=
 (zh h c1 c2 l1 l2).push {cls:=.type "zip",data:=.fields #[.none,.bool false,.bool false,.ref ((h.push {cls:=.type c1,data:=.fields #[.ref l1,.int 0 0]}).push {cls:=.type c2,data:=.fields #[.ref l2,.int 0 0]}).objs.size,
  .ref (((h.push {cls:=.type c1,data:=.fields #[.ref l1,.int 0 0]}).push {cls:=.type c2,data:=.fields #[.ref l2,.int 0 0]}).push {cls:=.type "tuple",data:=.seq #[.ref h.objs.size,.ref (h.push {cls:=.type c1,data:=.fields #[.ref l1,.int 0 0]}).objs.size]}).objs.size]}
theorem Jf(l1 l2:Addr)(xs ys:Array Value):
 Meets (Builtin.«zip.__new__» ⟨[.type "zip",.ref l1,.ref l2],[]⟩) (λ _ R s=>s.heap.IsTuple l1 xs/\s.heap.IsTuple l2 ys/\
  R (.ok (.ret (.ref (zh s.heap "tuple_iterator" "tuple_iterator" l1 l2).objs.size))) {s with heap:=zhz s.heap "tuple_iterator" "tuple_iterator" l1 l2}):=
 .of_wp λ prog w A R s h=>by
  obtain⟨hp,g,d,tk,os⟩:=s;obtain⟨a1,a2,h⟩:=h
  have hsub:=sub_zip
  have b1:Heap.IsTuple (Shared.heap ⟨hp,g,d,tk,os⟩) l1 xs:=a1
  have b2:Heap.IsTuple (Shared.heap ⟨hp.push {cls:=.type "tuple_iterator",data:=.fields #[.ref l1,.int 0 0]},g,d,tk,os⟩) l2 ys:=Heap.IsTuple.push a2 _
  wp_walk using wpAny_pyIter_tuple b1,wpAny_pyIter_tuple b2
  exact⟨_,rfl,h⟩
end
section
variable {X : Cx} {Γ : Gam} {S : Store} {pos : Pos}
theorem zip_parts(h:Heap)(c1 c2:String)(l1 l2:Addr):(zh h c1 c2 l1 l2).objs.size=h.objs.size+4/\IsZip (zhz h c1 c2 l1 l2) (h.objs.size+4) (h.objs.size+2) (h.objs.size+3) .none/\IsPair (zhz h c1 c2 l1 l2) (h.objs.size+2) (.ref h.objs.size) (.ref (h.objs.size+1))/\IsPair (zhz h c1 c2 l1 l2) (h.objs.size+3) .none .none/\
 (zhz h c1 c2 l1 l2).get? h.objs.size=some {cls:=.type c1,data:=.fields #[.ref l1,.int 0 0]}/\(zhz h c1 c2 l1 l2).get? (h.objs.size+1)=some {cls:=.type c2,data:=.fields #[.ref l2,.int 0 0]}/\∀b o,h.get? b=some o->(zhz h c1 c2 l1 l2).get? b=some o:=by
 have z1:(h.push {cls:=.type c1,data:=.fields #[.ref l1,.int 0 0]}).objs.size=h.objs.size+1:=Heap.size_push ..
 have z2:((h.push {cls:=.type c1,data:=.fields #[.ref l1,.int 0 0]}).push {cls:=.type c2,data:=.fields #[.ref l2,.int 0 0]}).objs.size=h.objs.size+2:=by rw[Heap.size_push,z1]
 have z3:(((h.push {cls:=.type c1,data:=.fields #[.ref l1,.int 0 0]}).push {cls:=.type c2,data:=.fields #[.ref l2,.int 0 0]}).push {cls:=.type "tuple",data:=.seq #[.ref h.objs.size,.ref (h.push {cls:=.type c1,data:=.fields #[.ref l1,.int 0 0]}).objs.size]}).objs.size=h.objs.size+3:=by rw[Heap.size_push,z2]
 have z4:(zh h c1 c2 l1 l2).objs.size=h.objs.size+4:=by rw[Heap.size_push,z3]
 have g5:=Heap.get?_push_size (zh h c1 c2 l1 l2) (o:={cls:=.type "zip",data:=.fields #[.none,.bool false,.bool false,.ref ((h.push {cls:=.type c1,data:=.fields #[.ref l1,.int 0 0]}).push {cls:=.type c2,data:=.fields #[.ref l2,.int 0 0]}).objs.size,
  .ref (((h.push {cls:=.type c1,data:=.fields #[.ref l1,.int 0 0]}).push {cls:=.type c2,data:=.fields #[.ref l2,.int 0 0]}).push {cls:=.type "tuple",data:=.seq #[.ref h.objs.size,.ref (h.push {cls:=.type c1,data:=.fields #[.ref l1,.int 0 0]}).objs.size]}).objs.size]}) rfl
 have g4:(zhz h c1 c2 l1 l2).get? (((h.push {cls:=.type c1,data:=.fields #[.ref l1,.int 0 0]}).push {cls:=.type c2,data:=.fields #[.ref l2,.int 0 0]}).push {cls:=.type "tuple",data:=.seq #[.ref h.objs.size,.ref (h.push {cls:=.type c1,data:=.fields #[.ref l1,.int 0 0]}).objs.size]}).objs.size=some {cls:=.type "tuple",data:=.seq #[.none,.none]}:=Heap.get?_push_of_some _ (Heap.get?_push_size _ rfl)
 have g3:(zhz h c1 c2 l1 l2).get? ((h.push {cls:=.type c1,data:=.fields #[.ref l1,.int 0 0]}).push {cls:=.type c2,data:=.fields #[.ref l2,.int 0 0]}).objs.size=some {cls:=.type "tuple",data:=.seq #[.ref h.objs.size,.ref (h.push {cls:=.type c1,data:=.fields #[.ref l1,.int 0 0]}).objs.size]}:=Heap.get?_push_of_some _ (Heap.get?_push_of_some _ (Heap.get?_push_size _ rfl))
 have g2:(zhz h c1 c2 l1 l2).get? (h.push {cls:=.type c1,data:=.fields #[.ref l1,.int 0 0]}).objs.size=some {cls:=.type c2,data:=.fields #[.ref l2,.int 0 0]}:=Heap.get?_push_of_some _ (Heap.get?_push_of_some _ (Heap.get?_push_of_some _ (Heap.get?_push_size _ rfl)))
 have g1:(zhz h c1 c2 l1 l2).get? h.objs.size=some {cls:=.type c1,data:=.fields #[.ref l1,.int 0 0]}:=Heap.get?_push_of_some _ (Heap.get?_push_of_some _ (Heap.get?_push_of_some _ (Heap.get?_push_of_some _ (Heap.get?_push_size _ rfl))))
 rw[z2,z3,z4]at g5
 rw[z3]at g4
 rw[z1,z2]at g3
 rw[z1]at g2
 refine⟨z4,?_,g3,g4,g1,g2,λ b o e=>Heap.get?_push_of_some _ (Heap.get?_push_of_some _ (Heap.get?_push_of_some _ (Heap.get?_push_of_some _ (Heap.get?_push_of_some _ e))))⟩
 show(zhz h c1 c2 l1 l2).get? _=_
 unfold zhz
 rw[z2,z3]
 exact g5
theorem Hg{pins:Pins}{σ:St}{H:Hp}{s:Shared}{elts:List Expr}{k:Nat}{tp:Pos}{R:It->Hp->Prop}{E:Value->Shared->Prop}{c1 c2:String}{l1 l2:Addr}(q r:SqKind X.prog X.w X.K)(I:Inv X pins σ H s)
 (hi:q.It (zhz s.heap c1 c2 l1 l2) s.heap.objs.size l1 0)(hj:r.It (zhz s.heap c1 c2 l1 l2) (s.heap.objs.size+1) l2 0)(rr:R (Itz q r l1 l2) H):
 wpAny (model X.prog X.w) X.A (pyIter (.ref (s.heap.objs.size+4))) (PIE X pins σ (.Tuple elts k tp) R) E {s with heap:=zhz s.heap c1 c2 l1 l2}:=by
 obtain⟨_,p1,p2,p3,_,_,kp⟩:=zip_parts s.heap c1 c2 l1 l2
 refine wpAny_pyIter_zip p1 ?_
 refine⟨s.heap.objs.size+4,[s.heap.objs.size+4,s.heap.objs.size+2,s.heap.objs.size+3,s.heap.objs.size,s.heap.objs.size+1],_,_,H,rfl,I.kept (t':=s.toks) kp,JM q r l1 l2 (s.heap.objs.size+4) (s.heap.objs.size+2) (s.heap.objs.size+3) s.heap.objs.size (s.heap.objs.size+1) ?_,⟨p1,p2,⟨_,_,p3⟩,hi,hj⟩,λ b hb=>?_,rr⟩
 . constructor<;>exact λ z=>by have z':(_:Nat)=_:=z;omega
 . have hb':s.heap.objs.size≤b:=by
    simp only[List.mem_cons,List.not_mem_nil,or_false]at hb
    rcases hb with rfl | rfl | rfl | rfl | rfl
    . exact Nat.le_add_right _ _
    . exact Nat.le_add_right _ _
    . exact Nat.le_add_right _ _
    . exact x5 _
    . exact Nat.le_add_right _ _
   exact I.fpOk hb' (I.hok.fresh hb')
theorem Kl{e1 e2:Expr}{elts:List Expr}{k:Nat}{tp p:Pos}{W:List D->Store->Prop}(h:Ev X Γ S e1 λ d S1=>Ev X Γ S1 e2 λ d' S2=>∃ds es,d=.tup ds/\d'=.tup es/\W (List.zipWith (λ x y=>.tup [x,y]) ds es) S2)(hm:X.mg "zip"=none)(hg:Gl X "zip":=by rfl)
 (hs:starEach [e1,e2] X.env=(false,eval e1 X.env)::starEach [e2] X.env:=by rfl)(hs2:starEach [e2] X.env=[(false,eval e2 X.env)]:=by rfl):
 ItW X Γ S (.Tuple elts k tp) (.Call (.Name "zip" p) [e1,e2] [] pos) W:=by
 intro pins s σ H O I env st
 have hA:EvA X Γ S [e1,e2] λ dd S2=>∃ds es,dd=[.tup ds,.tup es]/\W (List.zipWith (λ x y=>.tup [x,y]) ds es) S2:=
  bz (h.mono λ d S1 h1=>bz (h1.mono λ d' S2 ⟨ds,es,a,b,w⟩=>cH ⟨ds,es,by rw[a,b],w⟩) hs2) hs
 refine Call_ (aY I hg hm boot_zip (PyProof.Rows.callWith_type1 (thn (hA pos pins s σ H O I env st) λ us s1 hq_=>?_) hs (by rw[hs2];rfl)))
 obtain⟨vs,H1,I1,r1,O1,dd,S1,⟨ds,es,ed,w⟩,st1,ok1,rep⟩:=hq_
 subst ed
 cases rep with
 | cons ra rb=>
   cases rb with
   | cons rb rc=>
     cases rc
     obtain⟨u,u2,rfl,ru,ru2⟩:=vals2 r1
     cases ra with
     | @tup a xs _ h1 q1=>
       cases rb with
       | @tup b ys _ h2 q2=>
         cases ru
         cases ru2
         obtain⟨its,rv,pl,hz⟩:=I1.tuple h1.sq
         obtain⟨its2,rv2,pl2,hz2⟩:=I1.tuple h2.sq
         obtain⟨z4,p1,p2,p3,p4,p5,kp⟩:=zip_parts s1.heap "tuple_iterator" "tuple_iterator" a b
         refine callType_new F.called_zip (by decide) (F.typeCall_zip_2 _ _) (F.newCall_zip_2 _ _) (λ obj=>F.args_object_init_3 obj _ _) F.entry_zip_new (Jf a b its.toArray its2.toArray) ⟨pl,pl2,?_⟩
         show _/\_
         rw[z4]
         refine⟨⟨_,p1,rfl⟩,Hg (K8 X.prog X.w X.K) (K8 X.prog X.w X.K) I1 ⟨_,p4,rfl,rfl⟩ ⟨_,p5,rfl,rfl⟩ ⟨O1,_,S1,w,st1,ok1,qL _ _ λ O' H' cv=>⟨xs,ys,(h1.conv cv).sq,q1.conv cv,(h2.conv cv).sq,q2.conv cv⟩⟩⟩
end
end DL
namespace DL
open PySem PySem.Spec L2
open PyProof.Rows
section
variable {X : Cx} {Γ : Gam} {S : Store} {e : Expr}
theorem UW{W:Option Int->Store->Prop}(h:Ev X Γ S e λ d S1=>∃i,d=.int i/\W (some i) S1):PoD X Γ S (some e) W:=h
theorem Uc{W:Option Int->Store->Prop}(h:W none S):PoD X Γ S none W:=h
theorem Ub{c:Expr}{W:Bool->Store->Prop}(h:Ts X Γ S c W):TsA X Γ S [c] W:=h
end
theorem aJ{α:Type}{xs:List α}{i:Nat}{x:α}(h:xs[i]? =some x):xs.take (i+1)=xs.take i++[x]:=by rw[List.take_add_one,h];rfl
theorem nG(d:D)(ds:List D):cutD (d::ds) (some 1) none=ds:=by
 unfold cutD
 have h1:HT.sIx (d::ds).length 0 (some 1)=1:=by
  have:=HT.sIx_nat (d::ds).length 0 1
  simp only[List.length_cons]at this ⊢
  have h2:((1:Nat):Int)=1:=rfl
  rw[h2]at this
  rw[this];omega
 rw[h1,HT.sIx_none]
 simp
theorem CV(ds:List D)(lo hi:Option Int):(cutD ds lo hi).length≤ds.length:=by
 unfold cutD
 rw[List.length_take,List.length_drop];omega
theorem ql{ds:List D}{k:Int}(h:0≤k):cutD ds none (some k)=ds.take k.toNat:=by
 unfold cutD
 rw[HT.sIx_none]
 have e:HT.sIx ds.length ds.length (some k)=min k.toNat ds.length:=by
  have:=HT.sIx_nat ds.length ds.length k.toNat
  rwa[Int.toNat_of_nonneg h]at this
 rw[e,List.drop_zero,Nat.sub_zero]
 rcases Nat.le_total k.toNat ds.length with q | q
 . rw[Nat.min_eq_left q]
 . rw[Nat.min_eq_right q,List.take_of_length_le (x5 _),List.take_of_length_le q]
theorem dY{ds:List D}{k:Int}(h:0≤k):cutD ds (some k) none=ds.drop k.toNat:=by
 unfold cutD
 rw[HT.sIx_none]
 have e:HT.sIx ds.length 0 (some k)=min k.toNat ds.length:=by
  have:=HT.sIx_nat ds.length 0 k.toNat
  rwa[Int.toNat_of_nonneg h]at this
 rw[e]
 rcases Nat.le_total k.toNat ds.length with q | q
 . rw[Nat.min_eq_left q,List.take_of_length_le (by rw[List.length_drop];omega)]
 . rw[Nat.min_eq_right q,List.drop_eq_nil_of_le (x5 _),List.drop_eq_nil_of_le q];simp
theorem fV{α:Type}{ds:List α}{v:Int}(h0:0≤v)(h1:v<ds.length):∃x,atI ds v=some x/\ds[v.toNat]? =some x:=by
 have hk:v.toNat<ds.length:=by omega
 refine⟨ds[v.toNat],?_,y4 hk⟩
 have q:=dZ (xs:=ds) (j:=v.toNat) (y4 hk)
 rwa[Int.toNat_of_nonneg h0]at q
theorem jA{α:Type}(x:α)(xs:List α):atI (x::xs) 0=some x:=dZ (xs:=x::xs) (j:=0) rfl
theorem set_get{S:Store}{k:Nat}{l l':List D}(h:S[k]? =some l):(S.set k l')[k]? =some l':=List.getElem?_set_self (y3.mp h).1
end DL
namespace RF
open PySem PySem.Spec L2 DL
open PyProof.Rows
open Builtin
theorem oE:fillsNumberSlot (.type "tuple") "mul"=pure false:=
 PySem.fillsNumberSlot_seq (id:="tuple.__mul__") (r:=some (.builtin "tuple.__rmul__")) F.slot_tuple_mul.lookup (by decide+kernel) F.slot_tuple_rmul.lookup (by decide+kernel)
theorem zx:seqRepeat? (.type "tuple")=pure (some (.builtin "tuple.__mul__")):=by
 unfold seqRepeat?
 rw[PySem.seqSlot_of (T:="tuple") (name:="__mul__") (id:="tuple.__mul__") F.slot_tuple_mul.lookup (by decide+kernel),PySem.seqSlot_of (T:="tuple") (name:="__rmul__") (id:="tuple.__rmul__") F.slot_tuple_rmul.lookup (by decide+kernel)]
 rfl
theorem uA(a:Int)(t:Tok)(l:Addr)(items:Array Value)(n:Nat)(dct:Option Addr)(sl:Array (Option Value)):
 Meets (Builtin.«int.__rmul__» ⟨[.int a t,.ref l],[]⟩) (λ _ R s=>s.heap.get? l=some {cls:=.type "tuple",dict:=dct,data:=.seq items n,slots:=sl}/\R (.ok (.ret Value.notImplemented)) s):=
 .of_wp λ prog w A R s h=>by obtain⟨hp,g,d,tk,os⟩:=s;obtain⟨hl,h⟩:=h;wp_walk;exact⟨_,rfl,h⟩
theorem uw(l:Addr)(items:Array Value)(n:Nat)(dct:Option Addr)(sl:Array (Option Value))(x:Int)(u:Tok)(h1:¬(decide (x< -(2 ^ 63))||decide (x≥2 ^ 63))=true)(hc:(items.isEmpty||x==1)=true):
 Meets (Builtin.«tuple.__mul__» ⟨[.ref l,.int x u],[]⟩) (λ _ R s=>s.heap.get? l=some {cls:=.type "tuple",dict:=dct,data:=.seq items n,slots:=sl}/\R (.ok (.ret (.ref l))) s):=
 .of_wp λ prog w A R s h=>by
  obtain⟨hp,g,d,tk,os⟩:=s;obtain⟨hl,h⟩:=h
  unfold Builtin.«tuple.__mul__»
  wp_walk
  rw[if_neg h1]
  wp_walk using AutoSeq1.wpAny_loadPart' hl
  try rw[if_pos hc]
  wp_walk using AutoSeq1.wpAny_loadPart' hl
  exact⟨_,rfl,h⟩
theorem uN(l:Addr)(items:Array Value)(n:Nat)(dct:Option Addr)(sl:Array (Option Value))(x:Int)(u:Tok)(h1:¬(decide (x< -(2 ^ 63))||decide (x≥2 ^ 63))=true)(hc:¬(items.isEmpty||x==1)=true)(h2:(decide (x≤0)||items.isEmpty)=true):
 Meets (Builtin.«tuple.__mul__» ⟨[.ref l,.int x u],[]⟩) (λ _ R s=>s.heap.get? l=some {cls:=.type "tuple",dict:=dct,data:=.seq items n,slots:=sl}/\R (.ok (.ret (.ref s.heap.objs.size))) {s with heap:=s.heap.push {cls:=.type "tuple",data:=.seq #[]}}):=
 .of_wp λ prog w A R s h=>by
  obtain⟨hp,g,d,tk,os⟩:=s;obtain⟨hl,h⟩:=h
  unfold Builtin.«tuple.__mul__»
  wp_walk
  rw[if_neg h1]
  wp_walk using AutoSeq1.wpAny_loadPart' hl
  try rw[if_neg hc]
  wp_walk using AutoSeq1.wpAny_loadPart' hl
  try rw[if_pos h2]
  wp_walk using AutoSeq1.wpAny_loadPart' hl
  exact⟨_,rfl,h⟩
theorem t8(l:Addr)(items:Array Value)(n:Nat)(dct:Option Addr)(sl:Array (Option Value))(x:Int)(u:Tok)(h1:¬(decide (x< -(2 ^ 63))||decide (x≥2 ^ 63))=true)(hc:¬(items.isEmpty||x==1)=true)(h2:¬(decide (x≤0)||items.isEmpty)=true)
 (h3:¬((items.size:Int)*x>(2 ^ 63-1)/8))(h4:¬Builtin.Tuple.tupleTooMany ((items.size:Int)*x)=true)(h5:((List.replicate x.toNat items).foldl (· ++·) #[]).size≤sizeLine):
 Meets (Builtin.«tuple.__mul__» ⟨[.ref l,.int x u],[]⟩) (λ _ R s=>s.heap.get? l=some {cls:=.type "tuple",dict:=dct,data:=.seq items n,slots:=sl}/\R (.ok (.ret (.ref s.heap.objs.size))) {s with heap:=s.heap.push {cls:=.type "tuple",data:=.seq ((List.replicate x.toNat items).foldl (· ++·) #[])}}):=
 .of_wp λ prog w A R s h=>by
  obtain⟨hp,g,d,tk,os⟩:=s;obtain⟨hl,h⟩:=h
  unfold Builtin.«tuple.__mul__»
  wp_walk
  rw[if_neg h1]
  wp_walk using AutoSeq1.wpAny_loadPart' hl
  try rw[if_neg hc]
  wp_walk using AutoSeq1.wpAny_loadPart' hl
  try rw[if_neg h2]
  wp_walk using AutoSeq1.wpAny_loadPart' hl
  try rw[if_neg h3]
  wp_walk using AutoSeq1.wpAny_loadPart' hl
  try rw[if_neg h4]
  wp_walk using AutoSeq1.wpAny_loadPart' hl
  exact⟨_,rfl,h⟩
theorem Reps.rep{K:PySem.W.Frag}{O:Own}{H:Hp}{vs:List V}{ds:List D}(r:Reps K O H vs ds):∀k:Nat,Reps K O H (List.replicate k vs).flatten (List.replicate k ds).flatten
 | 0=>.nil
 | k+1=>by
   rw[List.replicate_succ,List.replicate_succ,List.flatten_cons,List.flatten_cons]
   exact r.append (Reps.rep r k)
theorem QJ{X:Cx}{S:Store}{W:WD}{ds:List D}{k:Int}(hk: -(2 ^ 63)≤k/\k<2 ^ 63)(hz:ds.length*k.toNat≤1000000)(w:W (.tup (List.replicate k.toNat ds).flatten) S):cL X .Mult (.tup ds) (.int k) S W:=by
 intro pins s σ H O v w' u u' I st r1 r2 r3 r4
 cases r1 with
 | @tup a xs _ h1 q1=>
   cases r2
   cases r3
   obtain⟨t,rfl⟩:=r4
   obtain⟨its,v1,p1,_⟩:=I.tuple h1.sq
   obtain⟨⟨cls,dd,data,sl⟩,ho,hc,n,hd⟩:=id p1
   simp only at hc hd
   subst hc hd
   have l1:its.length=ds.length:=by rw[←v1.length,q1.length]
   have c1:¬(decide (k< -(2 ^ 63))||decide (k≥2 ^ 63))=true:=by
    rw[decide_eq_false (by omega),decide_eq_false (by omega)];decide
   have new:∀m:Nat,m=k.toNat->EP X pins σ (QG X.K O H W) (.ref s.heap.objs.size) {s with heap:=s.heap.push {cls:=.type "tuple",data:=.seq (List.replicate m its).flatten.toArray}}:=by
    rintro m rfl
    refine⟨.ref s.heap.objs.size,upd H s.heap.objs.size (.tup (List.replicate k.toNat xs).flatten),I.laid (t':=s.toks) (λ b u e=>Heap.get?_push_of_some _ e) (x5 _) ?_,rfl,eU w st I.fresh (Reps.rep q1 _)⟩
    exact⟨by rw[len_rep,q1.length,Nat.mul_comm];exact small hz,_,v1.rep _,⟨_,Heap.get?_push_size _ rfl,rfl,_,rfl⟩⟩
   refine PySem.wpAny_binaryOp_repeat_ref (T:="tuple") (U:="int") (by decide) ⟨_,ho,rfl⟩ (λ s'=>typeIs_int s' k t) oE F.fills_int_mul F.slot_int_rmul zx F.slot_int_index.lookup
    (call_meets F.slot_int_rmul (typeIs_int s k t) F.entry_int_rmul (F.args_int_rmul_2 _ _) (uA k t a its.toArray n dd sl) ⟨ho,rfl,⟨_,ho,rfl⟩,?_⟩)
   by_cases b1:(its.toArray.isEmpty||k==1)=true
   . refine call_meets F.slot_tuple_mul ⟨_,ho,rfl⟩ F.entry_tuple_mul (F.args_tuple_mul_2 _ _) (uw a its.toArray n dd sl k t c1 b1) ⟨ho,.ref a,H,I,rfl,?_⟩
     have e:(List.replicate k.toNat ds).flatten=ds:=by
      rw[Bool.or_eq_true]at b1
      rcases b1 with z | z
      . have:its=[]:=by simpa using z
        have:ds=[]:=by rw[this]at l1;simpa using l1.symm
        subst this
        simp
      . have:k=1:=eq_of_beq z
        subst this
        simp
     rw[e]at w
     exact QG.here w st (.tup h1 q1)
   . by_cases b2:(decide (k≤0)||its.toArray.isEmpty)=true
     . refine call_meets F.slot_tuple_mul ⟨_,ho,rfl⟩ F.entry_tuple_mul (F.args_tuple_mul_2 _ _) (uN a its.toArray n dd sl k t c1 b1 b2) ⟨ho,?_⟩
       have h0:k.toNat=0:=by
        rw[Bool.or_eq_true]at b2
        rcases b2 with z | z
        . have:=of_decide_eq_true z;omega
        . exact absurd (by rw[z];rfl) b1
       have:=new 0 h0.symm
       exact this
     . have h0:0<k:=by
        cases z:decide (k≤0)with
        | true=>exact absurd (by rw[z];rfl) b2
        | false=>have:=of_decide_eq_false z;omega
       have ek:(its.toArray.size:Int)*k=((its.length*k.toNat:Nat):Int):=by
        rw[x8,Int.natCast_mul,Int.toNat_of_nonneg (by omega)]
       have fz:List.foldl (λ x1 x2=>x1++x2) #[] (List.replicate k.toNat its.toArray)=(List.replicate k.toNat its).flatten.toArray:=by
        have:=foldl_rep its k.toNat []
        rw[List.nil_append]at this
        exact this
       have big:its.length*k.toNat≤1000000:=by rw[l1];exact hz
       refine call_meets F.slot_tuple_mul ⟨_,ho,rfl⟩ F.entry_tuple_mul (F.args_tuple_mul_2 _ _) (t8 a its.toArray n dd sl k t c1 b1 b2 (by rw[ek];omega) ?_ ?_) ⟨ho,?_⟩
       . rw[ek]
         have:(1000000:Nat)≤sizeLine:=by decide
         unfold Builtin.Tuple.tupleTooMany
         rw[decide_eq_true_eq]
         omega
       . rw[fz,x8,len_rep,Nat.mul_comm];exact small big
       . rw[fz]
         exact new _ rfl
end RF
namespace RF
open PySem PySem.Spec L2 DL
open PyProof.Rows
variable {W : WD}
set_option genInjectivity false in
structure Wd where
 P:Program
 w:World
 K:PySem.W.Frag
 mg:Str->Option Value
 base:Heap
 cd:Option (Value×Str):=none
abbrev Nm:=List (Str×NameKind)
structure At(Ω:Wd)(X:Cx)(r:Nat)(top:Bool)(N:List Str)(nm:Nm):Prop where
 p:X.prog=Ω.P
 w:X.w=Ω.w
 k:X.K=Ω.K
 g:X.mg=Ω.mg
 b:X.base=Ω.base
 room:Room r X.A
 xe:X.xe=λ _ _=>False
 calm:X.calm=true
 n:X.N=N
 nd:N.Nodup
 kind:X.env.scope.kind=.function
 look:∀x k,nm.lookup x=some k->X.env.kindOf x=some k∨(k=.free/\X.env.kindOf x=some .cell)
 fn:∀x,nm.lookup x=some .cell->X.fn x=true
 cd:top=true->∀p,Ω.cd=some p->X.env.code=p.1/\X.env.qual=p.2
def vis(nm:Nm)(x:Str):Bool:=match nm.lookup x with | some .local=>true | some .cell=>true | some .free=>true | _=>false
def lcl(top:Bool)(nm:Nm)(x:Str):Bool:=match nm.lookup x with | some .local=>true | some .cell=>true | _=>false
def glb(nm:Nm)(x:Str):Bool:=nm.lookup x==some .globalImplicit
def okN(x:Str):Bool:=!(x==("__debug__":Str))&&(!(x==("__classdict__":Str))&& !(x==("__name__":Str)))
def okE:Expr->Bool
 | .Starred .. =>false | .Set .. =>false | .Slice .. =>false | _=>true
def noC:Expr->Bool
 | .ListComp .. =>false | .SetComp .. =>false | .DictComp .. =>false | _=>true
def RW:Expr->Bool
 | .UnaryOp .. =>false | .BoolOp .. =>false | .IfExp .. =>false | .Compare .. =>false | _=>true
theorem aa{a b:Bool}(h:(a&&b)=true):a=true/\b=true:=by cases a<;>cases b<;>first | exact⟨rfl,rfl⟩ | exact(y7 h).elim
theorem nt{a:Bool}(h:(!a)=true):a=false:=by cases a<;>first | rfl | exact(y7 h).elim
theorem bJ{x:Str}(h:okN x=true):(x==("__debug__":Str))=false/\(x==("__classdict__":Str))=false/\x≠"__name__":=by
 obtain⟨h1,h2⟩:=aa h
 obtain⟨h2,h3⟩:=aa h2
 exact⟨nt h1,nt h2,λ e=>by rw[e]at h3;simp at h3⟩
section
variable {Ω : Wd} {X : Cx} {r : Nat} {top : Bool} {N : List Str} {nm : Nm} {x : Str}
theorem At.vis(A:At Ω X r top N nm)(h:RF.vis nm x=true):Vis X.env.scope x:=by
 unfold RF.vis at h
 cases e:nm.lookup x with
 | none=>rw[e]at h;cases h
 | some k=>
   rw[e]at h
   have q:=A.look x k e
   cases k with
   | «local»=>rcases q with q | ⟨q,_⟩;exact .inl q;exact nomatch q
   | cell=>rcases q with q | ⟨q,_⟩;exact .inr (.inl q);exact nomatch q
   | free=>rcases q with q | ⟨_,q⟩;exact .inr (.inr q);exact .inr (.inl q)
   | _=>exact(y7 h).elim
theorem At.lcl(A:At Ω X r top N nm)(h:RF.lcl top nm x=true):Loc X.env.scope x/\(X.fn x=true∨X.env.scope.names.lookup x=some .local):=by
 unfold RF.lcl at h
 cases e:nm.lookup x with
 | none=>rw[e]at h;cases h
 | some k=>
   rw[e]at h
   have q:=A.look x k e
   cases k with
   | «local»=>rcases q with q | ⟨q,_⟩;exact⟨.inl q,.inr q⟩;exact nomatch q
   | cell=>rcases q with q | ⟨q,_⟩;exact⟨.inr q,.inl (A.fn x e)⟩;exact nomatch q
   | _=>exact(y7 h).elim
theorem At.glb(A:At Ω X r top N nm)(h:RF.glb nm x=true):Gl X x:=by
 have e:nm.lookup x=some .globalImplicit:=eq_of_beq h
 rcases A.look x _ e with q | ⟨q,_⟩
 . exact q
 . exact nomatch q
end
theorem aA{e:Expr}(h:okE e=true)(es:List Expr)(env:Env):starEach (e::es) env=(false,eval e env)::starEach es env:=by
 cases e<;>first | rfl | exact(y7 h).elim
theorem lw:∀{es:List Expr}(_:es.all okE=true)(pos:Pos)(env:Env),(backTo pos (starEach es env)).any (·.1)=false
 | [],_,_,_=>rfl
 | e::es,h,pos,env=>by
   rw[List.all_cons]at h
   obtain⟨h1,h2⟩:=aa h
   rw[aA h1]
   show(false||(backTo pos (starEach es env)).any (·.1))=false
   rw[lw h2];rfl
theorem gD{op:CmpOp}{e:Expr}(h:okE e=true):behindInMarks op e=false:=by
 cases e<;>first | rfl | exact(y7 h).elim
theorem Ak{e:Expr}(h:okE e=true):uz e:=by
 intro _ _
 cases e<;>first | rfl | exact(y7 h).elim
theorem lY{e:Expr}(h:okE e=true)(env:Env):∀x,foldedSetIterable e env x=pure x:=by
 intro x
 cases e<;>first | rfl | exact(y7 h).elim
theorem jB{e:Expr}(h:noC e=true)(t:Option Expr)(l:Nat)(env:Env):swapsWith e t l env=pure false:=by
 cases e<;>first | rfl | exact(y7 h).elim
theorem Q7{e:Expr}(h:RW e=true)(env:Env):∀whole,isTrue e env whole=(do let v ←whole;standAt e.pos;holding [v] (truthy v)):=by
 intro w
 cases e<;>first | rfl | exact(y7 h).elim
section
variable {X : Cx} {Γ : Gam} {S : Store} {e : Expr} {es : List Expr}
theorem EvA.mono{W W':List D->Store->Prop}(h:EvA X Γ S es W)(k:∀ds S',W ds S'->W' ds S'):EvA X Γ S es W':=λ pos pins s σ H O I env st=>
 thn (h pos pins s σ H O I env st) λ _ _ ⟨v,H',I',r,O',d,S',w,q⟩=>⟨v,H',I',r,O',d,S',k d S' w,q⟩
theorem Ts.mono{W W':Bool->Store->Prop}(h:Ts X Γ S e W)(k:∀c S',W c S'->W' c S'):Ts X Γ S e W':=λ pins s σ H O I env st=>
 thn (h pins s σ H O I env st) λ _ _ ⟨H',I',O',S',w,q⟩=>⟨H',I',O',S',k _ S' w,q⟩
theorem BdW.mono{d:D}{W W':Gam->Store->Prop}(h:BdW X e d Γ S W)(k:∀G S',W G S'->W' G S'):BdW X e d Γ S W':=λ pins s σ H O v u I env st r ru=>
 thn (h pins s σ H O v u I env st r ru) λ _ _ ⟨σ',H',I',O',G,S',w,q⟩=>⟨σ',H',I',O',G,S',k G S' w,q⟩
theorem ItW.mono{tg:Expr}{W W':List D->Store->Prop}(h:ItW X Γ S tg e W)(k:∀ds S',W ds S'->W' ds S'):ItW X Γ S tg e W':=λ pins s σ H O I env st=>
 thn (h pins s σ H O I env st) λ _ _ q=>thn q λ _ _ ⟨it,fp,tn,J,H',e1,e2,e3,e4,e5,O',ds,S',w,z⟩=>⟨it,fp,tn,J,H',e1,e2,e3,e4,e5,O',ds,S',k ds S' w,z⟩
theorem Rz{pins:Pins}{O:Own}{H:Hp}{W W':DL.Fin}(h1:∀G S,W.nx G S->W'.nx G S)(h2:∀d S,W.rt d S->W'.rt d S)(h3:∀G S,W.bk G S->W'.bk G S)(h4:∀G S,W.ct G S->W'.ct G S){f:Flow}{s':Shared}(q:SP X pins (ends X.K O H W) f s'):SP X pins (ends X.K O H W') f s':=by
 cases f with
 | next=>obtain⟨σ,H',I,O',G,S',w,q⟩:=q;exact⟨σ,H',I,O',G,S',h1 _ _ w,q⟩
 | brk=>obtain⟨σ,H',I,O',G,S',w,q⟩:=q;exact⟨σ,H',I,O',G,S',h3 _ _ w,q⟩
 | cont=>obtain⟨σ,H',I,O',G,S',w,q⟩:=q;exact⟨σ,H',I,O',G,S',h4 _ _ w,q⟩
 | ret u=>obtain⟨v,σ,H',I,r,O',d,S',w,q⟩:=q;exact⟨v,σ,H',I,r,O',d,S',h2 _ _ w,q⟩
theorem Rn.mono{st:Stmt}{W W':DL.Fin}(h:Rn X Γ S st W)(h1:∀G S,W.nx G S->W'.nx G S)(h2:∀d S,W.rt d S->W'.rt d S)(h3:∀G S,W.bk G S->W'.bk G S)(h4:∀G S,W.ct G S->W'.ct G S):Rn X Γ S st W':=λ pins s σ H O I env ok=>
 thn (h pins s σ H O I env ok) λ _ _ q=>Rz h1 h2 h3 h4 q
theorem Ji{a b c:Expr}{op op':CmpOp}{pos:Pos}{W:Bool->Store->Prop}(h:Ev X Γ S a λ x S1=>Ev X Γ S1 b λ y S2=>aZ X op x y S2 (asB λ k S3=>(k=false->W false S3)/\(k=true->Ev X Γ S3 c λ t S4=>aZ X op' y t S4 (asB W))))
 (hm:lastMarks [op,op'] [b,c]=false):Ts X Γ S (.Compare a [op,op'] [b,c] pos) W:=by
 intro pins s σ H O I env st
 refine isTrue_chain (rs:=[]) (thn (h pins s σ H O I env st) λ u s1 hq_=>?_) hm
 obtain⟨v,H1,I1,r1,O1,x,S1,hb,st1,ok1,rep1⟩:=hq_
 refine test_link (thn (hb pins s1 σ H1 O1 I1 (env.mono st1) ok1) λ u' s2 hq_=>?_)
 obtain⟨w,H2,I2,r2,O2,y,S2,hw,st2,ok2,rep2⟩:=hq_
 refine thn (hw pins s2 σ H2 O2 v w u u' I2 ok2 (rep1.mono st2) rep2 r1 r2) λ _ s3 hq_=>?_
 obtain⟨z,H3,I3,r3,O3,d3,S3,⟨k,hd,k1,k2⟩,st3,ok3,rep3⟩:=hq_
 subst hd
 cases rep3
 cases r3
 refine wpAny_truthy_bool ?_
 cases k with
 | false=>exact ite_ff ⟨H3,I3,O3,S3,k1 rfl,(st1.trans st2).trans st3,ok3⟩
 | true=>
   refine ite_tt (test_last (thn (k2 rfl pins s3 σ H3 O3 I3 (((env.mono st1).mono st2).mono st3) ok3) λ u4 s4 hq_=>?_))
   obtain⟨w4,H4,I4,r4,O4,t,S4,h4,st4,ok4,rep4⟩:=hq_
   refine thn (h4 pins s4 σ H4 O4 w w4 u' u4 I4 ok4 ((rep2.mono st3).mono st4) rep4 r2 r4) λ _ s5 hq_=>?_
   obtain⟨z5,H5,I5,r5,O5,d5,S5,⟨k,hd,w5⟩,st5,ok5,rep5⟩:=hq_
   subst hd
   cases rep5
   cases r5
   exact wpAny_truthy_bool ⟨H5,I5,O5,S5,w5,(((st1.trans st2).trans st3).trans st4).trans st5,ok5⟩
end
def bII(x y:D)(k:Int->Int->Prop):Prop:=match x with
 | .int i=>(match y with
   | .int j=>k i j
   | _=>False)
 | _=>False
theorem cV{x y:D}{k:Int->Int->Prop}(h:bII x y k):∃i j,x=.int i/\y=.int j/\k i j:=by
 cases x<;>first | exact h.elim | (cases y<;>first | exact h.elim | exact⟨_,_,rfl,rfl,h⟩)
def bTu(x:D)(k:List D->Prop):Prop:=match x with
 | .tup a=>k a
 | _=>False
theorem rM{x:D}{k:List D->Prop}(h:bTu x k):∃a,x=.tup a/\k a:=by cases x<;>first | exact h.elim | exact⟨_,rfl,h⟩
def bLs(x:D)(k:List D->Prop):Prop:=match x with
 | .lst a=>k a
 | _=>False
theorem Ef{x:D}{k:List D->Prop}(h:bLs x k):∃a,x=.lst a/\k a:=by cases x<;>first | exact h.elim | exact⟨_,rfl,h⟩
def bIn(x:D)(k:Int->Prop):Prop:=match x with
 | .int a=>k a
 | _=>False
theorem Ml{x:D}{k:Int->Prop}(h:bIn x k):∃a,x=.int a/\k a:=by cases x<;>first | exact h.elim | exact⟨_,rfl,h⟩
def JP(x:D)(a b c:Prop):Prop:=match x with
 | .int _=>a
 | .tup _=>b
 | _=>c
theorem zG{x:D}{a b c:Prop}(h:JP x a b c):a∨b∨c:=by cases x<;>first | exact .inl h | exact .inr (.inl h) | exact .inr (.inr h)
def Mh(op:Operator)(x y:D)(S:Store)(W:WD):Prop:=match op with
 | .Add=>JP x (bII x y λ i j=>W (.int (i+j)) S) (bTu x λ a=>bTu y λ b=>a.length+b.length≤1000000/\W (.tup (a++b)) S) (bLs x λ a=>bLs y λ b=>a.length+b.length≤1000000/\W (.lst (a++b)) S)
 | .Sub=>bII x y λ i j=>W (.int (i-j)) S
 | .Mult=>JP x (bII x y λ i j=>CMul i j/\W (.int (i*j)) S) (bTu x λ a=>bIn y λ n=>(-(2 ^ 63)≤n/\n<2 ^ 63)/\a.length*n.toNat≤1000000/\W (.tup (List.replicate n.toNat a).flatten) S) False
 | .Mod=>bII x y λ i j=>0<j/\W (.int (i % j)) S
 | .FloorDiv=>bII x y λ i j=>(0<j/\j<1073741824)/\W (.int (i/j)) S
 | .Pow=>bII x y λ i j=>CPow i j/\W (.int (i ^ j.toNat)) S
 | _=>False
theorem KD{X:Cx}{op:Operator}{x y:D}{S:Store}(h:Mh op x y S W):cL X op x y S W:=by
 cases op<;>first | exact(show False from h).elim | skip
 . rcases zG h with h | h | h
   . obtain⟨i,j,rfl,rfl,h⟩:=cV h;exact Tu h
   . obtain⟨a,rfl,h1⟩:=rM h;obtain⟨b,rfl,h2⟩:=rM h1;exact Qk h2.1 h2.2
   . obtain⟨a,rfl,h1⟩:=Ef h;obtain⟨b,rfl,h2⟩:=Ef h1;exact Rk h2.1 h2.2
 . obtain⟨i,j,rfl,rfl,h⟩:=cV h;exact Sy h
 . rcases zG h with h | h | h
   . obtain⟨i,j,rfl,rfl,h⟩:=cV h;exact R6 h.1 h.2
   . obtain⟨a,rfl,h1⟩:=rM h;obtain⟨b,rfl,h2⟩:=Ml h1;exact QJ h2.1 h2.2.1 h2.2.2
   . exact h.elim
 all_goals obtain⟨i,j,rfl,rfl,h⟩:=cV h
 all_goals first | exact S9 h.1 h.2 | exact Pz h.1 h.2 | exact Tr h.1 h.2
def JV(x y:D)(S:Store)(W:WD):Prop:=match x,y with
 | .tup ds,.int i=>∃d,atI ds i=some d/\W d S
 | .lst ds,.int i=>∃d,atI ds i=some d/\W d S
 | .loc k,.int i=>∃ds d,S[k]? =some ds/\atI ds i=some d/\W d S
 | _,_=>False
theorem Oo{X:Cx}{a b:Expr}{x y:D}{S:Store}(h:JV x y S W):IxW X a b x y S W:=by
 unfold JV at h
 split at h
 . obtain⟨d,h1,h2⟩:=h;exact Td h1 h2
 . obtain⟨d,h1,h2⟩:=h;exact T6 h1 h2
 . obtain⟨ds,d,h1,h2,h3⟩:=h;exact T4 h1 h2 h3
 . exact h.elim
def KN(x:D)(l h:Option Int)(S:Store)(W:WD):Prop:=match x with
 | .tup ds=>W (.tup (cutD ds l h)) S
 | .lst ds=>W (.lst (cutD ds l h)) S
 | .loc k=>∃ds,S[k]? =some ds/\W (.lst (cutD ds l h)) S
 | _=>False
theorem SN{X:Cx}{S:Store}{k:Nat}{ds:List D}{lo hi:Option Int}(hk:S[k]? =some ds)(w:W (.lst (cutD ds lo hi)) S):SlW X (.loc k) lo hi S W:=by
 intro pins s σ H O v u vl vu sl I st r1 r3 hs pl pu
 cases r1 with
 | @loc p _ h1=>
   obtain⟨xs,hx,q1⟩:=st.obj k p ds h1 hk
   exact Dt pins s σ H _ u vl vu lo hi sl _ I r3 hs pl pu ⟨p,xs,rfl,SqL.of hx,λ p' hp=>du w st hp (t7 q1 lo hi)⟩
theorem MF{X:Cx}{x:D}{l r:Option Int}{S:Store}(h:KN x l r S W):SlW X x l r S W:=by
 unfold KN at h
 split at h
 . exact Tj h
 . exact RX h
 . obtain⟨ds,h1,h2⟩:=h;exact SN h1 h2
 . exact h.elim
inductive Ty where
 | int | bool | tuple | list | str
 deriving DecidableEq
def Ty.id:Ty->String
 | .int=>"int" | .bool=>"bool" | .tuple=>"tuple" | .list=>"list" | .str=>"str"
def Ty.nm:Ty->Str
 | .int=>"int" | .bool=>"bool" | .tuple=>"tuple" | .list=>"list" | .str=>"str"
def isD:Ty->D->Bool
 | .int,.int _=>true | .int,.bl _=>true | .bool,.bl _=>true | .tuple,.tup _=>true | .list,.lst _=>true | .list,.loc _=>true | .str,.str _=>true | _,_=>false
theorem RC(T:Ty)(x:D):isi (tyD x) T.id=isD T x:=by cases T<;>cases x<;>rfl
theorem Ty.isT(T:Ty):DL.isT T.id=true:=by cases T<;>rfl
theorem Ty.boot(T:Ty):bootBuiltins T.nm=some (.type T.id):=by cases T<;>decide+kernel
theorem Ty.ok(T:Ty):(T.nm==("__debug__":Str))=false/\T.nm≠"__name__":=by cases T<;>decide+kernel
end RF
namespace RF
open PySem PySem.Spec L2 DL
open PyProof.Rows
variable {ds : List D} {S : Store} {x y : D} {W : Bool -> Store -> Prop}
mutual
def eqD:D->D->Bool
 | .non,.non=>true
 | .bl a,.bl b=>a==b
 | .int a,.int b=>a==b
 | .bl a,.int b=>(if a then 1 else 0)==b
 | .int a,.bl b=>a==(if b then 1 else 0)
 | .str a,.str b=>a==b
 | .tup a,.tup b=>dI a b
 | .lst a,.lst b=>dI a b
 | .dic,.dic=>true
 | _,_=>false
def dI:List D->List D->Bool
 | [],[]=>true
 | a::as,b::bs=>eqD a b&&dI as bs
 | _,_=>false
end
mutual
def okD:D->Bool
 | .tup ds=>bB ds
 | .lst ds=>bB ds
 | .loc _=>false
 | .dic=>false
 | .dlo _=>false
 | _=>true
def bB:List D->Bool
 | []=>true
 | d::ds=>okD d&&bB ds
end
mutual
inductive Sn(K:PySem.W.Frag)(H:Hp):V->D->Prop
 | non:Sn K H .non .non
 | bl(b:Bool):Sn K H (.bl b) (.bl b)
 | int(i:Int):Sn K H (.int i) (.int i)
 | str(x:Str):Sn K H (.str x) (.str x)
 | tup{a:Addr}{xs:List V}{ds:List D}(h:SqT K H a xs)(r:Sns K H xs ds):Sn K H (.ref a) (.tup ds)
 | lst{a:Addr}{xs:List V}{ds:List D}(h:SqL K H a xs)(r:Sns K H xs ds):Sn K H (.ref a) (.lst ds)
inductive Sns(K:PySem.W.Frag)(H:Hp):List V->List D->Prop
 | nil:Sns K H [] []
 | cons{v:V}{d:D}{vs:List V}{ds:List D}(r:Sn K H v d)(t:Sns K H vs ds):Sns K H (v::vs) (d::ds)
end
section
variable {K : PySem.W.Frag} {H : Hp} {O : Own}
theorem Sns.length:∀{vs:List V}{ds:List D},Sns K H vs ds->vs.length=ds.length
 | _,_,.nil=>rfl
 | _,_,.cons _ t=>by simp[Sns.length t]
theorem Sns.get:∀{vs:List V}{ds:List D}{i:Nat}{d:D},Sns K H vs ds->ds[i]? =some d->∃v,vs[i]? =some v/\Sn K H v d
 | _,_,_,_,.nil,e=>by simp at e
 | _,_,0,_,.cons r _,e=>by simp at e;subst e;exact⟨_,rfl,r⟩
 | _,_,i+1,d,.cons _ t,e=>by
   obtain⟨v,h1,h2⟩:=Sns.get (i:=i) (d:=d) t (by simpa using e)
   exact⟨v,by simpa using h1,h2⟩
mutual
theorem yg:∀{v:V}{d:D},okD d=true->Rep K O H v d->Sn K H v d
 | _,_,_,.non=>.non
 | _,_,_,.bl b=>.bl b
 | _,_,_,.int i=>.int i
 | _,_,_,.str x=>.str x
 | _,_,h,.tup h1 r=>.tup h1.sq (iU (by simpa[okD]using h) r)
 | _,_,h,.lst h1 r=>.lst h1.sq (iU (by simpa[okD]using h) r)
 | _,_,h,.loc _=>by simp[okD]at h
 | _,_,h,.dic _ _=>by simp[okD]at h
 | _,_,h,.dlo _ _=>by simp[okD]at h
theorem iU:∀{vs:List V}{ds:List D},bB ds=true->Reps K O H vs ds->Sns K H vs ds
 | _,_,_,.nil=>.nil
 | _,_,h,.cons r t=>by
   simp only[bB,Bool.and_eq_true]at h
   exact .cons (yg h.1 r) (iU h.2 t)
end
end
section
variable {X : Cx} {pins : Pins} {s : Shared} {σ : DL.St} {H : Hp}
mutual
theorem qp(I:Inv X pins σ H s):∀{v:V}{x y:D},Sn X.K H v x->Sn X.K H v y->x=y
 | _,_,_,.non,b=>by cases b;rfl
 | _,_,_,.bl _,b=>by cases b;rfl
 | _,_,_,.int _,b=>by cases b;rfl
 | _,_,_,.str _,b=>by cases b;rfl
 | _,_,_,.tup h r,b=>by
   cases b with
   | tup h' r'=>
     have e:=I.tuple_inj h h'
     subst e
     rw[ue I r r']
   | lst h' r'=>
     exfalso
     obtain⟨its,_,⟨o,h2,h3,_⟩,_⟩:=I.tuple h
     obtain⟨its2,_,pl,_⟩:=I.list h'
     obtain⟨o',h2',h3',_⟩:=pl.isList
     rw[h2]at h2'
     cases h2'
     rw[h3]at h3'
     exact absurd h3' (by decide)
 | _,_,_,.lst h r,b=>by
   cases b with
   | lst h' r'=>
     have e:=I.list_inj h h'
     subst e
     rw[ue I r r']
   | tup h' r'=>
     exfalso
     obtain⟨its,_,⟨o,h2,h3,_⟩,_⟩:=I.tuple h'
     obtain⟨its2,_,pl,_⟩:=I.list h
     obtain⟨o',h2',h3',_⟩:=pl.isList
     rw[h2]at h2'
     cases h2'
     rw[h3]at h3'
     exact absurd h3' (by decide)
theorem ue(I:Inv X pins σ H s):∀{vs:List V}{xs ys:List D},Sns X.K H vs xs->Sns X.K H vs ys->xs=ys
 | _,_,_,.nil,b=>by cases b;rfl
 | _,_,_,.cons r t,b=>by
   cases b with
   | cons r' t'=>rw[qp I r r',ue I t t']
end
end
mutual
theorem gn:∀(x:D),ak x=true->eqD x x=true
 | .non,_=>by simp[eqD]
 | .bl _,_=>by simp[eqD]
 | .int _,_=>by simp[eqD]
 | .str _,_=>by simp[eqD]
 | .tup ds,h=>by simp only[eqD];exact lF ds (by simpa[ak]using h)
 | .lst ds,h=>by simp only[eqD];exact lF ds (by simpa[ak]using h)
 | .loc _,h=>by simp[ak]at h
 | .dic,_=>by simp[eqD]
theorem lF:∀(xs:List D),aj xs=true->dI xs xs=true
 | [],_=>by simp[dI]
 | d::ds,h=>by
   simp only[aj,Bool.and_eq_true]at h
   simp only[dI,Bool.and_eq_true]
   exact⟨gn d h.1,lF ds h.2⟩
end
mutual
theorem Ks:∀(x:D),okD x=true->ak x=true
 | .non,_=>by simp[ak]
 | .bl _,_=>by simp[ak]
 | .int _,_=>by simp[ak]
 | .str _,_=>by simp[ak]
 | .tup ds,h=>by simp only[ak];exact lD ds (by simpa[okD]using h)
 | .lst ds,h=>by simp only[ak];exact lD ds (by simpa[okD]using h)
 | .loc _,h=>by simp[okD]at h
 | .dic,h=>by simp[okD]at h
 | .dlo _,h=>by simp[okD]at h
theorem lD:∀(xs:List D),bB xs=true->aj xs=true
 | [],_=>by simp[aj]
 | d::ds,h=>by
   simp only[bB,Bool.and_eq_true]at h
   simp only[aj,Bool.and_eq_true]
   exact⟨Ks d h.1,lD ds h.2⟩
end
abbrev eqJ(ds es:List D)(j:Nat):Bool:=eqD (ds.getD j .non) (es.getD j .non)
theorem Le(d e:D)(ds es:List D):(eqJ (d::ds) (e::es)) ∘ Nat.succ=eqJ ds es:=by
 funext j;simp[eqJ,List.getD]
theorem jt:∀(ds es:List D),((List.range (min ds.length es.length)).all (eqJ ds es)&&ds.length==es.length)=dI ds es
 | [],[]=>by simp[dI]
 | [],e::es=>by simp[dI]
 | d::ds,[]=>by simp[dI]
 | d::ds,e::es=>by
   have ih:=jt ds es
   have h1:min (d::ds).length (e::es).length=min ds.length es.length+1:=by simp only[List.length_cons];omega
   rw[h1,List.range_succ_eq_map,List.all_cons,List.all_map,Le]
   have h2:((d::ds).length==(e::es).length)=(ds.length==es.length):=by simp
   have h3:eqJ (d::ds) (e::es) 0=eqD d e:=by simp[eqJ,List.getD]
   rw[h2,h3,Bool.and_assoc,ih]
   simp only[dI]
theorem J6{es:List D}(h:ds.length=es.length):(List.range ds.length).all (eqJ ds es)=dI ds es:=by
 rw[←jt ds es,←h,Nat.min_self,beq_self_eq_true,Bool.and_true]
theorem Ny{es:List D}(h:ds.length≠es.length):dI ds es=false:=by
 rw[←jt ds es]
 have:(ds.length==es.length)=false:=by simpa using h
 rw[this,Bool.and_false]
section
variable {X : Cx}
theorem sE{n:Nat}(ih:∀(x y:D),deep x≤n->∀{pins:Pins}{s:Shared}{σ:DL.St}{H:Hp}{v w:V}{u u':Value}{A:Around},Inv X pins σ H s->Sn X.K H v x->Sn X.K H w y->RelV v u->RelV w u'->A.units+n<cLine->SeqAt.EqAt A s u u' (eqD x y))
 (x y:D)(hx:deep x≤n+1){pins:Pins}{s:Shared}{σ:DL.St}{H:Hp}{v w:V}{u u':Value}{A:Around}(I:Inv X pins σ H s)(r1:Sn X.K H v x)(r2:Sn X.K H w y)(ru:RelV v u)(ru':RelV w u')(hu:A.units+(n+1)<cLine):
 SeqAt.RcAt A s u u' (eqD x y)/\SeqAt.RcNeAt A s u u' (!eqD x y):=by
 have hu0:A.units<cLine:=by omega
 have part:∀{ds es:List D}{xs ys:List V}{its its2:List Value},aO ds≤n->Sns X.K H xs ds->Sns X.K H ys es->Vals xs its->Vals ys its2->∀j(h1:j<its.toArray.size)(h2:j<its2.toArray.size),SeqAt.EqAt A.in1 s its.toArray[j] its2.toArray[j] (eqJ ds es j):=by
  intro ds es xs ys its its2 hd q1 q2 v1 v2 j j1 j2
  have l1:its.length=ds.length:=by rw[←v1.length,q1.length]
  have l2:its2.length=es.length:=by rw[←v2.length,q2.length]
  have hj:j<ds.length:=by simpa[l1]using j1
  have hj2:j<es.length:=by simpa[l2]using j2
  obtain⟨z1,a1,b1⟩:=q1.get (y4 hj)
  obtain⟨z2,a2,b2⟩:=q2.get (y4 hj2)
  obtain⟨u1,c1,d1⟩:=v1.get a1
  obtain⟨u2,c2,d2⟩:=v2.get a2
  have e1:its.toArray[j]=u1:=by have:=(y3.mp c1).2;simpa using this
  have e2:its2.toArray[j]=u2:=by have:=(y3.mp c2).2;simpa using this
  rw[e1,e2]
  have e3:eqJ ds es j=eqD ds[j] es[j]:=by simp[eqJ,List.getD,hj,hj2]
  rw[e3]
  have hd':=cP (y4 hj)
  exact ih ds[j] es[j] (by omega) I b1 b2 d1 d2 (by show A.units+1+n<cLine;omega)
 cases r1 with
 | non=>
   cases ru
   cases r2 with
   | non=>cases ru';exact⟨SeqAt.RcAt.none_none,SeqAt.RcNeAt.none_none⟩
   | bl b=>cases ru';exact⟨SeqAt.RcAt.none_bool b,SeqAt.RcNeAt.none_bool b⟩
   | int i=>obtain⟨t',rfl⟩:=ru';exact⟨SeqAt.RcAt.none_int i t',SeqAt.RcNeAt.none_int i t'⟩
   | str i=>obtain⟨t',rfl⟩:=ru';exact⟨SeqAt.RcAt.none_str i t',SeqAt.RcNeAt.none_str i t'⟩
   | tup h2 q2=>
     cases ru';obtain⟨its2,v2,p2,_⟩:=I.tuple h2
     exact⟨SeqAt.RcAt.none_tuple (show s.heap.IsTuple _ its2.toArray from p2) hu0,SeqAt.RcNeAt.none_tuple (show s.heap.IsTuple _ its2.toArray from p2) hu0⟩
   | lst h2 q2=>
     cases ru';obtain⟨its2,v2,p2,_⟩:=I.list h2
     exact⟨SeqAt.RcAt.none_list p2.isList hu0,SeqAt.RcNeAt.none_list p2.isList hu0⟩
 | bl a=>
   cases ru
   cases r2 with
   | non=>cases ru';exact⟨SeqAt.RcAt.bool_none a,SeqAt.RcNeAt.bool_none a⟩
   | bl b=>cases ru';exact⟨SeqAt.RcAt.bool_bool a b,SeqAt.RcNeAt.bool_bool a b⟩
   | int i=>obtain⟨t',rfl⟩:=ru';exact⟨SeqAt.RcAt.bool_int a i t',SeqAt.RcNeAt.bool_int a i t'⟩
   | str i=>obtain⟨t',rfl⟩:=ru';exact⟨SeqAt.RcAt.bool_str a i t',SeqAt.RcNeAt.bool_str a i t'⟩
   | tup h2 q2=>
     cases ru';obtain⟨its2,v2,p2,_⟩:=I.tuple h2
     exact⟨SeqAt.RcAt.bool_tuple a (show s.heap.IsTuple _ its2.toArray from p2) hu0,SeqAt.RcNeAt.bool_tuple a (show s.heap.IsTuple _ its2.toArray from p2) hu0⟩
   | lst h2 q2=>
     cases ru';obtain⟨its2,v2,p2,_⟩:=I.list h2
     exact⟨SeqAt.RcAt.bool_list a p2.isList hu0,SeqAt.RcNeAt.bool_list a p2.isList hu0⟩
 | int a=>
   obtain⟨t,rfl⟩:=ru
   cases r2 with
   | non=>cases ru';exact⟨SeqAt.RcAt.int_none a t,SeqAt.RcNeAt.int_none a t⟩
   | bl b=>cases ru';exact⟨SeqAt.RcAt.int_bool a t b,SeqAt.RcNeAt.int_bool a t b⟩
   | int i=>obtain⟨t',rfl⟩:=ru';exact⟨SeqAt.RcAt.int_int a t i t',SeqAt.RcNeAt.int_int a t i t'⟩
   | str i=>obtain⟨t',rfl⟩:=ru';exact⟨SeqAt.RcAt.int_str a t i t',SeqAt.RcNeAt.int_str a t i t'⟩
   | tup h2 q2=>
     cases ru';obtain⟨its2,v2,p2,_⟩:=I.tuple h2
     exact⟨SeqAt.RcAt.int_tuple a t (show s.heap.IsTuple _ its2.toArray from p2) hu0,SeqAt.RcNeAt.int_tuple a t (show s.heap.IsTuple _ its2.toArray from p2) hu0⟩
   | lst h2 q2=>
     cases ru';obtain⟨its2,v2,p2,_⟩:=I.list h2
     exact⟨SeqAt.RcAt.int_list a t p2.isList hu0,SeqAt.RcNeAt.int_list a t p2.isList hu0⟩
 | str a=>
   obtain⟨t,rfl⟩:=ru
   cases r2 with
   | non=>cases ru';exact⟨SeqAt.RcAt.str_none a t,SeqAt.RcNeAt.str_none a t⟩
   | bl b=>cases ru';exact⟨SeqAt.RcAt.str_bool a t b,SeqAt.RcNeAt.str_bool a t b⟩
   | int i=>obtain⟨t',rfl⟩:=ru';exact⟨SeqAt.RcAt.str_int a t i t',SeqAt.RcNeAt.str_int a t i t'⟩
   | str i=>obtain⟨t',rfl⟩:=ru';exact⟨SeqAt.RcAt.str_str a t i t',SeqAt.RcNeAt.str_str a t i t'⟩
   | tup h2 q2=>
     cases ru';obtain⟨its2,v2,p2,_⟩:=I.tuple h2
     exact⟨SeqAt.RcAt.str_tuple a t (show s.heap.IsTuple _ its2.toArray from p2) hu0,SeqAt.RcNeAt.str_tuple a t (show s.heap.IsTuple _ its2.toArray from p2) hu0⟩
   | lst h2 q2=>
     cases ru';obtain⟨its2,v2,p2,_⟩:=I.list h2
     exact⟨SeqAt.RcAt.str_list a t p2.isList hu0,SeqAt.RcNeAt.str_list a t p2.isList hu0⟩
 | @tup a xs ds h1 q1=>
   cases ru
   obtain⟨its,v1,p1,_⟩:=I.tuple h1
   have p1:s.heap.IsTuple a its.toArray:=p1
   cases r2 with
   | non=>cases ru';exact⟨SeqAt.RcAt.tuple_none p1 hu0,SeqAt.RcNeAt.tuple_none p1 hu0⟩
   | bl b=>cases ru';exact⟨SeqAt.RcAt.tuple_bool b p1 hu0,SeqAt.RcNeAt.tuple_bool b p1 hu0⟩
   | int i=>obtain⟨t',rfl⟩:=ru';exact⟨SeqAt.RcAt.tuple_int i t' p1 hu0,SeqAt.RcNeAt.tuple_int i t' p1 hu0⟩
   | str i=>obtain⟨t',rfl⟩:=ru';exact⟨SeqAt.RcAt.tuple_str i t' p1 hu0,SeqAt.RcNeAt.tuple_str i t' p1 hu0⟩
   | @tup b ys es h2 q2=>
     cases ru'
     obtain⟨its2,v2,p2,_⟩:=I.tuple h2
     have p2:s.heap.IsTuple b its2.toArray:=p2
     have l1:its.toArray.size=ds.length:=by rw[x8,←v1.length,q1.length]
     have l2:its2.toArray.size=es.length:=by rw[x8,←v2.length,q2.length]
     have hd:aO ds≤n:=by simp[deep]at hx;exact hx
     have a1:=SeqAt.RcAt.tuples (e:=eqJ ds es) p1 p2 hu0 (part hd q1 q2 v1 v2)
     have a2:=SeqAt.RcNeAt.tuples (e:=eqJ ds es) p1 p2 hu0 (part hd q1 q2 v1 v2)
     rw[l1,l2,jt]at a1 a2
     simp only[eqD]
     exact⟨a1,a2⟩
   | lst h2 q2=>
     cases ru';obtain⟨its2,v2,p2,_⟩:=I.list h2
     exact⟨SeqAt.RcAt.tuple_list p1 p2.isList hu0,SeqAt.RcNeAt.tuple_list p1 p2.isList hu0⟩
 | @lst a xs ds h1 q1=>
   cases ru
   obtain⟨its,v1,p1,_⟩:=I.list h1
   have p1:=p1.isList
   cases r2 with
   | non=>cases ru';exact⟨SeqAt.RcAt.list_none p1 hu0,SeqAt.RcNeAt.list_none p1 hu0⟩
   | bl b=>cases ru';exact⟨SeqAt.RcAt.list_bool b p1 hu0,SeqAt.RcNeAt.list_bool b p1 hu0⟩
   | int i=>obtain⟨t',rfl⟩:=ru';exact⟨SeqAt.RcAt.list_int i t' p1 hu0,SeqAt.RcNeAt.list_int i t' p1 hu0⟩
   | str i=>obtain⟨t',rfl⟩:=ru';exact⟨SeqAt.RcAt.list_str i t' p1 hu0,SeqAt.RcNeAt.list_str i t' p1 hu0⟩
   | tup h2 q2=>
     cases ru';obtain⟨its2,v2,p2,_⟩:=I.tuple h2
     exact⟨SeqAt.RcAt.list_tuple p1 (show s.heap.IsTuple _ its2.toArray from p2) hu0,SeqAt.RcNeAt.list_tuple p1 (show s.heap.IsTuple _ its2.toArray from p2) hu0⟩
   | @lst b ys es h2 q2=>
     cases ru'
     obtain⟨its2,v2,p2,_⟩:=I.list h2
     have p2:=p2.isList
     have l1:its.toArray.size=ds.length:=by rw[x8,←v1.length,q1.length]
     have l2:its2.toArray.size=es.length:=by rw[x8,←v2.length,q2.length]
     have hd:aO ds≤n:=by simp[deep]at hx;exact hx
     simp only[eqD]
     by_cases hl:ds.length=es.length
     . have a1:=SeqAt.RcAt.lists (e:=eqJ ds es) p1 p2 (by rw[l1,l2,hl]) hu0 (part hd q1 q2 v1 v2)
       have a2:=SeqAt.RcNeAt.lists (e:=eqJ ds es) p1 p2 (by rw[l1,l2,hl]) hu0 (part hd q1 q2 v1 v2)
       rw[l1,J6 hl]at a1 a2
       exact⟨a1,a2⟩
     . have z:(its.toArray.size !=its2.toArray.size)=true:=by rw[l1,l2];simpa using hl
       rw[Ny hl]
       exact⟨SeqAt.RcAt.lists_lengths p1 p2 z hu0,SeqAt.RcNeAt.lists_lengths p1 p2 z hu0⟩
theorem yq:∀{K:PySem.W.Frag}{H:Hp}{v:V}{x:D},Sn K H v x->ak x=true:=by
 intro K H v x h
 refine Sn.rec (motive_1:=λ v x _=>ak x=true) (motive_2:=λ vs xs _=>aj xs=true) ?_ ?_ ?_ ?_ ?_ ?_ ?_ ?_ h
 . simp[ak]
 . intro b;simp[ak]
 . intro b;simp[ak]
 . intro b;simp[ak]
 . intro a xs ds h r ih;simpa[ak]using ih
 . intro a xs ds h r ih;simpa[ak]using ih
 . simp[aj]
 . intro v d vs ds r t ih1 ih2;simp[aj,ih1,ih2]
theorem K4 (n:Nat):∀(x y:D),deep x≤n->∀{pins:Pins}{s:Shared}{σ:DL.St}{H:Hp}{v w:V}{u u':Value}{A:Around},Inv X pins σ H s->Sn X.K H v x->Sn X.K H w y->RelV v u->RelV w u'->A.units+n<cLine->SeqAt.EqAt A s u u' (eqD x y):=by
 induction n with
 | zero=>
   intro x y hx pins s σ H v w u u' A I r1 r2 ru ru' hu
   cases r1 with
   | non=>
     cases ru
     cases r2 with
     | non=>cases ru';exact SeqAt.EqAt.same _
     | bl b=>cases ru';exact SeqAt.EqAt.none_bool b
     | int i=>obtain⟨t',rfl⟩:=ru';exact SeqAt.EqAt.none_int i t'
     | str i=>obtain⟨t',rfl⟩:=ru';exact SeqAt.EqAt.none_str i t'
     | tup h2 q2=>cases ru';obtain⟨its2,v2,p2,_⟩:=I.tuple h2;exact SeqAt.EqAt.none_tuple (show s.heap.IsTuple _ its2.toArray from p2) (by omega)
     | lst h2 q2=>cases ru';obtain⟨its2,v2,p2,_⟩:=I.list h2;exact SeqAt.EqAt.none_list p2.isList (by omega)
   | bl a=>
     cases ru
     cases r2 with
     | non=>cases ru';exact SeqAt.EqAt.bool_none a
     | bl b=>cases ru';exact SeqAt.EqAt.bool_bool a b
     | int i=>obtain⟨t',rfl⟩:=ru';exact SeqAt.EqAt.bool_int a i t'
     | str i=>obtain⟨t',rfl⟩:=ru';exact SeqAt.EqAt.bool_str a i t'
     | tup h2 q2=>cases ru';obtain⟨its2,v2,p2,_⟩:=I.tuple h2;exact SeqAt.EqAt.bool_tuple a (show s.heap.IsTuple _ its2.toArray from p2) (by omega)
     | lst h2 q2=>cases ru';obtain⟨its2,v2,p2,_⟩:=I.list h2;exact SeqAt.EqAt.bool_list a p2.isList (by omega)
   | int a=>
     obtain⟨t,rfl⟩:=ru
     cases r2 with
     | non=>cases ru';exact SeqAt.EqAt.int_none a t
     | bl b=>cases ru';exact SeqAt.EqAt.int_bool a t b
     | int i=>obtain⟨t',rfl⟩:=ru';exact SeqAt.EqAt.int_int a t i t'
     | str i=>obtain⟨t',rfl⟩:=ru';exact SeqAt.EqAt.int_str a t i t'
     | tup h2 q2=>cases ru';obtain⟨its2,v2,p2,_⟩:=I.tuple h2;exact SeqAt.EqAt.int_tuple a t (show s.heap.IsTuple _ its2.toArray from p2) (by omega)
     | lst h2 q2=>cases ru';obtain⟨its2,v2,p2,_⟩:=I.list h2;exact SeqAt.EqAt.int_list a t p2.isList (by omega)
   | str a=>
     obtain⟨t,rfl⟩:=ru
     cases r2 with
     | non=>cases ru';exact SeqAt.EqAt.str_none a t
     | bl b=>cases ru';exact SeqAt.EqAt.str_bool a t b
     | int i=>obtain⟨t',rfl⟩:=ru';exact SeqAt.EqAt.str_int a t i t'
     | str i=>obtain⟨t',rfl⟩:=ru';exact SeqAt.EqAt.str_str a t i t'
     | tup h2 q2=>cases ru';obtain⟨its2,v2,p2,_⟩:=I.tuple h2;exact SeqAt.EqAt.str_tuple a t (show s.heap.IsTuple _ its2.toArray from p2) (by omega)
     | lst h2 q2=>cases ru';obtain⟨its2,v2,p2,_⟩:=I.list h2;exact SeqAt.EqAt.str_list a t p2.isList (by omega)
   | tup _ _=>simp[deep]at hx
   | lst _ _=>simp[deep]at hx
 | succ n ih=>
   intro x y hx pins s σ H v w u u' A I r1 r2 ru ru' hu
   by_cases h0:deep x≤n
   . exact ih x y h0 I r1 r2 ru ru' (by omega)
   . have both:=sE ih x y hx I r1 r2 ru ru' hu
     cases r1 with
     | non=>simp[deep]at h0
     | bl b=>simp[deep]at h0
     | int b=>simp[deep]at h0
     | str b=>simp[deep]at h0
     | @tup a xs ds h1 q1=>
       cases ru
       obtain⟨its,v1,p1,_⟩:=I.tuple h1
       have p1:s.heap.IsTuple a its.toArray:=p1
       cases r2 with
       | non=>cases ru';exact SeqAt.EqAt.tuple_none p1 (by omega)
       | bl b=>cases ru';exact SeqAt.EqAt.tuple_bool b p1 (by omega)
       | int i=>obtain⟨t',rfl⟩:=ru';exact SeqAt.EqAt.tuple_int i t' p1 (by omega)
       | str i=>obtain⟨t',rfl⟩:=ru';exact SeqAt.EqAt.tuple_str i t' p1 (by omega)
       | @tup b ys es h2 q2=>
         cases ru'
         by_cases e:a=b
         . subst e
           have e2:=qp I (.tup h1 q1) (.tup h2 q2)
           rw[←e2,gn _ (yq (.tup h1 q1))]
           exact SeqAt.EqAt.same _
         . exact SeqAt.EqAt.of_refs e both.1
       | @lst b ys es h2 q2=>
         cases ru';obtain⟨its2,v2,p2,_⟩:=I.list h2;exact SeqAt.EqAt.tuple_list p1 p2.isList (by omega)
     | @lst a xs ds h1 q1=>
       cases ru
       obtain⟨its,v1,p1,_⟩:=I.list h1
       have p1:=p1.isList
       cases r2 with
       | non=>cases ru';exact SeqAt.EqAt.list_none p1 (by omega)
       | bl b=>cases ru';exact SeqAt.EqAt.list_bool b p1 (by omega)
       | int i=>obtain⟨t',rfl⟩:=ru';exact SeqAt.EqAt.list_int i t' p1 (by omega)
       | str i=>obtain⟨t',rfl⟩:=ru';exact SeqAt.EqAt.list_str i t' p1 (by omega)
       | tup h2 q2=>cases ru';obtain⟨its2,v2,p2,_⟩:=I.tuple h2;exact SeqAt.EqAt.list_tuple p1 (show s.heap.IsTuple _ its2.toArray from p2) (by omega)
       | @lst b ys es h2 q2=>
         cases ru'
         by_cases e:a=b
         . subst e
           have e2:=qp I (.lst h1 q1) (.lst h2 q2)
           rw[←e2,gn _ (yq (.lst h1 q1))]
           exact SeqAt.EqAt.same _
         . exact SeqAt.EqAt.of_refs e both.1
def vw(S:Store):D->D
 | .loc k=>match S[k]? with | some ds=>.lst ds | none=>.loc k
 | d=>d
def oV(S:Store)(x y:D):Prop:=okD (vw S x)=true/\okD (vw S y)=true/\deep (vw S x)≤50
theorem gZ{K:PySem.W.Frag}{O:Own}{H:Hp}{v:V}(st:StOk K O H S)(r:Rep K O H v x)(h:okD (vw S x)=true):Sn K H v (vw S x):=by
 cases r with
 | @loc a k hk=>
   simp only[vw]at h ⊢
   have hl:k<S.length:=by rw[←st.len];exact(y3.mp hk).1
   obtain⟨xs,hx,q⟩:=st.obj k a S[k] hk (y4 hl)
   rw[y4 hl]at h ⊢
   exact .lst (SqL.of hx) (iU (by simpa[okD]using h) q)
 | non=>exact .non
 | bl b=>exact .bl b
 | int i=>exact .int i
 | str i=>exact .str i
 | tup h1 q1=>exact yg h (.tup h1 q1)
 | lst h1 q1=>exact yg h (.lst h1 q1)
 | dic h1 e1=>simp[vw,okD]at h
 | dlo h1 _=>simp[vw,okD]at h
theorem Su(hu:X.A.units+60<cLine)(h:oV S x y)(w:W (eqD (vw S x) (vw S y)) S):aZ X .Eq x y S (asB W):=by
 intro pins s σ H O v w' u u' I st r1 r2 r3 r4
 obtain⟨h1,h2,h3⟩:=h
 have:=(sE (n:=50) (A:=X.A) (K4 50) (vw S x) (vw S y) (by omega) I (gZ st r1 h1) (gZ st r2 h2) r3 r4 (by omega)).1
 exact this _ _ _ _ ⟨.bl _,H,I,rfl,QG.here ⟨_,rfl,w⟩ st (.bl _)⟩
theorem Tz(hu:X.A.units+60<cLine)(h:oV S x y)(w:W (!eqD (vw S x) (vw S y)) S):aZ X .NotEq x y S (asB W):=by
 intro pins s σ H O v w' u u' I st r1 r2 r3 r4
 obtain⟨h1,h2,h3⟩:=h
 have:=(sE (n:=50) (A:=X.A) (K4 50) (vw S x) (vw S y) (by omega) I (gZ st r1 h1) (gZ st r2 h2) r3 r4 (by omega)).2
 exact this _ _ _ _ ⟨.bl _,H,I,rfl,QG.here ⟨_,rfl,w⟩ st (.bl _)⟩
theorem yU:∀{xs:List V}{its:List Value}{i:Nat}{v:V},Vals xs its->xs[i]? =some v->∃y,its[i]? =some y/\RelV v y
 | _,_,_,_,.nil,e=>by simp at e
 | _,_,0,_,.cons a _,e=>by simp at e;subst e;exact⟨_,rfl,a⟩
 | _,_,i+1,v,.cons _ t,e=>by
   obtain⟨y,h1,h2⟩:=yU (i:=i) (v:=v) t (by simpa using e)
   exact⟨y,by simpa using h1,h2⟩
theorem Dh{pins:Pins}{s:Shared}{σ:DL.St}{H:Hp}{v w':V}{u u':Value}(hu:X.A.units+60<cLine)(I:Inv X pins σ H s)(sx:Sn X.K H v x)(sy:Sn X.K H w' (.lst ds))(r3:RelV v u)(r4:RelV w' u')(h3:aO ds≤50):
 ∃(l:Addr) (its:List Value) (e:Value->Bool),u'=.ref l/\s.heap.IsList l its.toArray/\(∀y,y∈its.toArray->SeqAt.EqAt X.A.in1 s y u (e y))/\its.toArray.any e=ds.any λ d=>eqD d x:=by
 classical
 cases sy with
 | @lst a xs _ h1 q1=>
   cases r4
   obtain⟨its,rv,pl,hz⟩:=I.list h1
   let e:Value->Bool:=λ y=>decide (∃(v':V) (d:D),RelV v' y/\Sn X.K H v' d/\eqD d x=true)
   have ev:∀(y:Value)(v':V)(d:D),RelV v' y->Sn X.K H v' d->e y=eqD d x:=by
    intro y v' d hr hs
    cases hd:eqD d x with
    | true=>exact decide_eq_true ⟨v',d,hr,hs,hd⟩
    | false=>
      refine decide_eq_false ?_
      rintro⟨v2,d2,hr2,hs2,hd2⟩
      have ev':=hr2.inj hr
      subst ev'
      have:=qp I hs2 hs
      subst this
      rw[hd]at hd2;cases hd2
   refine⟨a,its,e,rfl,pl.isList,?_,?_⟩
   . intro y hy
     have hy':y∈its:=by simpa using hy
     obtain⟨i,hi⟩:=List.getElem?_of_mem hy'
     have hlt:i<xs.length:=by rw[rv.length];exact(y3.mp hi).1
     obtain⟨d,hd⟩:∃d,ds[i]? =some d:=⟨_,y4 (by rw[←q1.length];exact hlt)⟩
     obtain⟨v',hv',hs⟩:=q1.get hd
     obtain⟨y',hy2,hr⟩:=yU rv hv'
     rw[hi]at hy2;cases hy2
     rw[ev y v' d hr hs]
     exact K4 50 d x (Nat.le_trans (cP hd) h3) I hs sx hr r3 (by show X.A.units+1+50<cLine;omega)
   . have hlen:its.length=ds.length:=by rw[←rv.length,q1.length]
     have main:∀(xs:List V)(its:List Value)(ds:List D),Vals xs its->Sns X.K H xs ds->its.any e=ds.any λ d=>eqD d x:=by
      intro xs its ds rv q1
      induction rv generalizing ds with
      | nil=>cases q1;rfl
      | cons hr _ ih=>
        cases q1 with
        | cons hs ht=>rw[List.any_cons,List.any_cons,ev _ _ _ hr hs,ih _ ht]
     rw[List.any_toArray]
     exact main xs its ds rv q1
theorem SQ(hu:X.A.units+60<cLine)(hy:vw S y=.lst ds)(h1:okD (vw S x)=true)(h2:bB ds=true)(h3:aO ds≤50)(w:W (ds.any λ d=>eqD d (vw S x)) S):aZ X .In x y S (asB W):=by
 intro pins s σ H O v w' u u' I st r1 r2 r3 r4
 have sy:=gZ st r2 (by rw[hy];simpa[okD]using h2)
 rw[hy]at sy
 obtain⟨l,its,e,rfl,hl,he,ha⟩:=Dh hu I (gZ st r1 h1) sy r3 r4 h3
 refine SeqAt.in_listAt e hl he ?_
 rw[ha]
 exact⟨.bl _,H,I,rfl,QG.here ⟨_,rfl,w⟩ st (.bl _)⟩
theorem OD(hu:X.A.units+60<cLine)(hy:vw S y=.lst ds)(h1:okD (vw S x)=true)(h2:bB ds=true)(h3:aO ds≤50)(w:W (!(ds.any λ d=>eqD d (vw S x))) S):aZ X .NotIn x y S (asB W):=by
 intro pins s σ H O v w' u u' I st r1 r2 r3 r4
 have sy:=gZ st r2 (by rw[hy];simpa[okD]using h2)
 rw[hy]at sy
 obtain⟨l,its,e,rfl,hl,he,ha⟩:=Dh hu I (gZ st r1 h1) sy r3 r4 h3
 refine SeqAt.notIn_listAt e hl he ?_
 rw[ha]
 exact⟨.bl _,H,I,rfl,QG.here ⟨_,rfl,w⟩ st (.bl _)⟩
end
end RF
namespace RF
open PySem PySem.Spec L2 DL
open PyProof.Rows
variable {X : Cx}
def isN:D->Bool
 | .non=>true
 | _=>false
theorem QD{a b:Bool}{S:Store}{W:Bool->Store->Prop}(w:W (a==b) S):aZ X .Is (.bl a) (.bl b) S (asB W):=by
 intro pins s σ H O v w' u u' I st r1 r2 r3 r4
 cases r1;cases r2;cases r3;cases r4
 refine wpAny_is_plain rfl ?_
 have e:(Value.bool a==Value.bool b)=(a==b):=by cases a<;>cases b<;>rfl
 rw[e]
 exact⟨.bl _,H,I,rfl,QG.here ⟨_,rfl,w⟩ st (.bl _)⟩
theorem Jk{a b:Bool}{S:Store}{W:Bool->Store->Prop}(w:W (!(a==b)) S):aZ X .IsNot (.bl a) (.bl b) S (asB W):=by
 intro pins s σ H O v w' u u' I st r1 r2 r3 r4
 cases r1;cases r2;cases r3;cases r4
 refine wpAny_isNot_plain rfl ?_
 have e:(Value.bool a==Value.bool b)=(a==b):=by cases a<;>cases b<;>rfl
 rw[e]
 exact⟨.bl _,H,I,rfl,QG.here ⟨_,rfl,w⟩ st (.bl _)⟩
def bEq(x y:D)(ki:Int->Int->Prop)(kb:Bool->Bool->Prop)(g:Prop):Prop:=match x with
 | .int i=>(match y with
   | .int j=>ki i j
   | _=>g)
 | .bl i=>(match y with
   | .bl j=>kb i j
   | _=>g)
 | _=>g
theorem Dg{x y:D}{ki:Int->Int->Prop}{kb:Bool->Bool->Prop}{g:Prop}(h:bEq x y ki kb g):(∃i j,x=.int i/\y=.int j/\ki i j)∨(∃i j,x=.bl i/\y=.bl j/\kb i j)∨g:=by
 cases x<;>first | exact .inr (.inr h) | (cases y<;>first | exact .inr (.inr h) | exact .inl ⟨_,_,rfl,rfl,h⟩ | exact .inr (.inl ⟨_,_,rfl,rfl,h⟩))
def bIs(x y:D)(n:Prop)(kb:Bool->Bool->Prop):Prop:=match y with
 | .non=>n
 | .bl j=>(match x with
   | .bl i=>kb i j
   | _=>False)
 | _=>False
theorem Dv{x y:D}{n:Prop}{kb:Bool->Bool->Prop}(h:bIs x y n kb):(y=.non/\n)∨∃i j,x=.bl i/\y=.bl j/\kb i j:=by
 cases y<;>first | exact h.elim | exact .inl ⟨rfl,h⟩ | (cases x<;>first | exact h.elim | exact .inr ⟨_,_,rfl,rfl,h⟩)
@[irreducible] noncomputable def aR(op:CmpOp)(x y:D)(S:Store)(W:Bool->Store->Prop):Prop:=match op with
  | .Lt=>bII x y λ i j=>W (decide (i<j)) S
  | .LtE=>bII x y λ i j=>W (decide (i≤j)) S
  | .Gt=>bII x y λ i j=>W (decide (j<i)) S
  | .GtE=>bII x y λ i j=>W (decide (j≤i)) S
  | .Eq=>bEq x y (λ i j=>W (decide (i=j)) S) (λ i j=>W (i==j) S) (oV S x y/\W (eqD (vw S x) (vw S y)) S)
  | .NotEq=>bEq x y (λ i j=>W (!decide (i=j)) S) (λ i j=>W (!(i==j)) S) ((oV S x y/\W (!eqD (vw S x) (vw S y)) S)∨(x=y/\ak x=true/\deep x≤50/\W false S))
  | .Is=>bIs x y (W (isN x) S) λ i j=>W (i==j) S
  | .IsNot=>bIs x y (W (!isN x) S) λ i j=>W (!(i==j)) S
  | .In=>∃ds,vw S y=.lst ds/\okD (vw S x)=true/\bB ds=true/\aO ds≤50/\W (ds.any λ d=>eqD d (vw S x)) S
  | .NotIn=>∃ds,vw S y=.lst ds/\okD (vw S x)=true/\bB ds=true/\aO ds≤50/\W (!(ds.any λ d=>eqD d (vw S x))) S
theorem bL{op:CmpOp}{x y:D}{S:Store}{W:Bool->Store->Prop}{b:Bool}(h:∀V:WD,V (.bl b) S->aZ X op x y S V)(w:W b S):aZ X op x y S (asB W):=h (asB W) ⟨b,rfl,w⟩
theorem d9{op:CmpOp}{x y:D}{S:Store}{W:Bool->Store->Prop}(hu:X.A.units+60<cLine)(h:aR op x y S W):aZ X op x y S (asB W):=by
 unfold aR at h
 cases op with
 | Lt=>obtain⟨i,j,rfl,rfl,h⟩:=cV h;exact bL (λ _=>UT) h
 | LtE=>obtain⟨i,j,rfl,rfl,h⟩:=cV h;exact bL (λ _=>Uw) h
 | Gt=>obtain⟨i,j,rfl,rfl,h⟩:=cV h;exact bL (λ _=>UV) h
 | GtE=>obtain⟨i,j,rfl,rfl,h⟩:=cV h;exact bL (λ _=>Um) h
 | Eq=>
   rcases Dg h with⟨i,j,rfl,rfl,h⟩ | ⟨i,j,rfl,rfl,h⟩ | h
   . exact bL (λ _=>R9) h
   . exact bL (λ _=>R4) h
   . exact Su hu h.1 h.2
 | NotEq=>
   rcases Dg h with⟨i,j,rfl,rfl,h⟩ | ⟨i,j,rfl,rfl,h⟩ | h | ⟨rfl,h1,h2,h3⟩
   . exact bL (λ _=>TF) h
   . exact bL (λ _=>R3) h
   . exact Tz hu h.1 h.2
   . exact Ku hu h1 h2 ⟨false,rfl,h3⟩
 | Is=>
   rcases Dv h with⟨rfl,h⟩ | ⟨i,j,rfl,rfl,h⟩
   . exact bL (λ V w=>RZ w) h
   . exact QD h
 | IsNot=>
   rcases Dv h with⟨rfl,h⟩ | ⟨i,j,rfl,rfl,h⟩
   . refine bL (λ V w=>MP ?_) h
     cases x<;>exact w
   . exact Jk h
 | In=>obtain⟨ds,h1,h2,h3,h4,h5⟩:=h;exact SQ hu h1 h2 h3 h4 h5
 | NotIn=>obtain⟨ds,h1,h2,h3,h4,h5⟩:=h;exact OD hu h1 h2 h3 h4 h5
section
variable {i j : Int} {a b : Bool} {x y : D} {S : Store} {W : Bool -> Store -> Prop}
theorem cLt(w:W (decide (i<j)) S):aR .Lt (.int i) (.int j) S W:=by unfold aR;exact w
theorem cLe(w:W (decide (i≤j)) S):aR .LtE (.int i) (.int j) S W:=by unfold aR;exact w
theorem cGt(w:W (decide (j<i)) S):aR .Gt (.int i) (.int j) S W:=by unfold aR;exact w
theorem cEqI(w:W (decide (i=j)) S):aR .Eq (.int i) (.int j) S W:=by unfold aR;exact w
theorem cNeI(w:W (!decide (i=j)) S):aR .NotEq (.int i) (.int j) S W:=by unfold aR;exact w
theorem sV(h1:ak x=true)(h2:deep x≤50)(w:W false S):aR .NotEq x x S W:=by
 unfold aR
 cases x with
 | int i=>simpa[bEq]using w
 | bl i=>simpa[bEq]using w
 | _=>exact .inr ⟨rfl,h1,h2,w⟩
end
set_option genInjectivity false in
structure Ex(Ω:Wd) where
 lev:Nat
 chk:Bool->List Str->Nm->Expr->Bool
 wp:Gam->Store->WD->Prop
 sound:∀{X:Cx}{r:Nat}{top:Bool}{N:List Str}{nm:Nm}{e:Expr}{Γ:Gam}{S:Store}{W:WD},At Ω X r top N nm->lev≤r->chk top N nm e=true->wp Γ S W->Ev X Γ S e W
set_option genInjectivity false in
structure Te(Ω:Wd) where
 lev:Nat
 chk:Bool->List Str->Nm->Expr->Bool
 wp:Gam->Store->(Bool->Store->Prop)->Prop
 sound:∀{X:Cx}{r:Nat}{top:Bool}{N:List Str}{nm:Nm}{e:Expr}{Γ:Gam}{S:Store}{W:Bool->Store->Prop},At Ω X r top N nm->lev≤r->chk top N nm e=true->wp Γ S W->Ts X Γ S e W
set_option genInjectivity false in
structure Ar(Ω:Wd) where
 lev:Nat
 chk:Bool->List Str->Nm->List Expr->Bool
 wp:Gam->Store->(List D->Store->Prop)->Prop
 plain:∀{top:Bool}{N:List Str}{nm:Nm}{es:List Expr},chk top N nm es=true->es.all okE=true
 sound:∀{X:Cx}{r:Nat}{top:Bool}{N:List Str}{nm:Nm}{es:List Expr}{Γ:Gam}{S:Store}{W:List D->Store->Prop},At Ω X r top N nm->lev≤r->chk top N nm es=true->wp Γ S W->EvA X Γ S es W
set_option genInjectivity false in
structure Bo(Ω:Wd) where
 lev:Nat
 chk:Bool->List Str->Nm->List Expr->Bool
 wpA:Gam->Store->WD->Prop
 wpO:Gam->Store->WD->Prop
 ne:∀{top:Bool}{N:List Str}{nm:Nm}{es:List Expr},chk top N nm es=true->∃b rest,es=b::rest
 soundA:∀{X:Cx}{r:Nat}{top:Bool}{N:List Str}{nm:Nm}{es:List Expr}{Γ:Gam}{S:Store}{W:WD}{pos:Pos},At Ω X r top N nm->lev≤r->chk top N nm es=true->wpA Γ S W->Ev X Γ S (.BoolOp .And es pos) W
 soundO:∀{X:Cx}{r:Nat}{top:Bool}{N:List Str}{nm:Nm}{es:List Expr}{Γ:Gam}{S:Store}{W:WD}{pos:Pos},At Ω X r top N nm->lev≤r->chk top N nm es=true->wpO Γ S W->Ev X Γ S (.BoolOp .Or es pos) W
set_option genInjectivity false in
structure Bt(Ω:Wd) where
 lev:Nat
 chk:Bool->List Str->Nm->List Expr->Bool
 wpA:Gam->Store->(Bool->Store->Prop)->Prop
 wpO:Gam->Store->(Bool->Store->Prop)->Prop
 ne:∀{top:Bool}{N:List Str}{nm:Nm}{es:List Expr},chk top N nm es=true->∃b rest,es=b::rest
 soundA:∀{X:Cx}{r:Nat}{top:Bool}{N:List Str}{nm:Nm}{es:List Expr}{Γ:Gam}{S:Store}{W:Bool->Store->Prop}{pos:Pos},At Ω X r top N nm->lev≤r->chk top N nm es=true->wpA Γ S W->TsW X Γ S (.BoolOp .And es pos) W
 soundO:∀{X:Cx}{r:Nat}{top:Bool}{N:List Str}{nm:Nm}{es:List Expr}{Γ:Gam}{S:Store}{W:Bool->Store->Prop}{pos:Pos},At Ω X r top N nm->lev≤r->chk top N nm es=true->wpO Γ S W->TsW X Γ S (.BoolOp .Or es pos) W
theorem At.hu{Ω:Wd}{r:Nat}{top:Bool}{N:List Str}{nm:Nm}(A:At Ω X r top N nm):X.A.units+60<cLine:=by have:=A.room.un;omega
theorem lv2{a b r:Nat}(h:max a b≤r):a≤r/\b≤r:=by omega
variable {Ω : Wd}
def Ex.var(i:Nat):Ex Ω where
 lev:=0
 chk _ N nm e:=match e with | .Name x _=>(N[i]? ==some x)&&(vis nm x&&okN x) | _=>false
 wp Γ S W:=match Γ[i]? with | some (some d)=>W d S | _=>False
 sound:=by
  intro X r top N nm e Γ S W A _ hc hw
  cases e with
  | Name x pos=>
    obtain⟨h1,h2⟩:=aa hc
    obtain⟨h2,h3⟩:=aa h2
    obtain⟨d1,d2,_⟩:=bJ h3
    have h1:N[i]? =some x:=eq_of_beq h1
    cases hΓ:Γ[i]? with
    | none=>rw[hΓ]at hw;exact hw.elim
    | some o=>
      cases o with
      | none=>rw[hΓ]at hw;exact hw.elim
      | some d=>
        rw[hΓ]at hw
        exact Qz i hΓ hw (by rw[A.n];exact h1) (A.vis h2) d1 d2
  | _=>exact fE hc
def Ex.int(i:Int):Ex Ω where
 lev:=0
 chk _ _ _ e:=match e with | .Constant (.int j) _ _=>j==i | _=>false
 wp _ S W:=W (.int i) S
 sound:=by
  intro X r top N nm e Γ S W A _ hc hw
  cases e with
  | Constant c k pos=>
    cases c with
    | int j=>have e:j=i:=eq_of_beq hc;subst e;exact Ig hw
    | _=>exact fE hc
  | _=>exact fE hc
def Ex.bl(i:Bool):Ex Ω where
 lev:=0
 chk _ _ _ e:=match e with | .Constant (.bool j) _ _=>j==i | _=>false
 wp _ S W:=W (.bl i) S
 sound:=by
  intro X r top N nm e Γ S W A _ hc hw
  cases e with
  | Constant c k pos=>
    cases c with
    | bool j=>have e:j=i:=eq_of_beq hc;subst e;exact Tc hw
    | _=>exact fE hc
  | _=>exact fE hc
def Ex.non:Ex Ω where
 lev:=0
 chk _ _ _ e:=match e with | .Constant .none _ _=>true | _=>false
 wp _ S W:=W .non S
 sound:=by
  intro X r top N nm e Γ S W A _ hc hw
  cases e with
  | Constant c k pos=>
    cases c with
    | none=>exact Qd hw
    | _=>exact fE hc
  | _=>exact fE hc
def Ex.str(i:Str):Ex Ω where
 lev:=0
 chk _ _ _ e:=match e with | .Constant (.str j) _ _=>j==i | _=>false
 wp _ S W:=W (.str i) S
 sound:=by
  intro X r top N nm e Γ S W A _ hc hw
  cases e with
  | Constant c k pos=>
    cases c with
    | str j=>have e:j=i:=eq_of_beq hc;subst e;exact Hr hw
    | _=>exact fE hc
  | _=>exact fE hc
def Ex.gint{x:Str}{i:Int}(h:∃t,Ω.mg x=some (.int i t)):Ex Ω where
 lev:=0
 chk _ _ nm e:=match e with | .Name y _=>(y==x)&&(glb nm x&&okN x) | _=>false
 wp _ S W:=W (.int i) S
 sound:=by
  intro X r top N nm e Γ S W A _ hc hw
  cases e with
  | Name y pos=>
    obtain⟨h1,h2⟩:=aa hc
    obtain⟨h2,h3⟩:=aa h2
    have e:y=x:=eq_of_beq h1
    subst e
    obtain⟨t,h⟩:=h
    exact KC (by rw[A.g];exact h) hw (A.glb h2) (bJ h3).1
  | _=>exact fE hc
def Ex.bin(op:Operator)(a b:Ex Ω):Ex Ω where
 lev:=max a.lev b.lev
 chk top N nm e:=match e with | .BinOp l o r _=>(o==op)&&(a.chk top N nm l&&b.chk top N nm r) | _=>false
 wp Γ S W:=a.wp Γ S λ x S1=>b.wp Γ S1 λ y S2=>Mh op x y S2 W
 sound:=by
  intro X r top N nm e Γ S W A hl hc hw
  obtain⟨l1,l2⟩:=lv2 hl
  cases e with
  | BinOp l o r' pos=>
    obtain⟨h1,h2⟩:=aa hc
    obtain⟨h2,h3⟩:=aa h2
    have e:o=op:=eq_of_beq h1
    subst e
    exact yK ((a.sound A l1 h2 hw).mono λ x S1 q=>(b.sound A l2 h3 q).mono λ y S2 q=>KD q)
  | _=>exact fE hc
def Ex.cmp(op:CmpOp)(a b:Ex Ω):Ex Ω where
 lev:=max a.lev b.lev
 chk top N nm e:=match e with | .Compare l [o] [r] _=>(o==op)&&(okE r&&(a.chk top N nm l&&b.chk top N nm r)) | _=>false
 wp Γ S W:=a.wp Γ S λ x S1=>b.wp Γ S1 λ y S2=>aR op x y S2 λ c S3=>W (.bl c) S3
 sound:=by
  intro X r top N nm e Γ S W A hl hc hw
  obtain⟨l1,l2⟩:=lv2 hl
  cases e with
  | Compare l os rs pos=>
    match os,rs,hc with
    | [o],[r'],hc=>
      obtain⟨h1,h2⟩:=aa hc
      obtain⟨h0,h2⟩:=aa h2
      obtain⟨h2,h3⟩:=aa h2
      have e:o=op:=eq_of_beq h1
      subst e
      exact Py ((a.sound A l1 h2 hw).mono λ x S1 q=>(b.sound A l2 h3 q).mono λ y S2 q=>(d9 A.hu q).mono λ d S3 ⟨c,e,w⟩=>by subst e;exact w) (gD h0)
    | [],_,hc=>exact fE hc
    | [_],[],hc=>exact fE hc
    | [_],_::_::_,hc=>exact fE hc
    | _::_::_,_,hc=>exact fE hc
  | _=>exact fE hc
def Te.cmp(op:CmpOp)(a b:Ex Ω):Te Ω where
 lev:=max a.lev b.lev
 chk top N nm e:=match e with | .Compare l [o] [r] _=>(o==op)&&(okE r&&(a.chk top N nm l&&b.chk top N nm r)) | _=>false
 wp Γ S W:=a.wp Γ S λ x S1=>b.wp Γ S1 λ y S2=>aR op x y S2 W
 sound:=by
  intro X r top N nm e Γ S W A hl hc hw
  obtain⟨l1,l2⟩:=lv2 hl
  cases e with
  | Compare l os rs pos=>
    match os,rs,hc with
    | [o],[r'],hc=>
      obtain⟨h1,h2⟩:=aa hc
      obtain⟨h0,h2⟩:=aa h2
      obtain⟨h2,h3⟩:=aa h2
      have e:o=op:=eq_of_beq h1
      subst e
      exact Rc ((a.sound A l1 h2 hw).mono λ x S1 q=>(b.sound A l2 h3 q).mono λ y S2 q=>d9 A.hu q) (gD h0)
    | [],_,hc=>exact fE hc
    | [_],[],hc=>exact fE hc
    | [_],_::_::_,hc=>exact fE hc
    | _::_::_,_,hc=>exact fE hc
  | _=>exact fE hc
abbrev Lx(a:Ex Ω)(o1:CmpOp)(b:Ex Ω)(o2:CmpOp)(c:Ex Ω)(Γ:Gam)(S:Store)(W:Bool->Store->Prop):Prop:=
 a.wp Γ S λ x S1=>b.wp Γ S1 λ y S2=>aR o1 x y S2 λ k S3=>(k=false->W false S3)/\(k=true->c.wp Γ S3 λ t S4=>aR o2 y t S4 W)
def Ex.ch2(a:Ex Ω)(o1:CmpOp)(b:Ex Ω)(o2:CmpOp)(c:Ex Ω):Ex Ω where
 lev:=max (max a.lev b.lev) c.lev
 chk top N nm e:=match e with | .Compare l [p1,p2] [m,r] _=>(p1==o1)&&((p2==o2)&&(okE r&&(a.chk top N nm l&&(b.chk top N nm m&&c.chk top N nm r)))) | _=>false
 wp Γ S W:=Lx a o1 b o2 c Γ S λ k S1=>W (.bl k) S1
 sound:=by
  intro X r top N nm e Γ S W A hl hc hw
  obtain⟨l1,l3⟩:=lv2 hl
  obtain⟨l1,l2⟩:=lv2 l1
  cases e with
  | Compare l os rs pos=>
    match os,rs,hc with
    | [p1,p2],[m,r'],hc=>
      obtain⟨h1,h2⟩:=aa hc
      obtain⟨h2,h3⟩:=aa h2
      obtain⟨h0,h3⟩:=aa h3
      obtain⟨h3,h4⟩:=aa h3
      obtain⟨h4,h5⟩:=aa h4
      have e:p1=o1:=eq_of_beq h1
      subst e
      have e:p2=o2:=eq_of_beq h2
      subst e
      refine Ld ((a.sound A l1 h3 hw).mono λ x S1 q=>(b.sound A l2 h4 q).mono λ y S2 q=>(d9 A.hu q).mono λ d S3 ⟨k,e,w⟩=>⟨k,e,w.1,λ hk=>(c.sound A l3 h5 (w.2 hk)).mono λ t S4 q=>(d9 A.hu q).mono λ d S3 ⟨c,e,w⟩=>by subst e;exact w⟩) (gD h0)
    | [],_,hc=>exact fE hc
    | [_],_,hc=>exact fE hc
    | [_,_],[],hc=>exact fE hc
    | [_,_],[_],hc=>exact fE hc
    | [_,_],_::_::_::_,hc=>exact fE hc
    | _::_::_::_,_,hc=>exact fE hc
  | _=>exact fE hc
def Te.ch2(a:Ex Ω)(o1:CmpOp)(b:Ex Ω)(o2:CmpOp)(c:Ex Ω):Te Ω where
 lev:=max (max a.lev b.lev) c.lev
 chk top N nm e:=match e with | .Compare l [p1,p2] [m,r] _=>(p1==o1)&&((p2==o2)&&(okE r&&(a.chk top N nm l&&(b.chk top N nm m&&c.chk top N nm r)))) | _=>false
 wp Γ S W:=Lx a o1 b o2 c Γ S W
 sound:=by
  intro X r top N nm e Γ S W A hl hc hw
  obtain⟨l1,l3⟩:=lv2 hl
  obtain⟨l1,l2⟩:=lv2 l1
  cases e with
  | Compare l os rs pos=>
    match os,rs,hc with
    | [p1,p2],[m,r'],hc=>
      obtain⟨h1,h2⟩:=aa hc
      obtain⟨h2,h3⟩:=aa h2
      obtain⟨h0,h3⟩:=aa h3
      obtain⟨h3,h4⟩:=aa h3
      obtain⟨h4,h5⟩:=aa h4
      have e:p1=o1:=eq_of_beq h1
      subst e
      have e:p2=o2:=eq_of_beq h2
      subst e
      refine Ji ((a.sound A l1 h3 hw).mono λ x S1 q=>(b.sound A l2 h4 q).mono λ y S2 q=>(d9 A.hu q).mono λ d S3 ⟨k,e,w⟩=>⟨k,e,w.1,λ hk=>(c.sound A l3 h5 (w.2 hk)).mono λ t S4 q=>d9 A.hu q⟩) (gD h0)
    | [],_,hc=>exact fE hc
    | [_],_,hc=>exact fE hc
    | [_,_],[],hc=>exact fE hc
    | [_,_],[_],hc=>exact fE hc
    | [_,_],_::_::_::_,hc=>exact fE hc
    | _::_::_::_,_,hc=>exact fE hc
  | _=>exact fE hc
def Te.val(a:Ex Ω):Te Ω where
 lev:=a.lev
 chk top N nm e:=RW e&&a.chk top N nm e
 wp Γ S W:=a.wp Γ S λ d S1=>match d with | .bl c=>W c S1 | _=>False
 sound:=by
  intro X r top N nm e Γ S W A hl hc hw
  obtain⟨h1,h2⟩:=aa hc
  refine PL ((a.sound A hl h2 hw).mono λ d S1 q=>?_) (Q7 h1 _)
  cases d<;>first | exact⟨_,rfl,q⟩ | exact q.elim
def Te.not(t:Te Ω):Te Ω where
 lev:=t.lev
 chk top N nm e:=match e with | .UnaryOp .Not a _=>t.chk top N nm a | _=>false
 wp Γ S W:=t.wp Γ S λ c S1=>W (!c) S1
 sound:=by
  intro X r top N nm e Γ S W A hl hc hw
  cases e with
  | UnaryOp o a pos=>
    cases o with
    | Not=>exact RQ (t.sound A hl hc hw)
    | _=>exact fE hc
  | _=>exact fE hc
def Bt.one(t:Te Ω):Bt Ω where
 lev:=t.lev
 chk top N nm es:=match es with | [e]=>t.chk top N nm e | _=>false
 wpA Γ S W:=t.wp Γ S W
 wpO Γ S W:=t.wp Γ S W
 ne:=by
  intro top N nm es hc
  match es,hc with
  | [e],_=>exact⟨_,_,rfl⟩
  | [],hc=>exact fE hc
  | _::_::_,hc=>exact fE hc
 soundA:=by
  intro X r top N nm es Γ S W pos A hl hc hw
  match es,hc with
  | [e],hc=>exact tw_and1 (t.sound A hl hc hw)
  | [],hc=>exact fE hc
  | _::_::_,hc=>exact fE hc
 soundO:=by
  intro X r top N nm es Γ S W pos A hl hc hw
  match es,hc with
  | [e],hc=>exact tw_or1 (t.sound A hl hc hw)
  | [],hc=>exact fE hc
  | _::_::_,hc=>exact fE hc
def Bt.cons(t:Te Ω)(r:Bt Ω):Bt Ω where
 lev:=max t.lev r.lev
 chk top N nm es:=match es with | e::es=>t.chk top N nm e&&r.chk top N nm es | _=>false
 wpA Γ S W:=t.wp Γ S λ c S1=>(c=true->r.wpA Γ S1 W)/\(c=false->W false S1)
 wpO Γ S W:=t.wp Γ S λ c S1=>(c=true->W true S1)/\(c=false->r.wpO Γ S1 W)
 ne:=by
  intro top N nm es hc
  match es,hc with
  | _::_,_=>exact⟨_,_,rfl⟩
  | [],hc=>exact fE hc
 soundA:=by
  intro X r' top N nm es Γ S W pos A hl hc hw
  obtain⟨l1,l2⟩:=lv2 hl
  match es,hc with
  | e::es,hc=>
    obtain⟨h1,h2⟩:=aa hc
    obtain⟨b,rest,rfl⟩:=r.ne h2
    exact tw_and (Ts.mono (t.sound A l1 h1 hw) λ c S1 q=>⟨λ hk=>r.soundA A l2 h2 (q.1 hk),q.2⟩)
  | [],hc=>exact fE hc
 soundO:=by
  intro X r' top N nm es Γ S W pos A hl hc hw
  obtain⟨l1,l2⟩:=lv2 hl
  match es,hc with
  | e::es,hc=>
    obtain⟨h1,h2⟩:=aa hc
    obtain⟨b,rest,rfl⟩:=r.ne h2
    exact tw_or (Ts.mono (t.sound A l1 h1 hw) λ c S1 q=>⟨q.1,λ hk=>r.soundO A l2 h2 (q.2 hk)⟩)
  | [],hc=>exact fE hc
def Te.and(l:Bt Ω):Te Ω where
 lev:=l.lev
 chk top N nm e:=match e with | .BoolOp .And es _=>l.chk top N nm es | _=>false
 wp Γ S W:=l.wpA Γ S W
 sound:=by
  intro X r top N nm e Γ S W A hl hc hw
  cases e with
  | BoolOp o es pos=>
    cases o with
    | And=>exact(l.soundA A hl hc hw).ts
    | _=>exact fE hc
  | _=>exact fE hc
def Te.or(l:Bt Ω):Te Ω where
 lev:=l.lev
 chk top N nm e:=match e with | .BoolOp .Or es _=>l.chk top N nm es | _=>false
 wp Γ S W:=l.wpO Γ S W
 sound:=by
  intro X r top N nm e Γ S W A hl hc hw
  cases e with
  | BoolOp o es pos=>
    cases o with
    | Or=>exact(l.soundO A hl hc hw).ts
    | _=>exact fE hc
  | _=>exact fE hc
def Bo.one(t:Ex Ω):Bo Ω where
 lev:=t.lev
 chk top N nm es:=match es with | [e]=>t.chk top N nm e | _=>false
 wpA Γ S W:=t.wp Γ S W
 wpO Γ S W:=t.wp Γ S W
 ne:=by
  intro top N nm es hc
  match es,hc with
  | [e],_=>exact⟨_,_,rfl⟩
  | [],hc=>exact fE hc
  | _::_::_,hc=>exact fE hc
 soundA:=by
  intro X r top N nm es Γ S W pos A hl hc hw
  match es,hc with
  | [e],hc=>exact HN (t.sound A hl hc hw)
  | [],hc=>exact fE hc
  | _::_::_,hc=>exact fE hc
 soundO:=by
  intro X r top N nm es Γ S W pos A hl hc hw
  match es,hc with
  | [e],hc=>exact HN (t.sound A hl hc hw)
  | [],hc=>exact fE hc
  | _::_::_,hc=>exact fE hc
def Bo.cons(t:Ex Ω)(r:Bo Ω):Bo Ω where
 lev:=max t.lev r.lev
 chk top N nm es:=match es with | e::es=>t.chk top N nm e&&r.chk top N nm es | _=>false
 wpA Γ S W:=t.wp Γ S λ d S1=>match d with | .bl c=>(c=true->r.wpA Γ S1 W)/\(c=false->W (.bl false) S1) | _=>False
 wpO Γ S W:=t.wp Γ S λ d S1=>match d with | .bl c=>(c=true->W (.bl true) S1)/\(c=false->r.wpO Γ S1 W) | _=>False
 ne:=by
  intro top N nm es hc
  match es,hc with
  | _::_,_=>exact⟨_,_,rfl⟩
  | [],hc=>exact fE hc
 soundA:=by
  intro X r' top N nm es Γ S W pos A hl hc hw
  obtain⟨l1,l2⟩:=lv2 hl
  match es,hc with
  | e::es,hc=>
    obtain⟨h1,h2⟩:=aa hc
    obtain⟨b,rest,rfl⟩:=r.ne h2
    refine Pj ((t.sound A l1 h1 hw).mono λ d S1 q=>?_)
    cases d<;>first | exact⟨_,rfl,λ hk=>r.soundA A l2 h2 (q.1 hk),q.2⟩ | exact q.elim
  | [],hc=>exact fE hc
 soundO:=by
  intro X r' top N nm es Γ S W pos A hl hc hw
  obtain⟨l1,l2⟩:=lv2 hl
  match es,hc with
  | e::es,hc=>
    obtain⟨h1,h2⟩:=aa hc
    obtain⟨b,rest,rfl⟩:=r.ne h2
    refine Ua ((t.sound A l1 h1 hw).mono λ d S1 q=>?_)
    cases d<;>first | exact⟨_,rfl,q.1,λ hk=>r.soundO A l2 h2 (q.2 hk)⟩ | exact q.elim
  | [],hc=>exact fE hc
def Ex.and(l:Bo Ω):Ex Ω where
 lev:=l.lev
 chk top N nm e:=match e with | .BoolOp .And es _=>l.chk top N nm es | _=>false
 wp Γ S W:=l.wpA Γ S W
 sound:=by
  intro X r top N nm e Γ S W A hl hc hw
  cases e with
  | BoolOp o es pos=>
    cases o with
    | And=>exact l.soundA A hl hc hw
    | _=>exact fE hc
  | _=>exact fE hc
def Ex.not(a:Ex Ω):Ex Ω where
 lev:=a.lev
 chk top N nm e:=match e with | .UnaryOp .Not b _=>a.chk top N nm b | _=>false
 wp Γ S W:=a.wp Γ S λ d S1=>match d with | .bl c=>W (.bl (!c)) S1 | _=>False
 sound:=by
  intro X r top N nm e Γ S W A hl hc hw
  cases e with
  | UnaryOp o b pos=>
    cases o with
    | Not=>
      refine QH ((a.sound A hl hc hw).mono λ d S1 q=>?_)
      cases d<;>first | exact⟨_,rfl,q⟩ | exact q.elim
    | _=>exact fE hc
  | _=>exact fE hc
def Ex.neg(a:Ex Ω):Ex Ω where
 lev:=a.lev
 chk top N nm e:=match e with | .UnaryOp .USub b _=>a.chk top N nm b | _=>false
 wp Γ S W:=a.wp Γ S λ d S1=>match d with | .int c=>W (.int (-c)) S1 | _=>False
 sound:=by
  intro X r top N nm e Γ S W A hl hc hw
  cases e with
  | UnaryOp o b pos=>
    cases o with
    | USub=>
      refine Hd ((a.sound A hl hc hw).mono λ d S1 q=>?_)
      cases d<;>first | exact⟨_,rfl,q⟩ | exact q.elim
    | _=>exact fE hc
  | _=>exact fE hc
def Ex.ifE(c:Te Ω)(a b:Ex Ω):Ex Ω where
 lev:=max c.lev (max a.lev b.lev)
 chk top N nm e:=match e with | .IfExp t x y _=>c.chk top N nm t&&(a.chk top N nm x&&b.chk top N nm y) | _=>false
 wp Γ S W:=c.wp Γ S λ k S1=>(k=true->a.wp Γ S1 W)/\(k=false->b.wp Γ S1 W)
 sound:=by
  intro X r top N nm e Γ S W A hl hc hw
  obtain⟨l1,l2⟩:=lv2 hl
  obtain⟨l2,l3⟩:=lv2 l2
  cases e with
  | IfExp t x y pos=>
    obtain⟨h1,h2⟩:=aa hc
    obtain⟨h2,h3⟩:=aa h2
    exact JL (Ts.mono (c.sound A l1 h1 hw) λ k S1 q=>⟨λ hk=>a.sound A l2 h2 (q.1 hk),λ hk=>b.sound A l3 h3 (q.2 hk)⟩)
  | _=>exact fE hc
def Ar.nil:Ar Ω where
 lev:=0
 chk _ _ _ es:=match es with | []=>true | _=>false
 wp _ S W:=W [] S
 plain:=by
  intro top N nm es hc
  match es,hc with
  | [],_=>rfl
  | _::_,hc=>exact fE hc
 sound:=by
  intro X r top N nm es Γ S W A _ hc hw
  match es,hc with
  | [],_=>exact cH hw
  | _::_,hc=>exact fE hc
def Ar.cons(a:Ex Ω)(r:Ar Ω):Ar Ω where
 lev:=max a.lev r.lev
 chk top N nm es:=match es with | e::es=>okE e&&(a.chk top N nm e&&r.chk top N nm es) | _=>false
 wp Γ S W:=a.wp Γ S λ d S1=>r.wp Γ S1 λ ds S2=>W (d::ds) S2
 plain:=by
  intro top N nm es hc
  match es,hc with
  | e::es,hc=>
    obtain⟨h1,h2⟩:=aa hc
    obtain⟨h2,h3⟩:=aa h2
    rw[List.all_cons,h1,r.plain h3];rfl
  | [],hc=>exact fE hc
 sound:=by
  intro X r' top N nm es Γ S W A hl hc hw
  obtain⟨l1,l2⟩:=lv2 hl
  match es,hc with
  | e::es,hc=>
    obtain⟨h1,h2⟩:=aa hc
    obtain⟨h2,h3⟩:=aa h2
    exact bz ((a.sound A l1 h2 hw).mono λ d S1 q=>r.sound A l2 h3 q) (aA h1 _ _)
  | [],hc=>exact fE hc
def Ex.tup(as:Ar Ω):Ex Ω where
 lev:=as.lev
 chk top N nm e:=match e with | .Tuple es _ _=>as.chk top N nm es | _=>false
 wp Γ S W:=as.wp Γ S λ ds S1=>ds.length≤1000000/\W (.tup ds) S1
 sound:=by
  intro X r top N nm e Γ S W A hl hc hw
  cases e with
  | Tuple es k pos=>exact PB (as.sound A hl hc hw)
  | _=>exact fE hc
def Ex.lst(as:Ar Ω):Ex Ω where
 lev:=as.lev
 chk top N nm e:=match e with | .List es _=>as.chk top N nm es | _=>false
 wp Γ S W:=as.wp Γ S λ ds S1=>ds.length≤1000000/\W (.lst ds) S1
 sound:=by
  intro X r top N nm e Γ S W A hl hc hw
  cases e with
  | List es pos=>exact Pq (as.sound A hl hc hw)
  | _=>exact fE hc
def Ex.own(as:Ar Ω):Ex Ω where
 lev:=as.lev
 chk top N nm e:=match e with | .List es _=>as.chk top N nm es | _=>false
 wp Γ S W:=as.wp Γ S λ ds S1=>ds.length≤1000000/\W (.loc S1.length) (S1++[ds])
 sound:=by
  intro X r top N nm e Γ S W A hl hc hw
  cases e with
  | List es pos=>exact M9 (as.sound A hl hc hw)
  | _=>exact fE hc
def Ex.ix(a b:Ex Ω):Ex Ω where
 lev:=max a.lev b.lev
 chk top N nm e:=match e with | .Subscript l r _=>okE r&&(a.chk top N nm l&&b.chk top N nm r) | _=>false
 wp Γ S W:=a.wp Γ S λ x S1=>b.wp Γ S1 λ y S2=>JV x y S2 W
 sound:=by
  intro X r top N nm e Γ S W A hl hc hw
  obtain⟨l1,l2⟩:=lv2 hl
  cases e with
  | Subscript l r' pos=>
    obtain⟨h1,h2⟩:=aa hc
    obtain⟨h2,h3⟩:=aa h2
    exact Ti ((a.sound A l1 h2 hw).mono λ x S1 q=>(b.sound A l2 h3 q).mono λ y S2 q=>Oo q) (Ak h1)
  | _=>exact fE hc
set_option genInjectivity false in
structure Po(Ω:Wd) where
 lev:Nat
 chk:Bool->List Str->Nm->Option Expr->Bool
 wp:Gam->Store->(Option Int->Store->Prop)->Prop
 sound:∀{X:Cx}{r:Nat}{top:Bool}{N:List Str}{nm:Nm}{e:Option Expr}{Γ:Gam}{S:Store}{W:Option Int->Store->Prop},At Ω X r top N nm->lev≤r->chk top N nm e=true->wp Γ S W->PoD X Γ S e W
def Po.no:Po Ω where
 lev:=0
 chk _ _ _ e:=match e with | none=>true | _=>false
 wp _ S W:=W none S
 sound:=by
  intro X r top N nm e Γ S W A hl hc hw
  cases e with
  | none=>exact Uc hw
  | some e=>exact fE hc
def Po.so(a:Ex Ω):Po Ω where
 lev:=a.lev
 chk top N nm e:=match e with | some e=>a.chk top N nm e | _=>false
 wp Γ S W:=a.wp Γ S λ d S1=>match d with | .int i=>W (some i) S1 | _=>False
 sound:=by
  intro X r top N nm e Γ S W A hl hc hw
  cases e with
  | some e=>
    refine UW ((a.sound A hl hc hw).mono λ d S1 q=>?_)
    cases d<;>first | exact⟨_,rfl,q⟩ | exact q.elim
  | none=>exact fE hc
theorem PoD.mono{Γ:Gam}{S:Store}{e:Option Expr}{W W':Option Int->Store->Prop}(h:PoD X Γ S e W)(k:∀c S',W c S'->W' c S'):PoD X Γ S e W':=by
 cases e with
 | none=>exact k _ _ h
 | some e=>exact Ev.mono h λ d S1 ⟨i,e,w⟩=>⟨i,e,k _ _ w⟩
def Ex.sl(a:Ex Ω)(lo hi:Po Ω):Ex Ω where
 lev:=max a.lev (max lo.lev hi.lev)
 chk top N nm e:=match e with | .Subscript l (.Slice x y none _) _=>a.chk top N nm l&&(lo.chk top N nm x&&hi.chk top N nm y) | _=>false
 wp Γ S W:=a.wp Γ S λ x S1=>lo.wp Γ S1 λ l S2=>hi.wp Γ S2 λ h S3=>KN x l h S3 W
 sound:=by
  intro X r top N nm e Γ S W A hl hc hw
  obtain⟨l1,l2⟩:=lv2 hl
  obtain⟨l2,l3⟩:=lv2 l2
  cases e with
  | Subscript l sl pos=>
    cases sl with
    | Slice x y z p2=>
      cases z with
      | none=>
        obtain⟨h1,h2⟩:=aa hc
        obtain⟨h2,h3⟩:=aa h2
        exact JK ((a.sound A l1 h1 hw).mono λ x S1 q=>PoD.mono (lo.sound A l2 h2 q) λ l S2 q=>PoD.mono (hi.sound A l3 h3 q) λ h S3 q=>MF q)
      | some _=>exact fE hc
    | _=>exact fE hc
  | _=>exact fE hc
def Ex.call{x:Str}{k n:Nat}{F:Ct}(C:Callee Ω.P Ω.w Ω.K Ω.mg Ω.base x k n F)(as:Ar Ω):Ex Ω where
 lev:=max k as.lev
 chk top N nm e:=match e with | .Call (.Name y _) (a::es) [] _=>(y==x)&&(glb nm x&&(okN x&&as.chk top N nm (a::es))) | _=>false
 wp Γ S W:=as.wp Γ S λ ds S1=>ds.length=n/\F ds S1 W
 sound:=by
  intro X r top N nm e Γ S W A hl hc hw
  obtain⟨l1,l2⟩:=lv2 hl
  cases e with
  | Call f es ks pos=>
    cases f with
    | Name y p=>
      match es,ks,hc with
      | a::es,[],hc=>
        obtain⟨h1,h2⟩:=aa hc
        obtain⟨h2,h3⟩:=aa h2
        obtain⟨h3,h4⟩:=aa h3
        have e:y=x:=eq_of_beq h1
        subst e
        have pl:=as.plain h4
        rw[List.all_cons]at pl
        obtain⟨p1,p2⟩:=aa pl
        have C':Callee X.prog X.w X.K X.mg X.base y k n F:=by rw[A.p,A.w,A.k,A.g,A.b];exact C
        exact Oe C' (A.room.mono l1) (as.sound A l2 h4 hw) (A.glb h2) (bJ h3).1 (aA p1 _ _) (lw p2 _ _)
      | [],_,hc=>exact fE hc
      | _::_,_::_,hc=>exact fE hc
    | _=>exact fE hc
  | _=>exact fE hc
set_option genInjectivity false in
structure Bf where
 x:Str
 id:String
 boot:bootBuiltins x=some (.builtin id)
 wp:List D->Store->WD->Prop
 sound:∀{X:Cx}{ds:List D}{S:Store}{W:WD},X.calm=true->Room 0 X.A->wp ds S W->cz X (.builtin id) ds S W
def Ex.blt(b:Bf)(hm:Ω.mg b.x=none)(as:Ar Ω):Ex Ω where
 lev:=as.lev
 chk top N nm e:=match e with | .Call (.Name y _) (a::es) [] _=>(y==b.x)&&(glb nm b.x&&(okN b.x&&as.chk top N nm (a::es))) | _=>false
 wp Γ S W:=as.wp Γ S λ ds S1=>b.wp ds S1 W
 sound:=by
  intro X r top N nm e Γ S W A hl hc hw
  cases e with
  | Call f es ks pos=>
    cases f with
    | Name y p=>
      match es,ks,hc with
      | a::es,[],hc=>
        obtain⟨h1,h2⟩:=aa hc
        obtain⟨h2,h3⟩:=aa h2
        obtain⟨h3,h4⟩:=aa h3
        have e:y=b.x:=eq_of_beq h1
        subst e
        have pl:=as.plain h4
        rw[List.all_cons]at pl
        obtain⟨p1,p2⟩:=aa pl
        exact Kz (EvA.mono (as.sound A hl h4 hw) λ ds S1 q=>b.sound A.calm (A.room.mono (Nat.zero_le _)) q) (by rw[A.g];exact hm) b.boot (A.glb h2) (bJ h3).2.2 (bJ h3).1 (aA p1 _ _) (lw p2 _ _)
      | [],_,hc=>exact fE hc
      | _::_,_::_,hc=>exact fE hc
    | _=>exact fE hc
  | _=>exact fE hc
set_option genInjectivity false in
structure Bc where
 x:Str
 id:String
 boot:bootBuiltins x=some (.type id)
 wp:List D->Store->WD->Prop
 sound:∀{X:Cx}{ds:List D}{S:Store}{W:WD},X.calm=true->Room 0 X.A->wp ds S W->cz X (.type id) ds S W
def Ex.typ(b:Bc)(hm:Ω.mg b.x=none)(as:Ar Ω):Ex Ω where
 lev:=as.lev
 chk top N nm e:=match e with | .Call (.Name y _) (a::es) [] _=>(y==b.x)&&(glb nm b.x&&(okN b.x&&as.chk top N nm (a::es))) | _=>false
 wp Γ S W:=as.wp Γ S λ ds S1=>b.wp ds S1 W
 sound:=by
  intro X r top N nm e Γ S W A hl hc hw
  cases e with
  | Call f es ks pos=>
    cases f with
    | Name y p=>
      match es,ks,hc with
      | a::es,[],hc=>
        obtain⟨h1,h2⟩:=aa hc
        obtain⟨h2,h3⟩:=aa h2
        obtain⟨h3,h4⟩:=aa h3
        have e:y=b.x:=eq_of_beq h1
        subst e
        have pl:=as.plain h4
        rw[List.all_cons]at pl
        obtain⟨p1,p2⟩:=aa pl
        exact JT (EvA.mono (as.sound A hl h4 hw) λ ds S1 q=>b.sound A.calm (A.room.mono (Nat.zero_le _)) q) (by rw[A.g];exact hm) b.boot (A.glb h2) (bJ h3).2.2 (bJ h3).1 (aA p1 _ _) (lw p2 _ _)
      | [],_,hc=>exact fE hc
      | _::_,_::_,hc=>exact fE hc
    | _=>exact fE hc
  | _=>exact fE hc
def Ex.isi(hm:Ω.mg "isinstance"=none)(a:Ex Ω)(T:Ty)(hT:Ω.mg T.nm=none):Ex Ω where
 lev:=a.lev
 chk top N nm e:=match e with | .Call (.Name y _) [b,.Name t _] [] _=>(y==("isinstance":Str))&&(glb nm "isinstance"&&((t==T.nm)&&(glb nm T.nm&&(okE b&&a.chk top N nm b)))) | _=>false
 wp Γ S W:=a.wp Γ S λ d S1=>W (.bl (isD T d)) S1
 sound:=by
  intro X r top N nm e Γ S W A hl hc hw
  split at hc
  . rename_i y p b t q pos
    obtain⟨h1,g2⟩:=aa hc
    obtain⟨h2,g3⟩:=aa g2
    obtain⟨h3,g4⟩:=aa g3
    obtain⟨h4,g5⟩:=aa g4
    obtain⟨h5,h6⟩:=aa g5
    have e:y="isinstance":=eq_of_beq h1
    subst e
    have e:t=T.nm:=eq_of_beq h3
    subst e
    exact Qs (Tn:=T.id) ((a.sound A hl h6 hw).mono λ d S1 q=>by rw[RC];exact q) T.isT T.boot (by rw[A.g];exact hm) (by rw[A.g];exact hT) (A.glb h2) (A.glb h4) T.ok.2 T.ok.1 (aA h5 _ _) (aA (e:=.Name T.nm q) rfl [] _)
  . exact fE hc
end RF
namespace RF
open PySem PySem.Spec L2 DL
open PyProof.Rows
variable {Γ : Gam}
inductive Tg where
 | nm(i:Nat) | tup(is:List Nat)
def setAll:Gam->List Nat->List D->Gam
 | Γ,i::is,d::ds=>setAll (Γ.set i (some d)) is ds
 | Γ,_,_=>Γ
def Tg.wp:Tg->D->Gam->(Gam->Prop)->Prop
 | .nm i,d,Γ,W=>W (Γ.set i (some d))
 | .tup is,.tup ds,Γ,W=>ds.length=is.length/\W (setAll Γ is ds)
 | .tup _,_,_,_=>False
def Tg.slots:Tg->List Nat
 | .nm i=>[i]
 | .tup is=>is
def xn(top:Bool)(N:List Str)(nm:Nm)(i:Nat)(e:Expr):Bool:=match e with | .Name x _=>(N[i]? ==some x)&&lcl top nm x | _=>false
def eO(top:Bool)(N:List Str)(nm:Nm):List Nat->List Expr->Bool
 | [],[]=>true
 | i::is,e::es=>xn top N nm i e&&eO top N nm is es
 | _,_=>false
def Tg.chk(t:Tg)(top:Bool)(N:List Str)(nm:Nm)(e:Expr):Bool:=match t with
 | .nm i=>xn top N nm i e
 | .tup is=>match e with | .Tuple es _ _=>eO top N nm is es | _=>false
section
variable {Ω : Wd} {X : Cx} {r : Nat} {top : Bool} {N : List Str} {nm : Nm}
theorem Iw(A:At Ω X r top N nm){i:Nat}{e:Expr}{d:D}{Γ:Gam}{S:Store}{W:Gam->Store->Prop}(hc:xn top N nm i e=true)(hw:W (Γ.set i (some d)) S):BdW X e d Γ S W:=by
 cases e with
 | Name x pos=>
   obtain⟨h1,h2⟩:=aa hc
   have h1:N[i]? =some x:=eq_of_beq h1
   obtain⟨l1,l2⟩:=A.lcl h2
   exact N5 i hw (by rw[A.n];exact A.nd) (by rw[A.n];exact h1) l1 l2
 | _=>exact fE hc
theorem xG{i:Nat}{is:List Nat}{es:List Expr}(h:eO top N nm (i::is) es=true):∃x p es',es=.Name x p::es'/\xn top N nm i (.Name x p)=true/\eO top N nm is es'=true:=by
 cases es with
 | nil=>exact(y7 h).elim
 | cons e es=>
   obtain⟨h1,h2⟩:=aa h
   cases e with
   | Name x p=>exact⟨x,p,es,rfl,h1,h2⟩
   | _=>exact(y7 h1).elim
theorem El{es:List Expr}(h:eO top N nm [] es=true):es=[]:=by
 cases es with
 | nil=>rfl
 | cons e es=>exact(y7 h).elim
theorem GX(A:At Ω X r top N nm){S:Store}{W:Gam->Store->Prop}:∀{is:List Nat}{es:List Expr}{ds:List D}{Γ:Gam},eO top N nm is es=true->ds.length=is.length->W (setAll Γ is ds) S->Aa X es ds Γ S W
 | [],es,ds,Γ,hc,hl,hw=>by
   have e:=El hc
   subst e
   have e:ds=[]:=by simpa using hl
   subst e
   exact Mx hw
 | i::is,es,ds,Γ,hc,hl,hw=>by
   obtain⟨x,p,es',rfl,h1,h2⟩:=xG hc
   cases ds with
   | nil=>simp at hl
   | cons d ds=>exact Ke (Iw A h1 (GX A h2 (by simpa using hl) hw)) rfl
theorem De:∀{is:List Nat}{es:List Expr},eO top N nm is es=true->∀env:Env,(assignEach es env).length=is.length/\(assignEach es env).findIdx? (·.1)=none
 | [],es,hc,env=>by
   have e:=El hc
   subst e
   exact⟨rfl,rfl⟩
 | i::is,es,hc,env=>by
   obtain⟨x,p,es',rfl,h1,h2⟩:=xG hc
   obtain⟨a,b⟩:=De h2 env
   have e:assignEach (.Name x p::es') env=(false,assign (.Name x p) env)::assignEach es' env:=rfl
   rw[e]
   refine⟨by simp[a],?_⟩
   rw[List.findIdx?_cons,b]
   rfl
theorem Tg.sound(A:At Ω X r top N nm){t:Tg}{e:Expr}{d:D}{Γ:Gam}{S:Store}{W:Gam->Store->Prop}(hc:t.chk top N nm e=true)(hw:t.wp d Γ λ Γ'=>W Γ' S):BdW X e d Γ S W:=by
 cases t with
 | nm i=>exact Iw A hc hw
 | tup is=>
   cases e with
   | Tuple es k pos=>
     have hc:eO top N nm is es=true:=hc
     cases d with
     | tup ds=>
       obtain⟨hl,hw⟩:ds.length=is.length/\W (setAll Γ is ds) S:=hw
       obtain⟨a,b⟩:=De hc X.env
       exact RM (GX A hc hl hw) A.calm (a.trans hl.symm) b
     | _=>exact hw.elim
   | _=>exact fE hc
end
theorem Sub.setAll{Γ:Gam}:∀{is:List Nat}{ds:List D}{Γ':Gam},Sub Γ Γ'->(∀i∈is,Γ[i]? =some none)->Sub Γ (RF.setAll Γ' is ds)
 | [],ds,Γ',h,_=>by cases ds<;>exact h
 | i::is,[],Γ',h,_=>h
 | i::is,d::ds,Γ',h,hi=>show Sub Γ (RF.setAll (Γ'.set i (some d)) is ds)from Sub.setAll (Γ':=Γ'.set i (some d)) (h.set i (some d) (hi i x9)) λ j hj=>hi j (x6 _ hj)
theorem HQ{cap:List (Option Nat)}{i:Nat}(h:cap[i]? =some none):(capt cap Γ)[i]? =some none:=by
 unfold capt
 rw[y9,h];rfl
set_option genInjectivity false in
structure Itb(Ω:Wd) where
 lev:Nat
 chk:Bool->List Str->Nm->Expr->Expr->Bool
 wp:Gam->Store->(List D->Store->Prop)->Prop
 sound:∀{X:Cx}{r:Nat}{top:Bool}{N:List Str}{nm:Nm}{tg e:Expr}{Γ:Gam}{S:Store}{W:List D->Store->Prop},At Ω X r top N nm->lev≤r->chk top N nm tg e=true->wp Γ S W->ItW X Γ S tg e W
theorem Q6{X:Cx}{S:Store}{tg e:Expr}{W:List D->Store->Prop}(h:Ev X Γ S e λ d S1=>match d with | .lst ds=>W ds S1 | .tup ds=>W ds S1 | _=>False):ItW X Γ S tg e W:=by
 intro pins s σ H O I env st
 refine thn (h pins s σ H O I env st) λ u s1 hq_=>?_
 obtain⟨v,H1,I1,r1,O1,d,S1,w,st1,ok1,rep⟩:=hq_
 cases rep with
 | @lst a xs ds h1 q1=>
   cases r1
   obtain⟨its,rv,p,hz⟩:=I1.list h1.sq
   refine wpAny_pyIter_list p.isList ?_
   refine⟨s1.heap.objs.size,[s1.heap.objs.size],_,_,H1,rfl,I1.kept (t':=s1.toks) λ b o e=>Heap.get?_push_of_some _ e,lQ a _,⟨_,Heap.get?_push_size _ rfl,rfl,rfl⟩,λ b hb=>?_,O1,ds,S1,w,st1,ok1,nD h1 q1⟩
   have e:b=s1.heap.objs.size:=by simpa using hb
   subst e
   exact I1.fpOk (x5 _) (I1.hok.fresh (x5 _))
 | @tup a xs ds h1 q1=>
   cases r1
   obtain⟨its,rv,p,hz⟩:=I1.tuple h1.sq
   refine wpAny_pyIter_tuple (show s1.heap.IsTuple a its.toArray from p) ?_
   refine⟨s1.heap.objs.size,[s1.heap.objs.size],_,_,H1,rfl,I1.kept (t':=s1.toks) λ b o e=>Heap.get?_push_of_some _ e,qz a _,⟨_,Heap.get?_push_size _ rfl,rfl,rfl⟩,λ b hb=>?_,O1,ds,S1,w,st1,ok1,pX h1 q1⟩
   have e:b=s1.heap.objs.size:=by simpa using hb
   subst e
   exact I1.fpOk (x5 _) (I1.hok.fresh (x5 _))
 | _=>exact w.elim
variable {Ω : Wd}
def Itb.seq(a:Ex Ω):Itb Ω where
 lev:=a.lev
 chk top N nm _ e:=a.chk top N nm e
 wp Γ S W:=a.wp Γ S λ d S1=>match d with | .lst ds=>W ds S1 | .tup ds=>W ds S1 | _=>False
 sound:=by
  intro X r top N nm tg e Γ S W A hl hc hw
  exact Q6 (a.sound A hl hc hw)
def Itb.rng1(hm:Ω.mg "range"=none)(a:Ex Ω):Itb Ω where
 lev:=a.lev
 chk top N nm _ e:=match e with | .Call (.Name y _) [b] [] _=>(y==("range":Str))&&(glb nm "range"&&(okE b&&a.chk top N nm b)) | _=>false
 wp Γ S W:=a.wp Γ S λ d S1=>match d with | .int j=>(-(2 ^ 62)≤j/\j<2 ^ 62)/\W (upTo 0 j.toNat) S1 | _=>False
 sound:=by
  intro X r top N nm tg e Γ S W A hl hc hw
  split at hc
  . rename_i y p b pos
    obtain⟨h1,g2⟩:=aa hc
    obtain⟨h2,g3⟩:=aa g2
    obtain⟨h3,h4⟩:=aa g3
    have e:y="range":=eq_of_beq h1
    subst e
    refine Hs ((a.sound A hl h4 hw).mono λ d S1 q=>?_) (by rw[A.g];exact hm) (A.glb h2) (aA h3 [] _)
    cases d<;>first | exact⟨_,rfl,q.1.1,q.1.2,q.2⟩ | exact q.elim
  . exact fE hc
def Itb.rng2(hm:Ω.mg "range"=none)(a b:Ex Ω):Itb Ω where
 lev:=max a.lev b.lev
 chk top N nm _ e:=match e with | .Call (.Name y _) [l,r] [] _=>(y==("range":Str))&&(glb nm "range"&&((okE l&&okE r)&&(a.chk top N nm l&&b.chk top N nm r))) | _=>false
 wp Γ S W:=a.wp Γ S λ d S1=>b.wp Γ S1 λ d' S2=>match d,d' with | .int i,.int j=>(-(2 ^ 62)≤i/\i<2 ^ 62/\ -(2 ^ 62)≤j/\j<2 ^ 62)/\W (upTo i (j-i).toNat) S2 | _,_=>False
 sound:=by
  intro X r top N nm tg e Γ S W A hl hc hw
  obtain⟨l1,l2⟩:=lv2 hl
  split at hc
  . rename_i y p l r' pos
    obtain⟨h1,g2⟩:=aa hc
    obtain⟨h2,g3⟩:=aa g2
    obtain⟨h3,h4⟩:=aa g3
    obtain⟨h5,h6⟩:=aa h3
    obtain⟨h7,h8⟩:=aa h4
    have e:y="range":=eq_of_beq h1
    subst e
    refine Jg ((a.sound A l1 h7 hw).mono λ d S1 q=>(b.sound A l2 h8 q).mono λ d' S2 q=>?_) (by rw[A.g];exact hm) (A.glb h2) (by rw[aA h5,aA h6];rfl) (aA h6 [] _)
    cases d<;>first | exact q.elim | (cases d'<;>first | exact⟨_,_,rfl,rfl,q.1,q.2⟩ | exact q.elim)
  . exact fE hc
set_option genInjectivity false in
structure Cd(Ω:Wd) where
 lev:Nat
 chk:Bool->List Str->Nm->List Expr->Bool
 wp:Gam->Store->(Bool->Store->Prop)->Prop
 sound:∀{X:Cx}{r:Nat}{top:Bool}{N:List Str}{nm:Nm}{es:List Expr}{Γ:Gam}{S:Store}{W:Bool->Store->Prop},At Ω X r top N nm->lev≤r->chk top N nm es=true->wp Γ S W->TsA X Γ S es W
def Cd.no:Cd Ω where
 lev:=0
 chk _ _ _ es:=match es with | []=>true | _=>false
 wp _ S W:=W true S
 sound:=by
  intro X r top N nm es Γ S W A hl hc hw
  match es,hc with
  | [],_=>exact hw
  | _::_,hc=>exact fE hc
def Cd.so(t:Te Ω):Cd Ω where
 lev:=t.lev
 chk top N nm es:=match es with | [e]=>t.chk top N nm e | _=>false
 wp Γ S W:=t.wp Γ S W
 sound:=by
  intro X r top N nm es Γ S W A hl hc hw
  match es,hc with
  | [e],hc=>exact Ub (t.sound A hl hc hw)
  | [],hc=>exact fE hc
  | _::_::_,hc=>exact fE hc
@[irreducible] noncomputable def mz(cap:List (Option Nat))(Γ:Gam)(elt:Ex Ω)(tg:Tg)(cd:Cd Ω)(W:WD)(ds:List D)(C0:Store->Prop)(S1:Store):Prop:=
  ds.length≤1000000/\∃Pv:Nat->List D->Store->Prop,Pv 0 [] S1/\(∀i acc S',Pv i acc S'->C0 S')/\
   (∀i d acc S',ds[i]? =some d->Pv i acc S'->tg.wp d (capt cap Γ) λ Γ2=>cd.wp Γ2 S' λ ok S3=>(ok=true->elt.wp Γ2 S3 λ y S4=>Pv (i+1) (acc++[y]) S4)/\(ok=false->Pv (i+1) acc S3))/\
   ∀acc S',Pv ds.length acc S'->W (.lst acc) S'∨W (.loc S'.length) (S'++[acc])
abbrev mG(cap:List (Option Nat))(Γ:Gam)(elt:Ex Ω)(tg:Tg)(cd:Cd Ω)(W:WD)(ds:List D)(S1:Store):Prop:=mz cap Γ elt tg cd W ds (λ _=>True) S1
theorem nR{cap:List (Option Nat)}{elt:Ex Ω}{tg:Tg}{cd:Cd Ω}{W:WD}{ds:List D}{C0:Store->Prop}{S1:Store}(h:ds.length≤1000000/\∃Pv:Nat->List D->Store->Prop,Pv 0 [] S1/\(∀i acc S',Pv i acc S'->C0 S')/\
 (∀i d acc S',ds[i]? =some d->Pv i acc S'->tg.wp d (capt cap Γ) λ Γ2=>cd.wp Γ2 S' λ ok S3=>(ok=true->elt.wp Γ2 S3 λ y S4=>Pv (i+1) (acc++[y]) S4)/\(ok=false->Pv (i+1) acc S3))/\
 ∀acc S',Pv ds.length acc S'->W (.lst acc) S'∨W (.loc S'.length) (S'++[acc])):mz cap Γ elt tg cd W ds C0 S1:=by unfold mz;exact h
theorem fK{cap:List (Option Nat)}{elt:Ex Ω}{tg:Tg}{cd:Cd Ω}{W:WD}{ds:List D}{S1:Store}(h:ds.length≤1000000/\∃Pv:Nat->List D->Store->Prop,Pv 0 [] S1/\
 (∀i d acc S',ds[i]? =some d->Pv i acc S'->tg.wp d (capt cap Γ) λ Γ2=>cd.wp Γ2 S' λ ok S3=>(ok=true->elt.wp Γ2 S3 λ y S4=>Pv (i+1) (acc++[y]) S4)/\(ok=false->Pv (i+1) acc S3))/\
 ∀acc S',Pv ds.length acc S'->W (.lst acc) S'):mG cap Γ elt tg cd W ds S1:=by
 obtain⟨hz,Pv,p0,pt,pe⟩:=h
 exact nR ⟨hz,Pv,p0,λ _ _ _ _=>trivial,pt,λ acc S' q=>.inl (pe acc S' q)⟩
def lU(N':List Str)(cap:List (Option Nat))(elt:Ex Ω)(tg:Tg)(it:Itb Ω)(cd:Cd Ω)(top:Bool)(N:List Str)(nm:Nm)(e:Expr):Bool:=match e with
 | .ListComp x [⟨t,i,cs,0⟩] sc _=>(sc.kind==.function)&&(ye sc.names&&(freeOk nm sc.names&&((sc.names.all λ y=>!(y.2==.local)||(sc.names.lookup y.1==some .local))&&(aQ N nm N' sc.names cap N'&&
  (okE i&&((tg.slots.all λ j=>cap[j]? ==some none)&&(decide N'.Nodup&&(it.chk top N nm t i&&(tg.chk false N' sc.names t&&(cd.chk false N' sc.names cs&&elt.chk false N' sc.names x))))))))))
 | _=>false
section
variable {X : Cx} {r : Nat} {top : Bool} {N : List Str} {nm : Nm}
theorem uX(A:At Ω X r top N nm){x:Str}(h:nm.lookup x=some .cell∨nm.lookup x=some .free):X.env.scope.names.lookup x=some .cell∨X.env.scope.names.lookup x=some .free:=by
 rcases h with h | h
 . rcases A.look x _ h with q | ⟨q,_⟩
   . exact .inl q
   . exact nomatch q
 . rcases A.look x _ h with q | ⟨_,q⟩
   . exact .inr q
   . exact .inl q
theorem vf(A:At Ω X r top N nm){names:Nm}(h:freeOk nm names=true):freeOk X.env.scope.names names=true:=by
 unfold freeOk
 refine List.all_eq_true.mpr λ y hy=>?_
 by_cases e:y.2=.free
 . have:=uX A (lu h y hy e)
   rcases this with q | q<;>simp[q]
 . simp[e]
theorem jF(A:At Ω X r top N nm){N':List Str}{names':Nm}:∀{cap:List (Option Nat)}{t:List Str},aQ N nm N' names' cap t=true->aQ X.N X.env.scope.names N' names' cap t=true
 | [],[],_=>rfl
 | [],_::_,h=>by simp[aQ]at h
 | none::_,[],h=>by simp[aQ]at h
 | some _::_,[],h=>by simp[aQ]at h
 | none::r,_::t,h=>by simp only[aQ]at h ⊢;exact jF A h
 | some j::r,x::t,h=>by
   simp only[aQ,Bool.and_eq_true,Bool.or_eq_true,beq_iff_eq]at h ⊢
   exact⟨⟨⟨by rw[A.n];exact h.1.1.1,uX A h.1.1.2⟩,h.1.2⟩,jF A h.2⟩
theorem RN(A:At Ω X r top N nm){sc:Scope}{N':List Str}{C:Addr}{s:Shared}{H:Hp}{ex:List Addr}{cl:List (Str×Addr)}(hk:sc.kind=.function)(nd:N'.Nodup):At Ω (eG X sc N' C s H ex cl) r false N' sc.names where
 cd:=λ h=>nomatch h
 p:=A.p
 w:=A.w
 k:=A.k
 g:=A.g
 b:=A.b
 room:=A.room
 xe:=A.xe
 calm:=A.calm
 n:=rfl
 nd:=nd
 kind:=hk
 look:=by
  intro x k h
  show(relabel sc X.env).names.lookup x=some k∨_
  rw[jj,cY,h]
  rcases oK X.env x k with q | ⟨q1,q2⟩
  . exact .inl (congrArg some q)
  . refine .inr ⟨q1,?_⟩
    show(relabel sc X.env).names.lookup x=some .cell
    rw[jj,cY,h]
    exact congrArg some q2
 fn:=λ x h=>by show(sc.names.lookup x==some .cell)=true;rw[h];rfl
theorem qX(A:At Ω X r top N nm){sc:Scope}{N':List Str}{cap:List (Option Nat)}{elt:Ex Ω}{tg:Tg}{cd:Cd Ω}{x t:Expr}{cs:List Expr}{Γ:Gam}{W:WD}{ds:List D}{C0:Store->Prop}{S1:Store}(le:elt.lev≤r)(lc:cd.lev≤r)(hk:sc.kind=.function)(nd:N'.Nodup)(hs:(tg.slots.all λ j=>cap[j]? ==some none)=true)
 (ht:tg.chk false N' sc.names t=true)(hcd:cd.chk false N' sc.names cs=true)(he:elt.chk false N' sc.names x=true)(h:mz cap Γ elt tg cd W ds C0 S1):xj X sc N' cap Γ x t cs W ds C0 S1:=by
 unfold mz at h
 obtain⟨hz,Pv,p0,pC,pt,pe⟩:=h
 refine⟨hz,Pv,p0,pC,λ i d acc S' hd hp C s H ex cl=>?_,pe⟩
 have B:=RN A (C:=C) (s:=s) (H:=H) (ex:=ex) (cl:=cl) hk nd
 have sl:∀j∈tg.slots,(capt cap Γ)[j]? =some none:=λ j hj=>HQ (by
  have:=List.all_eq_true.mp hs j hj
  exact eq_of_beq this)
 have base:=pt i d acc S' hd hp
 have go:∀Γ2,(cd.wp Γ2 S' λ ok S3=>(ok=true->elt.wp Γ2 S3 λ y S4=>Pv (i+1) (acc++[y]) S4)/\(ok=false->Pv (i+1) acc S3))->
  TsA (eG X sc N' C s H ex cl) Γ2 S' cs λ ok S3=>(ok=true->Ev (eG X sc N' C s H ex cl) Γ2 S3 x λ y S4=>Pv (i+1) (acc++[y]) S4)/\(ok=false->Pv (i+1) acc S3):=by
  intro Γ2 q
  have:=cd.sound B lc hcd q
  match cs,this with
  | [],this=>exact⟨λ hk=>elt.sound B le he (this.1 hk),this.2⟩
  | [c],this=>exact Ts.mono this λ ok S3 z=>⟨λ hk=>elt.sound B le he (z.1 hk),z.2⟩
  | _::_::_,this=>exact this.elim
 refine Tg.sound B (W:=λ Γ2 S2=>Sub (capt cap Γ) Γ2/\TsA (eG X sc N' C s H ex cl) Γ2 S2 cs λ ok S3=>(ok=true->Ev (eG X sc N' C s H ex cl) Γ2 S3 x λ y S4=>Pv (i+1) (acc++[y]) S4)/\(ok=false->Pv (i+1) acc S3)) ht ?_
 cases tg with
 | nm j=>exact⟨(Sub.refl _).set j _ (sl j (by simp[Tg.slots])),go _ base⟩
 | tup is=>
   cases d with
   | tup es=>exact⟨base.1,Sub.setAll (Sub.refl _) sl,go _ base.2⟩
   | _=>exact base.elim
end
def Ex.comp(N':List Str)(cap:List (Option Nat))(elt:Ex Ω)(tg:Tg)(it:Itb Ω)(cd:Cd Ω):Ex Ω where
 lev:=max elt.lev (max it.lev cd.lev)
 chk top N nm e:=lU N' cap elt tg it cd top N nm e
 wp Γ S W:=it.wp Γ S λ ds S1=>mG cap Γ elt tg cd W ds S1
 sound:=by
  intro X r top N nm e Γ S W A hl hc hw
  obtain⟨l1,l2⟩:=lv2 hl
  obtain⟨l2,l3⟩:=lv2 l2
  unfold lU at hc
  split at hc
  . rename_i x t i cs sc pos
    obtain⟨h1,hc⟩:=aa hc
    obtain⟨h2,hc⟩:=aa hc
    obtain⟨h3,hc⟩:=aa hc
    obtain⟨h4,hc⟩:=aa hc
    obtain⟨h5,hc⟩:=aa hc
    obtain⟨h6,hc⟩:=aa hc
    obtain⟨h7,hc⟩:=aa hc
    obtain⟨h8,hc⟩:=aa hc
    obtain⟨h9,hc⟩:=aa hc
    obtain⟨h10,hc⟩:=aa hc
    obtain⟨h11,h12⟩:=aa hc
    have hk:sc.kind=.function:=eq_of_beq h1
    refine M4 N' cap (ItW.toC (ItW.mono (it.sound A l2 h9 hw) λ ds S1 q=>qX A l1 l3 hk (of_decide_eq_true h8) h7 h10 h11 h12 q)) A.xe A.calm hk h2 (vf A h3) (λ y hy e=>?_) (jF A h5) (lY h6 _)
    . have:=List.all_eq_true.mp h4 y hy
      simpa[e]using this
  . exact fE hc
end RF
namespace RF
open PySem PySem.Spec L2 DL
open PyProof.Rows
variable {Ω : Wd}
theorem Ha{e:Expr}(h:noC e=true)(t:Expr)(l:Nat)(env:Env):swapsWithSole [t] e l env=pure false:=by
 unfold swapsWithSole
 exact jB h (some t) l env
set_option genInjectivity false in
structure Sm(Ω:Wd) where
 lev:Nat
 chk:Bool->List Str->Nm->Stmt->Bool
 wp:Gam->Store->DL.Fin->Prop
 sound:∀{X:Cx}{r:Nat}{top:Bool}{N:List Str}{nm:Nm}{st:Stmt}{Γ:Gam}{S:Store}{W:DL.Fin},At Ω X r top N nm->lev≤r->chk top N nm st=true->wp Γ S W->Rn X Γ S st W
set_option genInjectivity false in
structure Bl(Ω:Wd) where
 lev:Nat
 chk:Bool->List Str->Nm->List Stmt->Bool
 wp:Gam->Store->DL.Fin->Prop
 sound:∀{X:Cx}{r:Nat}{top:Bool}{N:List Str}{nm:Nm}{sts:List Stmt}{Γ:Gam}{S:Store}{W:DL.Fin},At Ω X r top N nm->lev≤r->chk top N nm sts=true->wp Γ S W->Rns X Γ S sts W
def Bl.nil:Bl Ω where
 lev:=0
 chk _ _ _ sts:=match sts with | []=>true | _=>false
 wp Γ S W:=W.nx Γ S
 sound:=by
  intro X r top N nm sts Γ S W A hl hc hw
  match sts,hc with
  | [],_=>exact QR hw
  | _::_,hc=>exact fE hc
def Bl.cons(s:Sm Ω)(b:Bl Ω):Bl Ω where
 lev:=max s.lev b.lev
 chk top N nm sts:=match sts with | st::sts=>s.chk top N nm st&&b.chk top N nm sts | _=>false
 wp Γ S W:=s.wp Γ S {W with nx:=λ Γ1 S1=>b.wp Γ1 S1 W}
 sound:=by
  intro X r top N nm sts Γ S W A hl hc hw
  obtain⟨l1,l2⟩:=lv2 hl
  match sts,hc with
  | st::sts,hc=>
    obtain⟨h1,h2⟩:=aa hc
    exact Dr (Rn.mono (s.sound A l1 h1 hw) (λ G S1 q=>b.sound A l2 h2 q) (λ _ _ q=>q) (λ _ _ q=>q) λ _ _ q=>q)
  | [],hc=>exact fE hc
def Sm.ret(a:Ex Ω):Sm Ω where
 lev:=a.lev
 chk top N nm st:=match st with | .Return (some e) _=>a.chk top N nm e | _=>false
 wp Γ S W:=a.wp Γ S W.rt
 sound:=by
  intro X r top N nm st Γ S W A hl hc hw
  cases st with
  | Return o pos=>
    cases o with
    | some e=>exact TX (a.sound A hl hc hw)
    | none=>exact fE hc
  | _=>exact fE hc
def Sm.expr(a:Ex Ω):Sm Ω where
 lev:=a.lev
 chk top N nm st:=match st with | .Expr e _=>noC e&&a.chk top N nm e | _=>false
 wp Γ S W:=a.wp Γ S λ _ S1=>W.nx Γ S1
 sound:=by
  intro X r top N nm st Γ S W A hl hc hw
  cases st with
  | Expr e pos=>
    obtain⟨h1,h2⟩:=aa hc
    exact Ru (a.sound A hl h2 hw) (jB h1 _ _ _)
  | _=>exact fE hc
def Sm.ite(c:Te Ω)(a b:Bl Ω):Sm Ω where
 lev:=max c.lev (max a.lev b.lev)
 chk top N nm st:=match st with | .If t xs ys _=>c.chk top N nm t&&(a.chk top N nm xs&&b.chk top N nm ys) | _=>false
 wp Γ S W:=c.wp Γ S λ k S1=>(k=true->a.wp Γ S1 W)/\(k=false->b.wp Γ S1 W)
 sound:=by
  intro X r top N nm st Γ S W A hl hc hw
  obtain⟨l1,l2⟩:=lv2 hl
  obtain⟨l2,l3⟩:=lv2 l2
  cases st with
  | If t xs ys pos=>
    obtain⟨h1,h2⟩:=aa hc
    obtain⟨h2,h3⟩:=aa h2
    exact Uy (Ts.mono (c.sound A l1 h1 hw) λ k S1 q=>⟨λ hk=>a.sound A l2 h2 (q.1 hk),λ hk=>b.sound A l3 h3 (q.2 hk)⟩)
  | _=>exact fE hc
def Sm.set(i:Nat)(a:Ex Ω):Sm Ω where
 lev:=a.lev
 chk top N nm st:=match st with | .Assign [.Name x _] e _=>(N[i]? ==some x)&&(lcl top nm x&&(noC e&&a.chk top N nm e)) | _=>false
 wp Γ S W:=a.wp Γ S λ d S1=>W.nx (Γ.set i (some d)) S1
 sound:=by
  intro X r top N nm st Γ S W A hl hc hw
  split at hc
  . obtain⟨h1,h2⟩:=aa hc
    obtain⟨h2,h3⟩:=aa h2
    obtain⟨h3,h4⟩:=aa h3
    obtain⟨l1,l2⟩:=A.lcl h2
    exact Lj i (a.sound A hl h4 hw) (by rw[A.n];exact A.nd) (by rw[A.n];exact eq_of_beq h1) l1 (jB h3 _ _ _) l2
  . exact fE hc
def Sm.setC(i:Nat)(N':List Str)(cap:List (Option Nat))(elt:Ex Ω)(tg:Tg)(it:Itb Ω)(cd:Cd Ω):Sm Ω where
 lev:=max elt.lev (max it.lev cd.lev)
 chk top N nm st:=match st with | .Assign [.Name x p] e _=>(N[i]? ==some x)&&(lcl top nm x&&(top&&(lU N' cap elt tg it cd top N nm e))) | _=>false
 wp Γ S W:=it.wp Γ S λ ds S1=>mG cap Γ elt tg cd (λ d S2=>W.nx (Γ.set i (some d)) S2) ds S1
 sound := by
  intro X r top N nm st Γ S W A hl hc hw
  split at hc
  . rename_i x p e spos
    obtain⟨k1,q1⟩:=aa hc
    obtain⟨k2,q2⟩:=aa q1
    obtain⟨k0,hcomp⟩:=aa q2
    obtain⟨l1,l2⟩:=A.lcl k2
    have hN:X.N[i]? =some x:=by rw[A.n];exact eq_of_beq k1
    have nd:X.N.Nodup:=by rw[A.n];exact A.nd
    have hc2:=hcomp
    obtain⟨le,l3⟩:=lv2 hl
    obtain⟨li,lc⟩:=lv2 l3
    unfold lU at hc2
    split at hc2
    . rename_i x' t i' cs sc pos
      obtain⟨h1,hc⟩:=aa hc2
      obtain⟨h2,hc⟩:=aa hc
      obtain⟨h3,hc⟩:=aa hc
      obtain⟨h4,hc⟩:=aa hc
      obtain⟨h5,hc⟩:=aa hc
      obtain⟨h6,hc⟩:=aa hc
      obtain⟨h7,hc⟩:=aa hc
      obtain⟨h8,hc⟩:=aa hc
      obtain⟨h9,hc⟩:=aa hc
      obtain⟨h10,hc⟩:=aa hc
      obtain⟨h11,h12⟩:=aa hc
      have hk:sc.kind=.function:=eq_of_beq h1
      by_cases hb:(X.env.blockKind==.function&&X.env.kindOf x==some .local&&p.line==(Expr.ListComp x' [⟨t,i',cs,0⟩] sc pos).pos.line&& !(sc.names.any λ(n,k)=>n==x&&(k==.local||k==.cell)))=true
      . refine GR i N' cap (ItW.toC (ItW.mono (it.sound A li h9 hw) λ ds S1 q=>qX A le lc hk (of_decide_eq_true h8) h7 h10 h11 h12 q)) nd hN l1 ?_ l2 A.xe A.calm hk h2 (vf A h3) (λ y hy e=>?_) (jF A h5) (lY h6 _)
        . show(pure (X.env.blockKind==.function&&X.env.kindOf x==some .local&&p.line==(Expr.ListComp x' [⟨t,i',cs,0⟩] sc pos).pos.line&& !(sc.names.any λ(n,k)=>n==x&&(k==.local||k==.cell))):Sem Bool)=pure true
          rw[hb]
        . have:=List.all_eq_true.mp h4 y hy
          simpa[e]using this
      . have hb:_=false:=Bool.eq_false_iff.mpr hb
        refine Lj i ((Ex.comp N' cap elt tg it cd).sound A hl hcomp hw) nd hN l1 ?_ l2
        show(pure (X.env.blockKind==.function&&X.env.kindOf x==some .local&&p.line==(Expr.ListComp x' [⟨t,i',cs,0⟩] sc pos).pos.line&& !(sc.names.any λ(n,k)=>n==x&&(k==.local||k==.cell))):Sem Bool)=pure false
        rw[hb]
    . exact(y7 hc2).elim
  . exact fE hc
def Sm.setIx(o i a:Ex Ω):Sm Ω where
 lev:=max a.lev (max o.lev i.lev)
 chk top N nm st:=match st with | .Assign [.Subscript x y _] e _=>noC e&&(okE y&&(a.chk top N nm e&&(o.chk top N nm x&&i.chk top N nm y))) | _=>false
 wp Γ S W:=a.wp Γ S λ d S1=>o.wp Γ S1 λ x S2=>i.wp Γ S2 λ y S3=>match x,y with | .loc k,.int n=>∃ds j,S3[k]? =some ds/\ixN ds.length n=some j/\W.nx Γ (S3.set k (ds.set j d)) | _,_=>False
 sound:=by
  intro X r top N nm st Γ S W A hl hc hw
  obtain⟨l1,l2⟩:=lv2 hl
  obtain⟨l2,l3⟩:=lv2 l2
  split at hc
  . rename_i x y p e spos
    obtain⟨h1,hc⟩:=aa hc
    obtain⟨h2,hc⟩:=aa hc
    obtain⟨h3,hc⟩:=aa hc
    obtain⟨h4,h5⟩:=aa hc
    refine MN ((a.sound A l1 h3 hw).mono λ d S1 q=>(o.sound A l2 h4 q).mono λ x S2 q=>(i.sound A l3 h5 q).mono λ y S3 q=>?_) ?_ (Ha h1 _ _ _) ?_ rfl
    . cases x<;>first | exact q.elim | (cases y<;>first | exact q.elim | (obtain⟨ds,j,a,b,c⟩:=q;exact⟨_,_,ds,j,rfl,rfl,a,b,c⟩))
    . intro v
      cases y<;>first | rfl | exact(y7 h2).elim
    . rfl
  . exact fE hc
@[irreducible] noncomputable def iB(Γ:Gam)(tg:Tg)(body:Bl Ω)(W:DL.Fin)(ds:List D)(S1:Store):Prop:=
  ∃Pv:Nat->Gam->Store->Prop,Pv 0 Γ S1/\(∀i d Γ' S',ds[i]? =some d->Pv i Γ' S'->tg.wp d Γ' λ Γ2=>body.wp Γ2 S' {W with nx:=Pv (i+1),ct:=Pv (i+1),bk:=W.nx})/\(∀Γ' S',Pv ds.length Γ' S'->W.nx Γ' S')
theorem aL{Γ:Gam}{tg:Tg}{body:Bl Ω}{W:DL.Fin}{ds:List D}{S1:Store}(h:∃Pv:Nat->Gam->Store->Prop,Pv 0 Γ S1/\(∀i d Γ' S',ds[i]? =some d->Pv i Γ' S'->tg.wp d Γ' λ Γ2=>body.wp Γ2 S' {W with nx:=Pv (i+1),ct:=Pv (i+1),bk:=W.nx})/\(∀Γ' S',Pv ds.length Γ' S'->W.nx Γ' S')):iB Γ tg body W ds S1:=by unfold iB;exact h
def Sm.for(tg:Tg)(it:Itb Ω)(body:Bl Ω):Sm Ω where
 lev:=max it.lev body.lev
 chk top N nm st:=match st with | .For t i b [] _=>okE i&&(tg.chk top N nm t&&(it.chk top N nm t i&&body.chk top N nm b)) | _=>false
 wp Γ S W:=it.wp Γ S λ ds S1=>iB Γ tg body W ds S1
 sound:=by
  intro X r top N nm st Γ S W A hl hc hw
  obtain⟨l1,l2⟩:=lv2 hl
  split at hc
  . rename_i t i b pos
    obtain⟨h1,hc⟩:=aa hc
    obtain⟨h2,hc⟩:=aa hc
    obtain⟨h3,h4⟩:=aa hc
    refine Sd (ItW.mono (it.sound A l1 h3 hw) λ ds S1 q=>?_) (by rw[A.xe];exact PassesOwn.never) A.calm (lY h1 _)
    unfold iB at q
    obtain⟨Pv,p0,pt,pe⟩:=q
    refine⟨Pv,p0,λ i d Γ' S' hd hp=>BdW.mono (Tg.sound A (W:=λ Γ2 S2=>body.wp Γ2 S2 {W with nx:=Pv (i+1),ct:=Pv (i+1),bk:=W.nx}) h2 (pt i d Γ' S' hd hp)) λ Γ2 S2 q=>body.sound A l2 h4 q,pe⟩
  . exact fE hc
def SM(N ps:List Str)(sm:Stmt)(k:Nat)(body:Bl Ω):Bool:=
 ((aq sm).kind==.function)&&(!(aq sm).isCoroutine&&(!(aq sm).isGenerator&&(decide N.Nodup&&(decide (N.take ps.length=ps)&&((ps.all λ x=>(aq sm).names.lookup x==some .local||(aq sm).names.lookup x==some .cell)&&
   (((aq sm).names.all λ y=>!(y.2==.free))&&(Nat.ble body.lev k&&body.chk true N (aq sm).names (bw sm))))))))
theorem az(N0:Ω.cd=none){x qual:Str}{sm:Stmt}{f:Addr}{fd:FuncData}{N ps:List Str}{k:Nat}{F:Ct}(FF:Fun Ω.K x qual sm f fd)(body:Bl Ω)(hc:SM N ps sm k body=true)
 (vc:∀(ds:List D)(S:Store)(W:WD),F ds S W->ds.length=ps.length->body.wp (ds.map some++List.replicate (N.length-ds.length) none) S {nx:=λ _ S1=>W .non S1,rt:=W}):FnOk Ω.P Ω.w Ω.K Ω.mg Ω.base CX0 (k+1) f fd ps (spC Ω.K ps.length F):=by
 obtain⟨h1,hc⟩:=aa hc
 obtain⟨h2,hc⟩:=aa hc
 obtain⟨h3,hc⟩:=aa hc
 obtain⟨h4,hc⟩:=aa hc
 obtain⟨h5,hc⟩:=aa hc
 obtain⟨h6,hc⟩:=aa hc
 obtain⟨h7,hc⟩:=aa hc
 obtain⟨h8,h9⟩:=aa hc
 have nd:N.Nodup:=of_decide_eq_true h4
 have sc:FnScope N ps (aq sm):=⟨eq_of_beq h1,nt h2,nt h3,nd,of_decide_eq_true h5,λ x hx=>by
  have:=List.all_eq_true.mp h6 x hx
  simpa using this,λ y hy e=>by
  have:=List.all_eq_true.mp h7 y hy
  simp[e]at this⟩
 refine Ma FF sc λ cdv A outer s H E ds S W _ hr hl h=>?_
 refine body.sound (r:=k) (top:=true) (N:=N) (nm:=(aq sm).names) ⟨rfl,rfl,rfl,rfl,rfl,hr,rfl,rfl,rfl,nd,sc.kind,λ x kk h=>.inl h,λ _ _=>rfl,λ _ p q=>nomatch (N0.symm.trans q)⟩ (Nat.le_of_ble_eq_true h8) h9 (vc ds S W h hl)
theorem callee{x qual:Str}{sm:Stmt}{f:Addr}{fd:FuncData}{ps:List Str}{k n:Nat}{F:Ct}(FF:Fun Ω.K x qual sm f fd)(h:FnOk Ω.P Ω.w Ω.K Ω.mg Ω.base CX0 k f fd ps (spC Ω.K n F))(hm:Ω.mg x=some (.ref f))(b:Binds Ω.K fd ps []):Callee Ω.P Ω.w Ω.K Ω.mg Ω.base x k n F:=⟨f,fd,ps,h,hm,FF.kp,b⟩
end RF
namespace RF
open PySem PySem.Spec L2 DL
open PyProof.Rows
def bc:Bf where
 x:="len"
 id:="len"
 boot:=by decide+kernel
 wp ds S W:=match ds with
  | [.tup ds]=>W (.int ds.length) S
  | [.lst ds]=>W (.int ds.length) S
  | [.loc k]=>∃ds,S[k]? =some ds/\W (.int ds.length) S
  | _=>False
 sound:=by
  intro X ds S W hc hr h
  split at h
  . exact RD h
  . exact Px h
  . obtain⟨ds,h1,h2⟩:=h;exact QV h1 h2
  . exact h.elim
def fB:Bf where
 x:="all"
 id:="all"
 boot:=by decide+kernel
 wp ds S W:=match ds with
  | [.lst ds]=>∃bs:List Bool,ds=bs.map .bl/\W (.bl (bs.all id)) S
  | _=>False
 sound:=by
  intro X ds S W hc hr h
  split at h
  . obtain⟨bs,rfl,h⟩:=h;exact k_all h hc
  . exact h.elim
def JH:Bf where
 x:="abs"
 id:="abs"
 boot:=by decide+kernel
 wp ds S W:=match ds with
  | [.int i]=>W (.int (if i<0 then-i else i)) S
  | _=>False
 sound:=by
  intro X ds S W hc hr h
  split at h
  . refine bx J4 λ O H vs st r=>?_
    obtain⟨v,rfl,r'⟩:=bR r
    cases r'
    exact⟨_,rfl,QG.here h st (.int _)⟩
  . exact h.elim
theorem Lh{K:PySem.W.Frag}{O:Own}{H:Hp}{vs:List V}{d e:D}(r:Reps K O H vs [d,e]):∃v w,vs=[v,w]/\Rep K O H v d/\Rep K O H w e:=by
 cases r with
 | cons a t=>
   cases t with
   | cons b t=>cases t;exact⟨_,_,rfl,a,b⟩
def UL:Bf where
 x:="min"
 id:="min"
 boot:=by decide+kernel
 wp ds S W:=match ds with
  | [.int i,.int j]=>W (.int (if j<i then j else i)) S
  | _=>False
 sound:=by
  intro X ds S W hc hr h
  split at h
  . refine bx (HR hc) λ O H vs st r=>?_
    obtain⟨v,w,rfl,r1,r2⟩:=Lh r
    cases r1
    cases r2
    exact⟨_,_,rfl,QG.here h st (.int _)⟩
  . exact h.elim
def UG:Bf where
 x:="max"
 id:="max"
 boot:=by decide+kernel
 wp ds S W:=match ds with
  | [.int i,.int j]=>W (.int (if j>i then j else i)) S
  | _=>False
 sound:=by
  intro X ds S W hc hr h
  split at h
  . refine bx (G5 hc) λ O H vs st r=>?_
    obtain⟨v,w,rfl,r1,r2⟩:=Lh r
    cases r1
    cases r2
    exact⟨_,_,rfl,QG.here h st (.int _)⟩
  . exact h.elim
def aP:Bc where
 x:="tuple"
 id:="tuple"
 boot:=by decide+kernel
 wp ds S W:=match ds with
  | [.lst ds]=>W (.tup ds) S
  | [.loc k]=>∃ds,S[k]? =some ds/\W (.tup ds) S
  | _=>False
 sound:=by
  intro X ds S W hc hr h
  split at h
  . exact RL h
  . obtain⟨ds,h1,h2⟩:=h;exact Qj h1 h2
  . exact h.elim
def Th:Bc where
 x:="list"
 id:="list"
 boot:=by decide+kernel
 wp ds S W:=match ds with
  | [.tup ds]=>W (.lst ds) S
  | [.lst ds]=>W (.lst ds) S
  | _=>False
 sound:=by
  intro X ds S W hc hr h
  split at h
  . exact O9 h
  . exact QC h
  . exact h.elim
def RP:Bc where
 x:="int"
 id:="int"
 boot:=by decide+kernel
 wp ds S W:=match ds with
  | [.int i]=>W (.int i) S
  | [.bl k]=>W (.int (if k then 1 else 0)) S
  | _=>False
 sound:=by
  intro X ds S W hc hr h
  split at h
  . refine bx lK λ O H vs st r=>?_
    obtain⟨v,rfl,r'⟩:=bR r
    cases r'
    exact .inl ⟨_,rfl,QG.here h st (.int _)⟩
  . refine bx lK λ O H vs st r=>?_
    obtain⟨v,rfl,r'⟩:=bR r
    cases r'
    exact .inr ⟨_,rfl,QG.here h st (.int _)⟩
  . exact h.elim
section
variable {X : Cx} {Γ : Gam} {S : Store} {e : Expr} {pos : Pos}
theorem MT{elts:List Expr}{k:Nat}{tp p:Pos}{W:List D->Store->Prop}(h:Ev X Γ S e λ d S1=>match d with | .lst ds=>W (ds.mapIdx λ i d=>.tup [.int i,d]) S1 | .tup ds=>W (ds.mapIdx λ i d=>.tup [.int i,d]) S1 | _=>False)(hm:X.mg "enumerate"=none)(hg:Gl X "enumerate")(hs:starEach [e] X.env=[(false,eval e X.env)]):
 ItW X Γ S (.Tuple elts k tp) (.Call (.Name "enumerate" p) [e] [] pos) W:=by
 intro pins s σ H O I env st
 refine Call_ (aY I hg hm boot_enumerate (PyProof.Rows.callWith_type1 (thn (bH h.pe eQ hs pos pins s σ H (λ vs H'=>∃v,vs=[v]/\QG X.K O H (λ d S1=>match d with | .lst ds=>W (ds.mapIdx λ i d=>.tup [.int i,d]) S1 | .tup ds=>W (ds.mapIdx λ i d=>.tup [.int i,d]) S1 | _=>False) v H') I ⟨O,env,st,λ v H' q=>⟨v,rfl,q⟩⟩) λ us s1 hq_=>?_) hs rfl))
 obtain⟨vs,H1,I1,r1,v,ev,O1,d,S1,w,st1,ok1,rep⟩:=hq_
 subst ev
 obtain⟨u,rfl,ru⟩:=vals1 r1
 cases rep with
 | @lst a xs ds h1 q1=>
   cases ru
   obtain⟨its,rv,pl,hz⟩:=I1.list h1.sq
   refine call_enumerate_list pl.isList λ h' he hi _ kp=>CZ (Ga X.prog X.w X.K) I1 he hi kp ⟨O1,_,S1,w,st1,ok1,nj _ λ O' H' cv=>⟨xs,(h1.conv cv).sq,q1.conv cv⟩⟩
 | @tup a xs ds h1 q1=>
   cases ru
   obtain⟨its,rv,pl,hz⟩:=I1.tuple h1.sq
   obtain⟨⟨c,dct,dt,sl⟩,hl,hc,n,hd⟩:=pl
   replace hc:c=.type "tuple":=hc
   replace hd:dt=.seq its.toArray n:=hd
   subst hc hd
   refine callType_new F.called_enumerate (by decide) (F.typeCall_enumerate_1 _) (F.newCall_enumerate_1 _) (λ obj=>F.args_object_init_2 obj _) F.entry_enumerate_new (GF a its.toArray n dct sl) ⟨hl,?_⟩
   have hz:(s1.heap.push {cls:=.type "tuple_iterator",data:=.fields #[.ref a,.int 0 0]}).objs.size=s1.heap.objs.size+1:=Heap.size_push ..
   show _/\_
   rw[hz]
   have he:IsEnum ((s1.heap.push {cls:=.type "tuple_iterator",data:=.fields #[.ref a,.int 0 0]}).push {cls:=.type "enumerate",data:=.fields #[.none,.bool false,.ref s1.heap.objs.size,rawInt 0,.none,.none]}) (s1.heap.objs.size+1) s1.heap.objs.size 0 .none:=by
    have:=Heap.get?_push_size (s1.heap.push {cls:=.type "tuple_iterator",data:=.fields #[.ref a,.int 0 0]}) (o:={cls:=.type "enumerate",data:=.fields #[.none,.bool false,.ref s1.heap.objs.size,rawInt 0,.none,.none]}) rfl
    rw[hz]at this
    exact this
   have hi:Heap.IsTupleIter ((s1.heap.push {cls:=.type "tuple_iterator",data:=.fields #[.ref a,.int 0 0]}).push {cls:=.type "enumerate",data:=.fields #[.none,.bool false,.ref s1.heap.objs.size,rawInt 0,.none,.none]}) s1.heap.objs.size a 0:=
    ⟨_,Heap.get?_push_of_some _ (Heap.get?_push_size _ rfl),rfl,rfl⟩
   exact⟨⟨_,he,rfl⟩,CZ (K8 X.prog X.w X.K) I1 he hi (λ b o e=>Heap.get?_push_of_some _ (Heap.get?_push_of_some _ e)) ⟨O1,_,S1,w,st1,ok1,nj _ λ O' H' cv=>⟨xs,(h1.conv cv).sq,q1.conv cv⟩⟩⟩
 | _=>exact w.elim
end
variable {Ω : Wd}
def Itb.enm(hm:Ω.mg "enumerate"=none)(a:Ex Ω):Itb Ω where
 lev:=a.lev
 chk top N nm tg e:=match tg,e with | .Tuple ..,.Call (.Name y _) [b] [] _=>(y==("enumerate":Str))&&(glb nm "enumerate"&&(okE b&&a.chk top N nm b)) | _,_=>false
 wp Γ S W:=a.wp Γ S λ d S1=>match d with | .lst ds=>W (ds.mapIdx λ i d=>.tup [.int i,d]) S1 | .tup ds=>W (ds.mapIdx λ i d=>.tup [.int i,d]) S1 | _=>False
 sound:=by
  intro X r top N nm tg e Γ S W A hl hc hw
  split at hc
  . obtain⟨h1,h2⟩:=aa hc
    obtain⟨h2,h3⟩:=aa h2
    obtain⟨h3,h4⟩:=aa h3
    have e:=eq_of_beq h1
    subst e
    exact MT (a.sound A hl h4 hw) (by rw[A.g];exact hm) (A.glb h2) (aA h3 [] _)
  . exact fE hc
def Itb.zip(hm:Ω.mg "zip"=none)(a b:Ex Ω):Itb Ω where
 lev:=max a.lev b.lev
 chk top N nm tg e:=match tg,e with | .Tuple ..,.Call (.Name y _) [l,r] [] _=>(y==("zip":Str))&&(glb nm "zip"&&((okE l&&okE r)&&(a.chk top N nm l&&b.chk top N nm r))) | _,_=>false
 wp Γ S W:=a.wp Γ S λ d S1=>b.wp Γ S1 λ d' S2=>match d,d' with | .tup ds,.tup es=>W (List.zipWith (λ x y=>.tup [x,y]) ds es) S2 | _,_=>False
 sound:=by
  intro X r top N nm tg e Γ S W A hl hc hw
  obtain⟨l1,l2⟩:=lv2 hl
  split at hc
  . obtain⟨h1,h2⟩:=aa hc
    obtain⟨h2,h3⟩:=aa h2
    obtain⟨h3,h4⟩:=aa h3
    obtain⟨h5,h6⟩:=aa h3
    obtain⟨h7,h8⟩:=aa h4
    have e:=eq_of_beq h1
    subst e
    refine Kl ((a.sound A l1 h7 hw).mono λ d S1 q=>(b.sound A l2 h8 q).mono λ d' S2 q=>?_) (by rw[A.g];exact hm) (A.glb h2) (aA h5 _ _) (aA h6 [] _)
    cases d<;>first | exact q.elim | (cases d'<;>first | exact⟨_,_,rfl,rfl,q⟩ | exact q.elim)
  . exact fE hc
end RF
namespace RF
theorem ff{P:Prop}(h:false=true):P:=(y7 h).elim
theorem tf{P:Prop}(h:true=false):P:=(y7 h.symm).elim
end RF
namespace RF
open PySem PySem.Spec L2 DL
open PyProof.Rows
abbrev Cal(Ω:Wd)(x:Str)(k n:Nat)(F:Ct):Prop:=Callee Ω.P Ω.w Ω.K Ω.mg Ω.base x k n F
abbrev Ok(Ω:Wd)(k:Nat)(f:Addr)(fd:FuncData)(ps:List Str)(F:Ct):Prop:=FnOk Ω.P Ω.w Ω.K Ω.mg Ω.base CX0 k f fd ps (spC Ω.K ps.length F)
def mC:Ct:=λ ds S W=>∃ns,ds=[.lst (List.map .int ns)]/\ns.length≤63/\(∀S',W (.bl true) S')/\S=[]
theorem Rr{K:PySem.W.Frag}{H:Hp}{a:Addr}{ns:List Int}{E:XK}(hl:ns.length≤63)(hS:SqL K H a (ns.map V.int)):spC K 1 mC [.ref a] H (λ v _=>v=.bl true) E:=by
 refine⟨⟨[],[]⟩,[.lst (ns.map .int)],[],λ d _=>d=.bl true,rfl,.cons (.lst (xs:=ns.map V.int) ?_ (Reps.of_ints ns)) .nil,?_,⟨ns,rfl,hl,λ _=>rfl,rfl⟩,λ v H' q=>?_⟩
 . rcases hS with h | h
   . exact .inl ⟨λ z=>by rcases z with z | z<;>exact absurd (show a∈([]:List Addr)from z) (by simp),h⟩
   . exact .inr (.inr h)
 . exact⟨List.nodup_nil,rfl,λ k a ds e=>by simp at e,λ k a ds e=>by simp at e,λ a h=>absurd (show a∈([]:List Addr)from h) (by simp),λ a h=>absurd (show a∈([]:List Addr)from h) (by simp)⟩
 . obtain⟨O',d,S',w,_,_,r⟩:=q
   subst w
   cases r
   rfl
theorem walk{lev:Nat}{x:Str}{l:PySem.W.OpenLaw}{q:Program}{loose:List Str}{XP:(Str->Option Value)->Heap->Prop}{YP:World->Heap->Prop}{d:DefRec}{K:Params->PySem.W.Frag}(hn:l.most=some 63)(hdf:d.params.defaults=[])(hr:Room lev callerA)
 (hY:∀(w:World)(h:Heap),YP w h->(K w.params).In h)
 (F:∀(w:World)(mg:Str->Option Value)(fa:Addr)(h:Heap),(K w.params).In h->h.Ns mainGlobals mg->mg d.name=some (.ref fa)->
  ∃fd:FuncData,(∀(s:Shared)(u:Value),BindsTo s fd ⟨[u],[]⟩ [(x,u)])/\∀base:Heap,(K w.params).In base->base.Ns mainGlobals mg->FnOk l.prog w (K w.params) mg base CX0 lev fa fd [x] (spC (K w.params) 1 mC)):
 PySem.W.WalkO q loose XP YP l.row.toRowW d [] (λ f vs=>PySem.call f vs):=
 L2.walk_of (n:=63) (k:=lev) (x:=x) (CX:=λ _=>CX0) (sp:=λ w=>spC (K w.params) 1 mC) hn (by decide) hdf hr hY F (λ _ _ a ns hl _ hS=>Rr hl hS) λ _ _ _ _ _ z=>z
theorem Tg.mono{t:Tg}{d:D}{Γ:Gam}{W W':Gam->Prop}(h:t.wp d Γ W)(k:∀G,W G->W' G):t.wp d Γ W':=by
 cases t with
 | nm i=>exact k _ h
 | tup is=>
   cases d with
   | tup ds=>exact⟨h.1,k _ h.2⟩
   | _=>exact h.elim
section
variable {Ω : Wd} {cap : List (Option Nat)} {Γ : Gam} {elt : Ex Ω} {tg : Tg} {cd : Cd Ω} {W : WD} {ds : List D} {S1 : Store}
theorem cX(f:D->D)(hz:ds.length≤1000000)(h:∀(i:Nat)(d:D),ds[i]? =some d->∀Q:WD,Q (f d) S1->tg.wp d (capt cap Γ) λ Γ2=>elt.wp Γ2 S1 Q)(w:W (.lst (ds.map f)) S1):mG cap Γ elt tg (Cd.no (Ω:=Ω)) W ds S1:=by
 refine fK ⟨hz,λ i acc S'=>acc=(ds.take i).map f/\S'=S1,⟨rfl,rfl⟩,?_,?_⟩
 . rintro i d acc S' hd ⟨rfl,rfl⟩
   refine Tg.mono (h i d hd (λ y S4=>(ds.take i).map f++[y]=(ds.take (i+1)).map f/\S4=S') ⟨?_,rfl⟩) λ G q=>⟨λ _=>q,λ z=>tf z⟩
   rw[aJ hd,List.map_append];rfl
 . rintro acc S' ⟨rfl,rfl⟩
   rw[List.take_length];exact w
end
theorem bT{A B:Prop}(h:A):(true=true->A)/\(true=false->B):=⟨λ _=>h,λ z=>tf z⟩
theorem bF{A B:Prop}(h:B):(false=true->A)/\(false=false->B):=⟨λ z=>ff z,λ _=>h⟩
end RF
namespace RF
open PySem PySem.Spec L2 DL
open PyProof.Rows
variable {ds : List D} {W : WD} {Γ : Gam} {S : Store} {i : Int}
mutual
theorem cG{K:PySem.W.Frag}{O O':Own}{H:Hp}(h:∀a,¬O.has a->¬O'.has a):∀{v:V}{d:D},ak d=true->Rep K O H v d->Rep K O' H v d
 | _,_,_,.non=>.non
 | _,_,_,.bl b=>.bl b
 | _,_,_,.int i=>.int i
 | _,_,_,.str x=>.str x
 | _,_,n,.tup h1 r=>.tup ⟨h _ h1.1,h1.2⟩ (cA h (by simpa[ak]using n) r)
 | _,_,n,.lst h1 r=>.lst (h1.imp (λ q=>⟨h _ q.1,q.2⟩) id) (cA h (by simpa[ak]using n) r)
 | _,_,n,.loc _=>by simp[ak]at n
 | _,_,n,.dlo _ _=>by simp[ak]at n
 | _,_,_,.dic h1 e=>.dic (h _ h1) e
theorem cA{K:PySem.W.Frag}{O O':Own}{H:Hp}(h:∀a,¬O.has a->¬O'.has a):∀{vs:List V}{ds:List D},aj ds=true->Reps K O H vs ds->Reps K O' H vs ds
 | _,_,_,.nil=>.nil
 | _,_,n,.cons r t=>by
   simp only[aj,Bool.and_eq_true]at n
   exact .cons (cG h n.1 r) (cA h n.2 t)
end
theorem zQ{K:PySem.W.Frag}{O O':Own}{H:Hp}(h:∀a,¬O.has a->¬O'.has a):∀{vs:List (List Key×V)}{ds:List D},aj ds=true->Kps K O H vs ds->Kps K O' H vs ds
 | _,_,_,.nil=>.nil
 | _,_,n,.cons r t=>by
   simp only[aj,ak,Bool.and_eq_true]at n
   exact .cons (cG h n.1.2.1 r) (zQ h n.2 t)
theorem zU{K:PySem.W.Frag}{O O':Own}{H:Hp}(h:∀a,¬O.has a->¬O'.has a):∀{vs:Cy}{ds:List D},aj ds=true->Kcs K O H vs ds->Kcs K O' H vs ds
 | _,_,_,.nil=>.nil
 | _,_,n,.cons e rk rv r t=>by
   simp only[aj,ak,Bool.and_eq_true]at n
   exact .cons e (cG h n.1.1 rk) rv (cG h n.1.2.1 r) (zU h n.2 t)
theorem An{K:PySem.W.Frag}{O O':Own}{H:Hp}(h:∀a,¬O.has a->¬O'.has a):∀{vs:Oy}{ds:List D},aj ds=true->Kos K O H vs ds->Kos K O' H vs ds
 | _,_,_,.nil=>.nil
 | _,_,n,.cons e rv r t=>by
   simp only[aj,ak,Bool.and_eq_true]at n
   exact .cons e rv (cG h n.1.2.1 r) (An h n.2 t)
theorem Kd{K:PySem.W.Frag}{O O':Own}{H:Hp}{a:Addr}(h:∀a,¬O.has a->¬O'.has a)(n:aj ds=true)(b:DOb K O H a ds):DOb K O' H a ds:=by
 cases b with
 | t kvs e r=>exact .t kvs e (zQ h n r)
 | c ys z e r=>exact .c ys z e (zU h n r)
 | o ys z e r=>exact .o ys z e (An h n r)
 | p ps z b l c y q k e hd g=>exact .p ps z b l c y q k e hd (g.imp id λ⟨g1,x,g2,g3,g4⟩=>⟨g1,x,g2,h _ g3,g4⟩)
def flat(S:Store):Prop:=∀l∈S,aj l=true
theorem oH{A:List (Addr×Bool)}{n:Nat}{a:Addr}(h:a∈adr (A.take n)):a∈adr A:=by
 obtain⟨x,hx,rfl⟩:=List.mem_map.mp h
 exact List.mem_map.mpr ⟨x,List.mem_of_mem_take hx,rfl⟩
theorem jh{K:PySem.W.Frag}{O O':Own}{H H':Hp}{S':Store}{J:List (List D)}(st:Step O O' H H')(ok:StOk K O' H' (S'++J))(hl:O.A.length≤S'.length)(hS:flat S'):
 Step O ⟨O'.A.take S'.length,O'.B⟩ H H'/\StOk K ⟨O'.A.take S'.length,O'.B⟩ H' S'/\(∀b,¬O'.has b->¬(⟨O'.A.take S'.length,O'.B⟩:Own).has b)/\∀j a,S'.length≤j->∀{q:Bool},O'.A[j]? =some (a,q)->¬(⟨O'.A.take S'.length,O'.B⟩:Own).has a:=by
 obtain⟨N,eA,fN⟩:=st.ext
 have len:O'.A.length=S'.length+J.length:=by have:=ok.len;simpa using this
 have sub:∀b,¬O'.has b->¬(⟨O'.A.take S'.length,O'.B⟩:Own).has b:=λ b hb z=>hb (z.imp oH id)
 have nd:(adr (O'.A.take S'.length)).Nodup:=by
  show(List.map _ (List.take _ _)).Nodup
  rw[List.map_take]
  exact ok.nd.sublist (List.take_sublist _ _)
 refine⟨⟨st.kept,st.dom,⟨N.take (S'.length-O.A.length),by
  show O'.A.take S'.length=_
  rw[eA,List.take_append,List.take_of_length_le (by omega)],λ b hb=>fN b (oH hb)⟩,st.hid⟩,⟨nd,by simp[len],λ k b es e1 e2=>?_,λ k b es e1 e2=>?_,λ b hb=>ok.apart b (oH hb),ok.hidden⟩,sub,λ j a hj q ha z=>?_⟩
 . have hk:k<S'.length:=(y3.mp e2).1
   have e1':(O'.A.take S'.length)[k]? =some (b,false):=e1
   rw[List.getElem?_take,if_pos hk]at e1'
   obtain⟨ys,hy,r'⟩:=ok.obj k b es e1' (by rw[v3 hk];exact e2)
   exact⟨ys,hy,cA sub (hS es (y6 e2)) r'⟩
 . have hk:k<S'.length:=(y3.mp e2).1
   have e1':(O'.A.take S'.length)[k]? =some (b,true):=e1
   rw[List.getElem?_take,if_pos hk]at e1'
   exact Kd sub (hS es (y6 e2)) (ok.dob k b es e1' (by rw[v3 hk];exact e2))
 . rcases z with z | z
   . obtain⟨⟨a',q'⟩,hm,rfl⟩:=List.mem_map.mp z
     obtain⟨i,hi⟩:=List.getElem?_of_mem hm
     rw[List.getElem?_take]at hi
     split at hi
     . rename_i hlt
       exact Gv ok.nd hi ha (by omega) rfl
     . cases hi
   . exact ok.apart a (bN ha) z
def Frz(n:Nat)(W:WD):WD:=λ d S1=>W d S1∨∃ds S',d=.loc S'.length/\S1=S'++[ds]/\n≤S'.length/\aj ds=true/\flat S'/\W (.lst ds) S'
theorem QG.frz{K:PySem.W.Frag}{O:Own}{H H':Hp}{v:V}{n:Nat}(hn:O.A.length=n)(q:QG K O H (Frz n W) v H'):QG K O H W v H':=by
 obtain⟨O',d,S1,w,st,ok,r⟩:=q
 rcases w with w | ⟨ds,S',rfl,rfl,hl,hd,hS,w⟩
 . exact⟨O',d,S1,w,st,ok,r⟩
 . obtain⟨st2,ok2,sub,na⟩:=jh st ok (by omega) hS
   cases r with
   | @loc a _ ha=>
     obtain⟨xs,hx,q1⟩:=ok.obj S'.length a ds ha (by simp)
     exact⟨_,.lst ds,S',w,st2,ok2,.lst (.inl ⟨na _ a (x5 _) ha,.inl hx⟩) (cA sub hd q1)⟩
theorem Oh{X:Cx}{sts:List Stmt}{W:DL.Fin}(h:Rns X Γ S sts {W with rt:=Frz S.length W.rt}):Rns X Γ S sts W:=λ pins s σ H O I env ok=>
 thn (h pins s σ H O I env ok) λ f s' q=>by
  cases f with
  | next=>exact q
  | brk=>exact q
  | cont=>exact q
  | ret u=>obtain⟨v,σ',H',I',r,q⟩:=q;exact⟨v,σ',H',I',r,QG.frz ok.len q⟩
variable {Ω : Wd}
def Bl.frz(b:Bl Ω):Bl Ω where
 lev:=b.lev
 chk:=b.chk
 wp Γ S W:=b.wp Γ S {W with rt:=Frz S.length W.rt}
 sound:=by
  intro X r top N nm sts Γ S W A hl hc hw
  exact Oh (b.sound A hl hc hw)
def hand(W:WD)(ds:List D)(S:Store):Prop:=W (.lst ds) S∨W (.loc S.length) (S++[ds])
theorem yH(h:hand W ds S)(hd:aj ds=true)(hS:flat S):Frz S.length W (.loc S.length) (S++[ds]):=by
 rcases h with h | h
 . exact .inr ⟨ds,S,rfl,rfl,x5 _,hd,hS,h⟩
 . exact .inl h
theorem Jy{X:Cx}{o e:Expr}{apos cpos:Pos}(h:Ev X Γ S o λ x S1=>∃k,x=.loc k/\Ev X Γ S1 e λ d S2=>∃ds,S2[k]? =some ds/\ds.length<1000000/\W .non (S2.set k (ds++[d])))
 (hbase:attributeBase o "append" X.env (eval o X.env)=eval o X.env)(hs:starEach [e] X.env=[(false,eval e X.env)])(hline:(apos.endLine==cpos.line)=true):Ev X Γ S (.Call (.Attribute o "append" apos) [e] [] cpos) W:=by
 intro pins s σ H O I env st
 have hty:∀(O1:Own)(x:D)(v:V)(H1:Hp)(S1:Store),(∃k,x=.loc k)->StOk X.K O1 H1 S1->Rep X.K O1 H1 v x->tyV X.K "list" v H1:=by
  rintro O1 x v H1 S1 ⟨k,rfl⟩ ok r
  cases r with
  | @loc a _ ha=>
    have hl:k<S1.length:=by rw[←ok.len];exact(y3.mp ha).1
    obtain⟨xs,hx,_⟩:=ok.obj k a S1[k] ha (y4 hl)
    exact .inl ⟨rfl,xs,SqL.of hx⟩
 have hA:PA X [e] (λ σ H Q=>∃O Γ S W',EnvOk X.K O H σ Γ/\StOk X.K O H S/\Ev X Γ S e W'/\∀v H',QG X.K O H W' v H'->Q [v] H'):=by
  rintro pos pins s σ H Q I ⟨O,Γ,S,W',env,st,he,k⟩
  rw[hs]
  show wpAny _ _ (spliced ((false,eval e X.env)::backTo pos (starEach [] X.env))) _ _ s
  refine Calls.spliced_cons (thn (he pins s σ H O I env st) λ u s1 hq_=>?_)
  obtain⟨v,H1,I1,r1,q⟩:=hq_
  exact Calls.spliced_nil ⟨[v],H1,I1,.cons r1 .nil,k v H1 q⟩
 refine LK (T:="list") PySem.F.plainAttrs_list PySem.F.slot_list_append PySem.F.type_list_append vp (h.pe) hA hbase (by rw[hs];rfl) hline hs rfl pins s σ H _ I ⟨O,env,st,λ v H' q=>?_⟩
 obtain⟨O1,x,S1,⟨k,rfl,he⟩,st1,ok1,rep1⟩:=q
 refine⟨hty O1 _ v H' S1 ⟨k,rfl⟩ ok1 rep1,O1,Γ,S1,_,env.mono st1,ok1,he,λ v2 H2 q2=>?_⟩
 obtain⟨O2,d,S2,⟨ds,hk,hz,w⟩,st2,ok2,rep2⟩:=q2
 have r:=rep1.mono st2
 cases r with
 | @loc a _ ha=>
   obtain⟨xs,hx,q1⟩:=ok2.obj k a ds ha hk
   exact⟨a,xs,v2,rfl,rfl,hx,by rw[q1.length];exact Nat.lt_of_lt_of_le hz (by decide),O2,.non,_,w,(st1.trans st2).trans (Step.put (bN ha) _),ok2.put ha (q1.append (.cons rep2 .nil)),.non⟩
def nameE:Expr->Bool
 | .Name .. =>true
 | _=>false
def Ex.m_append(o a:Ex Ω):Ex Ω where
 lev:=max o.lev a.lev
 chk top N nm e:=match e with | .Call (.Attribute x m p) [y] [] q=>(m==("append":Str))&&(nameE x&&((p.endLine==q.line)&&(okE y&&(o.chk top N nm x&&a.chk top N nm y)))) | _=>false
 wp Γ S W:=o.wp Γ S λ x S1=>match x with | .loc k=>a.wp Γ S1 λ d S2=>∃ds,S2[k]? =some ds/\ds.length<1000000/\W .non (S2.set k (ds++[d])) | _=>False
 sound:=by
  intro X r top N nm e Γ S W A hl hc hw
  obtain⟨l1,l2⟩:=lv2 hl
  split at hc
  . rename_i x m p y q
    obtain⟨h1,g⟩:=aa hc
    obtain⟨h2,g⟩:=aa g
    obtain⟨h3,g⟩:=aa g
    obtain⟨h4,g⟩:=aa g
    obtain⟨h5,h6⟩:=aa g
    have e:=eq_of_beq h1
    subst e
    refine Jy ((o.sound A l1 h5 hw).mono λ x S1 q=>?_) ?_ (aA h4 [] _) h3
    . cases x<;>first | exact q.elim | exact⟨_,rfl,a.sound A l2 h6 q⟩
    . cases x<;>first | rfl | exact ff h2
  . exact ff hc
theorem Nr{X:Cx}{c:Expr}{body:List Stmt}{pos:Pos}{W:DL.Fin}(h:∃(Pv:Nat->Gam->Store->Prop) (m0:Nat),Pv m0 Γ S/\∀m Γ' S',Pv m Γ' S'->
 Ts X Γ' S' c λ k S1=>(k=true->Rns X Γ' S1 body {W with nx:=λ G T=>∃m',m'<m/\Pv m' G T,ct:=λ G T=>∃m',m'<m/\Pv m' G T,bk:=W.nx})/\(k=false->W.nx Γ' S1))
 (hp:PassesOwn (model X.prog X.w) X.A X.env X.xe):Rn X Γ S (.While c body [] pos) W:=by
 intro pins s σ H O I env ok
 obtain⟨Pv,m0,p0,turn⟩:=h
 refine wpAny_While (codeAny_whileLoop (λ n s'=>∃σ' H' O' Γ' S',Inv X pins σ' H' s'/\Pv n Γ' S'/\Step O O' H H'/\StOk X.K O' H' S'/\EnvOk X.K O' H' σ' Γ') ?_ m0 ⟨σ,H,O,Γ,S,I,p0,Step.refl _ _,ok,env⟩)
 rintro n s1 ⟨σ1,H1,O1,Γ1,S1,I1,p1,st1,ok1,env1⟩
 refine wpAny_passesOwn hp (thn (turn n Γ1 S1 p1 pins s1 σ1 H1 O1 I1 env1 ok1) λ b s2 hq_=>?_)
 obtain⟨H2,I2,O2,S2,w2,st2,ok2⟩:=hq_
 cases b with
 | true=>
   rw[if_pos rfl]
   refine wpAny_passesOwn hp (thn (w2.1 rfl pins s2 σ1 H2 O2 I2 (env1.mono st2) ok2) λ f s3 q3=>?_)
   cases f with
   | next=>
     obtain⟨σ3,H3,I3,O3,Γ3,S3,⟨m',hm,p3⟩,st3,ok3,env3⟩:=q3
     exact⟨m',hm,σ3,H3,O3,Γ3,S3,I3,p3,(st1.trans st2).trans st3,ok3,env3⟩
   | cont=>
     obtain⟨σ3,H3,I3,O3,Γ3,S3,⟨m',hm,p3⟩,st3,ok3,env3⟩:=q3
     exact⟨m',hm,σ3,H3,O3,Γ3,S3,I3,p3,(st1.trans st2).trans st3,ok3,env3⟩
   | brk=>
     obtain⟨σ3,H3,I3,q⟩:=q3
     exact⟨σ3,H3,I3,QN.pre (st1.trans st2) q⟩
   | ret v=>
     obtain⟨x,σ3,H3,I3,r3,q⟩:=q3
     exact⟨x,σ3,H3,I3,r3,QG.pre (st1.trans st2) q⟩
 | false=>
   rw[if_neg y7]
   exact wpAny_execs_nil ⟨σ1,H2,I2,O2,Γ1,S2,w2.2 rfl,st1.trans st2,ok2,env1.mono st2⟩
@[irreducible] noncomputable def qR(c:Te Ω)(body:Bl Ω)(Γ:Gam)(S:Store)(W:DL.Fin):Prop:=∃(Pv:Nat->Gam->Store->Prop) (m0:Nat),Pv m0 Γ S/\∀m Γ' S',Pv m Γ' S'->
 c.wp Γ' S' λ k S1=>(k=true->body.wp Γ' S1 {W with nx:=λ G T=>∃m',m'<m/\Pv m' G T,ct:=λ G T=>∃m',m'<m/\Pv m' G T,bk:=W.nx})/\(k=false->W.nx Γ' S1)
theorem yz{c:Te Ω}{body:Bl Ω}{W:DL.Fin}(h:∃(Pv:Nat->Gam->Store->Prop) (m0:Nat),Pv m0 Γ S/\∀m Γ' S',Pv m Γ' S'->
 c.wp Γ' S' λ k S1=>(k=true->body.wp Γ' S1 {W with nx:=λ G T=>∃m',m'<m/\Pv m' G T,ct:=λ G T=>∃m',m'<m/\Pv m' G T,bk:=W.nx})/\(k=false->W.nx Γ' S1)):qR c body Γ S W:=by unfold qR;exact h
def Sm.while(c:Te Ω)(body:Bl Ω):Sm Ω where
 lev:=max c.lev body.lev
 chk top N nm st:=match st with | .While t b [] _=>c.chk top N nm t&&body.chk top N nm b | _=>false
 wp Γ S W:=qR c body Γ S W
 sound:=by
  intro X r top N nm st Γ S W A hl hc hw
  obtain⟨l1,l2⟩:=lv2 hl
  split at hc
  . obtain⟨h1,h2⟩:=aa hc
    unfold qR at hw
    obtain⟨Pv,m0,p0,turn⟩:=hw
    exact Nr ⟨Pv,m0,p0,λ m Γ' S' p=>Ts.mono (c.sound A l1 h1 (turn m Γ' S' p)) λ k S1 q=>⟨λ hk=>body.sound A l2 h2 (q.1 hk),q.2⟩⟩ (by rw[A.xe];exact PassesOwn.never)
  . exact ff hc
def Sm.never:Sm Ω where
 lev:=0
 chk _ _ _ st:=match st with | .Raise _ _ _=>true | _=>false
 wp _ _ _:=False
 sound:=λ _ _ _ h=>h.elim
theorem gU(S:Store)(x:List D):(S++[x])[S.length]? =some x:=by simp
theorem gP(S:Store)(x y:List D):(S++[x]).set S.length y=S++[y]:=by simp
theorem bf{α β:Type}{xs:List α}{f:α->β}{i:Nat}{e:β}(h:(xs.map f)[i]? =some e):∃x,xs[i]? =some x/\e=f x:=by
 rw[y9]at h
 cases e1:xs[i]? with
 | none=>rw[e1]at h;cases h
 | some x=>rw[e1]at h;cases h;exact⟨x,rfl,rfl⟩
theorem En{α β:Type}{xs:List α}{f:Nat->α->β}{i:Nat}{e:β}(h:(xs.mapIdx f)[i]? =some e):∃x,xs[i]? =some x/\e=f i x:=by
 rw[List.getElem?_mapIdx]at h
 cases e1:xs[i]? with
 | none=>rw[e1]at h;cases h
 | some x=>rw[e1]at h;cases h;exact⟨x,rfl,rfl⟩
theorem di{cap:List (Option Nat)}{elt:Ex Ω}{tg:Tg}{S1:Store}{α:Type}{xs:List α}{enc:α->D}(f:α->D)(hz:xs.length≤1000000)(h:∀(i:Nat)(x:α),xs[i]? =some x->∀Q:WD,Q (f x) S1->tg.wp (enc x) (capt cap Γ) λ Γ2=>elt.wp Γ2 S1 Q)
 (w:W (.lst (xs.map f)) S1):mG cap Γ elt tg (Cd.no (Ω:=Ω)) W (xs.map enc) S1:=by
 refine fK ⟨by rw[y8];exact hz,λ i acc S'=>acc=(xs.take i).map f/\S'=S1,⟨rfl,rfl⟩,?_,?_⟩
 . rintro i d acc S' hd ⟨rfl,rfl⟩
   obtain⟨x,hx,rfl⟩:=bf hd
   refine Tg.mono (h i x hx (λ y S4=>(xs.take i).map f++[y]=(xs.take (i+1)).map f/\S4=S') ⟨?_,rfl⟩) λ G q=>⟨λ _=>q,λ z=>tf z⟩
   rw[aJ hx,List.map_append];rfl
 . rintro acc S' ⟨rfl,rfl⟩
   rw[y8,List.take_length];exact w
theorem wM1{j:Int}{P:Prop}(h:L2.CMul i j)(p:P):L2.CMul i j/\P:=⟨h,p⟩
theorem wM2{j:Int}{P:Prop}(h:L2.CPow i j)(p:P):L2.CPow i j/\P:=⟨h,p⟩
theorem wM3{j:Int}{P:Prop}(h:0<i/\i<j)(p:P):(0<i/\i<j)/\P:=⟨h,p⟩
theorem wM4{P:Prop}(h:0<i)(p:P):0<i/\P:=⟨h,p⟩
theorem wM5{α:Type}{l:List α}{P:Prop}(h:l.length≤1000000)(p:P):l.length≤1000000/\P:=⟨h,p⟩
theorem wM6{α β:Type}{l:List α}{k:List β}{P:Prop}(h:l.length+k.length≤1000000)(p:P):l.length+k.length≤1000000/\P:=⟨h,p⟩
theorem wM7{k j:Nat}{n:Int}{Q:List D->Nat->Prop}(h:S[k]? =some ds)(g:L2.ixN ds.length n=some j)(q:Q ds j):∃ds j,S[k]? =some ds/\L2.ixN ds.length n=some j/\Q ds j:=⟨ds,j,h,g,q⟩
theorem wM8{k:Nat}{n:Int}{d:D}{Q:List D->D->Prop}(h:S[k]? =some ds)(g:L2.atI ds n=some d)(q:Q ds d):∃ds d,S[k]? =some ds/\L2.atI ds n=some d/\Q ds d:=⟨ds,d,h,g,q⟩
theorem wM9{n:Int}{d:D}{Q:D->Prop}(g:L2.atI ds n=some d)(q:Q d):∃d,L2.atI ds n=some d/\Q d:=⟨d,g,q⟩
end RF
namespace RF
open PySem PySem.Spec L2 DL
open PyProof.Rows
def iD(k:Nat)(ds:List D):Option D->Option D
 | some (.loc j)=>if j=k then some (.lst ds)else some (.loc j)
 | o=>o
def atTop(Γ:Gam):Prop:=∀(i:Nat)(d:D),Γ[i]? =some (some d)->ak d=true∨∃j,d=.loc j
def QL(n:Nat)(W:Gam->Store->Prop):Gam->Store->Prop:=λ Γ S1=>W Γ S1∨∃ds S',S1=S'++[ds]/\n≤S'.length/\aj ds=true/\flat S'/\atTop Γ/\W (Γ.map (iD S'.length ds)) S'
theorem QN.frz {K:PySem.W.Frag}{O:Own}{H H':Hp}{W:Gam->Store->Prop}{σ:DL.St}{n:Nat}(hn:O.A.length=n)(q:QN K O H (QL n W) σ H'):QN K O H W σ H':=by
 obtain⟨O',Γ,S1,w,st,ok,r⟩:=q
 rcases w with w | ⟨ds,S',rfl,hl,hd,hS,ht,w⟩
 . exact⟨O',Γ,S1,w,st,ok,r⟩
 . obtain ⟨st2,ok2,sub,na⟩:=jh st ok (by omega) hS
   have len:O'.A.length=S'.length+1:=by have:=ok.len;simpa using this
   refine⟨⟨O'.A.take S'.length,O'.B⟩,_,S',w,st2,ok2,⟨by rw[y8];exact r.len,λ i d e=>?_⟩⟩
   . rw [y9] at e
     cases e1:Γ[i]? with
     | none=>rw[e1]at e;cases e
     | some o=>
       rw[e1]at e
       cases o with
       | none=>cases e
       | some d0=>
         obtain⟨v,hv,rv⟩:=r.at_ i d0 e1
         rcases ht i d0 e1 with nl | ⟨j,rfl⟩
         . have e2:d0=d:=by
            cases d0 with
            | loc j=>simp[ak]at nl
            | _=>simpa[iD]using e
           subst e2
           exact⟨v,hv,cG sub nl rv⟩
         . cases rv with
           | @loc a _ ha=>
             by_cases hj:j=S'.length
             . subst hj
               have e2:d=.lst ds:=by simpa[iD]using e.symm
               subst e2
               obtain⟨xs,hx,q1⟩:=ok.obj S'.length a ds ha (by simp)
               exact⟨_,hv,.lst (.inl ⟨na _ a (x5 _) ha,.inl hx⟩) (cA sub hd q1)⟩
             . have e2:d=.loc j:=by simpa[iD,hj]using e.symm
               subst e2
               refine⟨_,hv,.loc ?_⟩
               have:j<O'.A.length:=(y3.mp ha).1
               show(O'.A.take S'.length)[j]? =some (a,false)
               rw[List.getElem?_take,if_pos (by omega)];exact ha
section
variable {Ω : Wd}
def Bl.fzl(b:Bl Ω):Bl Ω where
 lev:=b.lev
 chk:=b.chk
 wp Γ S W:=b.wp Γ S {W with nx:=QL S.length W.nx}
 sound:=by
  intro X r top N nm sts Γ S W A hl hc hw pins s σ H O I env ok
  refine thn (b.sound A hl hc hw pins s σ H O I env ok) λ f s' q=>?_
  cases f with
  | next=>obtain⟨σ,H',I,q⟩:=q;exact⟨σ,H',I,QN.frz ok.len q⟩
  | brk=>exact q
  | cont=>exact q
  | ret u=>exact q
end
end RF
namespace RF
open PySem PySem.Spec L2 DL
open PyProof.Rows
variable {Γ : Gam}
theorem Gg{K:PySem.W.Frag}{O:Own}{H:Hp}{a:Addr}{k:Nat}{ds:List D}(h:O.A[k]? =some (a,false)):uC K (Itl K a) O H (λ S=>S[k]? =some ds) ds:=by
 intro O' H' S' st ok hS i
 have h':O'.A[k]? =some (a,false):=st.lc k _ h
 obtain⟨xs,hx,r⟩:=ok.obj k a ds h' hS
 have hq:SqL K H' a xs:=SqL.of hx
 refine⟨λ d hd=>?_,λ hi=>⟨xs,hq,by rw[r.length];exact Nat.le_of_eq hi.symm⟩⟩
 obtain⟨v,hv,rv⟩:=r.get hd
 refine⟨⟨xs,v,hq,hv⟩,λ x H'' y=>?_⟩
 obtain⟨e,y⟩:=y
 subst e
 have e:=y xs hq
 rw[hv]at e
 cases e
 exact⟨aV.refl _,rv⟩
abbrev itC(W:List D->(Store->Prop)->Store->Prop):WD:=λ d S1=>match d with
 | .lst ds=>W ds (λ _=>True) S1
 | .tup ds=>W ds (λ _=>True) S1
 | .loc k=>∃ds,S1[k]? =some ds/\W ds (λ S=>S[k]? =some ds) S1
 | _=>False
theorem Qw{X:Cx}{S:Store}{tg e:Expr}{W:List D->(Store->Prop)->Store->Prop}(h:Ev X Γ S e (itC W)):ItC X Γ S tg e W:=by
 intro pins s σ H O I env st
 refine thn (h pins s σ H O I env st) λ u s1 hq_=>?_
 obtain⟨v,H1,I1,r1,O1,d,S1,w,st1,ok1,rep⟩:=hq_
 cases rep with
 | @lst a xs ds h1 q1=>
   cases r1
   obtain⟨its,rv,p,hz⟩:=I1.list h1.sq
   refine wpAny_pyIter_list p.isList ?_
   refine⟨s1.heap.objs.size,[s1.heap.objs.size],_,_,H1,rfl,I1.kept (t':=s1.toks) λ b o e=>Heap.get?_push_of_some _ e,lQ a _,⟨_,Heap.get?_push_size _ rfl,rfl,rfl⟩,λ b hb=>?_,O1,ds,_,S1,w,st1,ok1,nU (nD h1 q1)⟩
   have e:b=s1.heap.objs.size:=by simpa using hb
   subst e
   exact I1.fpOk (x5 _) (I1.hok.fresh (x5 _))
 | @tup a xs ds h1 q1=>
   cases r1
   obtain⟨its,rv,p,hz⟩:=I1.tuple h1.sq
   refine wpAny_pyIter_tuple (show s1.heap.IsTuple a its.toArray from p) ?_
   refine⟨s1.heap.objs.size,[s1.heap.objs.size],_,_,H1,rfl,I1.kept (t':=s1.toks) λ b o e=>Heap.get?_push_of_some _ e,qz a _,⟨_,Heap.get?_push_size _ rfl,rfl,rfl⟩,λ b hb=>?_,O1,ds,_,S1,w,st1,ok1,nU (pX h1 q1)⟩
   have e:b=s1.heap.objs.size:=by simpa using hb
   subst e
   exact I1.fpOk (x5 _) (I1.hok.fresh (x5 _))
 | @loc a k h1=>
   cases r1
   obtain⟨ds,hk,w⟩:=w
   obtain⟨xs,hx,q1⟩:=ok1.obj k a ds h1 hk
   obtain⟨its,rv,p,hz⟩:=I1.list (SqL.of hx)
   refine wpAny_pyIter_list p.isList ?_
   refine⟨s1.heap.objs.size,[s1.heap.objs.size],_,_,H1,rfl,I1.kept (t':=s1.toks) λ b o e=>Heap.get?_push_of_some _ e,lQ a _,⟨_,Heap.get?_push_size _ rfl,rfl,rfl⟩,λ b hb=>?_,O1,ds,_,S1,w,st1,ok1,Gg h1⟩
   have e:b=s1.heap.objs.size:=by simpa using hb
   subst e
   exact I1.fpOk (x5 _) (I1.hok.fresh (x5 _))
 | _=>exact w.elim
theorem Q4{X:Cx}{S:Store}{W:DL.Fin}{pos:Pos}{tg iter:Expr}{body:List Stmt}(h:ItC X Γ S tg iter λ ds C S1=>∃Pv:Nat->Gam->Store->Prop,Pv 0 Γ S1/\(∀i Γ' S',Pv i Γ' S'->C S')/\
 (∀i d Γ' S',ds[i]? =some d->Pv i Γ' S'->BdW X tg d Γ' S' λ Γ2 S2=>Rns X Γ2 S2 body {W with nx:=Pv (i+1),ct:=Pv (i+1),bk:=W.nx})/\(∀Γ' S',Pv ds.length Γ' S'->W.nx Γ' S'))
 (hp:PassesOwn (model X.prog X.w) X.A X.env X.xe)(hc:X.calm=true)(hs:∀x,foldedSetIterable iter X.env x=pure x):Rn X Γ S (.For tg iter body [] pos) W:=by
 intro pins s σ H O I env ok
 let WI:List D->(Store->Prop)->Store->Prop:=λ ds C S1=>∃Pv:Nat->Gam->Store->Prop,Pv 0 Γ S1/\(∀i Γ' S',Pv i Γ' S'->C S')/\
     (∀i d Γ' S',ds[i]? =some d->Pv i Γ' S'->BdW X tg d Γ' S' λ Γ2 S2=>Rns X Γ2 S2 body {W with nx:=Pv (i+1),ct:=Pv (i+1),bk:=W.nx})/\(∀Γ' S',Pv ds.length Γ' S'->W.nx Γ' S')
 have hI:PI X tg iter (λ σ H R=>∃O,EnvOk X.K O H σ Γ/\StOk X.K O H S/\∀J H',QIc X.K O H WI J H'->R J H'):=λ pins s σ H R I hh=>by
  obtain⟨O,env,st,k⟩:=hh
  refine thn (h pins s σ H O I env st) λ _ _ q=>thn q λ _ _ q2=>?_
  obtain⟨it,fp,tn,J,H',e1,e2,e3,e4,e5,e6⟩:=q2
  exact⟨it,fp,tn,J,H',e1,e2,e3,e4,e5,k J H' e6⟩
 have hG:PG X tg (λ v σ H Q=>∃O d Γ S W',EnvOk X.K O H σ Γ/\StOk X.K O H S/\Rep X.K O H v d/\BdW X tg d Γ S W'/\∀σ' H',QN X.K O H W' σ' H'->Q σ' H'):=λ pins s σ H v u Q I ru hh=>by
  obtain⟨O,d,Γ,S,W',env,st,r,b,k⟩:=hh
  refine thn (b pins s σ H O v u I env st r ru) λ _ _ q2=>?_
  obtain⟨σ',H',I',q⟩:=q2
  exact⟨σ',H',I',k σ' H' q⟩
 have hB:PSs X body (λ D σ H=>∃O Γ S W',EnvOk X.K O H σ Γ/\StOk X.K O H S/\Rns X Γ S body W'/\(∀σ' H',QN X.K O H W'.nx σ' H'->D.nx σ' H')/\(∀v H',QG X.K O H W'.rt v H'->D.rt v H')/\(∀σ' H',QN X.K O H W'.bk σ' H'->D.bk σ' H')/\∀σ' H',QN X.K O H W'.ct σ' H'->D.ct σ' H'):=
  λ pins s σ H D I hh=>by
   obtain⟨O,Γ,S,W',env,st,b,k1,k2,k3,k4⟩:=hh
   refine thn (b pins s σ H O I env st) λ f s' q=>?_
   cases f with
   | next=>obtain⟨σ',H',I',q⟩:=q;exact⟨σ',H',I',k1 σ' H' q⟩
   | brk=>obtain⟨σ',H',I',q⟩:=q;exact⟨σ',H',I',k3 σ' H' q⟩
   | cont=>obtain⟨σ',H',I',q⟩:=q;exact⟨σ',H',I',k4 σ' H' q⟩
   | ret u=>obtain⟨v,σ',H',I',r,q⟩:=q;exact⟨v,σ',H',I',r,k2 v H' q⟩
 refine Je hp hc hI hG hB hs pins s σ H _ I ⟨O,env,ok,λ J H1 q=>?_⟩
 obtain⟨O1,ds,C,S1,⟨Pv,p0,pC,pt,pe⟩,st1,ok1,yl⟩:=q
 refine⟨λ i m σ' H'=>m=ds.length-i/\i≤ds.length/\∃O' Γ' S',Pv i Γ' S'/\Step O1 O' H1 H'/\StOk X.K O' H' S'/\EnvOk X.K O' H' σ' Γ',⟨ds.length,by simp,Nat.zero_le _,O1,Γ,S1,p0,Step.refl _ _,ok1,env.mono st1⟩,?_⟩
 rintro i m σ2 H2 ⟨rfl,hi,O2,Γ2,S2,p2,st2,ok2,env2⟩
 obtain⟨y1,y2⟩:=yl O2 H2 S2 st2.conv ok2 (pC _ _ _ p2) i
 by_cases hlt:i<ds.length
 . obtain⟨go,yy⟩:=y1 ds[i] (y4 hlt)
   refine .inr ⟨go,λ σ' H'=>i+1≤ds.length/\∃O' Γ' S',Pv (i+1) Γ' S'/\Step O1 O' H1 H'/\StOk X.K O' H' S'/\EnvOk X.K O' H' σ' Γ',λ σ' H' q=>⟨ds.length-(i+1),by omega,rfl,q.1,q.2⟩,λ x H3 y=>?_⟩
   obtain⟨sm,rx⟩:=yy x H3 y
   have st3:=Step.same (O:=O2) sm
   refine⟨O2,ds[i],Γ2,S2,_,env2.mono st3,ok2.same sm,rx,pt i ds[i] Γ2 S2 (y4 hlt) p2,λ σ4 H4 q4=>?_⟩
   obtain⟨O4,Γ4,S4,w4,st4,ok4,env4⟩:=q4
   have stA:=(st2.trans st3).trans st4
   refine⟨O4,Γ4,S4,_,env4,ok4,w4,?_,?_,?_,?_⟩
   . rintro σ5 H5 ⟨O5,Γ5,S5,w5,st5,ok5,env5⟩
     exact⟨hlt,O5,Γ5,S5,w5,stA.trans st5,ok5,env5⟩
   . exact λ v H' q=>QG.pre (st1.trans stA) q
   . exact λ σ' H' q=>QN.pre (st1.trans stA) q
   . rintro σ5 H5 ⟨O5,Γ5,S5,w5,st5,ok5,env5⟩
     exact⟨hlt,O5,Γ5,S5,w5,stA.trans st5,ok5,env5⟩
 . have e:i=ds.length:=by omega
   subst e
   exact .inl ⟨y2 rfl,O2,Γ2,S2,pe Γ2 S2 p2,st1.trans st2,ok2,env2⟩
section
variable {Ω : Wd}
@[irreducible] noncomputable def Fo(Γ:Gam)(tg:Tg)(body:Bl Ω)(W:DL.Fin)(k:Nat)(ds:List D)(S1:Store):Prop:=
  ∃Pv:Nat->Gam->Store->Prop,Pv 0 Γ S1/\(∀i Γ' S',Pv i Γ' S'->S'[k]? =some ds)/\(∀i d Γ' S',ds[i]? =some d->Pv i Γ' S'->tg.wp d Γ' λ Γ2=>body.wp Γ2 S' {W with nx:=Pv (i+1),ct:=Pv (i+1),bk:=W.nx})/\(∀Γ' S',Pv ds.length Γ' S'->W.nx Γ' S')
theorem Ej{tg:Tg}{body:Bl Ω}{W:DL.Fin}{k:Nat}{ds:List D}{S1:Store}(h:∃Pv:Nat->Gam->Store->Prop,Pv 0 Γ S1/\(∀i Γ' S',Pv i Γ' S'->S'[k]? =some ds)/\(∀i d Γ' S',ds[i]? =some d->Pv i Γ' S'->tg.wp d Γ' λ Γ2=>body.wp Γ2 S' {W with nx:=Pv (i+1),ct:=Pv (i+1),bk:=W.nx})/\(∀Γ' S',Pv ds.length Γ' S'->W.nx Γ' S')):Fo Γ tg body W k ds S1:=by unfold Fo;exact h
def Sm.forL(tg:Tg)(it:Ex Ω)(body:Bl Ω):Sm Ω where
 lev:=max it.lev body.lev
 chk top N nm st:=match st with | .For t i b [] _=>okE i&&(tg.chk top N nm t&&(it.chk top N nm i&&body.chk top N nm b)) | _=>false
 wp Γ S W:=it.wp Γ S λ d S1=>match d with
  | .lst ds=>iB Γ tg body W ds S1
  | .tup ds=>iB Γ tg body W ds S1
  | .loc k=>∃ds,S1[k]? =some ds/\Fo Γ tg body W k ds S1
  | _=>False
 sound:=by
  intro X r top N nm st Γ S W A hl hc hw
  obtain⟨l1,l2⟩:=lv2 hl
  split at hc
  . rename_i t i b pos
    obtain⟨h1,hc⟩:=aa hc
    obtain⟨h2,hc⟩:=aa hc
    obtain⟨h3,h4⟩:=aa hc
    have step:∀(Pv:Nat->Gam->Store->Prop)(ds:List D),(∀i d Γ' S',ds[i]? =some d->Pv i Γ' S'->tg.wp d Γ' λ Γ2=>body.wp Γ2 S' {W with nx:=Pv (i+1),ct:=Pv (i+1),bk:=W.nx})->∀i d Γ' S',ds[i]? =some d->Pv i Γ' S'->BdW X t d Γ' S' λ Γ2 S2=>Rns X Γ2 S2 b {W with nx:=Pv (i+1),ct:=Pv (i+1),bk:=W.nx}:=
     λ Pv ds pt i d Γ' S' hd hp=>BdW.mono (Tg.sound A (W:=λ Γ2 S2=>body.wp Γ2 S2 {W with nx:=Pv (i+1),ct:=Pv (i+1),bk:=W.nx}) h2 (pt i d Γ' S' hd hp)) λ Γ2 S2 q=>body.sound A l2 h4 q
    refine Q4 (Qw (Ev.mono (it.sound A l1 h3 hw) λ d S1 q=>?_)) (by rw[A.xe];exact PassesOwn.never) A.calm (lY h1 _)
    cases d with
    | lst ds=>
      have q:iB Γ tg body W ds S1:=q
      unfold iB at q
      obtain⟨Pv,p0,pt,pe⟩:=q
      exact⟨Pv,p0,λ _ _ _ _=>trivial,step Pv ds pt,pe⟩
    | tup ds=>
      have q:iB Γ tg body W ds S1:=q
      unfold iB at q
      obtain⟨Pv,p0,pt,pe⟩:=q
      exact⟨Pv,p0,λ _ _ _ _=>trivial,step Pv ds pt,pe⟩
    | loc k=>
      obtain⟨ds,hk,q⟩:=q
      unfold Fo at q
      obtain⟨Pv,p0,pC,pt,pe⟩:=q
      exact⟨ds,hk,Pv,p0,pC,step Pv ds pt,pe⟩
    | _=>exact(show False from q).elim
  . exact fE hc
end
theorem bC{Ω:Wd}{cap:List (Option Nat)}{elt:Ex Ω}{tg:Tg}{W:WD}{S1:Store}{C0:Store->Prop}{α:Type}{xs:List α}{enc:α->D}(f:α->D)(hz:xs.length≤1000000)(hC:C0 S1)(h:∀(i:Nat)(x:α),xs[i]? =some x->∀Q:WD,Q (f x) S1->tg.wp (enc x) (capt cap Γ) λ Γ2=>elt.wp Γ2 S1 Q)
 (w:W (.lst (xs.map f)) S1∨W (.loc S1.length) (S1++[xs.map f])):mz cap Γ elt tg (Cd.no (Ω:=Ω)) W (xs.map enc) C0 S1:=by
 refine nR ⟨by rw[y8];exact hz,λ i acc S'=>acc=(xs.take i).map f/\S'=S1,⟨rfl,rfl⟩,λ i acc S' q=>by rw[q.2];exact hC,?_,?_⟩
 . rintro i d acc S' hd ⟨rfl,rfl⟩
   obtain⟨x,hx,rfl⟩:=bf hd
   refine Tg.mono (h i x hx (λ y S4=>(xs.take i).map f++[y]=(xs.take (i+1)).map f/\S4=S') ⟨?_,rfl⟩) λ G q=>⟨λ _=>q,λ z=>tf z⟩
   rw[aJ hx,List.map_append];rfl
 . rintro acc S' ⟨rfl,rfl⟩
   rw[y8,List.take_length];exact w
end RF
namespace RF
open PySem PySem.Spec L2 DL
open PyProof.Rows
variable {ds : List D}
def iH(S:Store):D->Option (List D)
 | .lst ds=>some ds
 | .loc k=>S[k]?
 | _=>none
def putL(own:Bool)(W:WD)(ds:List D)(S:Store):Prop:=match own with
 | true=>W (.loc S.length) (S++[ds])
 | false=>W (.lst ds) S
section
variable {X : Cx} {S : Store} {W : WD}
theorem xm{pins:Pins}{s:Shared}{σ:DL.St}{H:Hp}{O:Own}{v:V}{d:D}(st:StOk X.K O H S)(r:Rep X.K O H v d)(h:iH S d=some ds):∃a xs,v=.ref a/\SqL X.K H a xs/\Reps X.K O H xs ds:=by
 cases r with
 | @lst a xs _ h1 q1=>cases h;exact⟨a,xs,rfl,h1.sq,q1⟩
 | @loc a k h1=>
   obtain⟨xs,hx,q1⟩:=st.obj k a ds h1 h
   exact⟨a,xs,rfl,SqL.of hx,q1⟩
 | _=>cases h
theorem G7{own:Bool}{K:PySem.W.Frag}{O:Own}{H:Hp}{p:Addr}{xs:List V}(w:putL own W ds S)(st:StOk K O H S)(h:H p=none)(r:Reps K O H xs ds):QG K O H W (.ref p) (upd H p (.lst xs)):=by
 cases own with
 | true=>exact lJ w st h r
 | false=>exact du w st h r
theorem QF{own:Bool}{x y:D}{es:List D}(hx:iH S x=some ds)(hy:iH S y=some es)(hz:ds.length+es.length≤1000000)(w:putL own W (ds++es) S):cL X .Add x y S W:=by
 intro pins s σ H O v w' u u' I st r1 r2 r3 r4
 obtain⟨a,xs,rfl,h1,q1⟩:=xm (pins:=pins) (s:=s) (σ:=σ) st r1 hx
 obtain⟨b,ys,rfl,h2,q2⟩:=xm (pins:=pins) (s:=s) (σ:=σ) st r2 hy
 cases r3
 cases r4
 obtain⟨its,v1,p1,_⟩:=I.list h1
 obtain⟨its2,v2,p2,_⟩:=I.list h2
 obtain⟨⟨cls,dd,data,sl⟩,n,ho,hc,hdd,hd⟩:=id p1
 obtain⟨⟨cls2,dd2,data2,sl2⟩,n2,ho2,hc2,hdd2,hd2⟩:=id p2
 simp only at hc hd hc2 hd2
 subst hc hd hc2 hd2
 have z:its.length+its2.length≤sizeLine:=by rw[←v1.length,←v2.length,q1.length,q2.length];exact small hz
 refine concat_meets ⟨_,ho,rfl⟩ ⟨_,ho2,rfl⟩ noFill_list_add seq_list_add PySem.F.slot_list_add PySem.F.entry_list_add (PySem.F.args_list_add_2 _ _)
  (list_addW a b its.toArray its2.toArray n n2 dd dd2 sl sl2 (by simpa using z)) ⟨ho,ho2,?_⟩
 have ea:its.toArray++its2.toArray=(its++its2).toArray:=by simp
 rw[ea]
 exact⟨.ref s.heap.objs.size,_,I.lnew (t':=s.toks) (v1.append v2) (by rw[w9,q1.length,q2.length];exact small hz),rfl,G7 w st I.fresh (q1.append q2)⟩
theorem RB{own:Bool}{x:D}{k:Int}(hx:iH S x=some ds)(hk: -(2 ^ 63)≤k/\k<2 ^ 63)(hz:ds.length*k.toNat≤1000000)(w:putL own W (List.replicate k.toNat ds).flatten S):cL X .Mult x (.int k) S W:=by
 intro pins s σ H O v w' u u' I st r1 r2 r3 r4
 obtain⟨a,xs,rfl,h1,q1⟩:=xm (pins:=pins) (s:=s) (σ:=σ) st r1 hx
 cases r2
 cases r3
 obtain⟨t,rfl⟩:=r4
 obtain⟨its,v1,p1,_⟩:=I.list h1
 obtain⟨⟨cls,dd,data,sl⟩,n,ho,hc,hdd,hd⟩:=id p1
 simp only at hc hd
 subst hc hd
 have l1:its.length=ds.length:=by rw[←v1.length,q1.length]
 have big:its.length*k.toNat≤1000000:=by rw[l1];exact hz
 have sz:(1000000:Nat)≤sizeLine:=by decide
 refine PySem.wpAny_binaryOp_repeat_ref (T:="list") (U:="int") (by decide) ⟨_,ho,rfl⟩ (λ s'=>typeIs_int s' k t) PySem.noFill_list_mul F.fills_int_mul F.slot_int_rmul PySem.repeat_list F.slot_int_index.lookup
  (call_meets F.slot_int_rmul (typeIs_int s k t) F.entry_int_rmul (F.args_int_rmul_2 _ _) (PySem.lm_int_rmul_list_any k t a its.toArray n dd sl) ⟨ho,rfl,⟨_,ho,rfl⟩,?_⟩)
 refine call_meets F.slot_list_mul ⟨_,ho,rfl⟩ F.entry_list_mul (F.args_list_mul_2 _ _) (PySem.lm_list_mul_any a its.toArray n dd sl k t ?_ ?_ ?_) ⟨ho,?_⟩
 . have c1:Builtin.List.listFitsIndex k=true:=by
    unfold Builtin.List.listFitsIndex
    rw[decide_eq_true (by omega),decide_eq_true (by omega)];rfl
   rw[c1];decide
 . rw[x8];omega
 . rw[x8]
   unfold Builtin.List.listTooLong
   rw[decide_eq_true_eq];omega
 . have ez:(List.replicate (if its.toArray.isEmpty=true then 0 else k.toNat) its.toArray).foldl (λ x1 x2=>x1++x2) #[]=(List.replicate k.toNat its).flatten.toArray:=by
    have fz:∀m:Nat,(List.replicate m its.toArray).foldl (λ x1 x2=>x1++x2) #[]=(List.replicate m its).flatten.toArray:=λ m=>by
     have:=foldl_rep its m []
     rw[List.nil_append]at this
     exact this
    rw[fz]
    by_cases e:its=[]
    . subst e;simp
    . have:its.toArray.isEmpty=false:=by simpa using e
      rw[this];rfl
   rw[ez]
   exact⟨.ref s.heap.objs.size,_,I.lnew (t':=s.toks) (v1.rep _) (by rw[len_rep,q1.length,Nat.mul_comm];exact small hz),rfl,G7 w st I.fresh (Reps.rep q1 _)⟩
theorem QQ{ns:List Int}(w:W (.int ns.sum) S)(hc:X.calm=true):cz X (.builtin "sum") [.tup (ns.map .int)] S W:=by
 intro pins s σ H O vs us I st r ru
 obtain⟨v,rfl,r'⟩:=bR r
 obtain⟨u,rfl,ru'⟩:=vals1 ru
 cases r' with
 | @tup a xs _ h1 q1=>
   cases ru'
   obtain⟨its,rv,pl,hz⟩:=I.tuple h1.sq
   have ex:=q1.ints
   subst ex
   have hi:IntsAre its ns:=intsAre_of rv
   obtain⟨zs,ez⟩:=hi.allInts.items
   have hT:s.heap.IsTuple a its.toArray:=pl
   rw[ez]at hT
   have hlt:a<s.heap.objs.size:=by obtain⟨_,e,_⟩:=hT;exact Heap.lt_size e
   refine call_sum_walkG (wpAny_pyIter_tuple hT ?_)
   refine⟨_,_,_,_,_,_,numAt zs,rfl,Walks.tuple (A:=X.A.in1) (I.ok.hd hc) _ a (Nat.ne_of_lt hlt) (intItems zs),⟨⟨_,Heap.get?_push_size _ rfl,rfl,rfl⟩,hT.push _⟩,(λ b hb=>?_),(λ _ _=>intItems_at),λ h' tk t' hk=>?_⟩
   . show b<(s.heap.push _).objs.size
     rw[Heap.size_push]
     rcases List.mem_cons.mp hb with rfl | hb
     . exact Nat.lt_succ_self _
     . rcases List.mem_cons.mp hb with rfl | hb
       . exact Nat.lt_succ_of_lt hlt
       . cases hb
   . have e:preSum (numAt zs) (intItems zs).size=ns.sum:=by
      rw[show(intItems zs).size=zs.size by simp[intItems],preSum_eq,List.take_of_length_le (by simp),←nums_intItems,←ez]
      exact congrArg List.sum hi.numsOf
     rw[e]
     refine⟨.int _,H,I.kept (λ b o q=>hk b o (λ z=>?_) (Heap.get?_push_of_some _ q)),⟨_,rfl⟩,QG.here w st (.int _)⟩
     have z':b=s.heap.objs.size:=by simpa using z
     exact absurd (Heap.lt_size q) (by rw[z'];exact Nat.lt_irrefl _)
end
def mj:Bf where
 x:="sum"
 id:="sum"
 boot:=by decide+kernel
 wp ds S W:=match ds with
  | [.lst ds]=>∃ns:List Int,ds=ns.map .int/\W (.int ns.sum) S
  | [.tup ds]=>∃ns:List Int,ds=ns.map .int/\W (.int ns.sum) S
  | _=>False
 sound:=by
  intro X ds S W hc hr h
  split at h
  . obtain⟨bs,rfl,h⟩:=h;exact TQ h hc
  . obtain⟨bs,rfl,h⟩:=h;exact QQ h hc
  . exact h.elim
def Ao(own:Bool)(op:Operator)(x y:D)(S:Store)(W:WD):Prop:=match op with
 | .Add=>∃ds es,iH S x=some ds/\iH S y=some es/\ds.length+es.length≤1000000/\putL own W (ds++es) S
 | .Mult=>∃ds k,iH S x=some ds/\y=.int k/\(-(2 ^ 63)≤k/\k<2 ^ 63)/\ds.length*k.toNat≤1000000/\putL own W (List.replicate k.toNat ds).flatten S
 | _=>False
theorem Hx{X:Cx}{own:Bool}{op:Operator}{x y:D}{S:Store}{W:WD}(h:Ao own op x y S W):cL X op x y S W:=by
 unfold Ao at h
 split at h
 . obtain⟨ds,es,h1,h2,h3,h4⟩:=h;exact QF h1 h2 h3 h4
 . obtain⟨ds,k,h1,rfl,h3,h4,h5⟩:=h;exact RB h1 h3 h4 h5
 . exact h.elim
section
variable {Ω : Wd}
def Ex.binL(own:Bool)(op:Operator)(a b:Ex Ω):Ex Ω where
 lev:=max a.lev b.lev
 chk top N nm e:=match e with | .BinOp l o r _=>(o==op)&&(a.chk top N nm l&&b.chk top N nm r) | _=>false
 wp Γ S W:=a.wp Γ S λ x S1=>b.wp Γ S1 λ y S2=>Ao own op x y S2 W
 sound:=by
  intro X r top N nm e Γ S W A hl hc hw
  obtain⟨l1,l2⟩:=lv2 hl
  cases e with
  | BinOp l o r' pos=>
    obtain⟨h1,h2⟩:=aa hc
    obtain⟨h2,h3⟩:=aa h2
    have e:o=op:=eq_of_beq h1
    subst e
    exact yK ((a.sound A l1 h2 hw).mono λ x S1 q=>(b.sound A l2 h3 q).mono λ y S2 q=>Hx q)
  | _=>exact fE hc
def Ex.fdiv(a b:Ex Ω):Ex Ω where
 lev:=max a.lev b.lev
 chk top N nm e:=match e with | .BinOp l o r _=>(o==.FloorDiv)&&(a.chk top N nm l&&b.chk top N nm r) | _=>false
 wp Γ S W:=a.wp Γ S λ x S1=>b.wp Γ S1 λ y S2=>match x,y with
  | .int i,.int j=>(0<j/\j<1000000000000000000000000000000000000000000000000000000000000)/\W (.int (i/j)) S2
  | _,_=>False
 sound:=by
  intro X r top N nm e Γ S W A hl hc hw
  obtain⟨l1,l2⟩:=lv2 hl
  cases e with
  | BinOp l o r' pos=>
    obtain⟨h1,h2⟩:=aa hc
    obtain⟨h2,h3⟩:=aa h2
    have e:o=.FloorDiv:=eq_of_beq h1
    subst e
    refine yK ((a.sound A l1 h2 hw).mono λ x S1 q=>(b.sound A l2 h3 q).mono λ y S2 q=>?_)
    split at q
    . rename_i i j
      refine jf (C:=λ _ j=>0<j/\j<1000000000000000000000000000000000000000000000000000000000000) (g:=λ i j=>i/j) (opI λ i j _ _ _ _ _ hc q=>?_) q.1 q.2
      have h1:(0:Int)<j:=hc.1
      have h2:j<1000000000000000000000000000000000000000000000000000000000000:=hc.2
      refine floordiv_int (by omega) (by rw[Int.fdiv_eq_ediv_of_nonneg i (by omega)];exact q) (.inl (PyProof.noPylong_of_log2 ?_))
      have h3:j.natAbs<2 ^ 200:=by omega
      have:j.natAbs.log2<200:=(Nat.log2_lt (by omega)).mpr h3
      omega
    . exact q.elim
  | _=>exact fE hc
end
end RF
namespace RF
open PySem PySem.Spec L2 DL
open PyProof.Rows
def Drp(n:Nat)(W:WD):WD:=λ d S1=>W d S1∨∃J S',S1=S'++J/\n≤S'.length/\ak d=true/\flat S'/\W d S'
theorem QG.drp{K:PySem.W.Frag}{O:Own}{H H':Hp}{W:WD}{v:V}{n:Nat}(hn:O.A.length=n)(q:QG K O H (Drp n W) v H'):QG K O H W v H':=by
 obtain⟨O',d,S1,w,st,ok,r⟩:=q
 rcases w with w | ⟨J,S',rfl,hl,hd,hS,w⟩
 . exact⟨O',d,S1,w,st,ok,r⟩
 . obtain⟨st2,ok2,sub,na⟩:=jh st ok (by omega) hS
   exact⟨_,d,S',w,st2,ok2,cG sub hd r⟩
section
variable {Ω : Wd}
def Bl.drp(b:Bl Ω):Bl Ω where
 lev:=b.lev
 chk:=b.chk
 wp Γ S W:=b.wp Γ S {W with rt:=Drp S.length W.rt}
 sound:=by
  intro X r top N nm sts Γ S W A hl hc hw pins s σ H O I env ok
  refine thn (b.sound A hl hc hw pins s σ H O I env ok) λ f s' q=>?_
  cases f with
  | next=>exact q
  | brk=>exact q
  | cont=>exact q
  | ret u=>obtain⟨v,σ',H',I',r,q⟩:=q;exact⟨v,σ',H',I',r,QG.drp ok.len q⟩
end
end RF
namespace RF
open PySem PySem.Spec L2 DL
open PyProof.Rows
abbrev tbl(led:Bool)(ps:List Nat):SetTable:={mask:=7,place:=ps.toArray,dummies:=#[],finger:=0,led:=led,moves:=0,plain:=true}
end RF
namespace RF
open PySem PySem.Spec L2 DL
open PyProof.Rows
mutual
def vwD(S:Store):D->D
 | .loc k=>match S[k]? with | some ds=>.lst ds | none=>.loc k
 | .tup ds=>.tup (nZ S ds)
 | .lst ds=>.lst (nZ S ds)
 | d=>d
def nZ(S:Store):List D->List D
 | []=>[]
 | d::ds=>vwD S d::nZ S ds
end
mutual
theorem Rx{K:PySem.W.Frag}{O:Own}{H:Hp}{S:Store}(st:StOk K O H S):∀{v:V}{x:D},Rep K O H v x->okD (vwD S x)=true->Sn K H v (vwD S x)
 | _,_,.non,_=>by simp only[vwD];exact .non
 | _,_,.bl b,_=>by simp only[vwD];exact .bl b
 | _,_,.int i,_=>by simp only[vwD];exact .int i
 | _,_,.str i,_=>by simp only[vwD];exact .str i
 | _,_,.tup h1 q1,h=>by simp only[vwD,okD]at h ⊢;exact .tup h1.sq (rK st q1 h)
 | _,_,.lst h1 q1,h=>by simp only[vwD,okD]at h ⊢;exact .lst h1.sq (rK st q1 h)
 | _,_,.loc (a:=a) (k:=k) hk,h=>by
   have hl:k<S.length:=by rw[←st.len];exact(y3.mp hk).1
   obtain⟨xs,hx,q⟩:=st.obj k a S[k] hk (y4 hl)
   have e:vwD S (.loc k)=.lst S[k]:=by simp only[vwD];rw[y4 hl]
   rw[e]at h ⊢
   exact .lst (SqL.of hx) (iU (by simpa[okD]using h) q)
 | _,_,.dic h1 e1,h=>by simp[vwD,okD]at h
 | _,_,.dlo h1 _,h=>by simp[vwD,okD]at h
theorem rK{K:PySem.W.Frag}{O:Own}{H:Hp}{S:Store}(st:StOk K O H S):∀{vs:List V}{xs:List D},Reps K O H vs xs->bB (nZ S xs)=true->Sns K H vs (nZ S xs)
 | _,_,.nil,_=>by simp only[nZ];exact .nil
 | _,_,.cons r t,h=>by
   simp only[nZ,bB,Bool.and_eq_true]at h ⊢
   exact .cons (Rx st r h.1) (rK st t h.2)
end
section
variable {Ω : Wd}
def Ex.m_clear(o:Ex Ω):Ex Ω where
 lev:=o.lev
 chk top N nm e:=match e with | .Call (.Attribute x m p) [] [] q=>(m==("clear":Str))&&(nameE x&&((p.endLine==q.line)&&o.chk top N nm x)) | _=>false
 wp Γ S W:=o.wp Γ S λ x S1=>match x with | .loc k=>∃ds,S1[k]? =some ds/\W .non (S1.set k []) | _=>False
 sound:=by
  intro X r top N nm e Γ S W A hl hc hw
  split at hc
  . rename_i x m p q
    obtain⟨h1,g⟩:=aa hc
    obtain⟨h2,g⟩:=aa g
    obtain⟨h3,h5⟩:=aa g
    have e:=eq_of_beq h1
    subst e
    intro pins s σ H O I env st
    have h:Ev X Γ S x λ x S1=>∃k,x=.loc k/\∃ds,S1[k]? =some ds/\W .non (S1.set k []):=(o.sound A hl h5 hw).mono λ x S1 q=>by
     cases x<;>first | exact q.elim | exact⟨_,rfl,q⟩
    refine Jo (T:="list") PySem.F.plainAttrs_list PySem.F.slot_list_clear PySem.F.type_list_clear JW (h.pe) (by cases x<;>first | rfl | exact ff h2) h3 pins s σ H _ I ⟨O,env,st,λ v H' q=>?_⟩
    obtain⟨O1,x,S1,⟨k,rfl,ds,hk,w⟩,st1,ok1,rep1⟩:=q
    cases rep1 with
    | @loc a _ ha=>
      obtain⟨xs,hx,q1⟩:=ok1.obj k a ds ha hk
      exact⟨.inl ⟨rfl,xs,SqL.of hx⟩,a,xs,rfl,rfl,hx,O1,.non,_,w,st1.trans (Step.put (bN ha) _),ok1.put ha .nil,.non⟩
  . exact ff hc
end
end RF
namespace RF
open PySem PySem.Spec L2 DL
open PyProof.Rows
section
variable {X : Cx}
theorem qi{K:PySem.W.Frag}{O:Own}{H:Hp}{vs:List V}{ds:List D}(r:Reps K O H vs ds)(n:Nat):Reps K O H (vs.eraseIdx n) (ds.eraseIdx n):=by
 match vs,ds,r,n with
 | [],[],.nil,_=>simp;exact .nil
 | _::_,_::_,.cons a t,0=>exact t
 | _::_,_::_,.cons a t,n+1=>exact .cons a (qi t n)
theorem Hl{Γ:Gam}{S:Store}{o e:Expr}{es:List Expr}{name:Str}{id:String}{r:V->List V->Hp->VK->Prop}{apos cpos:Pos}{W:WD}(slot:Slot "list" name id)(hty:typeOf (.builtin id)=pure (.type "method_descriptor"))(hm:MtM X id r)(hmo:∀{x:V}{vs:List V}{H:Hp}{Q Q':VK},r x vs H Q->(∀v H',Q v H'->Q' v H')->r x vs H Q')
 (h:Ev X Γ S o λ x S1=>∃k,x=.loc k/\EvA X Γ S1 (e::es) λ ds S2=>∃ds0,S2[k]? =some ds0/\∀(O:Own)(H:Hp)(a:Addr)(xs vs:List V),O.A[k]? =some (a,false)->H a=some (.lst xs)->Reps X.K O H xs ds0->Reps X.K O H vs ds->StOk X.K O H S2->r (.ref a) vs H (QG X.K O H W))
 (hbase:attributeBase o name X.env (eval o X.env)=eval o X.env)
 (hfew:((backTo cpos (starEach (e::es) X.env)).all (λ x=>!x.1)&&(backToKw cpos (keywordEach [] X.env)).all (λ x=>x.1.isSome)
  &&decide ((e::es).length+([]:List Keyword).length+(if([]:List Keyword).isEmpty then 0 else 1)<30))=true)
 (hline:(apos.endLine==cpos.line)=true)(hs:starEach (e::es) X.env=(false,eval e X.env)::starEach es X.env)(hplain:(backTo cpos (starEach es X.env)).any (·.1)=false):Ev X Γ S (.Call (.Attribute o name apos) (e::es) [] cpos) W:=by
 intro pins s σ H O I env st
 have hty':∀(O1:Own)(x:D)(v:V)(H1:Hp)(S1:Store),(∃k,x=.loc k)->StOk X.K O1 H1 S1->Rep X.K O1 H1 v x->tyV X.K "list" v H1:=by
  rintro O1 x v H1 S1 ⟨k,rfl⟩ ok r
  cases r with
  | @loc a _ ha=>
    have hl:k<S1.length:=by rw[←ok.len];exact(y3.mp ha).1
    obtain⟨xs,hx,_⟩:=ok.obj k a S1[k] ha (y4 hl)
    exact .inl ⟨rfl,xs,SqL.of hx⟩
 have hA:PA X (e::es) (λ σ H Q=>∃O Γ S W',EnvOk X.K O H σ Γ/\StOk X.K O H S/\EvA X Γ S (e::es) W'/\∀vs H',QA X.K O H W' vs H'->Q vs H'):=by
  rintro pos pins s σ H Q I ⟨O,Γ,S,W',env,st,he,k⟩
  exact thn (he pos pins s σ H O I env st) λ us s1 ⟨vs,H1,I1,r1,q⟩=>⟨vs,H1,I1,r1,k vs H1 q⟩
 refine LK (T:="list") PySem.F.plainAttrs_list slot hty hm (h.pe) hA hbase hfew hline hs hplain pins s σ H _ I ⟨O,env,st,λ v H' q=>?_⟩
 obtain⟨O1,x,S1,⟨k,rfl,he⟩,st1,ok1,rep1⟩:=q
 refine⟨hty' O1 _ v H' S1 ⟨k,rfl⟩ ok1 rep1,O1,Γ,S1,_,env.mono st1,ok1,he,λ vs H2 q2=>?_⟩
 obtain⟨O2,ds,S2,⟨ds0,hk,w⟩,st2,ok2,rep2⟩:=q2
 have r':=rep1.mono st2
 cases r' with
 | @loc a _ ha=>
   obtain⟨xs,hx,q1⟩:=ok2.obj k a ds0 ha hk
   exact hmo (w O2 H2 a xs vs ha hx q1 rep2 ok2) λ v' H3 q3=>q3.pre (st1.trans st2)
theorem CK{x:V}{vs:List V}{H:Hp}{Q Q':VK}(h:zT x vs H Q)(k:∀v H',Q v H'->Q' v H'):zT x vs H Q':=by
 obtain⟨l,xs,i,j,y,e1,e2,e3,e4,e5,e6,e7,q⟩:=h
 exact⟨l,xs,i,j,y,e1,e2,e3,e4,e5,e6,e7,k _ _ q⟩
end
section
variable {Ω : Wd}
theorem Qp{e:Expr}{env:Env}{cpos:Pos}(h:okE e=true):((backTo cpos (starEach [e] env)).all (λ x=>!x.1)&&(backToKw cpos (keywordEach [] env)).all (λ x=>x.1.isSome)
 &&decide ([e].length+([]:List Keyword).length+(if([]:List Keyword).isEmpty then 0 else 1)<30))=true:=by
 rw[aA h [] env];rfl
def Ex.m_pop(o a:Ex Ω):Ex Ω where
 lev:=max o.lev a.lev
 chk top N nm e:=match e with | .Call (.Attribute x m p) [y] [] q=>(m==("pop":Str))&&(nameE x&&((p.endLine==q.line)&&(okE y&&(o.chk top N nm x&&a.chk top N nm y)))) | _=>false
 wp Γ S W:=o.wp Γ S λ x S1=>match x with | .loc k=>a.wp Γ S1 λ d S2=>∃(i:Nat) (ds:List D) (y:D),d=.int i/\S2[k]? =some ds/\ds[i]? =some y/\ds.length≤1000000/\W y (S2.set k (ds.eraseIdx i)) | _=>False
 sound:=by
  intro X r top N nm e Γ S W A hl hc hw
  obtain⟨l1,l2⟩:=lv2 hl
  split at hc
  . rename_i x m p y q
    obtain⟨h1,g⟩:=aa hc
    obtain⟨h2,g⟩:=aa g
    obtain⟨h3,g⟩:=aa g
    obtain⟨h4,g⟩:=aa g
    obtain⟨h6,h7⟩:=aa g
    have e:=eq_of_beq h1
    subst e
    refine Hl F.slot_list_pop F.type_list_pop Ka CK ((o.sound A l1 h6 hw).mono λ x S1 q=>?_) ?_ (Qp h4) h3 (aA h4 _ _) rfl
    . cases x<;>first | exact q.elim | skip
      refine⟨_,rfl,bz ((a.sound A l2 h7 q).mono λ d S2 q=>cH ?_) (aA h4 _ _)⟩
      obtain⟨i,ds,y,rfl,hk,hi,hz,w⟩:=q
      refine⟨ds,hk,λ O H a xs vs ha hx rx rv st=>?_⟩
      cases rv with
      | cons r1 t=>
        cases t
        cases r1
        obtain⟨v,hv,rv⟩:=rx.get hi
        have hlt:i<xs.length:=(y3.mp hv).1
        have hxz:xs.length=ds.length:=rx.length
        refine⟨a,xs,_,i,v,rfl,rfl,hx,by omega,by omega,?_,hv,O,y,_,w,Step.put (bN ha) _,st.put ha (qi rx i),rv.mono (Step.put (bN ha) _)⟩
        unfold seqIndex?
        rw[if_neg (show ¬(i:Int)<0 by omega)]
        show(if(decide (0≤(i:Int))&&decide ((i:Int)<(xs.length:Int)))=true then some (i:Int).toNat else none)=some i
        rw[decide_eq_true (show 0≤(i:Int) by omega),decide_eq_true (show(i:Int)<(xs.length:Int) by omega)]
        rfl
    . cases x<;>first | rfl | exact ff h2
  . exact ff hc
end
end RF
namespace RF
open PySem PySem.Spec L2 DL
open PyProof.Rows
theorem yQ(l:Addr)(items:Array Value)(n:Nat)(b:Addr)(items2:Array Value)(n2:Nat)(dd2:Option Addr)(sl2:Array (Option Value))(hc0:¬(!items.isEmpty&&Builtin.List.listTooLong (items.size+items2.size))=true)(hc1:items.size≤sizeLine)(hs2:items.size+items2.size≤sizeLine+1):
 Meets (Builtin.«list.extend» ⟨[.ref l,.ref b],[]⟩) (λ _ R s=>s.heap.get? l=some {cls:=.type "list",dict:=none,data:=.seq items n,slots:=#[]}/\s.heap.get? b=some {cls:=.type "list",dict:=dd2,data:=.seq items2 n2,slots:=sl2}/\R (.ok (.ret Value.none)) {s with heap:=s.heap.update l (Obj.mapSeq λ x=>x++items2),toks:=s.toks}):=
 .of_wp λ prog w A R s h=>by
  obtain⟨hp,g,d,tk,os⟩:=s;obtain⟨hl,hb,h⟩:=h;have f1:=AutoSeq1.idx_int;have f2:=AutoSeq1.sub_tuple_tuple;have f3:=AutoSeq1.sub_list_list;have f4:=AutoSeq1.sub_tuple_list;have f5:=AutoSeq1.sub_list_tuple;
  have hz':(items++items2).size≤sizeLine+1:=by rw[Array.size_append];exact hs2
  wp_walk using(wpAny_updateSeq hl rfl (hz:=hc1) (_hz':=hz')),AutoSeq1.wpAny_loadPart' hl,AutoSeq1.wpAny_loadPart' hb;exact⟨_,rfl,h⟩
def Gf(K:PySem.W.Frag):V->List V->Hp->VK->Prop:=λ x vs H Q=>∃l b xs zs,x=.ref l/\vs=[.ref b]/\H l=some (.lst xs)/\SqL K H b zs/\xs.length+zs.length≤sizeLine/\Q .non (upd H l (.lst (xs++zs)))
theorem Gj{K:PySem.W.Frag}{x:V}{vs:List V}{H:Hp}{Q Q':VK}(h:Gf K x vs H Q)(k:∀v H',Q v H'->Q' v H'):Gf K x vs H Q':=by
 obtain⟨l,b,xs,zs,e1,e2,e3,e4,e5,q⟩:=h
 exact⟨l,b,xs,zs,e1,e2,e3,e4,e5,k _ _ q⟩
section
variable {X : Cx}
theorem Fx:MtM X "list.extend" (Gf X.K):=by
 intro pins s σ H x vs v us Q I rx rv h
 obtain⟨l,b,xs,zs,rfl,rfl,hH,hB,hz,q⟩:=h
 cases rx
 obtain⟨u,rfl,ru⟩:=rv.one
 cases ru
 obtain⟨z,its,n,r,hl,e⟩:=I.lstM hH
 obtain⟨its2,r2,p2,z2⟩:=I.list hB
 obtain⟨⟨cls2,dd2,data2,sl2⟩,n2,ho2,hc2,hdd2,hd2⟩:=id p2
 simp only at hc2 hd2
 subst hc2 hd2
 have l1:=r.length
 have l2:=r2.length
 have hsz:its.toArray.size+its2.toArray.size≤sizeLine:=by rw[x8,x8];omega
 have hlong:¬(!its.toArray.isEmpty&&Builtin.List.listTooLong (its.toArray.size+its2.toArray.size))=true:=by
  rw[Kh hsz,Bool.and_false]
  exact y7
 refine call_meets F.slot_list_extend ⟨_,e,rfl⟩ F.entry_list_extend (F.args_list_extend_2 _ _)
  (yQ l its.toArray n b its2.toArray n2 dd2 sl2 hlong (by rw[x8];omega) (by omega)) ⟨e,ho2,?_⟩
 refine⟨.non,_,I.lset (its':=its++its2) hH e (by simp) (r.append r2) ?_,rfl,q⟩
 rw[w9]
 omega
end
section
variable {Ω : Wd}
def Ex.m_extend(o a:Ex Ω):Ex Ω where
 lev:=max o.lev a.lev
 chk top N nm e:=match e with | .Call (.Attribute x m p) [y] [] q=>(m==("extend":Str))&&(nameE x&&((p.endLine==q.line)&&(okE y&&(o.chk top N nm x&&a.chk top N nm y)))) | _=>false
 wp Γ S W:=o.wp Γ S λ x S1=>match x with | .loc k=>a.wp Γ S1 λ d S2=>∃ds es,S2[k]? =some ds/\iH S2 d=some es/\ds.length+es.length≤1000000/\W .non (S2.set k (ds++es)) | _=>False
 sound:=by
  intro X r top N nm e Γ S W A hl hc hw
  obtain⟨l1,l2⟩:=lv2 hl
  split at hc
  . rename_i x m p y q
    obtain⟨h1,g⟩:=aa hc
    obtain⟨h2,g⟩:=aa g
    obtain⟨h3,g⟩:=aa g
    obtain⟨h4,g⟩:=aa g
    obtain⟨h5,h6⟩:=aa g
    have e:=eq_of_beq h1
    subst e
    refine Hl F.slot_list_extend F.type_list_extend Fx Gj ((o.sound A l1 h5 hw).mono λ x S1 q=>?_) ?_ (Qp h4) h3 (aA h4 _ _) rfl
    . cases x<;>first | exact q.elim | skip
      refine⟨_,rfl,bz ((a.sound A l2 h6 q).mono λ d S2 q=>cH ?_) (aA h4 _ _)⟩
      obtain⟨ds,es,hk,he,hz,w⟩:=q
      refine⟨ds,hk,λ O H a xs vs ha hx rx rv st=>?_⟩
      cases rv with
      | cons r1 t=>
        cases t
        have key:∀v,Rep X.K O H v d->∃b zs,v=.ref b/\SqL X.K H b zs/\Reps X.K O H zs es:=by
         intro v r1
         cases r1 with
         | @lst b zs _ g1 q1=>cases he;exact⟨b,zs,rfl,g1.sq,q1⟩
         | @loc b j g1=>
           obtain⟨zs,hz',q1⟩:=st.obj j b es g1 he
           exact⟨b,zs,rfl,SqL.of hz',q1⟩
         | _=>cases he
        obtain⟨b,zs,rfl,hb,rz⟩:=key _ r1
        refine⟨a,b,xs,zs,rfl,rfl,hx,hb,by rw[rx.length,rz.length];exact small hz,O,.non,_,w,Step.put (bN ha) _,?_,.non⟩
        exact st.put ha (rx.append rz)
    . cases x<;>first | rfl | exact ff h2
  . exact ff hc
end
end RF
namespace RF
open PySem PySem.Spec L2 DL
open PyProof.Rows
theorem HX(l1 l2:Addr)(xs ys:Array Value):
 Meets (Builtin.«zip.__new__» ⟨[.type "zip",.ref l1,.ref l2],[]⟩) (λ _ R s=>s.heap.IsList l1 xs/\s.heap.IsList l2 ys/\
  R (.ok (.ret (.ref (zh s.heap "list_iterator" "list_iterator" l1 l2).objs.size))) {s with heap:=zhz s.heap "list_iterator" "list_iterator" l1 l2}):=
 .of_wp λ prog w A R s h=>by
  obtain⟨hp,g,d,tk,os⟩:=s;obtain⟨a1,a2,h⟩:=h
  have hsub:=sub_zip
  have b1:Heap.IsList (Shared.heap ⟨hp,g,d,tk,os⟩) l1 xs:=a1
  have b2:Heap.IsList (Shared.heap ⟨hp.push {cls:=.type "list_iterator",data:=.fields #[.ref l1,.int 0 0]},g,d,tk,os⟩) l2 ys:=Heap.IsList.push a2 _
  wp_walk using wpAny_pyIter_list b1,wpAny_pyIter_list b2
  exact⟨_,rfl,h⟩
section
variable {X : Cx} {Γ : Gam} {S : Store} {pos : Pos}
theorem Lb{e1 e2:Expr}{elts:List Expr}{k:Nat}{tp p:Pos}{W:List D->Store->Prop}(h:Ev X Γ S e1 λ d S1=>Ev X Γ S1 e2 λ d' S2=>∃ds es,d=.lst ds/\d'=.lst es/\W (List.zipWith (λ x y=>.tup [x,y]) ds es) S2)(hm:X.mg "zip"=none)(hg:Gl X "zip")
 (hs:starEach [e1,e2] X.env=(false,eval e1 X.env)::starEach [e2] X.env)(hs2:starEach [e2] X.env=[(false,eval e2 X.env)]):
 ItW X Γ S (.Tuple elts k tp) (.Call (.Name "zip" p) [e1,e2] [] pos) W:=by
 intro pins s σ H O I env st
 have hA:EvA X Γ S [e1,e2] λ dd S2=>∃ds es,dd=[.lst ds,.lst es]/\W (List.zipWith (λ x y=>.tup [x,y]) ds es) S2:=
  bz (h.mono λ d S1 h1=>bz (h1.mono λ d' S2 ⟨ds,es,a,b,w⟩=>cH ⟨ds,es,by rw[a,b],w⟩) hs2) hs
 refine Call_ (aY I hg hm boot_zip (PyProof.Rows.callWith_type1 (thn (hA pos pins s σ H O I env st) λ us s1 hq_=>?_) hs (by rw[hs2];rfl)))
 obtain⟨vs,H1,I1,r1,O1,dd,S1,⟨ds,es,ed,w⟩,st1,ok1,rep⟩:=hq_
 subst ed
 cases rep with
 | cons ra rb=>
   cases rb with
   | cons rb rc=>
     cases rc
     obtain⟨u,u2,rfl,ru,ru2⟩:=vals2 r1
     cases ra with
     | @lst a xs _ h1 q1=>
       cases rb with
       | @lst b ys _ h2 q2=>
         cases ru
         cases ru2
         obtain⟨its,rv,pl,hz⟩:=I1.list h1.sq
         obtain⟨its2,rv2,pl2,hz2⟩:=I1.list h2.sq
         obtain⟨z4,p1,p2,p3,p4,p5,kp⟩:=zip_parts s1.heap "list_iterator" "list_iterator" a b
         refine callType_new F.called_zip (by decide) (F.typeCall_zip_2 _ _) (F.newCall_zip_2 _ _) (λ obj=>F.args_object_init_3 obj _ _) F.entry_zip_new (HX a b its.toArray its2.toArray) ⟨pl.isList,pl2.isList,?_⟩
         show _/\_
         rw[z4]
         refine⟨⟨_,p1,rfl⟩,Hg (Ga X.prog X.w X.K) (Ga X.prog X.w X.K) I1 ⟨_,p4,rfl,rfl⟩ ⟨_,p5,rfl,rfl⟩ ⟨O1,_,S1,w,st1,ok1,qL _ _ λ O' H' cv=>⟨xs,ys,(h1.conv cv).sq,q1.conv cv,(h2.conv cv).sq,q2.conv cv⟩⟩⟩
end
section
variable {Ω : Wd}
def Itb.zipL(hm:Ω.mg "zip"=none)(a b:Ex Ω):Itb Ω where
 lev:=max a.lev b.lev
 chk top N nm tg e:=match tg,e with | .Tuple ..,.Call (.Name y _) [l,r] [] _=>(y==("zip":Str))&&(glb nm "zip"&&((okE l&&okE r)&&(a.chk top N nm l&&b.chk top N nm r))) | _,_=>false
 wp Γ S W:=a.wp Γ S λ d S1=>b.wp Γ S1 λ d' S2=>match d,d' with | .lst ds,.lst es=>W (List.zipWith (λ x y=>.tup [x,y]) ds es) S2 | _,_=>False
 sound:=by
  intro X r top N nm tg e Γ S W A hl hc hw
  obtain⟨l1,l2⟩:=lv2 hl
  split at hc
  . obtain⟨h1,h2⟩:=aa hc
    obtain⟨h2,h3⟩:=aa h2
    obtain⟨h3,h4⟩:=aa h3
    obtain⟨h5,h6⟩:=aa h3
    obtain⟨h7,h8⟩:=aa h4
    have e:=eq_of_beq h1
    subst e
    refine Lb ((a.sound A l1 h7 hw).mono λ d S1 q=>(b.sound A l2 h8 q).mono λ d' S2 q=>?_) (by rw[A.g];exact hm) (A.glb h2) (aA h5 _ _) (aA h6 [] _)
    cases d<;>first | exact q.elim | (cases d'<;>first | exact⟨_,_,rfl,rfl,q⟩ | exact q.elim)
  . exact fE hc
end
end RF
namespace RF
open PySem PySem.Spec L2 DL
open PyProof.Rows
section
variable {prog : Program} {w : World} {A : Around} {E : Value -> Shared -> Prop} {s : Shared}
theorem Mw(n:Nat):Builtin.Slice.sliceAdjust none none (-1) (n:Int)=((n:Int)-1,-1):=by
 unfold Builtin.Slice.sliceAdjust
 simp
theorem Ew(n:Nat):Builtin.Slice.slicePlaces ((n:Int)-1) (-1) (-1)=n:=by
 unfold Builtin.Slice.slicePlaces
 simp
 omega
theorem oA{sl:Addr}{t:Tok}{n:Nat}{Q:Int×Int×Nat->Shared->Prop}(hs:s.heap.IsSliceOf sl .none .none (.int (-1) t))
 (h:Q ((n:Int)-1,-1,n) s):wpAny (model prog w) A (Builtin.Slice.sliceApplied (.ref sl) (pure (n:Int))) Q E s:=by
 obtain⟨os,hos,hcs,hds⟩:=id hs
 unfold Builtin.Slice.sliceApplied Builtin.Slice.sliceFields
 refine wpAny_bind (wpAny_bind (wpAny_field hos hds (x:=.none) rfl (wpAny_bind (wpAny_field hos hds (x:=.none) rfl (wpAny_bind (wpAny_field hos hds (x:=.int (-1) t) rfl (wpAny_pure ?_)))))))
 refine wpAny_bind (slicePart_int ?_)
 show wpAny _ _ (if((-1:Int)==0)=true then _ else _) _ _ s
 rw[if_neg (by decide)]
 refine wpAny_bind (slicePart_none (wpAny_bind (slicePart_none (wpAny_bind (wpAny_pure ?_)))))
 show wpAny _ _ (match Builtin.Slice.sliceAdjust none none (-1) (n:Int)with | (lo,hi)=>pure (lo,(-1:Int),Builtin.Slice.slicePlaces lo hi (-1))) _ _ s
 rw[Mw n]
 show wpAny _ _ (pure ((n:Int)-1,(-1:Int),Builtin.Slice.slicePlaces ((n:Int)-1) (-1) (-1))) _ _ s
 rw[Ew]
 exact wpAny_pure h
theorem zc(xs:Array Value):((List.range xs.size).filterMap λ(m:Nat)=>xs[(((xs.size:Int)-1)+(m:Int)*(-1)).toNat]?).toArray=xs.toList.reverse.toArray:=by
 congr 1
 refine List.ext_getElem? λ i=>?_
 have e:∀(l:List Nat),(∀m∈l,m<xs.size)->l.filterMap (λ(m:Nat)=>xs[(((xs.size:Int)-1)+(m:Int)*(-1)).toNat]?)=l.map λ m=>xs.toList[xs.size-1-m]! :=by
  intro l
  induction l with
  | nil=>intro _;rfl
  | cons m l ih=>
    intro h
    have hm:=h m x9
    have e1:(((xs.size:Int)-1)+(m:Int)*(-1)).toNat=xs.size-1-m:=by omega
    have e2:xs[xs.size-1-m]? =some xs.toList[xs.size-1-m]! :=by
     have hl:xs.size-1-m<xs.size:=by omega
     rw[Array.getElem?_eq_getElem hl]
     simp[hl]
    rw[List.filterMap_cons,e1,e2,List.map_cons,ih λ k hk=>h k (x6 _ hk)]
 rw[e _ λ m hm=>List.mem_range.mp hm,y9]
 by_cases hi:i<xs.size
 . have hl:xs.size-1-i<xs.size:=by omega
   rw[List.getElem?_range hi,List.getElem?_reverse (by simpa using hi)]
   simp[hl]
 . rw[List.getElem?_eq_none (by simpa using hi),List.getElem?_eq_none (by simpa using hi)]
   rfl
theorem mW{t sl:Addr}{items:Array Value}{tk:Tok}{Q:Value->Shared->Prop}(ht:IsTup s.heap t items)(hs:s.heap.IsSliceOf sl .none .none (.int (-1) tk))(hsz:items.size≤sizeLine)
 (h:Q (.ref s.heap.objs.size) {s with heap:=s.heap.push {cls:=.type "tuple",data:=.seq items.toList.reverse.toArray}}):wpAny (model prog w) A (getItem (.ref t) (.ref sl)) Q E s:=by
 have htake:sizeOk (.seq items.toList.reverse.toArray):=by
  show items.toList.reverse.toArray.size≤sizeLine
  simpa using hsz
 obtain⟨os,hos,hcs,hds⟩:=id hs
 have isS:s.TypeIs (.ref sl) "slice":=⟨os,hos,hcs⟩
 unfold getItem
 try with_reducible refine wpAny_holding ?_
 first | refine wpAny_bind (wpAny_pure ?_) | skip
 refine wpAny_bind (wpAny_sequenceKey ht.typeIs (by decide) ?_)
 refine wpAny_bind (wpAny_callSpecial?_slot (name:=Str.ofString "__getitem__") ht.typeIs PyProof.Rows.slot_tuple_getitem
  (wpAny_call_entry PyProof.Rows.slot_tuple_getitem ht.typeIs entry_tuple_getitem ?_ (args_tuple_getitem _ _)))
 show wpAny _ _ (Builtin.Tuple.tupleItemsOf (.ref t)>>=_) _ _ s
 refine wpAny_bind (tupleItemsOf_ ht (wpAny_bind (wpAny_typeOf isS ?_)))
 rw[if_pos (by decide)]
 refine wpAny_bind (oA hs ?_)
 show wpAny _ _ (if(((items.size:Int)-1)==0&&(-1:Int)==1&&items.size==items.size)=true then _ else _) _ _ s
 rw[if_neg (by simp),zc]
 first
  | exact wpAny_bind (m:=Builtin.Tuple.tupleExact _) (wpAny_newObj_type (wpAny_pure ⟨_,rfl,wpAny_pure h⟩) htake)
  | exact wpAny_bind (m:=Builtin.Tuple.tupleExact _) (wpAny_newObj_type (wpAny_bind (wpAny_pure (wpAny_pure ⟨_,rfl,wpAny_pure h⟩))) htake)
  | exact wpAny_bind (wpAny_bind (m:=Builtin.Tuple.tupleExact _) (wpAny_newObj_type (wpAny_pure (wpAny_pure ⟨_,rfl,wpAny_pure h⟩)) htake))
  | exact wpAny_bind (wpAny_bind (m:=Builtin.Tuple.tupleExact _) (wpAny_newObj_type (wpAny_pure ⟨_,rfl,wpAny_pure h⟩) htake))
end
theorem wu(items:Array Value):slicePick items none none (some (-1))=items.toList.reverse.toArray:=by
 rw[←zc]
 unfold slicePick
 have e:sliceBounds none none (some (-1)) items.size=((items.size:Int)-1,-1,-1):=by
  simp[sliceBounds]
 rw[e]
 unfold sliceRange
 have e2:(if(-1:Int)>0 then(if((items.size:Int)-1)<(-1)then((-1)-((items.size:Int)-1)+(-1)-1)/(-1)else 0)else(if((items.size:Int)-1)>(-1)then(((items.size:Int)-1)-(-1)-(-1)-1)/(-(-1))else 0))=(items.size:Int):=by
  rw[if_neg (by decide)]
  split
  . rw[show(-(-1):Int)=1 from rfl,Int.ediv_one];omega
  . omega
 simp only[e2,Int.toNat_natCast]
 rw[List.filterMap_map]
 congr 2
 funext m
 show items[((items.size:Int)-1+(-1)*(m:Int)).toNat]? =items[((items.size:Int)-1+(m:Int)*(-1)).toNat]?
 rw[Int.mul_comm]
section
variable {X : Cx}
theorem Reps.rev{K:PySem.W.Frag}{O:Own}{H:Hp}:∀{vs:List V}{ds:List D},Reps K O H vs ds->Reps K O H vs.reverse ds.reverse
 | _,_,.nil=>.nil
 | _,_,.cons r t=>by rw[List.reverse_cons,List.reverse_cons];exact(Reps.rev t).append (.cons r .nil)
def Oz(x:D)(S:Store)(W:WD):Prop:=match x with
 | .tup ds=>W (.tup ds.reverse) S
 | .lst ds=>W (.lst ds.reverse) S
 | .loc k=>∃ds,S[k]? =some ds/\W (.lst ds.reverse) S
 | _=>False
theorem Ow{x:D}{S:Store}{W:WD}(w:Oz x S W){pins:Pins}{s:Shared}{σ:DL.St}{H:Hp}{O:Own}{v:V}{u:Value}{sl:Addr}{tk:Tok}(I:Inv X pins σ H s)(st:StOk X.K O H S)(r1:Rep X.K O H v x)(r3:RelV v u)(hs:s.heap.IsSliceOf sl .none .none (.int (-1) tk)):
 ∃T id,typeLookup (.type T) "__getitem__"=pure (some (.builtin id))/\s.TypeIs u T/\wpAny (model X.prog X.w) X.A (getItem u (.ref sl)) (EP X pins σ (QG X.K O H W)) X.xe s:=by
 have ls:∀(p:Addr)(xs:List V)(ds:List D),v=.ref p->SqL X.K H p xs->Reps X.K O H xs ds->W (.lst ds.reverse) S->∃T id,typeLookup (.type T) "__getitem__"=pure (some (.builtin id))/\s.TypeIs u T/\wpAny (model X.prog X.w) X.A (getItem u (.ref sl)) (EP X pins σ (QG X.K O H W)) X.xe s:=by
  rintro p xs ds rfl h1 q1 w
  cases r3
  obtain⟨its,r,ht,hz⟩:=I.list h1
  have hlen:=r.length
  refine⟨"list",_,slot_list_getitem.lookup,ht.isList.typeIs,?_⟩
  refine wpAny_getItem_list_slice ht.isList hs .none .none (.int (-1) tk) (by simp) ?_ (by rw[x8]<;>omega)
  rw[wu]
  refine⟨.ref s.heap.objs.size,_,I.laid (t':=s.toks) (o:=.lst xs.reverse) (λ b ob q=>Heap.get?_push_of_some _ q) (x5 _) ?_,rfl,du w st (I.hok.fresh (x5 _)) (Reps.rev q1)⟩
  exact⟨by simpa using hz,its.reverse,0,by simpa using r.reverse,by simpa using Heap.get?_push_size s.heap (o:={cls:=.type "list",data:=.seq its.reverse.toArray}) rfl⟩
 cases r1 with
 | @tup p xs ds h1 q1=>
   cases r3
   obtain⟨its,r,ht,hz⟩:=I.tuple h1.sq
   have hlen:=r.length
   refine⟨"tuple",_,PyProof.Rows.slot_tuple_getitem.lookup,ht.typeIs,mW ht hs (by rw[x8];omega) ?_⟩
   refine⟨.ref s.heap.objs.size,_,I.laid (t':=s.toks) (o:=.tup xs.reverse) (λ b ob q=>Heap.get?_push_of_some _ q) (x5 _) ?_,rfl,eU w st (I.hok.fresh (x5 _)) (Reps.rev q1)⟩
   exact⟨by simpa using hz,its.reverse,r.reverse,by simpa using IsTup.new _ _⟩
 | @lst p xs ds h1 q1=>exact ls p xs ds rfl h1.sq q1 w
 | @loc p k h1=>
   obtain⟨ds,hk,w⟩:=w
   obtain⟨xs,hx,q1⟩:=st.obj k p ds h1 hk
   exact ls p xs ds rfl (SqL.of hx) q1 w
 | _=>exact(show False from w).elim
end
section
variable {Ω : Wd}
def Ex.rev(a:Ex Ω):Ex Ω where
 lev:=a.lev
 chk top N nm e:=match e with | .Subscript l (.Slice none none (some (.UnaryOp .USub (.Constant (.int 1) _ _) _)) _) _=>a.chk top N nm l | _=>false
 wp Γ S W:=a.wp Γ S λ x S1=>Oz x S1 W
 sound:=by
  intro X r top N nm e Γ S W A hl hc hw
  split at hc
  . rename_i l j p1 p2 p3 p4
    intro pins s σ H O I env st
    refine Subscript_ (thn (a.sound A hl hc hw pins s σ H O I env st) λ v s1 hq_=>?_)
    obtain⟨y,H1,I1,r1,O1,x,S1,hb,st1,ok1,rep1⟩:=hq_
    refine wpAny_Slice ?_
    refine wpAny_evalPart_none (wpAny_evalPart_none (wpAny_evalPart_some ?_))
    have hn:Ev X Γ S1 (.UnaryOp .USub (.Constant (.int 1) j p1) p2) λ d S'=>d=.int (-1)/\S'=S1:=Hd (Ig ⟨1,rfl,rfl,rfl⟩)
    refine thn (hn pins s1 σ H1 O1 I1 (env.mono st1) ok1) λ vs s3 hq_=>?_
    obtain⟨z,H3,I3,r3,O3,d,S3,⟨rfl,rfl⟩,st3,ok3,rep3⟩:=hq_
    cases rep3
    obtain⟨tk,rfl⟩:=r3
    have I4:Inv X pins σ H3 {s3 with heap:=s3.heap.push {cls:=.type "slice",data:=.fields #[.none,.none,.int (-1) tk]}}:=I3.kept (t':=s3.toks) λ b ob q=>Heap.get?_push_of_some _ q
    obtain⟨T,id,hT,ht,hg⟩:=Ow hb I4 ok3 (rep1.mono st3) r1 (Heap.IsSliceOf.new ..)
    exact tail_any (ops:=[v,.ref s3.heap.objs.size]) ht hT (thn hg λ _ _ q=>bM (st1.trans st3) q) (by with_unfolding_all rfl)
  . exact fE hc
end
end RF
namespace XE
open PySem PySem.Spec PySem.W PySem.Calls PyProof.Rows Builtin Builtin.ObjectAttr Builtin.Getset_descriptor
def bA(x C:Addr)(h:Heap):Prop:=∃o vs,h.get? x=some o/\o.cls=.ref C/\o.data=.fields vs
structure Atr(K:Frag)(C:Addr):Prop where
 ga:findIn K (.ref C) "__getattribute__"=some (some (.builtin "BaseException.__getattribute__"))
 gh:findIn K (.ref C) "__getattr__"=some none
 ca:findIn K (.ref C) "__class__"=some (some (.builtin "object.__class__"))
 sp:specialIn K (.builtin "object.__class__") "__get__"=some (some (.builtin "getset_descriptor.__get__"))
 tk:takesIn K (.builtin "object.__class__")=some true
 mo:mroIn K C (.type "object")=some true
 mb:mroIn K C (.type "BaseException")=some true
section
variable {K : Frag} {x C : Addr}
theorem Atr.cd(a:Atr K C):∃cd,clsIn K C=some cd:=by
 have:=a.mo
 unfold mroIn at this
 cases e:clsIn K C with
 | none=>rw[e]at this;cases this
 | some cd=>exact⟨cd,rfl⟩
theorem bA.ty{M:Model}{h:Heap}(p:bA x C h):Looks M h (typeOf (.ref x)) (.ref C):=by
 obtain⟨o,_,h1,h2,_⟩:=p
 exact h2▸(Looks.ld h1).andThen .now
theorem K1{M:Model}{h:Heap}(X:K.In h)(a:Atr K C):Looks M h (find (.ref x) (.ref C) "__class__") (.bind (.builtin "getset_descriptor.__get__") (.builtin "object.__class__")):=by
 unfold ObjectAttr.find
 refine(looks_findIn X a.ca).andThen ?_
 refine Looks.andThen (a:=some (.builtin "getset_descriptor.__get__")) (looks_specialIn X a.sp) ?_
 refine Looks.andThen (a:=some (.builtin "getset_descriptor.__get__",.builtin "object.__class__")) ?_ (Looks.tag .now)
 exact(looks_takesIn X a.tk).andThen .now
variable {prog : Program} {w : World} {A : Around} {E : Value -> Shared -> Prop} {s : Shared}
theorem Ng{tp:Value}{R:Result->Shared->Prop}(X:K.In s.heap)(p:bA x C s.heap)(a:Atr K C)(hq:R (.ok (.ret (.ref C))) s):
 codeAny (model prog w) A (.call (.builtin "getset_descriptor.__get__") ⟨[.builtin "object.__class__",.ref x,tp],[]⟩) R s:=by
 obtain⟨hh,g,dr,t,os⟩:=s
 have Lt:=p.ty (M:=model prog w);have Lm:=looks_mroIn (M:=model prog w) X a.mo
 refine codeAny_call_builtin KF.slot_gs.plain KF.entry_gs ?_;refine KF.slot_gs.check _ _ _ _ _ _ _ _ KF.type_class (KF.args_gs _ _ _) ?_
 unfold Builtin.«getset_descriptor.__get__» descrGet;rw[dga_obj];refine wpAny_bind (wpAny_pure ?_)
 unfold descrGetter descrCheckInstance descrNameAndClass isInstance;simp only[KF.owner_class]
 repeat lk
 refine⟨Code.quiet_builtin _ (by decide+kernel),?_⟩;refine codeAny_builtin KF.entry_class ?_
 unfold Builtin.«object.__class__» shownTypeOf;(repeat lk)
 exact hq
theorem M6{Q:Option Value->Shared->Prop}(X:K.In s.heap)(p:bA x C s.heap)(a:Atr K C)(hq:Q (some (.ref C)) {s with toks:=s.toks+1}):wpAny (model prog w) A (getAttr? (.ref x) "__class__") Q E s:=by
 obtain⟨hh,g,dr,t,os⟩:=s
 have L0:=p.ty (M:=model prog w)
 have L1:=looks_findIn (M:=model prog w) X a.ga
 have L2:=looks_findIn (M:=model prog w) X a.gh
 have L3:=K1 (M:=model prog w) (x:=x) X a
 have LB:=looks_mroIn (M:=model prog w) X a.mb
 have hne:(Value.builtin "BaseException.__getattribute__"==Value.builtin "object.__getattribute__")=false:=by decide+kernel
 unfold getAttr? getAttrBy? getAttrBy
 refine wpAny_bind (wpAny_mkText ?_)
 refine wpAny_bind (wpAny_attempt (wpAny_holding ?_))
 refine wpAny_bind (L0.at (wpAny_bind (L1.at ?_)))
 dsimp only
 rw[if_neg (by rw[hne,Bool.and_false];decide)]
 unfold getAttrByItsOwn hookBefore
 rw[if_pos (show onTheHeap (Value.ref C)=true from rfl)]
 refine wpAny_bind (L2.at ?_)
 refine wpAny_bind (wpAny_attempt (wpAny_holding ?_))
 unfold callGetattribute boundAndCalled
 rw[if_neg (by decide),F.attr_ValueError.ga.bind]
 refine wpAny_bind (wpAny_pure ?_)
 refine wpAny_call (codeAny_call_builtin F.attr_ValueError.ga.plain F.entry_bexc_ga ?_)
 have hk:builtinKind "BaseException.__getattribute__"=some .slot:=by decide+kernel
 have hs:splitId "BaseException.__getattribute__"=some ("BaseException","__getattribute__"):=by decide+kernel
 have ha:=F.args_bexc_ga (.ref x) (.str "__class__" t)
 simp only[checkBuiltinCall,hk,hs]
 refine wpAny_bind (wpAny_bind (L0.at (LB.at ?_)))
 rw[if_neg (by decide)]
 unfold argsOk at ha
 rw[show([Value.ref x]++[Value.str (Str.ofString "__class__") t])=[Value.ref x,Value.str "__class__" t]from rfl]
 refine wpAny_of_eq (a:=()) (by with_unfolding_all exact ha) ?_
 unfold Builtin.«object.__getattribute__»
 refine wpAny_bind (wpAny_of_eq (a:=(Value.ref x,[Value.str "__class__" t])) rfl ?_)
 refine wpAny_bind (wpAny_of_eq (a:=("__class__":Str)) rfl ?_)
 refine wpAny_bind (L0.at (wpAny_bind (L3.at ?_)))
 dsimp only
 unfold bindTo
 dsimp only
 refine wpAny_bind (wpAny_holding (wpAny_call ?_))
 refine Ng (K:=K) (C:=C) X p a ?_
 refine wpAny_pure ?_
 refine wpAny_of_eq (a:=Value.ref C) rfl ?_
 exact wpAny_pure hq
theorem zO(a:Atr K C):KitX K (.ref x) (.ref C) (bA x C) where
 ty _ _ _ p:=p.ty
 it M h X _:=by
  obtain⟨cd,hc⟩:=a.cd
  unfold clsIn at hc
  split at hc
  . next ho=>intro A' Q' E' s' k q;unfold isType loadHead;exact wpAny_bind (wpAny_loadPart (k _ _ (X _ _ ho)) (wpAny_pure q))
  . cases hc
 ne h tp dd its n sl X htp:=by
  obtain⟨cd,hc⟩:=a.cd
  unfold clsIn at hc
  split at hc
  . next ho=>
    cases hb:(Value.ref C==.ref tp)with
    | false=>rfl
    | true=>
      have e:C=tp:=Value.ref.inj (eq_of_beq hb)
      have z:=X _ _ ho
      rw[e,htp]at z
      cases z
  . cases hc
 ca X p k:=M6 X p a k
end
abbrev xP:List Value:=[.type "ValueError",.type "Exception",.type "BaseException",.type "object"]
abbrev qP:String:="ValueError.__new__"
theorem Nq{K:Frag}{h:Heap}{x:Str}{C:Addr}{bmB:List Value}{nid:String}{mg:Str->Option Value}(X:K.In h)(hm:mg x=some (.ref C))(q:excIn K C bmB nid=true):OwnCls x C bmB nid mg h:=by
 constructor
 . exact hm
 . unfold excIn at q
   split at q
   . next dd cd sl ho=>
     split at q
     . next C' bm k0 k1 k2 k3 n k5 hmr hsl=>
       rw[Bool.and_eq_true,Bool.and_eq_true,Bool.and_eq_true,Bool.and_eq_true,Bool.and_eq_true]at q
       obtain⟨⟨⟨⟨⟨e1,e2⟩,e3⟩,e4⟩,e5⟩,e6⟩:=q
       have e1:=eq_of_beq e1
       have e2:=eq_of_beq e2
       subst e1
       subst e2
       obtain⟨nm,bs,mro,ns,qn,hd,sn,sub,ab,col,del⟩:=cd
       simp only[Bool.not_eq_true']at hmr e3 e5 e6
       subst hmr
       subst e3
       obtain⟨l⟩:=sl
       obtain rfl:l=_:=hsl
       exact⟨bm,ns,nm,qn,bs,hd,sn,sub,ab,col,dd,k0,k1,k2,k3,k5,_,X _ _ ho,.of_isNs (isNs_of_in X e5),nsMap_none_of_in X e5 (eq_of_beq e6),tail_of_in X e4⟩
     . cases q
   . cases q
end XE
namespace XE
open PySem PySem.Spec L2 DL RF
open PyProof.Rows
theorem aU.some{P:Program}{w:World}{H:Hp}{h:Heap}{a:Addr}{o:HO}(x:aU P w H h a o):∃u,h.get? a=some u:=by
 cases o with
 | lst xs=>obtain⟨_,_,_,_,e⟩:=x;exact⟨_,e⟩
 | tup xs=>obtain⟨_,_,_,o,e,_⟩:=x;exact⟨_,e⟩
 | dK kvs=>obtain⟨_,_,_,_,o,_,_,e,_⟩:=x;exact⟨_,e⟩
 | dT kvs=>obtain⟨_,_,_,_,o,_,_,e,_⟩:=x;exact⟨_,e⟩
 | set S n=>obtain⟨o,_,_,_,e,_⟩:=x;exact⟨_,e⟩
 | ins C dx fs=>obtain⟨_,_,_,e,_⟩:=x;exact⟨_,e⟩
 | own y=>exact x
 | xd fs=>obtain⟨_,⟨_,_,_,e,_⟩,_⟩:=x;exact⟨_,e⟩
 | rng lo hi=>obtain⟨_,_,_,e⟩:=x;exact⟨_,e⟩
 | frz ob u=>exact⟨_,x.1⟩
 | tbl ps=>exact⟨_,show h.get? a=_ from x⟩
 | met f y=>exact⟨_,show h.get? a=_ from x⟩
 | ext φ=>exact x.2.1
theorem HOk.none{P:Program}{w:World}{H:Hp}{h:Heap}{a:Addr}(k:HOk P w H h)(e:h.get? a=none):H a=none:=by
 cases q:H a with
 | none=>rfl
 | some o=>obtain⟨u,z⟩:=aU.some (k a o q);rw[e]at z;cases z
structure Fl(P:Program)(w:World)(outer:List Env)(H:Hp)(h0:Heap)(H':Hp)(B h:Heap):Prop where
 hok:HOk P w H' B
 keep:∀b o,h0.get? b=some o->H b=none->b∉frs outer->B.get? b=some o
 there:∀b o,h0.get? b=some o->b∉frs outer->∃o',B.get? b=some o'
 slot:∀b o,h0.get? b=some o->b∈frs outer->∃sl,h.get? b=some {o with slots:=sl}
 free:∀b o,h0.get? b=some o->H b=none->H' b=none
 tups:∀b xs,H b=some (.tup xs)->H' b=some (.tup xs)
 frzs:∀b o u,H b=some (.frz o u)->H' b=some (.frz o u)
 tbls:∀b ps,H b=some (.tbl ps)->∃more,H' b=some (.tbl (ps++more))
section
variable {P : Program} {w : World} {outer : List Env} {H H' : Hp} {h0 B h h' : Heap}
theorem Fl.un(f:Fl P w outer H h0 H' B h)(st:B.StaysIn h):Un (frs outer) [] H H' h0 h where
 keep b o q n hb _:=st b o (f.keep b o q n hb)
 slot b o q n hb _:=f.slot b o q hb
 free b o q n _:=f.free b o q n
 there b o q _:=by
  by_cases hb:b∈frs outer
  . obtain⟨sl,e⟩:=f.slot b o q hb;exact⟨_,e⟩
  . obtain⟨o',e⟩:=f.there b o q hb;exact⟨o',st b o' e⟩
 tups:=f.tups
 frzs:=f.frzs
 tbls:=f.tbls
theorem Fl.on(f:Fl P w outer H h0 H' B h)(u:h.UpToSlots h')(ff:h.FunFrames B outer):Fl P w outer H h0 H' B h':=by
 refine⟨f.hok,f.keep,f.there,λ b o q hb=>?_,f.free,f.tups,f.frzs,f.tbls⟩
 obtain⟨sl,e⟩:=f.slot b o q hb
 obtain⟨_,o',e',d⟩:=ff.mem hb
 rw[e]at e'
 cases e'
 obtain⟨sl2,e2⟩:=u b _ e d
 exact⟨sl2,e2⟩
end
def CXE(P:Program)(w:World):CXT:=λ outer H s E e s'=>∃a C t H' B,e=.ref a/\s'.os=s.os/\AllBare s'.gens/\Fl P w outer H s.heap H' B s'.heap/\Heap.FlyingW B outer a (.ref C) (.ref t) s'.heap/\E (.ref C) none H'
section
variable {X : Cx} {pins : Pins} {σ : L2.St} {H1 : Hp} {s1 : Shared}
theorem nJ(l:List Env)(env:Env){L:Addr}(h:env.frame=some L):frs (env::l)=L::frs l:=by
 unfold frs;rw[List.filterMap_cons,h]
theorem TJ(I:Inv X pins σ H1 s1)(hst:X.stack=X.env::X.outer)(hfr:X.env.frame=some X.env.locals)(hex:X.ex=[]){h':Heap}
 (hs:∀b o,s1.heap.get? b=some o->b∈frs X.outer->∃sl,h'.get? b=some {o with slots:=sl}):
 Fl X.prog X.w X.outer X.H₀ X.s₀.heap H1 (PySem.W.hideAll s1.heap (frs X.stack)) h':=by
 have ne:∀b o,X.s₀.heap.get? b=some o->b≠X.env.locals:=λ b o q z=>absurd (Nat.lt_of_lt_of_le (Heap.lt_size q) (z▸I.ok.above)) (Nat.lt_irrefl _)
 have nin:∀b o,X.s₀.heap.get? b=some o->b∉frs X.outer->b∉frs X.stack:=λ b o q hb z=>by
  rw[hst,nJ _ _ hfr]at z
  rcases List.mem_cons.mp z with z | z
  . exact ne b o q z
  . exact hb z
 have nx:∀b,b∉X.ex:=λ b z=>by rw[hex]at z;cases z
 refine⟨λ a o e=>?_,λ b o q n hb=>?_,λ b o q hb=>?_,λ b o q hb=>?_,λ b o q n=>I.base.free b o q n (nx b),I.base.tups,I.base.frzs,I.base.tbls⟩
 . refine(I.hok a o e).stay (λ b u hb r=>?_) (λ _ r=>r) (λ _ _ r=>r)
   refine PySem.W.hideAll_get _ r λ z=>?_
   have n:=I.stkFree b z
   rcases hb with rfl | hb
   . rw[e]at n;cases n
   . rw[hb]at n;cases n
 . exact PySem.W.hideAll_get _ (I.base.keep b o q n hb (nx b)) (nin b o q hb)
 . obtain⟨o',e⟩:=I.base.there b o q (nx b)
   exact⟨o',PySem.W.hideAll_get _ e (nin b o q hb)⟩
 . obtain⟨sl,e⟩:=I.base.slot b o q (I.ok.frf b hb) hb (nx b)
   obtain⟨sl2,e2⟩:=hs b _ e hb
   exact⟨sl2,e2⟩
theorem Et{P:Program}{w:World}{K:PySem.W.Frag}{mg:Str->Option Value}{base:Heap}{N:List Str}{qual:Str}{sc:Scope}{f:Addr}{cd:Value}{A:Around}{outer:List Env}{s:Shared}{H:Hp}{E:XK}{a C:Addr}{vs:List Value}{s2:Shared}
 (I:Inv (cN (CXE P w) P w K mg base N qual sc f cd A outer s H E) pins σ H1 s1)(ho:s2.os=s1.os)(hg:s2.gens=s1.gens)(hx:Heap.MadeExcOf s1.heap s2.heap a (.ref C) vs)(hE:E (.ref C) none H1):
 (cN (CXE P w) P w K mg base N qual sc f cd A outer s H E).xe (.ref a) s2:=by
 let X:=cN (CXE P w) P w K mg base N qual sc f cd A outer s H E
 have hin:∀env∈X.stack,∀b,env.frame=some b->b∈frs X.stack:=λ env he b hb=>List.mem_filterMap.mpr ⟨env,he,hb⟩
 refine wpAny_leaves_madeW (base:=PySem.W.hideAll s1.heap (frs X.stack)) (h:=s1.heap) (outer:=outer) I.ok.frames rfl (λ b o q=>PySem.W.of_hideAll _ q) (PySem.W.funFrames_hide I.stack hin) hx λ h' t x1 x2 x3 x4=>?_
 refine⟨a,C,t,H1,_,rfl,ho.trans I.os,by show AllBare s2.gens;rw[hg];exact I.bare,?_,x1,hE⟩
 refine TJ I rfl rfl rfl λ b o q hb=>?_
 obtain⟨_,o',e',d⟩:=I.funs.mem hb
 rw[q]at e'
 cases e'
 exact x4 b o (hx.keeps b o q) d
theorem K5{P:Program}{w:World}{K:PySem.W.Frag}{mg:Str->Option Value}{base:Heap}{N:List Str}{qual:Str}{sc:Scope}{f:Addr}{cd:Value}{A:Around}{outer:List Env}{s:Shared}{H:Hp}{E E':XK}{e:Value}{s2:Shared}
 (I:Inv (cN (CXE P w) P w K mg base N qual sc f cd A outer s H E) pins σ H1 s1)(h:CXE P w (cN (CXE P w) P w K mg base N qual sc f cd A outer s H E).stack H1 s1 E' e s2)(hE:∀c H',E' (.ref c) none H'->E (.ref c) none H'):
 (cN (CXE P w) P w K mg base N qual sc f cd A outer s H E).xe e s2:=by
 let X:=cN (CXE P w) P w K mg base N qual sc f cd A outer s H E
 obtain⟨a,C,t,H',B,rfl,ho,hg,fl,fw,hq⟩:=h
 refine wpAny_leaves_onW (base:=B) (outer:=outer) I.ok.frames rfl fw λ h' x1 x2=>?_
 refine⟨a,C,t,H',B,rfl,ho.trans I.os,hg,?_,x1,hE _ _ hq⟩
 have ne:∀b o,s.heap.get? b=some o->b≠X.env.locals:=λ b o q z=>absurd (Nat.lt_of_lt_of_le (Heap.lt_size q) (z▸I.ok.above)) (Nat.lt_irrefl _)
 have nin:∀b o,s.heap.get? b=some o->b∉frs outer->b∉frs X.stack:=λ b o q hb z=>by
  rw[show frs X.stack=X.env.locals::frs outer from nJ outer X.env rfl]at z
  rcases List.mem_cons.mp z with z | z
  . exact ne b o q z
  . exact hb z
 have nx:∀b:Addr,b∉([]:List Addr):=λ b z=>nomatch z
 refine⟨fl.hok,λ b o q n hb=>?_,λ b o q hb=>?_,λ b o q hb=>?_,λ b o q n=>?_,λ b xs q=>fl.tups b xs (I.base.tups b xs q),λ b o u q=>fl.frzs b o u (I.base.frzs b o u q),λ b ps q=>?_⟩
 . exact fl.keep b o (I.base.keep b o q n hb (nx b)) (I.base.free b o q n (nx b)) (nin b o q hb)
 . obtain⟨o',e⟩:=I.base.there b o q (nx b)
   exact fl.there b o' e (nin b o q hb)
 . obtain⟨sl,e⟩:=I.base.slot b o q (I.ok.frf b hb) hb (nx b)
   have hb':b∈frs X.stack:=by rw[show frs X.stack=X.env.locals::frs outer from nJ outer X.env rfl];exact x6 _ hb
   obtain⟨sl2,e2⟩:=fl.slot b _ e hb'
   obtain⟨_,o',e',d⟩:=fw.2.2.1.mem hb'
   rw[e2]at e'
   cases e'
   obtain⟨sl3,e3⟩:=x2 b _ e2 d
   exact⟨sl3,e3⟩
 . obtain⟨o',e⟩:=I.base.there b o q (nx b)
   exact fl.free b o' e (I.base.free b o q n (nx b))
 . obtain⟨m1,e1⟩:=I.base.tbls b ps q
   obtain⟨m2,e2⟩:=fl.tbls b _ e1
   exact⟨m1++m2,by rw[e2,Array.append_assoc]⟩
end
end XE
namespace XE
open PySem PySem.Spec L2 DL RF
open PyProof.Rows
abbrev WX:=Str->Store->Prop
abbrev XCt:=List D->Store->WD->WX->Prop
def QX(mg:Str->Option Value)(K:PySem.W.Frag)(O:Own)(H:Hp)(WE:WX)(c:Value)(H':Hp):Prop:=∃nm O' S',mg nm=some c/\WE nm S'/\Step O O' H H'/\StOk K O' H' S'
theorem QX.pre{mg:Str->Option Value}{K:PySem.W.Frag}{O O1:Own}{H H1 H':Hp}{WE:WX}{c:Value}(st:Step O O1 H H1)(q:QX mg K O1 H1 WE c H'):QX mg K O H WE c H':=by
 obtain⟨nm,O',S',h1,h2,h3,h4⟩:=q
 exact⟨nm,O',S',h1,h2,st.trans h3,h4⟩
def spX(mg:Str->Option Value)(K:PySem.W.Frag)(n:Nat)(F:XCt):Sp:=λ vs H Q E=>∃O ds S W WE,ds.length=n/\Reps K O H vs ds/\StOk K O H S/\F ds S W WE/\(∀v H',QG K O H W v H'->Q v H')/\∀c H',QX mg K O H WE (.ref c) H'->E (.ref c) none H'
def XR(X:Cx)(O:Own)(H:Hp)(WE:WX)(e:Value)(s2:Shared):Prop:=
 (∃pins σ H1 s1 a C vs,e=.ref a/\Inv X pins σ H1 s1/\s2.os=s1.os/\s2.gens=s1.gens/\Heap.MadeExcOf s1.heap s2.heap a (.ref C) vs/\QX X.mg X.K O H WE (.ref C) H1)∨
 (∃pins σ H1 s1 E',Inv X pins σ H1 s1/\CXE X.prog X.w X.stack H1 s1 E' e s2/\∀c H',E' (.ref c) none H'->QX X.mg X.K O H WE (.ref c) H')
theorem XR.pre{X:Cx}{O O1:Own}{H H1:Hp}{WE:WX}{e:Value}{s2:Shared}(st:Step O O1 H H1)(h:XR X O1 H1 WE e s2):XR X O H WE e s2:=by
 rcases h with⟨pins,σ,H2,s1,a,C,vs,h1,h2,h3,h4,h5,h6⟩ | ⟨pins,σ,H2,s1,E',h1,h2,h3⟩
 . exact .inl ⟨pins,σ,H2,s1,a,C,vs,h1,h2,h3,h4,h5,h6.pre st⟩
 . exact .inr ⟨pins,σ,H2,s1,E',h1,h2,λ c H' z=>(h3 c H' z).pre st⟩
def jw(X:Cx)(Γ:Gam)(S:Store)(sts:List Stmt)(W:DL.Fin)(WE:WX):Prop:=
 ∀ (pins:Pins)(s:Shared)(σ:L2.St)(H:Hp)(O:Own),Inv X pins σ H s->EnvOk X.K O H σ Γ->StOk X.K O H S->
   wpAny (model X.prog X.w) X.A (execs sts X.env) (SP X pins (ends X.K O H W)) (XR X O H WE) s
section
variable {X : Cx} {Γ : Gam} {S : Store} {sts : List Stmt} {st : Stmt} {W : DL.Fin} {WE : WX} {e : Expr} {es : List Expr}
theorem Tw(h:Rns X.nox Γ S sts W):jw X Γ S sts W WE:=λ pins s σ H O I env ok=>
 wpAny_mono (h pins s σ H O (I.wish _) env ok) (λ _ _ q=>q.unwish) λ _ _ z=>z.elim
theorem Om(h:Rn X.nox Γ S st {W with nx:=λ Γ1 S1=>jw X Γ1 S1 sts W WE}):jw X Γ S (st::sts) W WE:=by
 intro pins s σ H O I env ok
 refine wpAny_execs_cons (wpAny_mono (h pins s σ H O (I.wish _) env ok) (λ f s1 q=>?_) λ _ _ z=>z.elim)
 cases f with
 | next=>
   obtain⟨σ',H',I',O1,Γ1,S1,w,st1,ok1,env1⟩:=q
   exact wpAny_mono (w pins s1 σ' H' O1 I'.unwish env1 ok1) (λ _ _ q=>mJ st1 q) λ _ _ z=>z.pre st1
 | ret v=>exact q.unwish
 | brk=>exact q.unwish
 | cont=>exact q.unwish
def Exc(Ω:Wd)(x:Str):Prop:=∃C,Ω.mg x=some (.ref C)/\PySem.W.excIn Ω.K C xP qP=true/\Atr Ω.K C
theorem Mu{x:Str}{C:Addr}{np cp rp:Pos}{pins:Pins}{s:Shared}{σ:L2.St}{H:Hp}{O:Own}{Q:Flow->Shared->Prop}(hm:X.mg x=some (.ref C))(hx:PySem.W.excIn X.K C xP qP=true)(hcalm:X.calm=true)
 (h:EvA X.nox Γ S [e] λ ds S1=>ds.length=1/\WE x S1)(hg:Gl X x)(hdb:(x==("__debug__":Str))=false)(hs:starEach [e] X.env=[(false,eval e X.env)])
 (I:Inv X pins σ H s)(env:EnvOk X.K O H σ Γ)(ok:StOk X.K O H S):
 wpAny (model X.prog X.w) X.A (exec (.Raise (some (.Call (.Name x np) [e] [] cp)) none rp) X.env) Q (XR X O H WE) s:=by
 have OC:=Nq (mg:=X.mg) I.ok.mod.kin hm hx
 obtain⟨tl,N,nm,q,bs,hd,sn,sub,ab,col,dd,k0,k1,k2,k3,k5,mN,hC,hN,hni,T⟩:=OC.obj
 have hpl:(backTo cp (starEach [e] X.env)).any (·.1)=false:=by rw[hs];rfl
 refine wpAny_Raise_call_subT (C:=C) (bm:=tl) (mN:=mN) (hdct:=hd) (N:=N) (nm:=nm) (q:=q) (bs:=bs) (sn:=sn) (sub:=sub) (ab:=ab) (col:=col) (dd:=dd) (k0:=k0) (k1:=k1) (k2:=k2) (k3:=k3) (k5:=k5) PySem.F.excBase_ValueError (T.hasType PySem.F.excBase_ValueError.hasBase) (I.ok.hd hcalm) hpl hni (jc I hg hm ⟨rfl,?_⟩ hdb)
 have h':=h cp pins s σ H O (I.wish _) env ok
 have h':wpAny (model X.prog X.w) X.A (spliced (backTo cp (starEach [e] X.env))) (AP X.nox pins σ (QA X.K O H λ ds S1=>ds.length=1/\WE x S1)) (λ _ _=>False) s:=h'
 rw[hs]at h' ⊢
 refine Calls.evalArgs_plain (wpAny_mono h' (λ vs s2 hq=>?_) λ _ _ z=>z.elim)
 obtain⟨ws,H1,I1,r1,O1,ds,S1,⟨l1,w1⟩,st1,ok1,rp1⟩:=hq
 have I1:=I1.unwish
 refine⟨rfl,?_,I1.bk _ _ hC,hN.keeps I1.bk,T.keeps I1.bk,λ h2 a hm2=>.inl ⟨pins,σ,H1,s2,a,C,vs,rfl,I1,rfl,rfl,hm2,x,O1,S1,hm,w1,st1,ok1⟩⟩
 rw[←r1.length,rp1.length,l1];decide
theorem Ri{c:Expr}{x:Str}{C:Addr}{np cp rp pos:Pos}(hm:X.mg x=some (.ref C))(hx:PySem.W.excIn X.K C xP qP=true)(hcalm:X.calm=true)
 (h:Ts X.nox Γ S c λ k S1=>(k=true->EvA X.nox Γ S1 [e] λ ds S2=>ds.length=1/\WE x S2)/\(k=false->jw X Γ S1 sts W WE))(hg:Gl X x)(hdb:(x==("__debug__":Str))=false)(hs:starEach [e] X.env=[(false,eval e X.env)]):
 jw X Γ S (.If c [.Raise (some (.Call (.Name x np) [e] [] cp)) none rp] [] pos::sts) W WE:=by
 intro pins s σ H O I env ok
 refine wpAny_execs_cons (wpAny_If (wpAny_mono (h pins s σ H O (I.wish _) env ok) (λ d s1 hq=>?_) λ _ _ z=>z.elim))
 obtain⟨H1,I1,O1,S1,w,st1,ok1⟩:=hq
 have I1:=I1.unwish
 cases d with
 | true=>
   refine wpAny_execs_cons (wpAny_mono (Mu (Q:=λ _ _=>False) hm hx hcalm (w.1 rfl) hg hdb hs I1 (env.mono st1) ok1) (λ _ _ z=>z.elim) λ _ _ z=>z.pre st1)
 | false=>
   refine wpAny_execs_nil ?_
   exact wpAny_mono (w.2 rfl pins s1 σ H1 O1 I1 (env.mono st1) ok1) (λ _ _ q=>mJ st1 q) λ _ _ z=>z.pre st1
end
end XE
namespace XE
open PySem PySem.Spec L2 DL RF
open PyProof.Rows
variable {Ω : Wd}
structure BX(Ω:Wd) where
 lev:Nat
 chk:Bool->List Str->Nm->List Stmt->Bool
 wp:Gam->Store->DL.Fin->WX->Prop
 sound:∀{X:Cx}{r:Nat}{top:Bool}{N:List Str}{nm:Nm}{sts:List Stmt}{Γ:Gam}{S:Store}{W:DL.Fin}{WE:WX},At Ω X.nox r top N nm->lev≤r->chk top N nm sts=true->wp Γ S W WE->jw X Γ S sts W WE
def BX.of(b:Bl Ω):BX Ω where
 lev:=b.lev
 chk:=b.chk
 wp Γ S W _:=b.wp Γ S W
 sound:=by
  intro X r top N nm sts Γ S W WE A hl hc hw
  exact Tw (b.sound A hl hc hw)
def BX.ifr{x:Str}(ex:Exc Ω x)(c:Te Ω)(rest:BX Ω):BX Ω where
 lev:=max c.lev rest.lev
 chk top N nm sts:=match sts with
  | .If ce [.Raise (some (.Call (.Name y _) [.Constant (.str _) _ _] [] _)) none _] [] _::sts=>(y==x)&&(glb nm x&&(okN x&&(c.chk top N nm ce&&rest.chk top N nm sts)))
  | _=>false
 wp Γ S W WE:=c.wp Γ S λ k S1=>(k=true->WE x S1)/\(k=false->rest.wp Γ S1 W WE)
 sound:=by
  intro X r top N nm sts Γ S W WE A hl hc hw
  obtain⟨l1,l2⟩:=lv2 hl
  split at hc
  . rename_i ce y np m j cp0 cp rp pos sts
    obtain⟨h1,hc⟩:=aa hc
    obtain⟨h2,hc⟩:=aa hc
    obtain⟨h3,hc⟩:=aa hc
    obtain⟨h4,h5⟩:=aa hc
    have e:y=x:=eq_of_beq h1
    subst e
    obtain⟨C,hm,hx,_⟩:=ex
    refine Ri (C:=C) (by rw[show X.mg=Ω.mg from A.g];exact hm) (by rw[show X.K=Ω.K from A.k];exact hx) A.calm (Ts.mono (c.sound A l1 h4 hw) λ k S1 q=>⟨λ hk=>?_,λ hk=>rest.sound A l2 h5 (q.2 hk)⟩) (A.glb h2) (bJ h3).1 rfl
    exact bz (Hr (cH ⟨rfl,q.1 hk⟩)) rfl
  . exact fE hc
def BX.cons(s:Sm Ω)(rest:BX Ω):BX Ω where
 lev:=max s.lev rest.lev
 chk top N nm sts:=match sts with | st::sts=>s.chk top N nm st&&rest.chk top N nm sts | _=>false
 wp Γ S W WE:=s.wp Γ S {W with nx:=λ Γ1 S1=>rest.wp Γ1 S1 W WE}
 sound:=by
  intro X r top N nm sts Γ S W WE A hl hc hw
  obtain⟨l1,l2⟩:=lv2 hl
  cases sts with
  | nil=>exact fE hc
  | cons st sts=>
    obtain⟨h1,h2⟩:=aa hc
    exact Om (Rn.mono (s.sound A l1 h1 hw) (λ G S1 q=>rest.sound A l2 h2 q) (λ _ _ q=>q) (λ _ _ q=>q) λ _ _ q=>q)
structure CalleeX(P:Program)(w:World)(K:PySem.W.Frag)(mg:Str->Option Value)(base:Heap)(x:Str)(k n:Nat)(F:XCt):Prop where
 ex:∃f fd ps,FnOk P w K mg base (CXE P w) k f fd ps (spX mg K n F)/\mg x=some (.ref f)/\PySem.W.keepIn K (.ref f)=true/\Binds K fd ps []
abbrev gR(Ω:Wd)(x:Str)(k n:Nat)(F:XCt):Prop:=CalleeX Ω.P Ω.w Ω.K Ω.mg Ω.base x k n F
abbrev OkX(Ω:Wd)(k:Nat)(f:Addr)(fd:FuncData)(ps:List Str)(F:XCt):Prop:=FnOk Ω.P Ω.w Ω.K Ω.mg Ω.base (CXE Ω.P Ω.w) k f fd ps (spX Ω.mg Ω.K ps.length F)
theorem Ea{x qual:Str}{sm:Stmt}{f:Addr}{fd:FuncData}{ps:List Str}{k n:Nat}{F:XCt}(FF:Fun Ω.K x qual sm f fd)(h:FnOk Ω.P Ω.w Ω.K Ω.mg Ω.base (CXE Ω.P Ω.w) k f fd ps (spX Ω.mg Ω.K n F))(hm:Ω.mg x=some (.ref f))(b:Binds Ω.K fd ps []):CalleeX Ω.P Ω.w Ω.K Ω.mg Ω.base x k n F:=⟨f,fd,ps,h,hm,FF.kp,b⟩
theorem Jj{K:PySem.W.Frag}{O:Own}{H:Hp}{N:List Str}{vs:List V}{ds:List D}(r:Reps K O H vs ds):EnvOk K O H (L2.start N vs) (ds.map some++List.replicate (N.length-ds.length) none):=by
 have hv:vs.length=ds.length:=r.length
 constructor
 . simp[L2.start,hv]
 . intro i d h
   by_cases hi:i<ds.length
   . rw[v3 (by simpa using hi),y9]at h
     cases e:ds[i]? with
     | none=>rw[e]at h;cases h
     | some d'=>
       rw[e]at h
       cases h
       obtain⟨v,hv',rv⟩:=r.get e
       refine⟨v,?_,rv⟩
       unfold L2.start
       rw[v3 (by rw[y8,hv];exact hi),y9,hv']
       rfl
   . rw[List.getElem?_append_right (by simpa using hi),List.getElem?_replicate]at h
     split at h<;>cases h
theorem Rv{P:Program}{w:World}{K:PySem.W.Frag}{mg:Str->Option Value}{base:Heap}{x qual:Str}{sm:Stmt}{f:Addr}{fd:FuncData}{N ps:List Str}{k:Nat}{F:XCt}(FF:Fun K x qual sm f fd)(SC:FnScope N ps (aq sm))
 (body:∀(cdv:Value)(A:Around)(outer:List Env)(s:Shared)(H:Hp)(E:XK)(ds:List D)(S:Store)(W:WD)(WE:WX),Room k (A.deeper (envOfC qual (aq sm) s.heap.objs.size f cdv))->ds.length=ps.length->F ds S W WE->
  jw (cN (CXE P w) P w K mg base N qual (aq sm) f cdv A outer s H E) (ds.map some++List.replicate (N.length-ds.length) none) S (bw sm) {nx:=λ _ S1=>W .non S1,rt:=W} WE):FnOk P w K mg base (CXE P w) (k+1) f fd ps (spX mg K ps.length F):=by
 obtain⟨oc,od,kV,doc,pm,an,cdv,ct,osl,rfl,lk,hcd⟩:=FF.ex
 refine Lk lk hcd SC (λ vs H Q E h=>?_) λ A outer s H vs Q E hr h=>?_
 . obtain⟨O,ds,S,W,WE,hl,r,_⟩:=h
   rw[r.length,hl]
 . obtain⟨O,ds,S,W,WE,hl,r,st,hF,q,qe⟩:=h
   have hB:=body cdv A outer s H E ds S W WE hr hl hF
   refine⟨λ D σ H'=>σ=L2.start N vs/\H'=H/\(∀σ' H2,QN K O H (λ _ S1=>W .non S1) σ' H2->D.nx σ' H2)/\(∀v H2,QG K O H W v H2->D.rt v H2),?_,rfl,rfl,?_,λ v H2 z=>q v H2 z⟩
   . rintro pins s1 σ H' D I ⟨rfl,rfl,k1,k2⟩
     refine wpAny_mono (hB pins s1 _ H' O I (Jj r) st) (λ f s' q=>?_) λ e s2 z=>?_
     . cases f with
       | next=>obtain⟨σ',H',I',q⟩:=q;exact⟨σ',H',I',k1 σ' H' q⟩
       | brk=>obtain⟨σ',H',I',_,_,_,q,_⟩:=q;exact q.elim
       | cont=>obtain⟨σ',H',I',_,_,_,q,_⟩:=q;exact q.elim
       | ret u=>obtain⟨v,σ',H',I',r,q⟩:=q;exact⟨v,σ',H',I',r,k2 v H' q⟩
     . rcases z with⟨pins,σ,H1,s1,a,C,vs,rfl,I1,h3,h4,h5,h6⟩ | ⟨pins,σ,H2,s1,E',I1,h2,h3⟩
       . exact Et I1 h3 h4 h5 (qe C H1 h6)
       . exact K5 I1 h2 λ c H' z=>qe c H' (h3 c H' z)
   . rintro σ' H2 ⟨O',Γ',S',w,st',ok',_⟩
     exact q _ _ ⟨O',.non,S',w,st',ok',.non⟩
def Qx(N ps:List Str)(sm:Stmt)(k:Nat)(body:BX Ω):Bool:=
 ((aq sm).kind==.function)&&(!(aq sm).isCoroutine&&(!(aq sm).isGenerator&&(decide N.Nodup&&(decide (N.take ps.length=ps)&&((ps.all λ x=>(aq sm).names.lookup x==some .local||(aq sm).names.lookup x==some .cell)&&
   (((aq sm).names.all λ y=>!(y.2==.free))&&(Nat.ble body.lev k&&body.chk true N (aq sm).names (bw sm))))))))
theorem Lq(N0:Ω.cd=none){x qual:Str}{sm:Stmt}{f:Addr}{fd:FuncData}{N ps:List Str}{k:Nat}{F:XCt}(FF:Fun Ω.K x qual sm f fd)(body:BX Ω)(hc:Qx N ps sm k body=true)
 (vc:∀(ds:List D)(S:Store)(W:WD)(WE:WX),F ds S W WE->ds.length=ps.length->body.wp (ds.map some++List.replicate (N.length-ds.length) none) S {nx:=λ _ S1=>W .non S1,rt:=W} WE):OkX Ω (k+1) f fd ps F:=by
 obtain⟨h1,hc⟩:=aa hc
 obtain⟨h2,hc⟩:=aa hc
 obtain⟨h3,hc⟩:=aa hc
 obtain⟨h4,hc⟩:=aa hc
 obtain⟨h5,hc⟩:=aa hc
 obtain⟨h6,hc⟩:=aa hc
 obtain⟨h7,hc⟩:=aa hc
 obtain⟨h8,h9⟩:=aa hc
 have nd:N.Nodup:=of_decide_eq_true h4
 have sc:FnScope N ps (aq sm):=⟨eq_of_beq h1,nt h2,nt h3,nd,of_decide_eq_true h5,λ x hx=>by
  have:=List.all_eq_true.mp h6 x hx
  simpa using this,λ y hy e=>by
  have:=List.all_eq_true.mp h7 y hy
  simp[e]at this⟩
 refine Rv FF sc λ cdv A outer s H E ds S W WE hr hl h=>?_
 refine body.sound (r:=k) (top:=true) (N:=N) (nm:=(aq sm).names) ⟨rfl,rfl,rfl,rfl,rfl,hr,rfl,rfl,rfl,nd,sc.kind,λ x kk h=>.inl h,λ _ _=>rfl,λ _ p q=>nomatch (N0.symm.trans q)⟩ (Nat.le_of_ble_eq_true h8) h9 (vc ds S W WE h hl)
def XQ(X:Cx)(pins:Pins)(σ:L2.St)(O:Own)(H:Hp)(WE:WX)(e:Value)(s2:Shared):Prop:=
 ∃H1 s1 E',Inv X pins σ H1 s1/\CXE X.prog X.w X.stack H1 s1 E' e s2/\∀c H',E' (.ref c) none H'->QX X.mg X.K O H WE (.ref c) H'
def EvX(X:Cx)(Γ:Gam)(S:Store)(e:Expr)(W:WD)(WE:WX):Prop:=
 ∀ (pins:Pins)(s:Shared)(σ:L2.St)(H:Hp)(O:Own),Inv X pins σ H s->EnvOk X.K O H σ Γ->StOk X.K O H S->
   wpAny (model X.prog X.w) X.A (eval e X.env) (EP X pins σ (QG X.K O H W)) (XQ X pins σ O H WE) s
section
variable {X : Cx} {Γ : Gam} {S : Store} {W : WD} {WE : WX} {e : Expr} {es : List Expr} {pos : Pos}
theorem Kv{x:Str}{p:Pos}{k n:Nat}{F:XCt}(C:CalleeX X.prog X.w X.K X.mg X.base x k n F)(hr:Room k X.A)(h:EvA X.nox Γ S (e::es) λ ds S1=>ds.length=n/\F ds S1 W WE)(hg:Gl X x)(hdb:(x==("__debug__":Str))=false)
 (he:starEach (e::es) X.env=(false,eval e X.env)::starEach es X.env)(hpl:(backTo pos (starEach es X.env)).any (·.1)=false):EvX X Γ S (.Call (.Name x p) (e::es) [] pos) W WE:=by
 intro pins s σ H O I env st
 obtain⟨f,fd,ps,hF,hm,hk,hb⟩:=C.ex
 refine wpAny_Call_Name_kw (jc I hg hm ?_ hdb)
 refine PySem.W.callWith_K (h₀:=X.base) I.ok.mod.kin hk (wpAny_mono (h pos pins s σ H O (I.wish _) env st) (λ us s1 hq=>?_) λ _ _ z=>z.elim) he hpl
 obtain⟨vs,H1,I1,r1,O1,ds,S1,⟨hl,w⟩,st1,ok1,rep⟩:=hq
 have I1:=I1.unwish
 refine⟨I1.kIn,?_⟩
 have h:spX X.mg X.K n F vs H1 (QG X.K O H W) (λ c _ H'=>∃d,c=.ref d/\QX X.mg X.K O H WE (.ref d) H'):=⟨O1,ds,S1,W,WE,hl,rep,ok1,w,λ v H' q=>q.pre st1,λ c H' q=>⟨c,rfl,q.pre st1⟩⟩
 have hl2:us.length=ps.length:=by rw[←r1.length];exact hF.len _ _ _ _ h
 refine wpAny_call (codeAny_mono (hF.run X.A X.stack s1 H1 ⟨us,[]⟩ us vs _ _ hr I1.env0 ?_ r1 h) λ r s' hq=>?_)
 . have:=hb s1 us I1.kIn (by rw[List.append_nil];exact hl2)
   rw[List.append_nil]at this
   exact this
 . cases r with
   | error e=>
     refine⟨H1,s1,λ c _ H'=>∃d,c=.ref d/\QX X.mg X.K O H WE (.ref d) H',I1,hq,λ c H' z=>?_⟩
     obtain⟨d,e,z⟩:=z
     cases e
     exact z
   | ok fl=>
     cases fl with
     | ret u=>exact I1.after hq
     | next=>exact False.elim hq
     | brk=>exact False.elim hq
     | cont=>exact False.elim hq
end
structure XEx(Ω:Wd) where
 lev:Nat
 chk:Bool->List Str->Nm->Expr->Bool
 wp:Gam->Store->WD->WX->Prop
 sound:∀{X:Cx}{r:Nat}{top:Bool}{N:List Str}{nm:Nm}{e:Expr}{Γ:Gam}{S:Store}{W:WD}{WE:WX},At Ω X.nox r top N nm->lev≤r->chk top N nm e=true->wp Γ S W WE->EvX X Γ S e W WE
def XEx.call{x:Str}{k n:Nat}{F:XCt}(C:gR Ω x k n F)(as:Ar Ω):XEx Ω where
 lev:=max k as.lev
 chk top N nm e:=match e with | .Call (.Name y _) (a::es) [] _=>(y==x)&&(glb nm x&&(okN x&&as.chk top N nm (a::es))) | _=>false
 wp Γ S W WE:=as.wp Γ S λ ds S1=>ds.length=n/\F ds S1 W WE
 sound:=by
  intro X r top N nm e Γ S W WE A hl hc hw
  obtain⟨l1,l2⟩:=lv2 hl
  split at hc
  . rename_i y _ a es _
    obtain⟨h1,h2⟩:=aa hc
    obtain⟨h2,h3⟩:=aa h2
    obtain⟨h3,h4⟩:=aa h3
    have e:y=x:=eq_of_beq h1
    subst e
    have pl:=as.plain h4
    rw[List.all_cons]at pl
    obtain⟨p1,p2⟩:=aa pl
    have C':CalleeX X.prog X.w X.K X.mg X.base y k n F:=by
     have:=C
     rw[show X.prog=Ω.P from A.p,show X.w=Ω.w from A.w,show X.K=Ω.K from A.k,show X.mg=Ω.mg from A.g,show X.base=Ω.base from A.b];exact C
    exact Kv C' (A.room.mono l1) (as.sound A l2 h4 hw) (A.glb h2) (bJ h3).1 (aA p1 _ _) (lw p2 _ _)
  . exact fE hc
end XE
namespace XE
open PySem PySem.Spec L2 DL RF
open PyProof.Rows
abbrev sup(X:Cx)(e:Value):Cx:={X with A:=X.A.mark (some e),calm:=false,xe:=λ _ _=>False}
section
variable {X : Cx} {pins : Pins} {σ : L2.St} {H : Hp} {s : Shared} {e : Value}
theorem Inv.sup(I:Inv X pins σ H s):Inv (sup X e) pins σ H s:=
 ⟨⟨I.ok.mod,I.ok.kind,I.ok.glob,I.ok.blt,I.ok.above,I.ok.inj,I.ok.has,I.ok.cab,(λ h=>nomatch h),I.ok.frames,I.ok.stk,I.ok.exf,I.ok.bs,I.ok.bsz,I.ok.noex,I.ok.exfs,I.ok.funs,I.ok.frf⟩,I.os,I.bare,I.base,I.loc,I.cell,I.free,I.freeC,I.pin,I.hok,I.len⟩
theorem Inv.unsup(ok:X.Ok)(I:Inv (XE.sup X e) pins σ H s):Inv X pins σ H s:=⟨ok,I.os,I.bare,I.base,I.loc,I.cell,I.free,I.freeC,I.pin,I.hok,I.len⟩
theorem G8{M:Model}{A:Around}{E:Value->Shared->Prop}{i:Nat}{x:Str}{pos:Pos}{Q:Unit->Shared->Prop}(I:Inv X pins σ H s)(hN:X.N.Nodup)(hi:X.N[i]? =some x)(hk:X.env.scope.names.lookup x=some .local)
 (h:∀s',Inv X pins (σ.set i none) H s'->Q () s'):wpAny M A (do bindName X.env x .none;unbindBehindTheSuite X.env x pos) Q E s:=by
 obtain⟨m,hn,hl⟩:=id I.loc
 have hcls:(X.env.scope.kind==.class||(X.env.scope.kind==.module&&X.env.locals !=X.env.globals))=false:=by rw[I.ok.kind];rfl
 have cne:=I.cne
 have ne:∀b o,X.s₀.heap.get? b=some o->b≠X.env.locals:=λ b o e=>Nat.ne_of_lt (Nat.lt_of_lt_of_le (Heap.lt_size e) I.ok.above)
 have hiσ:i<σ.length:=by rw[I.len];exact(y3.mp hi).1
 refine wpAny_nameGoes_keeps hk hn hcls λ h' v hn' hs=>h _ ⟨I.ok,I.os,I.bare,⟨λ b o e n hb hx=>?_,λ b o e n hb hx=>?_,I.base.free,λ b o e hx=>?_,I.base.tups,I.base.frzs,I.base.tbls⟩,⟨_,hn',λ j y w e1 e2 e3=>?_⟩,λ y c e=>?_,I.free,I.freeC,λ p hp=>?_,λ b ob e=>?_,by simpa using I.len⟩
 . exact(hs.2 b (ne b o e)).trans (I.base.keep b o e n hb hx)
 . obtain⟨sl,e1⟩:=I.base.slot b o e n hb hx;exact⟨sl,(hs.2 b (ne b o e)).trans e1⟩
 . obtain⟨o',e1⟩:=I.base.there b o e hx;exact⟨o',(hs.2 b (ne b o e)).trans e1⟩
 . by_cases hj:j=i
   . subst hj
     rw[List.getElem?_set_self hiσ]at e2
     cases e2
   . rw[List.getElem?_set_ne (Ne.symm hj)]at e2
     obtain⟨u',r',q⟩:=hl j y w e1 e2 e3
     refine⟨u',r',?_⟩
     rcases q with⟨k,e⟩ | ⟨k,c,e,z⟩
     . refine .inl ⟨k,?_⟩
       have nx:y≠x:=λ e=>hj (ph hN e1 (e▸hi))
       simp[nx,e]
     . exact .inr ⟨k,c,e,z.sameBut hs (cne y c e)⟩
 . obtain⟨w',z⟩:=I.cell y c e;exact⟨w',z.sameBut hs (cne y c e)⟩
 . obtain⟨e,n,ne,nf,d⟩:=I.pin p hp;exact⟨(hs.2 p.1 ne).trans e,n,ne,nf,d⟩
 . refine(I.hok b ob e).stay (λ c w' hc q=>(hs.2 c ?_).trans q) (λ _ q=>q) λ _ _ q=>q
   intro z
   have hf:=I.free
   rw[←z]at hf
   rcases hc with z2 | hc
   . rw[z2,e]at hf;cases hf
   . rw[hf]at hc;cases hc
theorem PX{P:Program}{w:World}{H:Hp}{h:Heap}{a C:Addr}(e:bA a C h):aU P w H h a (.ext (bA a C)):=by
 obtain⟨o,vs,h1,h2,h3⟩:=e
 exact⟨⟨o,vs,h1,h2,h3⟩,⟨o,h1⟩,λ g1 g2 ⟨o',vs',z1,z2,z3⟩ k=>⟨o',vs',k o' z1,z2,z3⟩⟩
theorem Inv.exc{a C:Addr}{H1:Hp}{s1:Shared}(I:Inv X pins σ H s)(I1:Inv X pins σ H1 s1)(hex:X.ex=[])(new:∀b o,s1.heap.get? b=some o->b≠a)(hH:H a=none)(e:bA a C s.heap):Inv X pins σ (upd H a (.ext (bA a C))) s:=by
 have nx:∀b,b∉X.ex:=λ b z=>by rw[hex]at z;cases z
 have n0:∀b o,X.s₀.heap.get? b=some o->b≠a:=λ b o q=>by
  obtain⟨o',q'⟩:=I1.base.there b o q (nx b)
  exact new b o' q'
 have nL:X.env.locals≠a:=by
  obtain⟨m,⟨o,_,_,ho,_⟩,_⟩:=I1.loc
  exact new _ o ho
 have nt:∀b u,H b=some u->b≠a:=λ b u q z=>by rw[z,hH]at q;cases q
 refine⟨I.ok,I.os,I.bare,⟨I.base.keep,I.base.slot,λ b o q n hx=>?_,I.base.there,λ b xs q=>?_,λ b o u q=>?_,λ b ps q=>?_⟩,I.loc,I.cell,?_,λ x c q=>?_,λ p hp=>?_,λ b u q=>?_,I.len⟩
 . rw[ao (n0 b o q)];exact I.base.free b o q n hx
 . have:=I.base.tups b xs q;rw[ao (nt b _ this)];exact this
 . have:=I.base.frzs b o u q;rw[ao (nt b _ this)];exact this
 . obtain⟨m,this⟩:=I.base.tbls b ps q;exact⟨m,by rw[ao (nt b _ this)];exact this⟩
 . rw[ao nL];exact I.free
 . obtain⟨v,o,ho,_⟩:=I1.cell x c q
   rw[ao (new c o ho)];exact I.freeC x c q
 . obtain⟨z1,z2,z3⟩:=I.pin p hp
   obtain⟨w1,_⟩:=I1.pin p hp
   exact⟨z1,by rw[ao (new _ _ w1)];exact z2,z3⟩
 . by_cases hb:b=a
   . subst hb
     rw[aH]at q
     cases q
     exact PX e
   . rw[ao hb]at q
     exact(I.hok b u q).stay (λ _ _ _ r=>r) (λ c r=>by rw[ao (nt c _ r)];exact r) λ c xs r=>by rw[ao (nt c _ r)];exact r
theorem caught{a C T t:Addr}{B:Heap}{i:Nat}{n y:Str}{np hp:Pos}{b₀:Stmt}{suite:List Stmt}{rest:List ExceptHandler}{Q:Flow->Shared->Prop}{E:Value->Shared->Prop}
 {H1:Hp}{s1:Shared}(ok:X.Ok)(I1:Inv X pins σ H1 s1)(hex:X.ex=[])(new:∀b o,s1.heap.get? b=some o->b≠a)(hst:X.stack=X.env::X.outer)(hfr:X.env.frame=some X.env.locals)(fw:Heap.FlyingW B X.stack a (.ref C) (.ref t) s.heap)
 (inv:∀h',Heap.FlyingW B X.stack a (.ref C) (.ref t) h'->s.heap.UpToSlots h'->Inv X pins σ H {s with heap:=h'})(hok:HOk X.prog X.w H B)
 (hg:Gl X y)(hy:X.mg y=some (.ref T))(hyd:(y==("__debug__":Str))=false)(hx:PySem.W.exmOne X.K (.ref C) (.ref T)=some true)
 (hN:X.N.Nodup)(hi:X.N[i]? =some n)(hn:X.env.scope.names.lookup n=some .local)
 (body:∀s6,Inv (XE.sup X (.ref a)) pins (σ.set i (some (.ref a))) (upd H a (.ext (bA a C))) s6->wpAny (model X.prog X.w) (X.A.mark (some (.ref a))) (execs (b₀::suite) X.env)
  (λ f s7=>wpAny (model X.prog X.w) X.A (do bindName X.env n .none;unbindBehindTheSuite X.env n hp) (λ _ s8=>Q f s8) E s7) (λ _ _=>False) s6):
 wpAny (model X.prog X.w) X.A (noteFrame (.ref a) X.env) (λ _ s2=>wpAny (model X.prog X.w) X.A (setFlight (.ref a) none) (λ _ s3=>
  wpAny (model X.prog X.w) X.A (handleBy (.ref a) X.env (.ExceptHandler (some (.Name y np)) (some n) (b₀::suite) hp::rest)) Q E s3) E s2) E s:=by
 have hH:H a=none:=HOk.none hok fw.2.1
 refine wpAny_looks_onW (base:=B) (outer:=X.outer) (by rw[ok.frames,hst]) hfr (by rw[←hst];exact fw) λ h4 f4 u4=>?_
 refine wpAny_landsW f4 λ h5 f5 u5=>?_
 rw[←hst]at f5
 have u45:=u4.trans u5
 have I5:=inv h5 f5 u45
 obtain⟨ob,vs,ho,hc,hd,_⟩:=f5.first
 refine wpAny_handleBy_cons (codeAny_handlers_test (jc (X:=XE.sup X (.ref a)) (Inv.sup I5) hg hy ?_ hyd)) (by intro q;cases q)
 refine(PySem.W.exm_one (M:=model X.prog X.w) (K:=X.K) (h:=h5) (e:=a) I5.kIn (show bA a C h5 from⟨ob,vs,ho,hc,hd⟩).ty hx).here (codeAny_handlers_suite_as ?_)
 refine lands_againW (show Heap.FlyingW B X.stack a (.ref C) (.ref t) _ from f5) λ h6 f6 u6=>?_
 have I6:=inv h6 f6 (u45.trans u6)
 obtain⟨ob,vs,ho,hc,hd,_⟩:=f6.first
 have J:Inv X pins σ (upd H a (.ext (bA a C))) {s with heap:=h6}:=Inv.exc I6 I1 hex new hH ⟨ob,vs,ho,hc,hd⟩
 refine jk (X:=XE.sup X (.ref a)) (Inv.sup J) hN hi (.inl hn) (v:=.ref a) rfl (λ s7 I7=>?_) (.inr hn)
 exact wpAny_mono (body s7 I7) (λ f s8 q=>q) λ _ _ z=>z.elim
end
end XE
set_option maxHeartbeats 400000
namespace XE
open PySem PySem.Spec L2 DL RF
open PyProof.Rows
variable {e : Expr} {es : List Expr} {y : Str}
inductive HT where
 | one(y:Str) | any(ys:List Str) | no(t:HT) | or(s t:HT) | and(s t:HT) | eq(y z:Str)
def jr:List Expr->Option (List Str)
 | []=>some []
 | .Name y _::r=>(jr r).map (y::·)
 | _=>none
def pM:Expr->Option (Str×List Expr)
 | .Call (.Name f _) es [] _=>some (f,es)
 | _=>none
def nameV:Expr->Option Str
 | .Name x _=>some x
 | _=>none
def J7:Expr->Option (List Expr)
 | .Tuple es _ _=>some es
 | _=>none
def xR:Expr->Option Expr
 | .UnaryOp .Not e _=>some e
 | _=>none
def orV:Expr->Option (List Expr)
 | .BoolOp .Or es _=>some es
 | _=>none
def tX:Expr->Option (List Expr)
 | .BoolOp .And es _=>some es
 | _=>none
def eqV:Expr->Option (Expr×List Expr)
 | .Compare a [.Eq] es _=>some (a,es)
 | _=>none
theorem nW{f:Str}(h:pM e=some (f,es)):∃p pos,e=.Call (.Name f p) es [] pos:=by
 unfold pM at h
 split at h
 . cases h;exact⟨_,_,rfl⟩
 . cases h
theorem ji{x:Str}(h:nameV e=some x):∃p,e=.Name x p:=by
 unfold nameV at h
 split at h
 . cases h;exact⟨_,rfl⟩
 . cases h
theorem Mr(h:J7 e=some es):∃k p,e=.Tuple es k p:=by
 unfold J7 at h
 split at h
 . cases h;exact⟨_,_,rfl⟩
 . cases h
theorem Dm{x:Expr}(h:xR e=some x):∃p,e=.UnaryOp .Not x p:=by
 unfold xR at h
 split at h
 . cases h;exact⟨_,rfl⟩
 . cases h
theorem HS(h:orV e=some es):∃p,e=.BoolOp .Or es p:=by
 unfold orV at h
 split at h
 . cases h;exact⟨_,rfl⟩
 . cases h
theorem tH(h:tX e=some es):∃p,e=.BoolOp .And es p:=by
 unfold tX at h
 split at h
 . cases h;exact⟨_,rfl⟩
 . cases h
theorem RT{a:Expr}(h:eqV e=some (a,es)):∃p,e=.Compare a [.Eq] es p:=by
 unfold eqV at h
 split at h
 . cases h;exact⟨_,rfl⟩
 . cases h
def isV(n y:Str)(e:Expr):Bool:=match pM e with
 | some (f,[a,b])=>(f==("isinstance":Str))&&((nameV a==some n)&&(nameV b==some y))
 | _=>false
theorem iR{n:Str}(h:isV n y e=true):∃p1 p2 p3 pos,e=.Call (.Name "isinstance" p1) [.Name n p2,.Name y p3] [] pos:=by
 unfold isV at h
 split at h
 . rename_i f a b hc
   obtain⟨h1,h⟩:=aa h
   obtain⟨h2,h3⟩:=aa h
   obtain⟨p,pos,rfl⟩:=nW hc
   obtain⟨p2,rfl⟩:=ji (eq_of_beq h2)
   obtain⟨p3,rfl⟩:=ji (eq_of_beq h3)
   obtain rfl:=eq_of_beq h1
   exact⟨_,_,_,_,rfl⟩
 . cases h
def xN(n:Str)(ys:List Str)(e:Expr):Bool:=match pM e with
 | some (f,[a,b])=>(f==("isinstance":Str))&&((nameV a==some n)&&(match J7 b with | some es=>jr es==some ys | none=>false))
 | _=>false
theorem Ei{n:Str}{ys:List Str}(h:xN n ys e=true):∃p1 p2 p3 k es pos,jr es=some ys/\e=.Call (.Name "isinstance" p1) [.Name n p2,.Tuple es k p3] [] pos:=by
 unfold xN at h
 split at h
 . rename_i f a b hc
   obtain⟨h1,h⟩:=aa h
   obtain⟨h2,h3⟩:=aa h
   obtain⟨p,pos,rfl⟩:=nW hc
   obtain⟨p2,rfl⟩:=ji (eq_of_beq h2)
   obtain rfl:=eq_of_beq h1
   split at h3
   . rename_i es ht
     obtain⟨k,p3,rfl⟩:=Mr ht
     exact⟨_,_,_,_,_,_,eq_of_beq h3,rfl⟩
   . cases h3
 . cases h
def HT.chk(n:Str):HT->Expr->Bool
 | .one y,e=>isV n y e
 | .any ys,e=>xN n ys e
 | .no t,e=>match xR e with | some x=>t.chk n x | none=>false
 | .or s t,e=>match orV e with | some [a,b]=>s.chk n a&&t.chk n b | _=>false
 | .and s t,e=>match tX e with | some [a,b]=>s.chk n a&&t.chk n b | _=>false
 | .eq y z,e=>match eqV e with | some (a,[b])=>isV n y a&&isV n z b | _=>false
def HT.val(q:Str->Bool):HT->Bool
 | .one y=>q y
 | .any ys=>ys.any q
 | .no t=>!t.val q
 | .or s t=>s.val q||t.val q
 | .and s t=>s.val q&&t.val q
 | .eq y z=>q y==q z
def HT.nms:HT->List Str
 | .one y=>[y] | .any ys=>ys | .no t=>t.nms | .or s t=>s.nms++t.nms | .and s t=>s.nms++t.nms | .eq y z=>[y,z]
def Ans(Y:Cx)(C:Addr)(y:Str)(b:Bool):Prop:=Gl Y y/\(y==("__debug__":Str))=false/\∃(v:V) (u:Value),((∃T,v=.ref T/\u=.ref T)∨∃t,v=.ty t/\u=.type t)/\(Y.mg y=some u∨(Y.mg y=none/\bootBuiltins y=some u/\y≠"__name__"))/\PySem.W.kitOne Y.K (.ref C) u=some b
structure Sx(Y:Cx)(n:Str)(i:Nat)(C:Addr)(q:Str->Bool):Prop where
 ni:Y.N[i]? =some n
 vis:Vis Y.env.scope n
 d1:(n==("__debug__":Str))=false
 d2:(n==("__classdict__":Str))=false
 atr:Atr Y.K C
 mi:Y.mg "isinstance"=none
 gi:Gl Y "isinstance"
section
variable {Y : Cx} {n : Str} {i : Nat} {a C : Addr} {q : Str -> Bool} {pins : Pins} {s : Shared} {σ : L2.St} {H : Hp}
theorem bu{H H1 H2:Hp}(a:aV H H1)(b:aV H1 H2):aV H H2:=λ x o h=>b x o (a x o h)
theorem same_refl{H:Hp}:aV H H:=λ _ _ h=>h
theorem Ia{b:Bool}{pos:Pos}(h:Ans Y C y b):∃v u,PE Y (.Name y pos) (tC v)/\(RelV v u/\∀u',RelV v u'->u'=u)/\PySem.W.kitOne Y.K (.ref C) u=some b:=by
 obtain⟨g,d,v,u,rr,hm,k⟩:=h
 have r':RelV v u/\∀u',RelV v u'->u'=u:=by
  rcases rr with⟨T,rfl,rfl⟩ | ⟨t,rfl,rfl⟩
  . exact⟨rfl,λ u' z=>z⟩
  . exact⟨rfl,λ u' z=>z⟩
 have r:=r'.1
 rcases hm with hm | ⟨hm,hb,hn⟩
 . exact⟨v,u,Em g hm r d,r',k⟩
 . exact⟨v,u,Df g hm hb r hn d,r',k⟩
theorem Iu:∀{es:List Expr}{ys:List Str},jr es=some ys->(∀y∈ys,Ans Y C y (q y))->∃vs us,PA Y es (λ _ H Q=>Q vs H)/\(Vals vs us/\∀us',Vals vs us'->us'=us)/\PySem.W.kitAny Y.K (.ref C) us=some (ys.any q)/\vs.length=ys.length
 | [],ys,h,_=>by cases h;exact⟨[],[],eQ,⟨.nil,λ us' z=>by cases z;rfl⟩,rfl,rfl⟩
 | .Name y p::es,ys,h,hq=>by
   unfold jr at h
   cases e:jr es with
   | none=>rw[e]at h;cases h
   | some zs=>
     rw[e]at h
     cases h
     obtain⟨v,u,h1,h2,h3⟩:=Ia (pos:=p) (hq y (.head _))
     obtain⟨vs,us,g1,g2,g3,g4⟩:=Iu e λ z hz=>hq z (.tail _ hz)
     refine⟨v::vs,u::us,?_,⟨.cons h2.1 g2.1,λ us' z=>?_⟩,?_,by simp[g4]⟩
     . exact bH h1 g1
     . cases z with
       | cons z1 z2=>rw[h2.2 _ z1,g2.2 _ z2]
     . unfold PySem.W.kitAny
       rw[h3,List.any_cons]
       cases q y with
       | true=>rfl
       | false=>exact g3
theorem iZ{p1 p2 p3 pos:Pos}(sx:Sx Y n i C q)(hq:Ans Y C y (q y))(hs:σ[i]? =some (some (.ref a)))(ha:H a=some (.ext (bA a C)))(I:Inv Y pins σ H s):
 wpAny (model Y.prog Y.w) Y.A (eval (.Call (.Name "isinstance" p1) [.Name n p2,.Name y p3] [] pos) Y.env) (EP Y pins σ (λ v H'=>v=.bl (q y)/\aV H H')) Y.xe s:=by
 obtain⟨v,u,pe,ru,k1⟩:=Ia (pos:=p3) hq
 have hcr:cI Y (.builtin "isinstance") (λ xs H' Q=>xs=[.ref a,v]/\H' a=some (.ext (bA a C))/\Q (.bl (q y)) H'):=by
  rintro pins s σ H xs us Q I r ⟨rfl,ha,hq⟩
  obtain⟨u1,u2,rfl,r1,r2⟩:=vals2 r
  cases r1
  rw[ru.2 _ r2]
  exact PySem.W.kia_one (zO sx.atr) I.kIn (I.hok a _ ha).1 k1 (λ z=>nomatch z) λ tk=>⟨.bl _,H,I.tok tk,rfl,hq⟩
 exact oZ (e:=.Name n p2) (es:=[.Name y p3]) hcr sx.gi sx.mi PyProof.Rows.boot_isinstance (bH (pZ sx.ni sx.vis sx.d1 sx.d2) (bH pe eQ)) (by decide) (by decide) rfl rfl pins s σ H _ I ⟨.ref a,hs,rfl,ha,rfl,same_refl⟩
theorem GD{ys:List Str}{k:Nat}{p1 p2 p3 pos:Pos}(sx:Sx Y n i C q)(hn:jr es=some ys)(hl:ys.length≤1000)(hq:∀y∈ys,Ans Y C y (q y))(hs:σ[i]? =some (some (.ref a)))(ha:H a=some (.ext (bA a C)))(I:Inv Y pins σ H s):
 wpAny (model Y.prog Y.w) Y.A (eval (.Call (.Name "isinstance" p1) [.Name n p2,.Tuple es k p3] [] pos) Y.env) (EP Y pins σ (λ v H'=>v=.bl (ys.any q)/\aV H H')) Y.xe s:=by
 obtain⟨vs,us,pa,ru,k1,l1⟩:=Iu hn hq
 have hcr:cI Y (.builtin "isinstance") (λ xs H' Q=>∃p,xs=[.ref a,.ref p]/\H' p=some (.tup vs)/\H' a=some (.ext (bA a C))/\Q (.bl (ys.any q)) H'):=by
  rintro pins s σ H xs us' Q I r ⟨p,rfl,hp,ha,hq⟩
  obtain⟨u1,u2,rfl,r1,r2⟩:=vals2 r
  cases r1
  cases r2
  obtain⟨its,rv,⟨⟨cls,dd,data,sl⟩,e1,e2,m,e3⟩,_⟩:=I.tuple (SqT.of (K:=Y.K) hp)
  simp only at e2 e3
  subst e2 e3
  rw[ru.2 _ rv]at e1
  exact PySem.W.kia_tup (zO sx.atr) I.kIn (I.hok a _ ha).1 e1 k1 (λ z=>nomatch z) λ tk=>⟨.bl _,H,I.tok tk,rfl,hq⟩
 refine oZ (e:=.Name n p2) (es:=[.Tuple es k p3]) hcr sx.gi sx.mi PyProof.Rows.boot_isinstance (bH (pZ sx.ni sx.vis sx.d1 sx.d2) (bH (QB pa) eQ)) (by decide) (by decide) rfl rfl pins s σ H _ I ⟨.ref a,hs,by rw[l1];exact small (by omega),λ p hp=>?_⟩
 exact⟨p,rfl,aH,by rw[ao (aB ha hp)];exact ha,rfl,aV.fresh hp _⟩
def HT.small:HT->Bool
 | .any ys=>Nat.ble ys.length 1000
 | .no t=>t.small | .or s t=>s.small&&t.small | .and s t=>s.small&&t.small
 | _=>true
theorem HT.test(sx:Sx Y n i C q)(hs:σ[i]? =some (some (.ref a))):∀(t:HT)(e:Expr),t.chk n e=true->t.small=true->(∀y∈t.nms,Ans Y C y (q y))->∀(s:Shared)(H:Hp),H a=some (.ext (bA a C))->Inv Y pins σ H s->
 wpAny (model Y.prog Y.w) Y.A (isTrue e Y.env (eval e Y.env)) (TP Y pins σ (λ b H'=>b=t.val q/\aV H H')) Y.xe s
 | .one y,e,hc,_,hq,s,H,ha,I=>by
   obtain⟨p1,p2,p3,pos,rfl⟩:=iR (show isV n y e=true from hc)
   refine isTrue_plain (thn (iZ sx (hq y (.head _)) hs ha I) λ u s1 hq_=>?_) rfl
   obtain⟨v,H1,I1,r,e,sm⟩:=hq_
   subst e
   cases r
   exact wpAny_truthy_bool ⟨H1,I1,rfl,sm⟩
 | .any ys,e,hc,hl,hq,s,H,ha,I=>by
   obtain⟨p1,p2,p3,k,es,pos,hn,rfl⟩:=Ei (show xN n ys e=true from hc)
   refine isTrue_plain (thn (GD sx hn (Nat.le_of_ble_eq_true hl) hq hs ha I) λ u s1 hq_=>?_) rfl
   obtain⟨v,H1,I1,r,e,sm⟩:=hq_
   subst e
   cases r
   exact wpAny_truthy_bool ⟨H1,I1,rfl,sm⟩
 | .no t,e,hc,hl,hq,s,H,ha,I=>by
   have hc:(match xR e with | some x=>t.chk n x | none=>false)=true:=hc
   split at hc
   . rename_i x hv
     obtain⟨p,rfl⟩:=Dm hv
     exact isTrue_not (thn (HT.test sx hs t x hc hl hq s H ha I) λ c s1 ⟨H1,I1,e,sm⟩=>⟨H1,I1,by rw[e];rfl,sm⟩)
   . cases hc
 | .or u t,e,hc,hl,hq,s,H,ha,I=>by
   have hc:(match orV e with | some [a,b]=>u.chk n a&&t.chk n b | _=>false)=true:=hc
   split at hc
   . rename_i x y hv
     obtain⟨p,rfl⟩:=HS hv
     obtain⟨h1,h2⟩:=aa hc
     obtain⟨l1,l2⟩:=aa hl
     refine isTrue_or (thn (HT.test sx hs u x h1 l1 (λ z hz=>hq z (List.mem_append_left _ hz)) s H ha I) λ c s1 hq_=>?_)
     obtain⟨H1,I1,e,sm⟩:=hq_
     cases c with
     | true=>exact⟨H1,I1,by show true=(u.val q||t.val q);rw[←e];rfl,sm⟩
     | false=>
       refine isTrue_or (thn (HT.test sx hs t y h2 l2 (λ z hz=>hq z (List.mem_append_right _ hz)) s1 H1 (sm a _ ha) I1) λ c s2 hq_=>?_)
       obtain⟨H2,I2,e2,sm2⟩:=hq_
       have ev:(HT.or u t).val q=c:=by show(u.val q||t.val q)=c;rw[←e,e2];rfl
       cases c with
       | true=>exact⟨H2,I2,ev.symm,bu sm sm2⟩
       | false=>exact isTrue_or_nil ⟨H2,I2,ev.symm,bu sm sm2⟩
   . cases hc
 | .and u t,e,hc,hl,hq,s,H,ha,I=>by
   have hc:(match tX e with | some [a,b]=>u.chk n a&&t.chk n b | _=>false)=true:=hc
   split at hc
   . rename_i x y hv
     obtain⟨p,rfl⟩:=tH hv
     obtain⟨h1,h2⟩:=aa hc
     obtain⟨l1,l2⟩:=aa hl
     refine isTrue_and (thn (HT.test sx hs u x h1 l1 (λ z hz=>hq z (List.mem_append_left _ hz)) s H ha I) λ c s1 hq_=>?_)
     obtain⟨H1,I1,e,sm⟩:=hq_
     cases c with
     | false=>exact⟨H1,I1,by show false=(u.val q&&t.val q);rw[←e];rfl,sm⟩
     | true=>
       refine isTrue_and (thn (HT.test sx hs t y h2 l2 (λ z hz=>hq z (List.mem_append_right _ hz)) s1 H1 (sm a _ ha) I1) λ c s2 hq_=>?_)
       obtain⟨H2,I2,e2,sm2⟩:=hq_
       have ev:(HT.and u t).val q=c:=by show(u.val q&&t.val q)=c;rw[←e,e2];rfl
       cases c with
       | false=>exact⟨H2,I2,ev.symm,bu sm sm2⟩
       | true=>exact isTrue_and_nil ⟨H2,I2,ev.symm,bu sm sm2⟩
   . cases hc
 | .eq y z,e,hc,hl,hq,s,H,ha,I=>by
   have hc:(match eqV e with | some (a,[b])=>isV n y a&&isV n z b | _=>false)=true:=hc
   split at hc
   . rename_i a' b' hv
     obtain⟨p,rfl⟩:=RT hv
     obtain⟨h1,h2⟩:=aa hc
     obtain⟨p1,p2,p3,p4,rfl⟩:=iR h1
     obtain⟨p5,p6,p7,p8,rfl⟩:=iR h2
     refine wpAny_isTrue_Compare1 (thn (iZ sx (hq y (.head _)) hs ha I) λ u s1 hq_=>?_) (gD rfl)
     obtain⟨v,H1,I1,r,e,sm⟩:=hq_
     subst e
     cases r
     refine thn (iZ sx (hq z (.tail _ (.head _))) hs (sm a _ ha) I1) λ u s2 hq_=>?_
     obtain⟨v,H2,I2,r,e,sm2⟩:=hq_
     subst e
     cases r
     refine thn (FN pins s2 σ H2 (.bl (q y)) (.bl (q z)) _ _ (λ v H'=>v=.bl (q y==q z)/\H'=H2) I2 rfl rfl ⟨rfl,by rw[kY];exact⟨rfl,rfl⟩⟩) λ w s3 hq_=>?_
     obtain⟨v,H3,I3,r,e,e2⟩:=hq_
     subst e e2
     cases r
     exact wpAny_truthy_bool ⟨H3,I3,rfl,bu sm sm2⟩
   . cases hc
def HT.vals:HT->Bool
 | .eq _ _=>false
 | .any ys=>Nat.ble ys.length 1000
 | .no t=>t.vals | .or s t=>s.vals&&t.vals | .and s t=>s.vals&&t.vals
 | _=>true
theorem HT.ev(sx:Sx Y n i C q)(hs:σ[i]? =some (some (.ref a))):∀(t:HT)(e:Expr),t.chk n e=true->t.vals=true->(∀y∈t.nms,Ans Y C y (q y))->∀(s:Shared)(H:Hp),H a=some (.ext (bA a C))->Inv Y pins σ H s->
 wpAny (model Y.prog Y.w) Y.A (eval e Y.env) (EP Y pins σ (λ v H'=>v=.bl (t.val q)/\aV H H')) Y.xe s
 | .one y,e,hc,_,hq,s,H,ha,I=>by
   obtain⟨p1,p2,p3,pos,rfl⟩:=iR (show isV n y e=true from hc)
   exact iZ sx (hq y (.head _)) hs ha I
 | .any ys,e,hc,hl,hq,s,H,ha,I=>by
   obtain⟨p1,p2,p3,k,es,pos,hn,rfl⟩:=Ei (show xN n ys e=true from hc)
   exact GD sx hn (Nat.le_of_ble_eq_true hl) hq hs ha I
 | .eq y z,e,hc,hl,hq,s,H,ha,I=>by cases hl
 | .no t,e,hc,hl,hq,s,H,ha,I=>by
   have hc:(match xR e with | some x=>t.chk n x | none=>false)=true:=hc
   split at hc
   . rename_i x hv
     obtain⟨p,rfl⟩:=Dm hv
     refine UnaryOp_ (thn (HT.ev sx hs t x hc hl hq s H ha I) λ u s1 hq_=>?_)
     obtain⟨v,H1,I1,r,e,sm⟩:=hq_
     subst e
     cases r
     exact not_of (wpAny_truthy_bool ⟨.bl (!t.val q),H1,I1,rfl,rfl,sm⟩)
   . cases hc
 | .or u t,e,hc,hl,hq,s,H,ha,I=>by
   have hc:(match orV e with | some [a,b]=>u.chk n a&&t.chk n b | _=>false)=true:=hc
   split at hc
   . rename_i x y hv
     obtain⟨p,rfl⟩:=HS hv
     obtain⟨h1,h2⟩:=aa hc
     obtain⟨l1,l2⟩:=aa hl
     refine BoolOp_or (thn (HT.ev sx hs u x h1 l1 (λ z hz=>hq z (List.mem_append_left _ hz)) s H ha I) λ w s1 hq_=>?_)
     obtain⟨v,H1,I1,r,e,sm⟩:=hq_
     subst e
     cases r
     refine wpAny_truthy_bool ?_
     cases ev:u.val q with
     | true=>exact⟨.bl true,H1,I1,rfl,by show V.bl true=.bl (u.val q||t.val q);rw[ev];rfl,sm⟩
     | false=>
       refine BoolOp_one (thn (HT.ev sx hs t y h2 l2 (λ z hz=>hq z (List.mem_append_right _ hz)) s1 H1 (sm a _ ha) I1) λ w s2 hq_=>?_)
       obtain⟨v,H2,I2,r,e2,sm2⟩:=hq_
       subst e2
       exact⟨_,H2,I2,r,by show V.bl (t.val q)=.bl (u.val q||t.val q);rw[ev];rfl,bu sm sm2⟩
   . cases hc
 | .and u t,e,hc,hl,hq,s,H,ha,I=>by
   have hc:(match tX e with | some [a,b]=>u.chk n a&&t.chk n b | _=>false)=true:=hc
   split at hc
   . rename_i x y hv
     obtain⟨p,rfl⟩:=tH hv
     obtain⟨h1,h2⟩:=aa hc
     obtain⟨l1,l2⟩:=aa hl
     refine BoolOp_and (thn (HT.ev sx hs u x h1 l1 (λ z hz=>hq z (List.mem_append_left _ hz)) s H ha I) λ w s1 hq_=>?_)
     obtain⟨v,H1,I1,r,e,sm⟩:=hq_
     subst e
     cases r
     refine wpAny_truthy_bool ?_
     cases ev:u.val q with
     | false=>exact⟨.bl false,H1,I1,rfl,by show V.bl false=.bl (u.val q&&t.val q);rw[ev];rfl,sm⟩
     | true=>
       refine BoolOp_one (thn (HT.ev sx hs t y h2 l2 (λ z hz=>hq z (List.mem_append_right _ hz)) s1 H1 (sm a _ ha) I1) λ w s2 hq_=>?_)
       obtain⟨v,H2,I2,r,e2,sm2⟩:=hq_
       subst e2
       exact⟨_,H2,I2,r,by show V.bl (t.val q)=.bl (u.val q&&t.val q);rw[ev];rfl,bu sm sm2⟩
   . cases hc
theorem SJ{t:HT}(sx:Sx Y n i C q)(hc:t.chk n e=true)(hl:t.vals=true)(hq:∀y∈t.nms,Ans Y C y (q y)):PE Y e (λ σ H Q=>σ[i]? =some (some (.ref a))/\H a=some (.ext (bA a C))/\∀H',aV H H'->Q (.bl (t.val q)) H'):=
 λ pins s σ H Q I ⟨hs,ha,k⟩=>thn (HT.ev sx hs t e hc hl hq s H ha I) λ u s1 ⟨v,H1,I1,r,e,sm⟩=>⟨v,H1,I1,r,by rw[e];exact k H1 sm⟩
inductive Oc where
 | str(x:Str) | bl(b:Bool) | non
 deriving DecidableEq
def Oc.v:Oc->V
 | .str x=>.str x | .bl b=>.bl b | .non=>.non
def Oc.d:Oc->D
 | .str x=>.str x | .bl b=>.bl b | .non=>.non
def Qa:Expr->Option Oc
 | .Constant (.str y) _ _=>some (.str y)
 | .Constant (.bool c) _ _=>some (.bl c)
 | .Constant .none _ _=>some .non
 | _=>none
def Oc.chk(o:Oc)(e:Expr):Bool:=match Qa e with
 | some o'=>decide (o'=o)
 | none=>false
theorem Oc.pe(o:Oc)(e:Expr)(h:o.chk e=true):PE Y e (tC o.v):=by
 unfold Oc.chk Qa at h
 split at h
 . rename_i o' hv
   obtain rfl:=of_decide_eq_true h
   split at hv
   . cases hv;exact Jt
   . cases hv;exact LQ
   . cases hv;exact Jm
   . cases hv
 . cases h
inductive HB where
 | ifr(t:HT)(o:Oc) | pick(t:HT)(o0 o1:Oc) | both(y z:Str) | val(t:HT)
def uJ:Stmt->Option Expr
 | .Return (some e) _=>some e
 | _=>none
theorem mq{st:Stmt}(h:uJ st=some e):∃p,st=.Return (some e) p:=by
 unfold uJ at h
 split at h
 . cases h;exact⟨_,rfl⟩
 . cases h
def ifV:Stmt->Option (Expr×List Stmt)
 | .If e b [] _=>some (e,b)
 | _=>none
theorem QM{st:Stmt}{b:List Stmt}(h:ifV st=some (e,b)):∃p,st=.If e b [] p:=by
 unfold ifV at h
 split at h
 . cases h;exact⟨_,rfl⟩
 . cases h
def subV:Expr->Option (Expr×Expr)
 | .Subscript (.List es p) b q=>some (.List es p,b)
 | _=>none
def Lg:Expr->Option (List Expr)
 | .List es _=>some es
 | _=>none
theorem Ni{a b:Expr}(h:subV e=some (a,b)):∃p,e=.Subscript a b p:=by
 unfold subV at h
 split at h
 . cases h;exact⟨_,rfl⟩
 . cases h
theorem MK(h:Lg e=some es):∃p,e=.List es p:=by
 unfold Lg at h
 split at h
 . cases h;exact⟨_,rfl⟩
 . cases h
def JX(n:Str)(t:HT)(e:Expr):Bool:=match pM e with
 | some (g,[x])=>(g==("int":Str))&&(t.chk n x&&(t.vals&&okE x))
 | _=>false
theorem N7{n:Str}{t:HT}(h:JX n t e=true):∃x gp p5,t.chk n x=true/\t.vals=true/\okE x=true/\e=.Call (.Name "int" gp) [x] [] p5:=by
 unfold JX at h
 split at h
 . rename_i g x hc
   obtain⟨h1,h⟩:=aa h
   obtain⟨h2,h⟩:=aa h
   obtain⟨h3,h4⟩:=aa h
   obtain⟨p,pos,rfl⟩:=nW hc
   obtain rfl:=eq_of_beq h1
   exact⟨_,_,_,h2,h3,h4,rfl⟩
 . cases h
def tL(n:Str)(t:HT)(o0 o1:Oc)(st:Stmt):Bool:=match (uJ st).bind subV with
 | some (a,b)=>(match Lg a with | some [c0,c1]=>o0.chk c0&&(o1.chk c1&&(okE c0&&okE c1)) | _=>false)&&JX n t b
 | none=>false
def sZ(n y z:Str)(st:Stmt):Bool:=match (uJ st).bind tX with
 | some [a,b]=>isV n y a&&isV n z b
 | _=>false
def z8(n:Str)(t:HT)(o:Oc)(st:Stmt):Bool:=match ifV st with
 | some (e,[r])=>(match uJ r with | some c=>t.chk n e&&(t.small&&o.chk c) | none=>false)
 | _=>false
def xT(n:Str)(t:HT)(st:Stmt):Bool:=match uJ st with
 | some e=>t.chk n e&&t.vals
 | none=>false
def HB.chk(n:Str):HB->Stmt->Bool
 | .val t,st=>xT n t st
 | .ifr t o,st=>z8 n t o st
 | .pick t o0 o1,st=>tL n t o0 o1 st
 | .both y z,st=>sZ n y z st
def HB.nms:HB->List Str
 | .ifr t _=>t.nms | .pick t _ _=>t.nms | .both y z=>[y,z] | .val t=>t.nms
def HB.out(q:Str->Bool):List HB->Option Oc
 | []=>none
 | .ifr t o::r=>if t.val q then some o else HB.out q r
 | .pick t o0 o1::_=>some (if t.val q then o1 else o0)
 | .both y z::_=>some (.bl (q y&&q z))
 | .val t::_=>some (.bl (t.val q))
def HB.chks(n:Str):List HB->List Stmt->Bool
 | [],[]=>true
 | b::bs,st::sts=>b.chk n st&&HB.chks n bs sts
 | _,_=>false
def HE(Y:Cx)(pins:Pins)(σ:L2.St)(H:Hp)(o:Option Oc)(f:Flow)(s':Shared):Prop:=∃H',Inv Y pins σ H' s'/\aV H H'/\match o with | some c=>∃u,f=.ret u/\RelV c.v u | none=>f=.next
theorem HE.pre{H1:Hp}{o:Option Oc}{f:Flow}{s':Shared}(sm:aV H H1)(h:HE Y pins σ H1 o f s'):HE Y pins σ H o f s':=by
 obtain⟨H2,I,sm2,e⟩:=h
 exact⟨H2,I,bu sm sm2,e⟩
theorem KH{t:HT}{o0 o1:Oc}{st:Stmt}(sx:Sx Y n i C q)(hs:σ[i]? =some (some (.ref a)))(mt:Y.mg "int"=none)(gt:Gl Y "int")(hc:tL n t o0 o1 st=true)(hz:∀y∈t.nms,Ans Y C y (q y))(ha:H a=some (.ext (bA a C)))(I:Inv Y pins σ H s):
 wpAny (model Y.prog Y.w) Y.A (exec st Y.env) (HE Y pins σ H (some (if t.val q then o1 else o0))) Y.xe s:=by
 unfold tL at hc
 split at hc
 . rename_i a' b' hv
   obtain⟨e0,hr,hv⟩:=Option.bind_eq_some_iff.mp hv
   obtain⟨p7,rfl⟩:=mq hr
   obtain⟨p6,rfl⟩:=Ni hv
   obtain⟨hc,hi⟩:=aa hc
   obtain⟨x,gp,p5,x1,x2,x3,rfl⟩:=N7 hi
   split at hc
   case h_2=>cases hc
   rename_i c0 c1 hl
   obtain⟨lp,rfl⟩:=MK hl
   obtain⟨g3,hc⟩:=aa hc
   obtain⟨g4,hc⟩:=aa hc
   obtain⟨g5,g6⟩:=aa hc
   have P1:PE Y (.List [c0,c1] lp) _:=Qe (bH (Oc.pe o0 c0 g3) (bH (Oc.pe o1 c1 g4) eQ (aA g6 [] _)) (aA g5 [c1] _))
   have P2:PE Y (.Call (.Name "int" gp) [x] [] p5) _:=Js (he:=aA x3 [] _) lK gt mt PyProof.Rows.boot_int (bH (SJ (a:=a) sx x1 x2 hz) eQ (aA x3 [] _))
   have P3:=TY (pos:=p6) (sH (X:=Y)) P1 P2 (Ak rfl)
   refine wpAny_Return_some (thn (P3 pins s σ H (λ v H'=>v=(if t.val q then o1 else o0).v/\aV H H') I ?_) λ u s2 ⟨v,H2,I2,r,e1,e2⟩=>⟨H2,I2,e2,u,rfl,by rw[←e1];exact r⟩)
   refine⟨by show 2≤sizeLine;decide,λ p hp=>⟨hs,by rw[ao (aB ha hp)];exact ha,λ H' sm=>.inr ⟨t.val q,rfl,?_⟩⟩⟩
   refine⟨p,[o0.v,o1.v],(if t.val q then 1 else 0),(if t.val q then o1 else o0).v,rfl,rfl,SqL.of (sm p _ aH),?_,rfl,bu (aV.fresh hp _) sm⟩
   cases t.val q<;>rfl
 . exact fE hc
theorem JN{z:Str}{st:Stmt}(sx:Sx Y n i C q)(hs:σ[i]? =some (some (.ref a)))(hc:sZ n y z st=true)(hy:Ans Y C y (q y))(hz:Ans Y C z (q z))(ha:H a=some (.ext (bA a C)))(I:Inv Y pins σ H s):
 wpAny (model Y.prog Y.w) Y.A (exec st Y.env) (HE Y pins σ H (some (.bl (q y&&q z)))) Y.xe s:=by
 unfold sZ at hc
 split at hc
 . rename_i a' b' hv
   obtain⟨e0,hr,hv⟩:=Option.bind_eq_some_iff.mp hv
   obtain⟨p7,rfl⟩:=mq hr
   obtain⟨p6,rfl⟩:=tH hv
   obtain⟨g1,g2⟩:=aa hc
   obtain⟨p1,p2,p3,p4,rfl⟩:=iR g1
   obtain⟨p1',p2',p3',p4',rfl⟩:=iR g2
   refine wpAny_Return_some (BoolOp_and (thn (iZ sx hy hs ha I) λ u s1 hq_=>?_))
   obtain⟨v,H1,I1,r,e,sm⟩:=hq_
   subst e
   cases r
   refine wpAny_truthy_bool ?_
   cases ey:q y with
   | false=>exact⟨H1,I1,sm,_,rfl,rfl⟩
   | true=>
     refine BoolOp_one (thn (iZ sx hz hs (sm a _ ha) I1) λ u s2 hq_=>?_)
     obtain⟨v,H2,I2,r,e,sm2⟩:=hq_
     subst e
     cases r
     exact⟨H2,I2,bu sm sm2,_,rfl,rfl⟩
 . exact fE hc
theorem Ot{t:HT}{st:Stmt}(sx:Sx Y n i C q)(hs:σ[i]? =some (some (.ref a)))(hc:xT n t st=true)(hz:∀y∈t.nms,Ans Y C y (q y))(ha:H a=some (.ext (bA a C)))(I:Inv Y pins σ H s):
 wpAny (model Y.prog Y.w) Y.A (exec st Y.env) (HE Y pins σ H (some (.bl (t.val q)))) Y.xe s:=by
 unfold xT at hc
 split at hc
 . rename_i e hv
   obtain⟨p7,rfl⟩:=mq hv
   obtain⟨g1,g2⟩:=aa hc
   exact wpAny_Return_some (thn (HT.ev sx hs t e g1 g2 hz s H ha I) λ u s2 ⟨v,H2,I2,r,e1,sm⟩=>⟨H2,I2,sm,u,rfl,by rw[e1]at r;exact r⟩)
 . cases hc
theorem Ms{t:HT}{o:Oc}{st:Stmt}(sx:Sx Y n i C q)(hs:σ[i]? =some (some (.ref a)))(hc:z8 n t o st=true)(hq:∀y∈t.nms,Ans Y C y (q y))(ha:H a=some (.ext (bA a C)))(I:Inv Y pins σ H s):
 wpAny (model Y.prog Y.w) Y.A (exec st Y.env) (HE Y pins σ H (if t.val q then some o else none)) Y.xe s:=by
 unfold z8 at hc
 split at hc
 . rename_i e r' hv
   obtain⟨pos,rfl⟩:=QM hv
   split at hc
   case h_2=>cases hc
   rename_i c hr
   obtain⟨rp,rfl⟩:=mq hr
   obtain⟨h1,hc⟩:=aa hc
   obtain⟨h2,h3⟩:=aa hc
   refine wpAny_If (thn (HT.test sx hs t e h1 h2 hq s H ha I) λ k s1 hq_=>?_)
   obtain⟨H1,I1,ev,sm⟩:=hq_
   cases k with
   | true=>
     refine wpAny_execs_cons (wpAny_Return_some (thn (Oc.pe o c h3 pins s1 σ H1 (λ v H'=>v=o.v/\H'=H1) I1 ⟨rfl,rfl⟩) λ u s2 hq_=>?_))
     obtain⟨v,H2,I2,r,e1,e2⟩:=hq_
     subst e1 e2
     rw[←ev]
     exact⟨H2,I2,sm,u,rfl,r⟩
   | false=>
     rw[←ev]
     exact wpAny_execs_nil ⟨H1,I1,sm,rfl⟩
 . exact fE hc
theorem HE.flow{o:Option Oc}{f:Flow}{s':Shared}(h:HE Y pins σ H o f s'):(∃c,o=some c/\∃u,f=.ret u)∨(o=none/\f=.next):=by
 obtain⟨H',_,_,e⟩:=h
 cases o with
 | none=>exact .inr ⟨rfl,e⟩
 | some c=>obtain⟨u,e,_⟩:=e;exact .inl ⟨c,rfl,u,e⟩
def HB.isPick:HB->Bool
 | .pick .. =>true
 | _=>false
theorem HB.run(sx:Sx Y n i C q)(hs:σ[i]? =some (some (.ref a)))(mt:Y.mg "int"=none):∀(bs:List HB)(sts:List Stmt),(bs.any HB.isPick=true->Gl Y "int")->HB.chks n bs sts=true->(∀b∈bs,∀y∈b.nms,Ans Y C y (q y))->∀(s:Shared)(H:Hp),H a=some (.ext (bA a C))->Inv Y pins σ H s->
 wpAny (model Y.prog Y.w) Y.A (execs sts Y.env) (HE Y pins σ H (HB.out q bs)) Y.xe s
 | [],[],_,_,hq,s,H,ha,I=>wpAny_execs_nil ⟨H,I,same_refl,rfl⟩
 | [],_::_,_,hc,_,_,_,_,_=>(y7 hc).elim
 | _::_,[],_,hc,_,_,_,_,_=>(y7 hc).elim
 | b ::bs,st::sts,gt,hc,hq,s,H,ha,I=>by
   obtain⟨h1,h2⟩:=aa (show(b.chk n st&&HB.chks n bs sts)=true from hc)
   have ih:=HB.run sx hs mt bs sts (λ h=>gt (by rw[List.any_cons,h,Bool.or_true])) h2 λ c hc=>hq c (.tail _ hc)
   have hq:=hq b (.head _)
   refine wpAny_execs_cons ?_
   cases b with
   | pick t o0 o1=>
     refine thn (KH sx hs mt (gt rfl) h1 hq ha I) λ f s1 z=>?_
     rcases HE.flow z with⟨c,_,u,rfl⟩ | ⟨e,_⟩
     . exact z
     . cases e
   | val t=>
     refine thn (Ot sx hs h1 hq ha I) λ f s1 z=>?_
     rcases HE.flow z with⟨c,_,u,rfl⟩ | ⟨e,_⟩
     . exact z
     . cases e
   | both y y'=>
     refine thn (JN sx hs h1 (hq y (.head _)) (hq y' (.tail _ (.head _))) ha I) λ f s1 z=>?_
     rcases HE.flow z with⟨c,_,u,rfl⟩ | ⟨e,_⟩
     . exact z
     . cases e
   | ifr t o=>
     refine thn (Ms sx hs h1 hq ha I) λ f s1 z=>?_
     have eo:HB.out q (.ifr t o::bs)=if t.val q then some o else HB.out q bs:=rfl
     rcases HE.flow z with⟨c,e,u,rfl⟩ | ⟨e,rfl⟩
     . rw[eo]
       cases ev:t.val q with
       | true=>rw[ev]at z;exact z
       | false=>rw[ev]at e;cases e
     . obtain⟨H1,I1,sm,_⟩:=z
       rw[eo]
       cases ev:t.val q with
       | true=>rw[ev]at e;cases e
       | false=>exact thn (ih s1 H1 (sm a _ ha) I1) λ f s2 z=>z.pre sm
end
end XE
set_option maxHeartbeats 1000000
namespace XE
open PySem PySem.Spec L2 DL RF
open PyProof.Rows
def qOf(x y:Str):Bool:=y==("TurnError":Str)||(y==("ValueError":Str)||y==x)
structure ExF(mg:Str->Option Value)(K:PySem.W.Frag)(L T:List Str):Prop where
 cls:∀x∈L,∃C,mg x=some (.ref C)/\PySem.W.excIn K C xP qP=true/\Atr K C/\(∃t,mg "TurnError"=some (.ref t)/\PySem.W.exmOne K (.ref C) (.ref t)=some true)/\
  ∀y∈T,∃(v:V) (u:Value),((∃t,v=.ref t/\u=.ref t)∨∃t,v=.ty t/\u=.type t)/\(mg y=some u∨(mg y=none/\bootBuiltins y=some u/\y≠"__name__"))/\PySem.W.kitOne K (.ref C) u=some (qOf x y)
theorem ExF.exc{Ω:Wd}{L T:List Str}(E:ExF Ω.mg Ω.K L T){x:Str}(h:x∈L):Exc Ω x:=by
 obtain⟨C,h1,h2,h3,_⟩:=E.cls x h
 exact⟨C,h1,h2,h3⟩
def Rm(K:PySem.W.Frag)(C:Addr):Bool:=
 (PySem.W.findIn K (.ref C) "__getattribute__"==some (some (.builtin "BaseException.__getattribute__")))&&((PySem.W.findIn K (.ref C) "__getattr__"==some none)&&((PySem.W.findIn K (.ref C) "__class__"==some (some (.builtin "object.__class__")))&&
 ((PySem.W.specialIn K (.builtin "object.__class__") "__get__"==some (some (.builtin "getset_descriptor.__get__")))&&((PySem.W.takesIn K (.builtin "object.__class__")==some true)&&((PySem.W.mroIn K C (.type "object")==some true)&&(PySem.W.mroIn K C (.type "BaseException")==some true))))))
def Rt(K:PySem.W.Frag)(C:Addr)(x y:Str):Bool:=match PySem.W.nsIn K mainGlobals y with
 | some (some (.ref t))=>PySem.W.kitOne K (.ref C) (.ref t)==some (qOf x y)
 | some none=>(y==("ValueError":Str))&&(PySem.W.kitOne K (.ref C) (.type "ValueError")==some (qOf x y))
 | _=>false
def Ky(K:PySem.W.Frag)(T:List Str)(x:Str):Bool:=match PySem.W.nsIn K mainGlobals x with
 | some (some (.ref C))=>PySem.W.excIn K C xP qP&&(Rm K C&&((match PySem.W.nsIn K mainGlobals "TurnError" with | some (some (.ref t))=>PySem.W.exmOne K (.ref C) (.ref t)==some true | _=>false)&&T.all (Rt K C x)))
 | _=>false
theorem PP{K:PySem.W.Frag}{h:Heap}{mg:Str->Option Value}{L T:List Str}(X:K.In h)(G:h.Ns mainGlobals mg)(e:L.all (Ky K T)=true):ExF mg K L T:=by
 constructor
 intro x hx
 have e:=List.all_eq_true.mp e x hx
 unfold Ky at e
 split at e
 . rename_i C hn
   obtain⟨e1,e⟩:=aa e
   obtain⟨e2,e⟩:=aa e
   obtain⟨e3,e4⟩:=aa e
   refine⟨C,PySem.W.mg_of X G hn,e1,?_,?_,λ y hy=>?_⟩
   . unfold Rm at e2
     obtain⟨a1,e⟩:=aa e2
     obtain⟨a2,e⟩:=aa e
     obtain⟨a3,e⟩:=aa e
     obtain⟨a4,e⟩:=aa e
     obtain⟨a5,e⟩:=aa e
     obtain⟨a6,a7⟩:=aa e
     exact⟨eq_of_beq a1,eq_of_beq a2,eq_of_beq a3,eq_of_beq a4,eq_of_beq a5,eq_of_beq a6,eq_of_beq a7⟩
   . split at e3
     . rename_i t ht
       exact⟨t,PySem.W.mg_of X G ht,eq_of_beq e3⟩
     . cases e3
   . have e:=List.all_eq_true.mp e4 y hy
     unfold Rt at e
     split at e
     . rename_i t ht
       exact⟨.ref t,.ref t,.inl ⟨t,rfl,rfl⟩,.inl (PySem.W.mg_of X G ht),eq_of_beq e⟩
     . rename_i ht
       obtain⟨a1,a2⟩:=aa e
       obtain rfl:=eq_of_beq a1
       exact⟨.ty "ValueError",.type "ValueError",.inr ⟨_,rfl,rfl⟩,.inr ⟨PySem.W.mg_none_of X G ht,by decide+kernel,by decide⟩,eq_of_beq a2⟩
     . cases e
 . cases e
variable {Ω : Wd}
structure BT(Ω:Wd) where
 lev:Nat
 chk:List Str->Nm->List Stmt->Bool
 wp:Gam->Store->DL.Fin->Prop
 sound:∀{X:Cx}{r:Nat}{N:List Str}{nm:Nm}{sts:List Stmt}{Γ:Gam}{S:Store}{W:DL.Fin},At Ω X r true N nm->X.stack=X.env::X.outer->X.env.frame=some X.env.locals->X.ex=[]->lev≤r->chk N nm sts=true->wp Γ S W->Rns X Γ S sts W
def BT.cons(s:Sm Ω)(b:BT Ω):BT Ω where
 lev:=max s.lev b.lev
 chk N nm sts:=match sts with | st::sts=>s.chk true N nm st&&b.chk N nm sts | _=>false
 wp Γ S W:=s.wp Γ S {W with nx:=λ Γ1 S1=>b.wp Γ1 S1 W}
 sound:=by
  intro X r N nm sts Γ S W A h1 h2 h3 hl hc hw
  obtain⟨l1,l2⟩:=lv2 hl
  cases sts with
  | nil=>exact fE hc
  | cons st sts=>
    obtain⟨g1,g2⟩:=aa hc
    exact Dr (Rn.mono (s.sound A l1 g1 hw) (λ G S1 q=>b.sound A h1 h2 h3 l2 g2 q) (λ _ _ q=>q) (λ _ _ q=>q) λ _ _ q=>q)
section
variable {X : Cx} {Γ : Gam} {S : Store} {W : DL.Fin} {WE : WX} {e : Expr}
theorem Jc{P:Program}{w:World}{outer:List Env}{H1 H':Hp}{h1 B h2:Heap}{a C t:Addr}(fl:Fl P w outer H1 h1 H' B h2)(fw:Heap.FlyingW B outer a (.ref C) (.ref t) h2):∀b o,h1.get? b=some o->b≠a:=by
 intro b o q z
 by_cases hb:b∈frs outer
 . obtain⟨_,o',e',d⟩:=fw.2.2.1.mem hb
   obtain⟨oe,vs,e2,_,e3,_⟩:=fw.first
   rw[z,e2]at e'
   cases e'
   exact d vs e3
 . obtain⟨o',e'⟩:=fl.there b o q hb
   rw[z,fw.2.1]at e'
   cases e'
end
def Qv(N ps:List Str)(sm:Stmt)(k:Nat)(body:BT Ω):Bool:=
 ((aq sm).kind==.function)&&(!(aq sm).isCoroutine&&(!(aq sm).isGenerator&&(decide N.Nodup&&(decide (N.take ps.length=ps)&&((ps.all λ x=>(aq sm).names.lookup x==some .local||(aq sm).names.lookup x==some .cell)&&
   (((aq sm).names.all λ y=>!(y.2==.free))&&(Nat.ble body.lev k&&body.chk N (aq sm).names (bw sm))))))))
theorem Tq(N0:Ω.cd=none){x qual:Str}{sm:Stmt}{f:Addr}{fd:FuncData}{N ps:List Str}{k:Nat}{F:Ct}(FF:Fun Ω.K x qual sm f fd)(body:BT Ω)(hc:Qv N ps sm k body=true)
 (vc:∀(ds:List D)(S:Store)(W:WD),F ds S W->ds.length=ps.length->body.wp (ds.map some++List.replicate (N.length-ds.length) none) S {nx:=λ _ S1=>W .non S1,rt:=W}):Ok Ω (k+1) f fd ps F:=by
 obtain⟨h1,hc⟩:=aa hc
 obtain⟨h2,hc⟩:=aa hc
 obtain⟨h3,hc⟩:=aa hc
 obtain⟨h4,hc⟩:=aa hc
 obtain⟨h5,hc⟩:=aa hc
 obtain⟨h6,hc⟩:=aa hc
 obtain⟨h7,hc⟩:=aa hc
 obtain⟨h8,h9⟩:=aa hc
 have nd:N.Nodup:=of_decide_eq_true h4
 have sc:FnScope N ps (aq sm):=⟨eq_of_beq h1,nt h2,nt h3,nd,of_decide_eq_true h5,λ x hx=>by
  have:=List.all_eq_true.mp h6 x hx
  simpa using this,λ y hy e=>by
  have:=List.all_eq_true.mp h7 y hy
  simp[e]at this⟩
 refine Ma FF sc λ cdv A outer s H E ds S W _ hr hl h=>?_
 refine body.sound (r:=k) (N:=N) (nm:=(aq sm).names) ⟨rfl,rfl,rfl,rfl,rfl,hr,rfl,rfl,rfl,nd,sc.kind,λ x kk h=>.inl h,λ _ _=>rfl,λ _ p q=>nomatch (N0.symm.trans q)⟩ rfl rfl rfl (Nat.le_of_ble_eq_true h8) h9 (vc ds S W h hl)
end XE
namespace RF
open PySem PySem.Spec L2 DL
open PyProof.Rows
section
variable {Ω : Wd}
def unl(ns:List Int):Nat:=(firstMet (λ i=>ns.getD i 0) ns.length).length
theorem yE{X:Cx}{ns:List Int}{S:Store}{W:WD}{d:D}(hc:X.calm=true)(hb:ns.length+1<scanBound)(hd:iH S d=some (ns.map .int))(w:W (.int (unl ns)) S)
 {pins:Pins}{s:Shared}{σ:DL.St}{H:Hp}{O:Own}{v:V}{u:Value}(I:Inv X pins σ H s)(st:StOk X.K O H S)(r':Rep X.K O H v d)(ru':RelV v u):
 wpAny (model X.prog X.w) X.A (call (.type "set") [u]) (λ u1 s1=>wpAny (model X.prog X.w) X.A (call (.builtin "len") [u1]) (EP X pins σ (QG X.K O H W)) X.xe s1) X.xe s:=by
 obtain⟨a,xs,rfl,hs,hq⟩:=xm (pins:=pins) (s:=s) (σ:=σ) (X:=X) st r' hd
 cases ru'
 obtain⟨its,rv,pl,hz⟩:=I.list hs
 have ex:xs=ns.map V.int:=hq.ints
 have hi:IntsAre its ns:=by
  rw[ex]at rv
  clear pl hz hs hq ex w hb hd
  induction ns generalizing its with
  | nil=>cases rv;exact .nil
  | cons n ns ih=>
    cases rv with
    | cons r1 r2=>obtain⟨t,rfl⟩:=r1;constructor;exact ih _ r2
 have hl:its.length=ns.length:=IntsAre.length hi
 refine call_set_list (items:=its.toArray) (ns:=ns) (I.ok.hd hc) pl.isList (by simpa using hi) (by rw[x8,hl];exact hb) λ h' tk hS hk=>?_
 have ez:its.toArray.size=ns.length:=by rw[x8,hl]
 rw[ez]at hS
 obtain⟨o,es,ep,t,ho,hex,hd',_,_,hsz,hf,hn⟩:=hS
 have I1:Inv X pins σ H {s with heap:=h',toks:=tk}:=I.kept (t':=tk) λ b o e=>hk b o (Heap.lt_size e) e
 refine call_len_set (s:={s with heap:=h',toks:=tk}) ho hex hd' hf (by unfold scanBound at hsz;omega) ?_
 rw[hn]
 exact⟨.int _,H,I1.tok _,⟨_,rfl⟩,QG.here w st (.int _)⟩
def Ex.lset(hm:Ω.mg "len"=none)(hm2:Ω.mg "set"=none)(a:Ex Ω):Ex Ω where
 lev:=a.lev
 chk top N nm e:=match e with
  | .Call (.Name y _) [.Call (.Name z _) [b] [] _] [] _=>(y=="len")&&((z=="set")&&(glb nm "len"&&(glb nm "set"&&(okE b&&a.chk top N nm b))))
  | _=>false
 wp Γ S W:=a.wp Γ S λ d S1=>∃ns:List Int,iH S1 d=some (ns.map .int)/\ns.length+1<scanBound/\W (.int (unl ns)) S1
 sound:=by
  intro X r top N nm e Γ S W A hl hc hw
  split at hc
  . rename_i y p z p' b pos' pos
    obtain⟨h1,hc⟩:=aa hc
    obtain⟨h2,hc⟩:=aa hc
    obtain⟨h3,hc⟩:=aa hc
    obtain⟨h4,hc⟩:=aa hc
    obtain⟨h5,h6⟩:=aa hc
    have e1:=eq_of_beq h1
    have e2:=eq_of_beq h2
    subst e1 e2
    intro pins s σ H O I env st
    refine wpAny_Call_Name_kw (aY I (A.glb h3) (by rw[A.g];exact hm) (show bootBuiltins "len"=some (.builtin "len")from by decide+kernel) ?_ (by decide) (by decide))
    refine PyProof.Rows.callWith_builtin1 ?_ rfl rfl
    show wpAny _ _ (spliced ((false,eval _ X.env)::backTo pos (starEach [] X.env))) _ _ s
    refine Calls.spliced_cons ?_
    refine wpAny_Call_Name_kw (aY I (A.glb h4) (by rw[A.g];exact hm2) (show bootBuiltins "set"=some (.type "set")from by decide+kernel) ?_ (by decide) (by decide))
    refine PyProof.Rows.callWith_type1 ?_ (aA h5 _ _) rfl
    rw[aA h5 [] X.env]
    show wpAny _ _ (spliced ((false,eval b X.env)::backTo pos' (starEach [] X.env))) _ _ s
    refine Calls.spliced_cons (thn (a.sound A hl h6 hw pins s σ H O I env st) λ u s1 hq_=>?_)
    obtain⟨v,H1,I1,r1,O1,x,S1,hb,st1,ok1,rep1⟩:=hq_
    obtain⟨ns,c1,c2,c3⟩:=hb
    refine Calls.spliced_nil ?_
    refine thn (yE A.calm c2 c1 c3 I1 ok1 rep1 r1) λ u2 s2 q=>?_
    refine Calls.spliced_nil ?_
    exact thn q λ _ _ q=>bM st1 q
  . exact fE hc
end
end RF
namespace XE
open PySem PySem.Spec L2 DL RF
open PyProof.Rows
variable {Ω : Wd}
section
variable {X : Cx} {Γ : Gam} {S : Store} {sts : List Stmt} {W : DL.Fin} {WE : WX} {e : Expr} {pos : Pos}
theorem XQ.xr{pins:Pins}{σ:L2.St}{O:Own}{H:Hp}{ev:Value}{s2:Shared}(z:XQ X pins σ O H WE ev s2):XR X O H WE ev s2:=by
 obtain⟨H1,s1,E',h1,h2,h3⟩:=z
 exact .inr ⟨pins,σ,H1,s1,E',h1,h2,h3⟩
theorem Rg(h:EvX X Γ S e (λ _ S1=>jw X Γ S1 sts W WE) WE)(hs:swapsWith e none pos.line X.env=pure false):jw X Γ S (.Expr e pos::sts) W WE:=by
 intro pins s σ H O I env ok
 refine wpAny_execs_cons (wpAny_Expr_any (wpAny_mono (h pins s σ H O I env ok) (λ v s1 hq=>?_) λ _ _ z=>z.xr) I.quiet hs)
 obtain⟨x,H1,I1,r1,O1,d,S1,w,st1,ok1,rep1⟩:=hq
 exact wpAny_mono (w pins s1 σ H1 O1 I1 (env.mono st1) ok1) (λ _ _ q=>mJ st1 q) λ _ _ z=>z.pre st1
end
def xg:Expr->Bool
 | .Call (.Name _ _) _ [] _=>true
 | _=>false
theorem qO{e:Expr}{t:Option Expr}{l:Nat}{env:Env}(h:xg e=true):swapsWith e t l env=pure false:=by
 unfold xg at h
 split at h
 . rfl
 . cases h
def BX.exs(x:XEx Ω)(rest:BX Ω):BX Ω where
 lev:=max x.lev rest.lev
 chk top N nm sts:=match sts with | .Expr e _::sts=>xg e&&(x.chk top N nm e&&rest.chk top N nm sts) | _=>false
 wp Γ S W WE:=x.wp Γ S (λ _ S1=>rest.wp Γ S1 W WE) WE
 sound:=by
  intro X r top N nm sts Γ S W WE A hl hc hw
  obtain⟨l1,l2⟩:=lv2 hl
  split at hc
  . obtain⟨h0,hc⟩:=aa hc
    obtain⟨h1,h2⟩:=aa hc
    refine Rg (λ pins s σ H O I env ok=>wpAny_mono (x.sound A l1 h1 hw pins s σ H O I env ok) (λ v s1 hq=>?_) λ _ _ z=>z) (qO h0)
    obtain⟨y,H1,I1,r1,O1,d,S1,w,q⟩:=hq
    exact⟨y,H1,I1,r1,O1,d,S1,rest.sound A l2 h2 w,q⟩
  . exact fE hc
def TrS(X:Cx)(Γ:Gam)(S:Store)(sts:List Stmt)(W:DL.Fin)(WE:WX):Prop:=
 ∀ (pins:Pins)(s:Shared)(σ:L2.St)(H:Hp)(O:Own),Inv X pins σ H s->EnvOk X.K O H σ Γ->StOk X.K O H S->
   wpAny (model X.prog X.w) X.A (execs sts X.env) (SP X pins (ends X.K O H W)) (XQ X pins σ O H WE) s
structure TB(Ω:Wd) where
 lev:Nat
 chk:Bool->List Str->Nm->List Stmt->Bool
 wp:Gam->Store->DL.Fin->WX->Prop
 sound:∀{X:Cx}{r:Nat}{top:Bool}{N:List Str}{nm:Nm}{sts:List Stmt}{Γ:Gam}{S:Store}{W:DL.Fin}{WE:WX},At Ω X.nox r top N nm->lev≤r->chk top N nm sts=true->wp Γ S W WE->TrS X Γ S sts W WE
def TB.exs(x:XEx Ω):TB Ω where
 lev:=x.lev
 chk top N nm sts:=match sts with | [.Expr e _]=>xg e&&x.chk top N nm e | _=>false
 wp Γ S W WE:=x.wp Γ S (λ _ S1=>W.nx Γ S1) WE
 sound:=by
  intro X r top N nm sts Γ S W WE A hl hc hw
  split at hc
  . obtain⟨h0,h1⟩:=aa hc
    intro pins s σ H O I env ok
    refine wpAny_execs_cons (wpAny_Expr_any (wpAny_mono (x.sound A hl h1 hw pins s σ H O I env ok) (λ v s1 hq=>?_) λ _ _ z=>z) I.quiet (qO h0))
    obtain⟨y,H1,I1,r1,O1,d,S1,w,st1,ok1,rep1⟩:=hq
    exact wpAny_execs_nil ⟨σ,H1,I1,O1,Γ,S1,w,st1,ok1,env.mono st1⟩
  . exact fE hc
def Ep:Stmt->Option (List Stmt×ExceptHandler)
 | .Try b [h] [] [] _=>some (b,h)
 | _=>none
def Ez:ExceptHandler->Option (Expr×Str×List Stmt)
 | .ExceptHandler (some y) (some m) (b::bs) _=>some (y,m,b::bs)
 | _=>none
theorem NT{st:Stmt}{b:List Stmt}{h:ExceptHandler}(e:Ep st=some (b,h)):∃p,st=.Try b [h] [] [] p:=by
 unfold Ep at e
 split at e
 . cases e;exact⟨_,rfl⟩
 . cases e
theorem MJ{h:ExceptHandler}{y:Expr}{m:Str}{bs:List Stmt}(e:Ez h=some (y,m,bs)):∃c cs p,bs=c::cs/\h=.ExceptHandler (some y) (some m) (c::cs) p:=by
 unfold Ez at e
 split at e
 . cases e;exact⟨_,_,_,rfl,rfl⟩
 . cases e
end XE
namespace RF
open PySem PySem.Spec L2 DL
open PyProof.Rows
variable {Ω : Wd}
end RF
namespace RF
open PySem PySem.Spec L2 DL
open PyProof.Rows
variable {Ω : Wd}
theorem NP{X:Cx}{S:Store}{W:WD}{ds:List D}(w:W (.loc S.length) (S++[ds])):cz X (.type "list") [.tup ds] S W:=bx dj λ O H vs st r=>by
 obtain⟨v,rfl,r'⟩:=bR r
 cases r' with
 | @tup p xs _ h1 q1=>exact⟨p,xs,rfl,.inr h1.sq,λ l hl=>lJ w st hl q1⟩
theorem Nf{X:Cx}{S:Store}{W:WD}{ds:List D}(w:W (.loc S.length) (S++[ds])):cz X (.type "list") [.lst ds] S W:=bx dj λ O H vs st r=>by
 obtain⟨v,rfl,r'⟩:=bR r
 cases r' with
 | @lst p xs _ h1 q1=>exact⟨p,xs,rfl,.inl h1.sq,λ l hl=>lJ w st hl q1⟩
def Iv:Bc where
 x:="list"
 id:="list"
 boot:=by decide+kernel
 wp ds S W:=match ds with
  | [.tup ds]=>W (.loc S.length) (S++[ds])
  | [.lst ds]=>W (.loc S.length) (S++[ds])
  | _=>False
 sound:=by
  intro X ds S W hc hr h
  split at h
  . exact NP h
  . exact Nf h
  . exact h.elim
end RF
namespace RF
open PySem PySem.Spec L2 DL
open PyProof.Rows
variable {Ω : Wd}
def FrO(n:Nat)(W:WD):WD:=λ d S1=>W d S1∨∃(J:List (List D)) (S':Store) (k:Nat) (ds:List D),d=.loc k/\S1=S'++J/\n≤S'.length/\S'.length≤k/\S1[k]? =some ds/\aj ds=true/\flat S'/\W (.lst ds) S'
theorem QG.fro{K:PySem.W.Frag}{O:Own}{H H':Hp}{W:WD}{v:V}{n:Nat}(hn:O.A.length=n)(q:QG K O H (FrO n W) v H'):QG K O H W v H':=by
 obtain⟨O',d,S1,w,st,ok,r⟩:=q
 rcases w with w | ⟨J,S',k,ds,rfl,rfl,hl,hk,he,hd,hS,w⟩
 . exact⟨O',d,S1,w,st,ok,r⟩
 . obtain⟨st2,ok2,sub,na⟩:=jh st ok (by omega) hS
   refine⟨_,.lst ds,S',w,st2,ok2,?_⟩
   cases r with
   | @loc a _ ha=>
     obtain⟨xs,hx,q1⟩:=ok.obj k a ds ha he
     exact .lst (.inl ⟨na k a (by omega) ha,.inl hx⟩) (cA sub hd q1)
def Bl.fro(b:Bl Ω):Bl Ω where
 lev:=b.lev
 chk:=b.chk
 wp Γ S W:=b.wp Γ S {W with rt:=FrO S.length W.rt}
 sound:=by
  intro X r top N nm sts Γ S W A hl hc hw pins s σ H O I env ok
  refine thn (b.sound A hl hc hw pins s σ H O I env ok) λ f s' q=>?_
  cases f with
  | next=>exact q
  | brk=>exact q
  | cont=>exact q
  | ret u=>obtain⟨v,σ',H',I',r,q⟩:=q;exact⟨v,σ',H',I',r,QG.fro ok.len q⟩
end RF
namespace RF
open PySem PySem.Spec L2 DL
open PyProof.Rows
variable {Ω : Wd}
end RF
namespace RF
open PySem PySem.Spec L2 DL
open PyProof.Rows
section
variable {Ω : Wd}
theorem uU{K:PySem.W.Frag}{O:Own}{H:Hp}:∀{vs:List V}{ds:List D},Reps K O H vs ds->Reps K O H vs.dropLast ds.dropLast
 | _,_,.nil=>.nil
 | _,_,.cons r .nil=>.nil
 | _,_,.cons r (.cons r' t)=>.cons r (uU (.cons r' t))
def Ex.m_pop0(o:Ex Ω):Ex Ω where
 lev:=o.lev
 chk top N nm e:=match e with | .Call (.Attribute x m p) [] [] q=>(m==("pop":Str))&&(nameE x&&((p.endLine==q.line)&&o.chk top N nm x)) | _=>false
 wp Γ S W:=o.wp Γ S λ x S1=>match x with | .loc k=>∃ds y,S1[k]? =some ds/\ds[ds.length-1]? =some y/\W y (S1.set k ds.dropLast) | _=>False
 sound:=by
  intro X r top N nm e Γ S W A hl hc hw
  split at hc
  . rename_i x m p q
    obtain⟨h1,g⟩:=aa hc
    obtain⟨h2,g⟩:=aa g
    obtain⟨h3,h5⟩:=aa g
    have e:=eq_of_beq h1
    subst e
    intro pins s σ H O I env st
    have h:Ev X Γ S x λ x S1=>∃k,x=.loc k/\∃ds y,S1[k]? =some ds/\ds[ds.length-1]? =some y/\W y (S1.set k ds.dropLast):=(o.sound A hl h5 hw).mono λ x S1 q=>by
     cases x<;>first | exact q.elim | exact⟨_,rfl,q⟩
    refine Jo (T:="list") PySem.F.plainAttrs_list PySem.F.slot_list_pop PySem.F.type_list_pop Qm (h.pe) (by cases x<;>first | rfl | exact ff h2) h3 pins s σ H _ I ⟨O,env,st,λ v H' q=>?_⟩
    obtain⟨O1,x,S1,⟨k,rfl,ds,y,hk,hy,w⟩,st1,ok1,rep1⟩:=q
    cases rep1 with
    | @loc a _ ha=>
      obtain⟨xs,hx,q1⟩:=ok1.obj k a ds ha hk
      obtain⟨v,hv,rv⟩:=q1.get hy
      rw[←q1.length]at hv
      exact⟨.inl ⟨rfl,xs,SqL.of hx⟩,a,xs,v,rfl,rfl,hx,hv,O1,y,_,w,st1.trans (Step.put (bN ha) _),ok1.put ha (uU q1),rv.mono (Step.put (bN ha) _)⟩
  . exact ff hc
end
end RF
namespace RF
open PySem PySem.Spec L2 DL
open PyProof.Rows
theorem cU:∀{vs:List Value}{ns:List Int},IntsAre vs ns->Vals (ns.map V.int) vs
 | _,_,.nil=>.nil
 | _,_,.cons n t r=>.cons ⟨t,rfl⟩ (cU r)
end RF
namespace RF
open PySem PySem.Spec L2 DL
open PyProof.Rows
theorem sU:∀(l:List Value)(ns:List Int),l.length=ns.length->(∀(j:Nat)(v:Value),l[j]? =some v->∃(n:Int) (t:Tok),ns[j]? =some n/\v=Value.int n t)->IntsAre l ns
 | [],[],_,_=>.nil
 | [],_::_,h,_=>nomatch h
 | _::_,[],h,_=>nomatch h
 | v::l,n::ns,h,k=>by
   obtain⟨m,t,e,rfl⟩:=k 0 v rfl
   cases e
   exact .cons n t (sU l ns (Nat.succ.inj h) λ j v e=>k (j+1) v e)
def upI(n:Nat):List Int:=(List.range n).map λ(i:Nat)=>(0:Int)+(i:Int)
theorem lV(n:Nat):DL.upTo 0 n=(upI n).map D.int:=by
 unfold DL.upTo upI
 rw[List.map_map];rfl
theorem lH(j:Int)(h:0≤j):Builtin.Range.rangeSize 0 j 1=(j.toNat:Nat):=by rw[rangeSize_one];split<;>omega
theorem qY{j:Int}(h:0≤j)(h':j<1000000):Builtin.Range.small 0 j 1=true:=by
 unfold Builtin.Range.small
 rw[lH j h]
 by_cases h0:j≤0
 . have:j=0:=by omega
   subst this;rfl
 . simp only[Builtin.Range.rangeFitsLong,Bool.and_eq_true,Bool.or_eq_true,decide_eq_true_eq,beq_iff_eq,h0,if_false,show((1:Int)>0)from by decide,if_true]
   omega
section
variable {X : Cx} {Γ : Gam} {S : Store} {W : WD} {pos : Pos}
theorem Nv{a:Expr}{p p2 pos2:Pos}(hcm:X.calm=true)(h:Ev X Γ S a λ d S1=>∃j:Int,d=.int j/\0≤j/\j<1000000/\(W (.lst (DL.upTo 0 j.toNat)) S1∨W (.loc S1.length) (S1++[DL.upTo 0 j.toNat])))(hm:X.mg "range"=none)(hm2:X.mg "list"=none)(hg:Gl X "range")(hg2:Gl X "list")(hs:starEach [a] X.env=[(false,eval a X.env)])
 (hs2:starEach [.Call (.Name "range" p) [a] [] pos] X.env=[(false,eval (.Call (.Name "range" p) [a] [] pos) X.env)]):Ev X Γ S (.Call (.Name "list" p2) [.Call (.Name "range" p) [a] [] pos] [] pos2) W:=by
 intro pins s σ H O I env st
 refine Call_ (aY I hg2 hm2 (show bootBuiltins "list"=some (.type "list")from by decide+kernel) (PyProof.Rows.callWith_type1 ?_ hs2 rfl))
 rw[show backTo pos2 (starEach [.Call (.Name "range" p) [a] [] pos] X.env)=[(false,eval (.Call (.Name "range" p) [a] [] pos) X.env)]from by rw[hs2];rfl]
 refine Calls.spliced_cons ?_
 have hA:EvA X Γ S [a] λ ds S1=>∃j:Int,ds=[.int j]/\0≤j/\j<1000000/\(W (.lst (DL.upTo 0 j.toNat)) S1∨W (.loc S1.length) (S1++[DL.upTo 0 j.toNat])):=
  bz (h.mono λ d S1 ⟨j,e,h1,h2,w⟩=>cH ⟨j,by rw[e],h1,h2,w⟩) hs
 refine Call_ (aY I hg hm boot_range (PyProof.Rows.callWith_type1 (thn (hA pos pins s σ H O I env st) λ us s1 hq_=>?_) hs rfl))
 obtain⟨vs,H1,I1,r1,q1⟩:=hq_
 obtain⟨O1,ds,S1,⟨j,rfl,h1,h2,w⟩,st1,ok1,rep⟩:=q1
 cases rep with
 | cons ra rb=>
   cases rb
   cases ra
   cases r1 with
   | cons r rr=>
     cases rr
     obtain⟨t,rfl⟩:=r
     refine call_range_1 (Calls.spliced_nil ?_)
     have I2:Inv X pins σ H1 {s1 with heap:=s1.heap.push {cls:=.type "range",data:=.fields #[.int 0 s1.toks,.int j t,.int 1 (s1.toks+1)]},toks:=s1.toks+1+1}:=I1.kept λ b o e=>Heap.get?_push_of_some _ e
     refine call_list_range (I2.ok.hd hcm) (IsRange.new ..) (qY h1 h2) (lH j h1) (by omega) λ h' tk acc c' kp hget its=>?_
     have hp:=I2.hok.fresh (x5 _)
     have hI:IntsAre acc.toList (upI j.toNat):=sU _ _ (by have:=its.1;simp[upI];exact this) λ i v e=>by
      have e':acc[i]? =some v:=by simpa using e
      obtain⟨t,rfl⟩:=its.2 i v e'
      have hi:i<j.toNat:=by rw[←its.1];exact(Array.getElem?_eq_some_iff.mp e').1
      exact⟨_,t,by unfold upI;rw[y9,List.getElem?_range hi];rfl,by rw[Int.mul_one]⟩
     have zl:((upI j.toNat).map V.int).length≤sizeLine:=by simp[upI,sizeLine_eq];omega
     have I3:=I2.laid (t':=tk) (o:=.lst ((upI j.toNat).map V.int)) (λ b ob q=>kp b ob q) (x5 _) ⟨zl,acc.toList,c',cU hI,by simpa using hget⟩
     have rp:Reps X.K O1 H1 ((upI j.toNat).map V.int) (DL.upTo 0 j.toNat):=by rw[lV];exact Reps.of_ints _
     refine bM st1 ⟨.ref _,_,I3,rfl,?_⟩
     rcases w with w | w
     . exact du w ok1 hp rp
     . exact lJ w ok1 hp rp
end
section
variable {Ω : Wd}
def Ex.lrng(hm:Ω.mg "range"=none)(hm2:Ω.mg "list"=none)(a:Ex Ω):Ex Ω where
 lev:=a.lev
 chk top N nm e:=match e with | .Call (.Name z _) [.Call (.Name y _) [b] [] _] [] _=>(z==("list":Str))&&((y==("range":Str))&&(glb nm "list"&&(glb nm "range"&&(okE b&&a.chk top N nm b)))) | _=>false
 wp Γ S W:=a.wp Γ S λ d S1=>match d with | .int j=>(0≤j/\j<1000000)/\(W (.lst (DL.upTo 0 j.toNat)) S1∨W (.loc S1.length) (S1++[DL.upTo 0 j.toNat])) | _=>False
 sound:=by
  intro X r top N nm e Γ S W A hl hc hw
  split at hc
  . rename_i z p2 y p b pos pos2
    obtain⟨h0,g1⟩:=aa hc
    obtain⟨h1,g2⟩:=aa g1
    obtain⟨h2',g2⟩:=aa g2
    obtain⟨h2,g3⟩:=aa g2
    obtain⟨h3,h4⟩:=aa g3
    have e:=eq_of_beq h0
    subst e
    have e':=eq_of_beq h1
    subst e'
    refine Nv A.calm ((a.sound A hl h4 hw).mono λ d S1 q=>?_) (by rw[A.g];exact hm) (by rw[A.g];exact hm2) (A.glb h2) (A.glb h2') (aA h3 [] _) rfl
    cases d<;>first | exact⟨_,rfl,q.1.1,q.1.2,q.2⟩ | exact q.elim
  . exact fE hc
end
end RF
namespace RF
open PySem PySem.Spec L2 DL
open PyProof.Rows
mutual
inductive Rsv(n:Nat)(S:Store):D->D->Prop
 | ok{d:D}(h:ak d=true):Rsv n S d d
 | loc{k:Nat}{xs rs:List D}(h:n≤k)(g:S[k]? =some xs)(r:Rsvs n S xs rs):Rsv n S (.loc k) (.lst rs)
 | lst{xs rs:List D}(r:Rsvs n S xs rs):Rsv n S (.lst xs) (.lst rs)
 | tup{xs rs:List D}(r:Rsvs n S xs rs):Rsv n S (.tup xs) (.tup rs)
inductive Rsvs(n:Nat)(S:Store):List D->List D->Prop
 | nil:Rsvs n S [] []
 | cons{x r:D}{xs rs:List D}(h:Rsv n S x r)(t:Rsvs n S xs rs):Rsvs n S (x::xs) (r::rs)
end
mutual
theorem M3{K:PySem.W.Frag}{O O':Own}{H:Hp}{S:Store}{n:Nat}(sub:∀b,¬O.has b->¬O'.has b)(na:∀j a,n≤j->O.A[j]? =some (a,false)->¬O'.has a)(ok:StOk K O H S):∀{v:V}{d r:D},Rsv n S d r->Rep K O H v d->Rep K O' H v r
 | _,_,_,.ok h,q=>cG sub h q
 | _,_,_,.loc h g r,.loc ha=>by
   obtain⟨ys,hy,q2⟩:=ok.obj _ _ _ ha g
   exact .lst (.inl ⟨na _ _ h ha,.inl hy⟩) (jJ sub na ok r q2)
 | _,_,_,.lst r,.lst h q=>.lst (h.imp (λ q=>⟨sub _ q.1,q.2⟩) id) (jJ sub na ok r q)
 | _,_,_,.tup r,.tup h q=>.tup ⟨sub _ h.1,h.2⟩ (jJ sub na ok r q)
theorem jJ{K:PySem.W.Frag}{O O':Own}{H:Hp}{S:Store}{n:Nat}(sub:∀b,¬O.has b->¬O'.has b)(na:∀j a,n≤j->O.A[j]? =some (a,false)->¬O'.has a)(ok:StOk K O H S):∀{vs:List V}{ds rs:List D},Rsvs n S ds rs->Reps K O H vs ds->Reps K O' H vs rs
 | _,_,_,.nil,.nil=>.nil
 | _,_,_,.cons h t,.cons a b=>.cons (M3 sub na ok h a) (jJ sub na ok t b)
end
end RF
namespace XE
open PySem PySem.Spec L2 DL RF
open PyProof.Rows
variable {Ω : Wd}
section
variable {X : Cx} {Γ : Gam} {S : Store} {W : DL.Fin}
theorem Ou{L T:List Str}{hb:List HB}{i j:Nat}{n c:Str}{np hp pos cp np2 ap:Pos}{body rest:List Stmt}(E:ExF X.mg X.K L T)
 (h:TrS X Γ S body {W with nx:=λ _ _=>False} λ x S1=>x∈L/\∃o,HB.out (qOf x) hb=some o/\W.rt o.d S1)
 (hst:X.stack=X.env::X.outer)(hfr:X.env.frame=some X.env.locals)(hex:X.ex=[])(hN:X.N.Nodup)(hi:X.N[i]? =some n)(hn:X.env.scope.names.lookup n=some .local)(hok:okN n=true)
 (hj:X.N[j]? =some c)(hcl:X.env.scope.names.lookup c=some .local)(hokc:okN c=true)(hij:i≠j)(mi:X.mg "isinstance"=none)(mt:X.mg "int"=none)
 (gi:Gl X "isinstance")(gt:hb.any HB.isPick=true->Gl X "int")(gT:Gl X "TurnError")(hc:HB.chks c hb rest=true)(hT:∀b∈hb,∀y∈b.nms,y∈T/\Gl X y/\(y==("__debug__":Str))=false):
 Rns X Γ S (.Try body [.ExceptHandler (some (.Name "TurnError" np)) (some n) [.Assign [.Name c cp] (.Name n np2) ap] hp] [] [] pos::rest) W:=by
 intro pins s σ H O I env st
 refine wpAny_execs_cons (wpAny_Try_except (wpAny_mono (h pins s σ H O I env st) (λ f s1 hq=>?_) λ ev s2 z=>?_))
 . cases f with
   | next=>
     obtain⟨σ',H',I',O1,Γ1,S1,w,_⟩:=hq
     exact(show False from w).elim
   | ret v=>exact hq
   | brk=>exact hq
   | cont=>exact hq
 . obtain⟨H1,s1,E',I1,cx,hE⟩:=z
   obtain⟨a,C,t,H',B,rfl,ho,hg,fl,fw,hq⟩:=cx
   obtain⟨x,O',S',hm,⟨hL,o,eo,hw⟩,st',ok'⟩:=hE C H' hq
   obtain⟨C',k1,k2,atr,⟨tt,k3,k4⟩,k5⟩:=E.cls x hL
   rw[k1]at hm
   cases hm
   have inv:∀h',Heap.FlyingW B X.stack a (.ref C) (.ref t) h'->s2.heap.UpToSlots h'->Inv X pins σ H' {s2 with heap:=h'}:=λ h' f u=>by
    have fl':=fl.on u fw.2.2.1
    exact Inv.call' (s':={s2 with heap:=h'}) (ch:=[]) I1 ho (fl'.un f.1) (fl'.hok.kept f.1) hg (λ b z=>nomatch z)
   have hH:H' a=none:=HOk.none fl.hok fw.2.1
   have hiσ:i<σ.length:=by rw[I.len];exact(y3.mp hi).1
   have hjσ:j<σ.length:=by rw[I.len];exact(y3.mp hj).1
   refine caught I1.ok I1 hex (Jc fl fw) hst hfr fw inv fl.hok gT k3 (by decide) k4 hN hi hn λ s6 J=>?_
   refine wpAny_execs_cons (wpAny_Assign_Name (thn (pZ (X:=XE.sup X (.ref a)) hi (.inl hn) (bJ hok).1 (bJ hok).2.1 pins s6 _ _ (λ v H7=>v=.ref a/\H7=upd H' a (.ext (bA a C))) J ⟨.ref a,List.getElem?_set_self hiσ,rfl,rfl⟩) λ v s7 hq_=>?_) (jB rfl _ _ _))
   obtain⟨y,H7,I7,r7,rfl,rfl⟩:=hq_
   refine jk (X:=XE.sup X (.ref a)) I7 hN hj (.inl hcl) r7 (λ s8 I8=>?_) (.inr hcl)
   refine wpAny_execs_nil ?_
   refine G8 (Inv.unsup I1.ok I8) hN hi hn λ s9 I9=>?_
   have sx:Sx X c j C (qOf x):=⟨hj,.inl hcl,(bJ hokc).1,(bJ hokc).2.1,atr,mi,gi⟩
   have hs:(((σ.set i (some (V.ref a))).set j (some (V.ref a))).set i none)[j]? =some (some (V.ref a)):=by
    rw[List.getElem?_set_ne hij,List.getElem?_set_self (by rw[List.length_set];exact hjσ)]
   have run:=HB.run (Y:=X) (a:=a) sx hs mt hb rest gt hc (λ b hb' y hy=>?_) s9 _ aH I9
   . refine wpAny_mono run (λ f s10 z=>?_) λ _ _ z=>z
     rw[eo]at z
     obtain⟨H10,I10,sm,u,rfl,r⟩:=z
     exact⟨o.v,_,H10,I10,r,O',o.d,S',hw,(st'.trans (Step.fresh hH _)).trans (Step.same sm),(ok'.fresh hH _).same sm,by cases o<;>constructor⟩
   . obtain⟨g1,g2,g3⟩:=hT b hb' y hy
     obtain⟨v,u,g4,g5,g6⟩:=k5 y g1
     exact⟨g2,g3,v,u,g4,g5,g6⟩
end
def Kr:List Stmt->Option (Str×Str)
 | [.Assign [.Name c _] (.Name n _) _]=>some (c,n)
 | _=>none
theorem NB{sts:List Stmt}{c n:Str}(e:Kr sts=some (c,n)):∃p q r,sts=[.Assign [.Name c p] (.Name n q) r]:=by
 unfold Kr at e
 split at e
 . cases e;exact⟨_,_,_,rfl⟩
 . cases e
def BT.tryc{L T:List Str}(E:ExF Ω.mg Ω.K L T)(mi:Ω.mg "isinstance"=none)(mt:Ω.mg "int"=none)(x:TB Ω)(i:Nat)(n:Str)(j:Nat)(c:Str)(hb:List HB):BT Ω where
 lev:=x.lev
 chk N nm sts:=match sts with
  | st::rest=>(match Ep st with
    | some (b,h)=>(match Ez h with
      | some (y,m,suite)=>(Kr suite==some (c,n))&&((nameV y==some ("TurnError":Str))&&((m==n)&&(x.chk true N nm b&&(HB.chks c hb rest&&((nm.lookup n==some .local)&&((N[i]? ==some n)&&(okN n&&((nm.lookup c==some .local)&&((N[j]? ==some c)&&(okN c&&((i !=j)&&(glb nm "isinstance"&&((glb nm "int"|| !hb.any HB.isPick)&&(glb nm "TurnError"&&(hb.all λ b=>b.nms.all λ y=>T.contains y&&(glb nm y&&okN y))))))))))))))))
      | none=>false)
    | none=>false)
  | _=>false
 wp Γ S W:=x.wp Γ S {W with nx:=λ _ _=>False} λ y S1=>y∈L/\∃o,HB.out (qOf y) hb=some o/\W.rt o.d S1
 sound:=by
  intro X r N nm sts Γ S W A h1 h2 h3 hl hc hw
  cases sts with
  | nil=>exact fE hc
  | cons st rest=>
    cases e1:Ep st with
    | none=>simp only[e1]at hc;exact fE hc
    | some w=>
      obtain⟨body,han⟩:=w
      simp only[e1]at hc
      cases e2:Ez han with
      | none=>simp only[e2]at hc;exact fE hc
      | some w=>
        obtain⟨y,m,suite⟩:=w
        simp only[e2]at hc
        obtain⟨c0,hc⟩:=aa hc
        obtain⟨c1,hc⟩:=aa hc
        obtain⟨c2,hc⟩:=aa hc
        obtain⟨c3,hc⟩:=aa hc
        obtain⟨c4,hc⟩:=aa hc
        obtain⟨c5,hc⟩:=aa hc
        obtain⟨c6,hc⟩:=aa hc
        obtain⟨c7,hc⟩:=aa hc
        obtain⟨d5,hc⟩:=aa hc
        obtain⟨d6,hc⟩:=aa hc
        obtain⟨d7,hc⟩:=aa hc
        obtain⟨d8,hc⟩:=aa hc
        obtain⟨c8,hc⟩:=aa hc
        obtain⟨c9,hc⟩:=aa hc
        obtain⟨c10,c11⟩:=aa hc
        obtain⟨p,rfl⟩:=NT e1
        obtain⟨b,bs,hp,e3,rfl⟩:=MJ e2
        obtain⟨p1,p2,p3,e4⟩:=NB (eq_of_beq c0)
        rw[e4]at e3
        cases e3
        obtain⟨np,rfl⟩:=ji (eq_of_beq c1)
        obtain rfl:=eq_of_beq c2
        have A':At Ω X.nox r true N nm:=⟨A.p,A.w,A.k,A.g,A.b,A.room,rfl,A.calm,A.n,A.nd,A.kind,A.look,A.fn,A.cd⟩
        have loc:∀{z:Str},nm.lookup z=some .local->X.env.scope.names.lookup z=some .local:=λ{z} h=>by
         rcases A.look z _ h with q | ⟨q,_⟩
         . exact q
         . exact nomatch q
        refine Ou (L:=L) (T:=T) (hb:=hb) (i:=i) (j:=j) (by rw[A.g,A.k];exact E) (x.sound (X:=X) A' hl c3 hw) h1 h2 h3 (by rw[A.n];exact A.nd) (by rw[A.n];exact eq_of_beq c6) (loc (eq_of_beq c5)) c7 (by rw[A.n];exact eq_of_beq d6) (loc (eq_of_beq d5)) d7 (by simpa using d8) (by rw[A.g];exact mi) (by rw[A.g];exact mt) (A.glb c8) (λ h=>A.glb (by rw[h]at c9;simpa using c9)) (A.glb c10) c4 λ b' hb' y hy=>?_
        have:=List.all_eq_true.mp (List.all_eq_true.mp c11 b' hb') y hy
        obtain⟨g1,this⟩:=aa this
        obtain⟨g2,g3⟩:=aa this
        exact⟨by simpa using g1,A.glb g2,(bJ g3).1⟩
def _root_.RF.Ex.ofX(x:XEx Ω):Ex Ω where
 lev:=x.lev
 chk:=x.chk
 wp Γ S W:=x.wp Γ S W λ _ _=>False
 sound:=by
  intro X r top N nm e Γ S W A hl hc hw
  have A':At Ω X.nox r top N nm:=⟨A.p,A.w,A.k,A.g,A.b,A.room,rfl,A.calm,A.n,A.nd,A.kind,A.look,A.fn,A.cd⟩
  have h:=x.sound (X:=X) A' hl hc hw
  intro pins s σ H O I env st
  refine wpAny_mono (h pins s σ H O I env st) (λ v s1 q=>q) λ ev s2 z=>?_
  obtain⟨H1,s1,E',I1,cx,hE⟩:=z
  obtain⟨a,C,t,H',B,rfl,ho,hg,fl,fw,hq⟩:=cx
  obtain⟨x,O',S',hm,w,st',ok'⟩:=hE C H' hq
  exact(show False from w).elim
end XE
set_option maxHeartbeats 3200000
namespace PySem
open Sem (wp)
section
variable {prog : Program} {w : World} {A : Around} {E : Value -> Shared -> Prop} {s : Shared}
theorem jR{Q:List Value->Shared->Prop}{r:Addr}{a b c:Int}{t u v:Tok}{n:Nat}(hh:A.handled=none)(hr:IsRange s.heap r a b c t u v)(hsmall:Builtin.Range.small a b c=true)
 (hn:Builtin.Range.rangeSize a b c=n)(hlen:n≤2 ^ 24)
 (hQ:∀h' tk acc,(∀b o',s.heap.get? b=some o'->h'.get? b=some o')->ItemsOf (λ i v=>∃t,v=.int (a+i*c) t) acc n->Q acc.toList {s with heap:=h',toks:=tk}):
 wpAny (model prog w) A (collect (.ref r)) Q E s:=by
 have hS:(s.heap.push {cls:=.type "list",data:=.seq #[]}).get? s.heap.objs.size=some {cls:=.type "list",data:=.seq #[] 0}:=Heap.get?_push_size _ rfl
 have go:=wpAny_extend_range (prog:=prog) (w:=w) (A:=A) (s:={s with heap:=s.heap.push {cls:=.type "list",data:=.seq #[]}}) (R:=λ r s'=>∃(h':Heap) (tk:Nat) (acc:Array Value) (c':Nat),r=.ok (.ret (.ref s.heap.objs.size))/\s'={s with heap:=h',toks:=tk}/\(∀b o',s.heap.get? b=some o'->h'.get? b=some o')/\h'.get? s.heap.objs.size=some {cls:=.type "list",dict:=none,data:=.seq acc c',slots:=#[]}/\ItemsOf (λ i v=>∃t,v=.int (a+i*c) t) acc n) hh (Heap.get?_push_of_some _ hr) hsmall hn hlen _ (.ref s.heap.objs.size) 0 hS λ h' tk acc' c' hk hS' hacc=>⟨h',tk,acc',c',rfl,rfl,λ b o' e=>hk b o' (Nat.ne_of_lt (Heap.lt_size e)) (Heap.get?_push_of_some _ e),hS',hacc⟩
 have out:∀{r:Result}{s':Shared},(∃(h':Heap) (tk:Nat) (acc:Array Value) (c':Nat),r=.ok (.ret (.ref s.heap.objs.size))/\s'={s with heap:=h',toks:=tk}/\(∀b o',s.heap.get? b=some o'->h'.get? b=some o')/\h'.get? s.heap.objs.size=some {cls:=.type "list",dict:=none,data:=.seq acc c',slots:=#[]}/\ItemsOf (λ i v=>∃t,v=.int (a+i*c) t) acc n)->∃(h':Heap) (tk:Nat) (acc:Array Value) (c':Nat),r=.ok (.ret (.ref s.heap.objs.size))/\s'={s with heap:=h',toks:=tk}/\h'.get? s.heap.objs.size=some {cls:=.type "list",dict:=none,data:=.seq acc c',slots:=#[]}/\Q acc.toList s':=by
  rintro r s' ⟨h',tk,acc,c',e1,rfl,hk,hS',hi⟩
  exact⟨h',tk,acc,c',e1,rfl,hS',hQ h' tk acc hk hi⟩
 unfold collect
 refine wpAny_bind (wpAny_runValue (codeAny_builtin F.entry_proto_collect (by
  rw[Around.under_plainId F.plain_proto_collect _]
  refine wpAny_bind (m:=newList []) (wpAny_newObj_type (wpAny_pure ⟨plainId_quiet F.plain_list_iadd _,codeAny_builtin F.entry_list_iadd (by
   rw[Around.under_plainId F.plain_list_iadd _]
   refine wpAny_mono go (λ fin s' h=>?_) λ e s' h=>?_
   . cases fin with
     | done f=>
       obtain⟨h',tk,acc,c',e1,rfl,hS',q⟩:=out h
       cases e1
       exact wpAny_bind (wpAny_load hS' (wpAny_pure q))
     | again c'=>exact⟨h.1,codeAny_mono h.2 λ r s'' hr=>by
      obtain⟨h',tk,acc,c',rfl,rfl,hS',q⟩:=out hr
      exact wpAny_bind (wpAny_load hS' (wpAny_pure q))⟩
   . obtain⟨h',tk,acc,c',e1,_⟩:=h
     cases e1)⟩)))))
end
theorem iW(r:Addr)(a b c:Int)(t u v:Tok)(n:Nat)(hsmall:Builtin.Range.small a b c=true)(hn:Builtin.Range.rangeSize a b c=n)(hlen:n≤2 ^ 24):
 Meets (Builtin.«tuple.__new__» ⟨[.type "tuple",.ref r],[]⟩)
  (λ A R s=>A.handled=none/\IsRange s.heap r a b c t u v/\∀(h':Heap) tk acc,(∀b o',s.heap.get? b=some o'->h'.get? b=some o')->ItemsOf (λ i v=>∃t,v=.int (a+i*c) t) acc n->R (.ok (.ret (.ref h'.objs.size))) {s with heap:=h'.push {cls:=.type "tuple",data:=.seq acc},toks:=tk}):=
 .of_wp λ prog w A R s h=>by
  obtain⟨hp,g,d,tk,os⟩:=s;obtain⟨hh,hr,h⟩:=h
  have hsub:=sub_tuple_self
  have hi:=init_tuple_lookup
  have hmh:=madeHere_tuple
  have hT:Shared.TypeIs ⟨hp,g,d,tk,os⟩ (.ref r) "range":=⟨_,hr,rfl⟩
  wp_walk using AutoSeq1.wpAny_loadPart' hr,wpAny_typeOf hT,jR (A:=A.in1) hh hr hsmall hn hlen
  intro h' tk acc hk hacc
  show wpAny _ _ (Builtin.Tuple.tupleExact acc.toList.toArray>>=λ v=>ret v) _ _ _
  have hz:acc.size≤sizeLine:=by rw[hacc.1,sizeLine_eq];omega
  refine wpAny_bind (m:=Builtin.Tuple.tupleExact _) (wpAny_newObj_type (wpAny_pure ⟨_,rfl,?_⟩) (by show acc.toList.toArray.size≤sizeLine;simpa using hz))
  have e:acc.toList.toArray=acc:=by simp
  rw[e]
  exact h h' tk acc hk hacc
section
variable {prog : Program} {w : World} {A : Around} {E : Value -> Shared -> Prop} {s : Shared}
theorem ou{r:Addr}{a b c:Int}{t u v:Tok}{n:Nat}{Q:Value->Shared->Prop}(hh:A.handled=none)(hr:IsRange s.heap r a b c t u v)(hsmall:Builtin.Range.small a b c=true)(hn:Builtin.Range.rangeSize a b c=n)(hlen:n≤2 ^ 24)
 (h:∀(h':Heap) tk acc,(∀b o',s.heap.get? b=some o'->h'.get? b=some o')->ItemsOf (λ i v=>∃t,v=.int (a+i*c) t) acc n->Q (.ref h'.objs.size) {s with heap:=h'.push {cls:=.type "tuple",data:=.seq acc},toks:=tk}):
 wpAny (model prog w) A (call (.type "tuple") [.ref r]) Q E s:=by
 have g:=iW r a b c t u v n hsmall hn hlen
 exact callType_new F.called_tuple (by decide) (F.typeCall_tuple_1 _) (F.newCall_tuple_1 _) (λ x=>F.args_object_init_2 x _) F.entry_tuple_new g ⟨hh,hr,λ h' tk acc hk hacc=>⟨⟨_,Heap.get?_push_size _ rfl,rfl⟩,h h' tk acc hk hacc⟩⟩
end
abbrev ie(led:Bool):Obj:={cls:=.type "set",dict:=none,data:=.set #[] 0 (.fresh 0 0 led)}
section
variable {prog : Program} {w : World} {A : Around} {E : Value -> Shared -> Prop} {s : Shared}
abbrev ju(ns:List Int)(n:Nat):List Int:=PyProof.Rows.firstMet (λ i=>ns.getD i 0) n
theorem uI {l:Addr}{its:Array Value}{ns:List Int}{Q:Value->Shared->Prop}
 (hh:A.handled=none)(hl:s.heap.IsTuple l its)(hi:PyProof.Rows.IntsAre its.toList ns)(hb:its.size+1<scanBound)
 (h:∀(h':Heap)(tk:Nat),h'.SetOf (intKind prog w) s.heap.objs.size (λ k'=>(ju ns its.size).any (· ==k')) (ju ns its.size).length->
  (∀b o,b<s.heap.objs.size->s.heap.get? b=some o->h'.get? b=some o)->Q (.ref s.heap.objs.size) {s with heap:=h',toks:=tk}):
 wpAny (model prog w) A (call (.type "set") [.ref l]) Q E s:=by
 obtain⟨c,tl,hmro⟩:=F.called_set.mro
 have k1:=F.called_set.made
 have k2:=F.called_set.sub
 have k3:=F.called_set.notType
 have k4:=F.called_set.canCreate
 have k5:=F.typeCall_set_1 (.ref l)
 refine wpAny_call (codeAny_of_tree (show wpAny _ _ (callAny (.type "set") _) _ _ _ from wpAny_pure ⟨Code.quiet_builtin _ (by decide+kernel),codeAny_builtin F.entry_type_call ?_⟩))
 rw[Around.under_plain (weight_type_call_type "set" [.ref l] []) rfl]
 repeat(any_goals (first | assumption | wp_step))
 refine codeAny_mono (code_set_new_1 (.ref l) (E:=E) (Q₁:=λ x s1=>∃led:Bool,x=.ref s.heap.objs.size/\s1={s with heap:=s.heap.push (ie led)}) λ led=>⟨led,rfl,rfl⟩) λ r s1 hr=>?_
 cases r with
 | error e=>exact hr
 | ok fl =>
   cases fl with
   | ret x =>
     obtain⟨led,rfl,rfl⟩:=hr
     have hS:(s.heap.push (ie led)).get? s.heap.objs.size=some (ie led):=Heap.get?_push_size _ rfl
     have hT:Shared.TypeIs {s with heap:=s.heap.push (ie led)} (.ref s.heap.objs.size) "set":=⟨_,hS,rfl⟩
     have k6:=F.called_set.init.lookup
     have k7:=F.called_set.init.bind (.ref s.heap.objs.size)
     repeat(any_goals (first | assumption | wp_step))
     refine codeAny_mono (codeAny_call_builtin (R:=wants (λ r s2=>r=.none/\∃h' tk,s2={s with heap:=h',toks:=tk}/\h'.SetOf (intKind prog w) s.heap.objs.size (λ k'=>(ju ns its.size).any (· ==k')) (ju ns its.size).length/\(∀b o,b<s.heap.objs.size->s.heap.get? b=some o->h'.get? b=some o)) E) F.called_set.init.plain F.entry_set_init (check_set_init_1 hT ?_)) λ r2 s2 hr2=>?_
     . have hlS:l<s.heap.objs.size:=by
        obtain⟨o,ho,_⟩:=hl
        exact Heap.lt_size ho
       have hl1:(s.heap.push (ie led)).IsTuple l its:=hl.at λ o e=>Heap.get?_push_of_some _ e
       have hty:Shared.TypeIs {s with heap:=s.heap.push (ie led)} (.ref l) "tuple":=hl1.typeIs
       have q1:=F.sub_tuple_set
       have q2:=F.sub_tuple_frozenset
       have q3:(Value.type "tuple"==Value.type "dict")=false:=by decide
       unfold Builtin.«set.__init__» noKeywords Builtin.Frozenset.updateFrom
       generalize hPI:pyIter=PI
       wp_walk using wpAny_typeOf hty
       subst hPI
       refine wpAny_pyIter_tuple hl1 (wpAny_bind (wpAny_runValue ?_))
       have hneI:l≠(s.heap.push (ie led)).objs.size:=by rw[Heap.size_push];exact Nat.ne_of_lt (Nat.lt_succ_of_lt hlS)
       have hSf:s.heap.objs.size∉[(s.heap.push (ie led)).objs.size,l]:=by
        rw[Heap.size_push]
        intro z
        rcases List.mem_cons.mp z with z | z
        . exact absurd z (Nat.ne_of_lt (Nat.lt_succ_self _))
        . exact absurd (List.mem_singleton.mp z) (Nat.ne_of_gt hlS)
       have hv:∀(i:Nat)(v:Value),its[i]? =some v->∃t,v=.int ((λ i=>ns.getD i 0) i) t:=λ i v e=>PyProof.Rows.IntsAre.int_at hi i v (by rw[Array.getElem?_toList];exact e)
       refine PyProof.Rows.codeAny_set_update_loopS ((Walks.tuple (A:=A.in1.in1.in1) (by simp[hh]) _ l hneI its).toS) s.heap.objs.size hSf (λ i=>ns.getD i 0) hv hb (its.size-0) 0 _ (by omega) (Nat.zero_le _) ⟨⟨_,Heap.get?_push_size _ rfl,rfl,rfl⟩,hl1.at λ o e=>Heap.get?_push_of_some _ e⟩ ?_ λ s' hm hS'=>?_
       . exact PyProof.Rows.SetOf_congr ((PyProof.Rows.setObjOf_fresh (knd:=intKind prog w) led).setOf (Heap.get?_push_of_some _ hS) (by unfold scanBound;omega)) (λ _=>rfl) rfl
       . obtain⟨h',g',d',tk',os'⟩:=s'
         obtain rfl:g'=s.gens:=hm.gens
         obtain rfl:d'=s.drawn:=hm.drawn
         obtain rfl:os'=s.os:=hm.os
         show wpAny _ _ _ _ _ _
         refine wpAny_pure (show wpAny _ _ (ret Value.none) _ _ _ from wpAny_pure ⟨rfl,h',tk',rfl,hS',λ b o hb e=>?_⟩)
         refine hm.heap b o (λ z=>?_) (Heap.get?_push_of_some _ (Heap.get?_push_of_some _ e))
         rcases List.mem_cons.mp z with z | z
         . exact absurd z (Nat.ne_of_lt hb)
         . have:=List.mem_singleton.mp z
           rw[Heap.size_push]at this
           exact absurd this (Nat.ne_of_lt (Nat.lt_succ_of_lt hb))
     . cases r2 with
       | error e=>exact hr2
       | ok f2=>
         cases f2 with
         | ret r=>
           obtain⟨rfl,h',tk,rfl,hS',hk'⟩:=hr2
           repeat(any_goals (first | assumption | wp_step))
           exact h _ _ hS' hk'
         | next=>exact(show False from hr2).elim
         | brk=>exact(show False from hr2).elim
         | cont=>exact(show False from hr2).elim
   | next=>exact(show False from hr).elim
   | brk=>exact(show False from hr).elim
   | cont=>exact(show False from hr).elim
end
end PySem
namespace RF
open PySem PySem.Spec L2 DL
open PyProof.Rows
section
variable {X : Cx} {Γ : Gam} {S : Store} {W : WD} {pos : Pos}
theorem NK{a:Expr}{p p2 pos2:Pos}(hcm:X.calm=true)(h:Ev X Γ S a λ d S1=>∃j:Int,d=.int j/\0≤j/\j<1000000/\W (.tup (DL.upTo 0 j.toNat)) S1)(hm:X.mg "range"=none)(hm2:X.mg "tuple"=none)(hg:Gl X "range")(hg2:Gl X "tuple")(hs:starEach [a] X.env=[(false,eval a X.env)])
 (hs2:starEach [.Call (.Name "range" p) [a] [] pos] X.env=[(false,eval (.Call (.Name "range" p) [a] [] pos) X.env)]):Ev X Γ S (.Call (.Name "tuple" p2) [.Call (.Name "range" p) [a] [] pos] [] pos2) W:=by
 intro pins s σ H O I env st
 refine Call_ (aY I hg2 hm2 (show bootBuiltins "tuple"=some (.type "tuple")from by decide+kernel) (PyProof.Rows.callWith_type1 ?_ hs2 rfl))
 rw[show backTo pos2 (starEach [.Call (.Name "range" p) [a] [] pos] X.env)=[(false,eval (.Call (.Name "range" p) [a] [] pos) X.env)]from by rw[hs2];rfl]
 refine Calls.spliced_cons ?_
 have hA:EvA X Γ S [a] λ ds S1=>∃j:Int,ds=[.int j]/\0≤j/\j<1000000/\W (.tup (DL.upTo 0 j.toNat)) S1:=
  bz (h.mono λ d S1 ⟨j,e,h1,h2,w⟩=>cH ⟨j,by rw[e],h1,h2,w⟩) hs
 refine Call_ (aY I hg hm boot_range (PyProof.Rows.callWith_type1 (thn (hA pos pins s σ H O I env st) λ us s1 hq_=>?_) hs rfl))
 obtain⟨vs,H1,I1,r1,q1⟩:=hq_
 obtain⟨O1,ds,S1,⟨j,rfl,h1,h2,w⟩,st1,ok1,rep⟩:=q1
 cases rep with
 | cons ra rb=>
   cases rb
   cases ra
   cases r1 with
   | cons r rr=>
     cases rr
     obtain⟨t,rfl⟩:=r
     refine call_range_1 (Calls.spliced_nil ?_)
     have I2:Inv X pins σ H1 {s1 with heap:=s1.heap.push {cls:=.type "range",data:=.fields #[.int 0 s1.toks,.int j t,.int 1 (s1.toks+1)]},toks:=s1.toks+1+1}:=I1.kept λ b o e=>Heap.get?_push_of_some _ e
     refine ou (I2.ok.hd hcm) (IsRange.new ..) (qY h1 h2) (lH j h1) (by omega) λ h' tk acc kp its=>?_
     have hI:IntsAre acc.toList (upI j.toNat):=sU _ _ (by have:=its.1;simp[upI];exact this) λ i v e=>by
      have e':acc[i]? =some v:=by simpa using e
      obtain⟨t,rfl⟩:=its.2 i v e'
      have hi:i<j.toNat:=by rw[←its.1];exact(Array.getElem?_eq_some_iff.mp e').1
      exact⟨_,t,by unfold upI;rw[y9,List.getElem?_range hi];rfl,by rw[Int.mul_one]⟩
     have zl:((upI j.toNat).map V.int).length≤sizeLine:=by simp[upI,sizeLine_eq];omega
     have I3:=I2.kept (t':=tk) kp
     have hp:=I3.hok.fresh (x5 _)
     have I4:=I3.laid (h':=h'.push {cls:=.type "tuple",data:=.seq acc}) (t':=tk) (a:=h'.objs.size) (o:=.tup ((upI j.toNat).map V.int)) (λ b o e=>Heap.get?_push_of_some _ e) (x5 _) ⟨zl,acc.toList,cU hI,IsTup.new _ _⟩
     have rp:Reps X.K O1 H1 ((upI j.toNat).map V.int) (DL.upTo 0 j.toNat):=by rw[lV];exact Reps.of_ints _
     exact bM st1 ⟨.ref _,_,I4,rfl,eU w ok1 hp rp⟩
end
section
variable {Ω : Wd}
def Ex.trng(hm:Ω.mg "range"=none)(hm2:Ω.mg "tuple"=none)(a:Ex Ω):Ex Ω where
 lev:=a.lev
 chk top N nm e:=match e with | .Call (.Name z _) [.Call (.Name y _) [b] [] _] [] _=>(z==("tuple":Str))&&((y==("range":Str))&&(glb nm "tuple"&&(glb nm "range"&&(okE b&&a.chk top N nm b)))) | _=>false
 wp Γ S W:=a.wp Γ S λ d S1=>match d with | .int j=>(0≤j/\j<1000000)/\W (.tup (DL.upTo 0 j.toNat)) S1 | _=>False
 sound:=by
  intro X r top N nm e Γ S W A hl hc hw
  split at hc
  . rename_i z p2 y p b pos pos2
    obtain⟨h0,g1⟩:=aa hc
    obtain⟨h1,g2⟩:=aa g1
    obtain⟨h2',g2⟩:=aa g2
    obtain⟨h2,g3⟩:=aa g2
    obtain⟨h3,h4⟩:=aa g3
    have e:=eq_of_beq h0
    subst e
    have e':=eq_of_beq h1
    subst e'
    refine NK A.calm ((a.sound A hl h4 hw).mono λ d S1 q=>?_) (by rw[A.g];exact hm) (by rw[A.g];exact hm2) (A.glb h2) (A.glb h2') (aA h3 [] _) rfl
    cases d<;>first | exact⟨_,rfl,q.1.1,q.1.2,q.2⟩ | exact q.elim
  . exact fE hc
end
theorem Ci{X:Cx}{ns:List Int}{S:Store}{W:WD}(hc:X.calm=true)(hb:ns.length+1<scanBound)(w:W (.int (unl ns)) S)
 {pins:Pins}{s:Shared}{σ:DL.St}{H:Hp}{O:Own}{v:V}{u:Value}(I:Inv X pins σ H s)(st:StOk X.K O H S)(r':Rep X.K O H v (.tup (ns.map .int)))(ru':RelV v u):
 wpAny (model X.prog X.w) X.A (call (.type "set") [u]) (λ u1 s1=>wpAny (model X.prog X.w) X.A (call (.builtin "len") [u1]) (EP X pins σ (QG X.K O H W)) X.xe s1) X.xe s:=by
 cases r' with
 | @tup p xs _ h1 hq=>
   cases ru'
   obtain⟨its,rv,pl,hz⟩:=I.tuple h1.sq
   have ex:xs=ns.map V.int:=hq.ints
   have hi:IntsAre its ns:=by
    rw[ex]at rv
    clear pl hz hq ex w hb h1
    induction ns generalizing its with
    | nil=>cases rv;exact .nil
    | cons n ns ih=>
      cases rv with
      | cons r1 r2=>obtain⟨t,rfl⟩:=r1;constructor;exact ih _ r2
   have hl:its.length=ns.length:=IntsAre.length hi
   refine uI (its:=its.toArray) (ns:=ns) (I.ok.hd hc) pl (by simpa using hi) (by rw[x8,hl];exact hb) λ h' tk hS hk=>?_
   have ez:its.toArray.size=ns.length:=by rw[x8,hl]
   rw[ez]at hS
   obtain⟨o,es,ep,t,ho,hex,hd',_,_,hsz,hf,hn⟩:=hS
   have I1:Inv X pins σ H {s with heap:=h',toks:=tk}:=I.kept (t':=tk) λ b o e=>hk b o (Heap.lt_size e) e
   refine call_len_set (s:={s with heap:=h',toks:=tk}) ho hex hd' hf (by unfold scanBound at hsz;omega) ?_
   rw[hn]
   exact⟨.int _,H,I1.tok _,⟨_,rfl⟩,QG.here w st (.int _)⟩
section
variable {Ω : Wd}
def Ex.lsetT(hm:Ω.mg "len"=none)(hm2:Ω.mg "set"=none)(a:Ex Ω):Ex Ω where
 lev:=a.lev
 chk top N nm e:=match e with
  | .Call (.Name y _) [.Call (.Name z _) [b] [] _] [] _=>(y=="len")&&((z=="set")&&(glb nm "len"&&(glb nm "set"&&(okE b&&a.chk top N nm b))))
  | _=>false
 wp Γ S W:=a.wp Γ S λ d S1=>∃ns:List Int,d=.tup (ns.map .int)/\ns.length+1<scanBound/\W (.int (unl ns)) S1
 sound:=by
  intro X r top N nm e Γ S W A hl hc hw
  split at hc
  . rename_i y p z p' b pos' pos
    obtain⟨h1,hc⟩:=aa hc
    obtain⟨h2,hc⟩:=aa hc
    obtain⟨h3,hc⟩:=aa hc
    obtain⟨h4,hc⟩:=aa hc
    obtain⟨h5,h6⟩:=aa hc
    have e1:=eq_of_beq h1
    have e2:=eq_of_beq h2
    subst e1 e2
    intro pins s σ H O I env st
    refine wpAny_Call_Name_kw (aY I (A.glb h3) (by rw[A.g];exact hm) (show bootBuiltins "len"=some (.builtin "len")from by decide+kernel) ?_ (by decide) (by decide))
    refine PyProof.Rows.callWith_builtin1 ?_ rfl rfl
    show wpAny _ _ (spliced ((false,eval _ X.env)::backTo pos (starEach [] X.env))) _ _ s
    refine Calls.spliced_cons ?_
    refine wpAny_Call_Name_kw (aY I (A.glb h4) (by rw[A.g];exact hm2) (show bootBuiltins "set"=some (.type "set")from by decide+kernel) ?_ (by decide) (by decide))
    refine PyProof.Rows.callWith_type1 ?_ (aA h5 _ _) rfl
    rw[aA h5 [] X.env]
    show wpAny _ _ (spliced ((false,eval b X.env)::backTo pos' (starEach [] X.env))) _ _ s
    refine Calls.spliced_cons (thn (a.sound A hl h6 hw pins s σ H O I env st) λ u s1 hq_=>?_)
    obtain⟨v,H1,I1,r1,O1,x,S1,hb,st1,ok1,rep1⟩:=hq_
    obtain⟨ns,rfl,c2,c3⟩:=hb
    refine Calls.spliced_nil ?_
    refine thn (Ci A.calm c2 c3 I1 ok1 rep1 r1) λ u2 s2 q=>?_
    refine Calls.spliced_nil ?_
    exact thn q λ _ _ q=>bM st1 q
  . exact fE hc
end
end RF
set_option maxHeartbeats 4000000
namespace K49
open PySem L2 DL RF XE
variable {Ω : Wd} {f : Addr} {fd : FuncData}
def top(i:Nat):Stmt:=PySem.Challenge.pw_nestturn_k49_reach_and_turnings.main.body.getD i (.Pass ⟨0,0,0,0⟩)
structure Bi(mg:Str->Option Value):Prop where
 BETWEEN_TABLES_:∃t,mg "BETWEEN_TABLES"=some (.int 100 t)
 MOST_LOOPS_:∃t,mg "MOST_LOOPS"=some (.int 3 t)
 MOST_STEPS_:∃t,mg "MOST_STEPS"=some (.int 60 t)
 abs_:mg "abs"=none
 all_:mg "all"=none
 bool_:mg "bool"=none
 enumerate_:mg "enumerate"=none
 int_:mg "int"=none
 isinstance_:mg "isinstance"=none
 len_:mg "len"=none
 list_:mg "list"=none
 max_:mg "max"=none
 min_:mg "min"=none
 range_:mg "range"=none
 set_:mg "set"=none
 sum_:mg "sum"=none
 tuple_:mg "tuple"=none
 zip_:mg "zip"=none
abbrev XL:List Str:=["NoOrder"]
abbrev XT:List Str:=["NoOrder","NoPlan","NoProgram","NoRow","NoText","NoTurn","Tied","TooMany","ValueError"]
section
variable {Ω : Wd}
abbrev gr:Stmt:=top 11
abbrev zF:List Str:=["thing"]
abbrev zK:List Str:=["thing"]
def Ax(B:Bi Ω.mg):Bl Ω:=
 Bl.cons (Sm.ret (Ex.and (Bo.cons (Ex.isi B.isinstance_ (Ex.var 0) .int B.int_) (Bo.one (Ex.not (Ex.isi B.isinstance_ (Ex.var 0) .bool B.bool_)))))) Bl.nil
abbrev cZ:Stmt:=top 12
abbrev pY:List Str:=["thing","least","most"]
abbrev qw:List Str:=["thing","least","most"]
def pI(B:Bi Ω.mg):Bl Ω:=
 Bl.cons (Sm.ret (Ex.and (Bo.cons (Ex.isi B.isinstance_ (Ex.var 0) .tuple B.tuple_) (Bo.one (Ex.ch2 (Ex.var 1) .LtE (Ex.blt bc B.len_ (Ar.cons (Ex.var 0) Ar.nil)) .LtE (Ex.var 2)))))) Bl.nil
abbrev il:Stmt:=top 13
abbrev Bw:List Str:=["thing","d"]
abbrev Ca:List Str:=["thing","d"]
def Cz(B:Bi Ω.mg){Fq42:Ct}(Cq42:Cal Ω "is_whole" 1 1 Fq42){Fq41:Ct}(Cq41:Cal Ω "is_tuple_of" 1 3 Fq41):Bl Ω:=
 Bl.cons (Sm.ret (Ex.and (Bo.cons (Ex.call Cq41 (Ar.cons (Ex.var 0) (Ar.cons (Ex.bin .Add (Ex.var 1) (Ex.int 1)) (Ar.cons (Ex.bin .Add (Ex.var 1) (Ex.int 1)) Ar.nil)))) (Bo.one (Ex.blt fB B.all_ (Ar.cons (Ex.comp ["number"] [none] (Ex.call Cq42 (Ar.cons (Ex.var 0) Ar.nil)) (Tg.nm 0) (Itb.seq (Ex.var 0)) Cd.no) Ar.nil)))))) Bl.nil
abbrev fY:Stmt:=top 14
abbrev zM:List Str:=["form","counts"]
abbrev yO:List Str:=["form","counts"]
def zH(B:Bi Ω.mg):Bl Ω:=
 Bl.cons (Sm.ret (Ex.bin .Add (Ex.ix (Ex.var 0) (Ex.int 0)) (Ex.blt mj B.sum_ (Ar.cons (Ex.comp ["number","count"] [none,none] (Ex.bin .Mult (Ex.var 0) (Ex.var 1)) (Tg.tup [0,1]) (Itb.zip B.zip_ (Ex.sl (Ex.var 0) (Po.so (Ex.int 1)) Po.no) (Ex.var 1)) Cd.no) Ar.nil)))) Bl.nil
abbrev gC:Stmt:=top 15
abbrev zu:List Str:=["thing","d"]
abbrev Am:List Str:=["thing","d"]
def uO(B:Bi Ω.mg){Fq29:Ct}(Cq29:Cal Ω "is_form" 2 2 Fq29):Bl Ω:=
 Bl.cons (Sm.ret (Ex.and (Bo.cons (Ex.ch2 (Ex.neg (Ex.int 9)) .LtE (Ex.ix (Ex.var 0) (Ex.int 0)) .LtE (Ex.int 9)) (Bo.one (Ex.blt fB B.all_ (Ar.cons (Ex.comp ["number"] [none] (Ex.ch2 (Ex.neg (Ex.int 2)) .LtE (Ex.var 0) .LtE (Ex.int 2)) (Tg.nm 0) (Itb.seq (Ex.sl (Ex.var 0) (Po.so (Ex.int 1)) Po.no)) Cd.no) Ar.nil)))))) Bl.nil
def xO(B:Bi Ω.mg){Fq29:Ct}(Cq29:Cal Ω "is_form" 2 2 Fq29):Bl Ω:=
 Bl.cons (Sm.ite (Te.not (Te.val (Ex.call Cq29 (Ar.cons (Ex.var 0) (Ar.cons (Ex.var 1) Ar.nil))))) (Bl.cons (Sm.ret (Ex.bl false)) Bl.nil) Bl.nil) (uO B Cq29)
abbrev iM:Stmt:=top 16
abbrev Cq:List Str:=["thing","d"]
abbrev Br:List Str:=["thing","d"]
def BJ{Fq41:Ct}(Cq41:Cal Ω "is_tuple_of" 1 3 Fq41){Fq27:Ct}(Cq27:Cal Ω "is_bound" 3 2 Fq27):Bl Ω:=
 Bl.cons (Sm.ret (Ex.and (Bo.cons (Ex.call Cq41 (Ar.cons (Ex.var 0) (Ar.cons (Ex.int 2) (Ar.cons (Ex.int 2) Ar.nil)))) (Bo.cons (Ex.call Cq27 (Ar.cons (Ex.ix (Ex.var 0) (Ex.int 0)) (Ar.cons (Ex.var 1) Ar.nil))) (Bo.one (Ex.call Cq27 (Ar.cons (Ex.ix (Ex.var 0) (Ex.int 1)) (Ar.cons (Ex.var 1) Ar.nil)))))))) Bl.nil
abbrev gj:Stmt:=top 17
abbrev zg:List Str:=["thing"]
abbrev zz:List Str:=["thing"]
def zy(B:Bi Ω.mg){Fq41:Ct}(Cq41:Cal Ω "is_tuple_of" 1 3 Fq41){Fq30:Ct}(Cq30:Cal Ω "is_loop" 4 2 Fq30):Bl Ω:=
 Bl.cons (Sm.ret (Ex.and (Bo.cons (Ex.call Cq41 (Ar.cons (Ex.var 0) (Ar.cons (Ex.int 1) (Ar.cons (Ex.int 3) Ar.nil)))) (Bo.one (Ex.blt fB B.all_ (Ar.cons (Ex.comp ["k","loop"] [none,none] (Ex.call Cq30 (Ar.cons (Ex.var 1) (Ar.cons (Ex.var 0) Ar.nil))) (Tg.tup [0,1]) (Itb.enm B.enumerate_ (Ex.var 0)) Cd.no) Ar.nil)))))) Bl.nil
abbrev cg:Stmt:=top 18
abbrev j8:List Str:=["ahead","low","high","longer","counts","count"]
abbrev kh:List Str:=["ahead","low","high"]
section
variable (B : Bi Ω.mg) {Fq19 : Ct} (Cq19 : Cal Ω "comes_to" 1 2 Fq19)
def jd(B:Bi Ω.mg){Fq19:Ct}(Cq19:Cal Ω "comes_to" 1 2 Fq19):Bl Ω:=
 Bl.cons (Sm.ret (Ex.var 3)) Bl.nil
def je:Bl Ω:=
 Bl.cons (Sm.forL (Tg.nm 4) (Ex.var 0) (Bl.cons (Sm.for (Tg.nm 5) (Itb.rng2 B.range_ (Ex.call Cq19 (Ar.cons (Ex.var 1) (Ar.cons (Ex.var 4) Ar.nil))) (Ex.call Cq19 (Ar.cons (Ex.var 2) (Ar.cons (Ex.var 4) Ar.nil)))) (Bl.cons (Sm.expr (Ex.m_append (Ex.var 3) (Ex.bin .Add (Ex.var 4) (Ex.tup (Ar.cons (Ex.var 5) Ar.nil))))) Bl.nil)) Bl.nil)) (jd B Cq19)
def jP:Bl Ω:=
 Bl.cons (Sm.set 3 (Ex.own Ar.nil)) (je B Cq19)
end
abbrev eX:Stmt:=top 19
abbrev v6:List Str:=["loops","told","low","high"]
abbrev wG:List Str:=["loops"]
section
variable {Fq58 : Ct} (Cq58 : Cal Ω "with_next_count" 2 3 Fq58)
def qN{Fq58:Ct}(Cq58:Cal Ω "with_next_count" 2 3 Fq58):Bl Ω:=
 Bl.cons (Sm.ret (Ex.var 1)) Bl.nil
def rB:Bl Ω:=
 Bl.cons (Sm.forL (Tg.tup [2,3]) (Ex.var 0) (Bl.cons (Sm.set 1 (Ex.call Cq58 (Ar.cons (Ex.var 1) (Ar.cons (Ex.var 2) (Ar.cons (Ex.var 3) Ar.nil))))) Bl.nil)) (qN Cq58)
def vR:Bl Ω:=
 Bl.cons (Sm.set 1 (Ex.lst (Ar.cons (Ex.tup Ar.nil) Ar.nil))) (rB Cq58)
end
abbrev bY:Stmt:=top 22
abbrev j0:List Str:=["number"]
abbrev jT:List Str:=["number"]
def kj(B:Bi Ω.mg):Bl Ω:=
 Bl.cons (Sm.ret (Ex.cmp .Lt (Ex.blt JH B.abs_ (Ar.cons (Ex.var 0) Ar.nil)) (Ex.bin .Pow (Ex.int 10) (Ex.int 30)))) Bl.nil
abbrev fc:Stmt:=top 23
abbrev vC:List Str:=["thing"]
abbrev ww:List Str:=["thing"]
def wK(B:Bi Ω.mg){Fq42:Ct}(Cq42:Cal Ω "is_whole" 1 1 Fq42){Fq41:Ct}(Cq41:Cal Ω "is_tuple_of" 1 3 Fq41):Bl Ω:=
 Bl.cons (Sm.ret (Ex.and (Bo.cons (Ex.call Cq41 (Ar.cons (Ex.var 0) (Ar.cons (Ex.int 1) (Ar.cons (Ex.int 3) Ar.nil)))) (Bo.one (Ex.blt fB B.all_ (Ar.cons (Ex.comp ["width"] [none] (Ex.and (Bo.cons (Ex.call Cq42 (Ar.cons (Ex.var 0) Ar.nil)) (Bo.one (Ex.ch2 (Ex.int 1) .LtE (Ex.var 0) .LtE (Ex.int 2))))) (Tg.nm 0) (Itb.seq (Ex.var 0)) Cd.no) Ar.nil)))))) Bl.nil
abbrev cJ:Stmt:=top 24
abbrev mO:List Str:=["thing","d"]
abbrev m6:List Str:=["thing","d"]
def mX(B:Bi Ω.mg){Fq29:Ct}(Cq29:Cal Ω "is_form" 2 2 Fq29):Bl Ω:=
 Bl.cons (Sm.ret (Ex.and (Bo.cons (Ex.call Cq29 (Ar.cons (Ex.var 0) (Ar.cons (Ex.var 1) Ar.nil))) (Bo.one (Ex.blt fB B.all_ (Ar.cons (Ex.comp ["number"] [none] (Ex.ch2 (Ex.neg (Ex.int 99)) .LtE (Ex.var 0) .LtE (Ex.int 99)) (Tg.nm 0) (Itb.seq (Ex.var 0)) Cd.no) Ar.nil)))))) Bl.nil
abbrev gG:Stmt:=top 25
abbrev xU:List Str:=["thing","d"]
abbrev Az:List Str:=["thing","d"]
def yL(B:Bi Ω.mg){Fq29:Ct}(Cq29:Cal Ω "is_form" 2 2 Fq29){Fq26:Ct}(Cq26:Cal Ω "has_few_figures" 1 1 Fq26):Bl Ω:=
 Bl.cons (Sm.ret (Ex.and (Bo.cons (Ex.call Cq29 (Ar.cons (Ex.var 0) (Ar.cons (Ex.var 1) Ar.nil))) (Bo.one (Ex.blt fB B.all_ (Ar.cons (Ex.comp ["number"] [none] (Ex.call Cq26 (Ar.cons (Ex.var 0) Ar.nil)) (Tg.nm 0) (Itb.seq (Ex.var 0)) Cd.no) Ar.nil)))))) Bl.nil
abbrev bG:Stmt:=top 26
abbrev gV:List Str:=["table","place","widths","d"]
abbrev gW:List Str:=["table","place","widths","d"]
def fH(B:Bi Ω.mg){Fq42:Ct}(Cq42:Cal Ω "is_whole" 1 1 Fq42){Fq41:Ct}(Cq41:Cal Ω "is_tuple_of" 1 3 Fq41){Fq35:Ct}(Cq35:Cal Ω "is_place_form" 3 2 Fq35):Bl Ω:=
 Bl.cons (Sm.ret (Ex.and (Bo.cons (Ex.call Cq41 (Ar.cons (Ex.var 1) (Ar.cons (Ex.ix (Ex.var 2) (Ex.var 0)) (Ar.cons (Ex.ix (Ex.var 2) (Ex.var 0)) Ar.nil)))) (Bo.one (Ex.blt fB B.all_ (Ar.cons (Ex.comp ["form","d"] [none,some 3] (Ex.call Cq35 (Ar.cons (Ex.var 0) (Ar.cons (Ex.var 1) Ar.nil))) (Tg.nm 0) (Itb.seq (Ex.var 1)) Cd.no) Ar.nil)))))) Bl.nil
def gY(B:Bi Ω.mg){Fq42:Ct}(Cq42:Cal Ω "is_whole" 1 1 Fq42){Fq41:Ct}(Cq41:Cal Ω "is_tuple_of" 1 3 Fq41){Fq35:Ct}(Cq35:Cal Ω "is_place_form" 3 2 Fq35):Bl Ω:=
 Bl.cons (Sm.ite (Te.or (Bt.cons (Te.not (Te.val (Ex.call Cq42 (Ar.cons (Ex.var 0) Ar.nil)))) (Bt.one (Te.not (Te.ch2 (Ex.int 0) .LtE (Ex.var 0) .Lt (Ex.blt bc B.len_ (Ar.cons (Ex.var 2) Ar.nil))))))) (Bl.cons (Sm.ret (Ex.bl false)) Bl.nil) Bl.nil) (fH B Cq42 Cq41 Cq35)
abbrev iu:Stmt:=top 27
abbrev Bg:List Str:=["thing","widths","d"]
abbrev Cg:List Str:=["thing","widths","d"]
section
variable {Fq42 : Ct} (Cq42 : Cal Ω "is_whole" 1 1 Fq42) {Fq41 : Ct} (Cq41 : Cal Ω "is_tuple_of" 1 3 Fq41) {Fq26 : Ct} (Cq26 : Cal Ω "has_few_figures" 1 1 Fq26) {Fq40 : Ct} (Cq40 : Cal Ω "is_table_with_place" 4 4 Fq40)
def wj{Fq42:Ct}(Cq42:Cal Ω "is_whole" 1 1 Fq42){Fq41:Ct}(Cq41:Cal Ω "is_tuple_of" 1 3 Fq41){Fq26:Ct}(Cq26:Cal Ω "has_few_figures" 1 1 Fq26){Fq40:Ct}(Cq40:Cal Ω "is_table_with_place" 4 4 Fq40):Bl Ω:=
 Bl.cons (Sm.ret (Ex.call Cq40 (Ar.cons (Ex.ix (Ex.var 0) (Ex.int 1)) (Ar.cons (Ex.ix (Ex.var 0) (Ex.int 2)) (Ar.cons (Ex.var 1) (Ar.cons (Ex.var 2) Ar.nil)))))) Bl.nil
def wX:Bl Ω:=
 Bl.cons (Sm.ite (Te.or (Bt.cons (Te.not (Te.val (Ex.call Cq42 (Ar.cons (Ex.ix (Ex.var 0) (Ex.int 0)) Ar.nil)))) (Bt.one (Te.not (Te.val (Ex.call Cq26 (Ar.cons (Ex.ix (Ex.var 0) (Ex.int 0)) Ar.nil))))))) (Bl.cons (Sm.ret (Ex.bl false)) Bl.nil) Bl.nil) (wj Cq42 Cq41 Cq26 Cq40)
def BV:Bl Ω:=
 Bl.cons (Sm.ite (Te.not (Te.val (Ex.call Cq41 (Ar.cons (Ex.var 0) (Ar.cons (Ex.int 3) (Ar.cons (Ex.int 3) Ar.nil)))))) (Bl.cons (Sm.ret (Ex.bl false)) Bl.nil) Bl.nil) (wX Cq42 Cq41 Cq26 Cq40)
end
abbrev fM:Stmt:=top 28
abbrev zA:List Str:=["thing","widths","d"]
abbrev za:List Str:=["thing","widths","d"]
def zW(B:Bi Ω.mg){Fq41:Ct}(Cq41:Cal Ω "is_tuple_of" 1 3 Fq41){Fq36:Ct}(Cq36:Cal Ω "is_read" 5 3 Fq36):Bl Ω:=
 Bl.cons (Sm.ret (Ex.and (Bo.cons (Ex.call Cq41 (Ar.cons (Ex.var 0) (Ar.cons (Ex.int 0) (Ar.cons (Ex.int 3) Ar.nil)))) (Bo.one (Ex.blt fB B.all_ (Ar.cons (Ex.comp ["read","widths","d"] [none,some 1,some 2] (Ex.call Cq36 (Ar.cons (Ex.var 0) (Ar.cons (Ex.var 1) (Ar.cons (Ex.var 2) Ar.nil)))) (Tg.nm 0) (Itb.seq (Ex.var 0)) Cd.no) Ar.nil)))))) Bl.nil
abbrev ir:Stmt:=top 29
abbrev BR:List Str:=["thing","widths","d"]
abbrev Cm:List Str:=["thing","widths","d"]
section
variable {Fq41 : Ct} (Cq41 : Cal Ω "is_tuple_of" 1 3 Fq41) {Fq39 : Ct} (Cq39 : Cal Ω "is_start" 3 2 Fq39) {Fq40 : Ct} (Cq40 : Cal Ω "is_table_with_place" 4 4 Fq40) {Fq37 : Ct} (Cq37 : Cal Ω "is_reads" 6 3 Fq37)
def wY{Fq41:Ct}(Cq41:Cal Ω "is_tuple_of" 1 3 Fq41){Fq39:Ct}(Cq39:Cal Ω "is_start" 3 2 Fq39){Fq40:Ct}(Cq40:Cal Ω "is_table_with_place" 4 4 Fq40){Fq37:Ct}(Cq37:Cal Ω "is_reads" 6 3 Fq37):Bl Ω:=
 Bl.cons (Sm.ret (Ex.and (Bo.cons (Ex.call Cq39 (Ar.cons (Ex.ix (Ex.var 0) (Ex.int 2)) (Ar.cons (Ex.var 2) Ar.nil))) (Bo.one (Ex.call Cq37 (Ar.cons (Ex.ix (Ex.var 0) (Ex.int 3)) (Ar.cons (Ex.var 1) (Ar.cons (Ex.var 2) Ar.nil)))))))) Bl.nil
def wL:Bl Ω:=
 Bl.cons (Sm.ite (Te.not (Te.val (Ex.call Cq40 (Ar.cons (Ex.ix (Ex.var 0) (Ex.int 0)) (Ar.cons (Ex.ix (Ex.var 0) (Ex.int 1)) (Ar.cons (Ex.var 1) (Ar.cons (Ex.var 2) Ar.nil))))))) (Bl.cons (Sm.ret (Ex.bl false)) Bl.nil) Bl.nil) (wY Cq41 Cq39 Cq40 Cq37)
def BP:Bl Ω:=
 Bl.cons (Sm.ite (Te.not (Te.val (Ex.call Cq41 (Ar.cons (Ex.var 0) (Ar.cons (Ex.int 4) (Ar.cons (Ex.int 4) Ar.nil)))))) (Bl.cons (Sm.ret (Ex.bl false)) Bl.nil) Bl.nil) (wL Cq41 Cq39 Cq40 Cq37)
end
abbrev iy:Stmt:=top 30
abbrev CQ:List Str:=["thing","widths","d"]
abbrev Cu:List Str:=["thing","widths"]
section
variable (B : Bi Ω.mg) {Fq41 : Ct} (Cq41 : Cal Ω "is_tuple_of" 1 3 Fq41) {Fq31 : Ct} (Cq31 : Cal Ω "is_loops" 5 1 Fq31) {Fq28 : Ct} (Cq28 : Cal Ω "is_deed" 7 3 Fq28)
def wC(B:Bi Ω.mg){Fq41:Ct}(Cq41:Cal Ω "is_tuple_of" 1 3 Fq41){Fq31:Ct}(Cq31:Cal Ω "is_loops" 5 1 Fq31){Fq28:Ct}(Cq28:Cal Ω "is_deed" 7 3 Fq28):Bl Ω:=
 Bl.cons (Sm.ret (Ex.and (Bo.cons (Ex.call Cq41 (Ar.cons (Ex.ix (Ex.var 0) (Ex.int 1)) (Ar.cons (Ex.int 1) (Ar.cons (Ex.int 4) Ar.nil)))) (Bo.one (Ex.blt fB B.all_ (Ar.cons (Ex.comp ["deed","widths","d"] [none,some 1,some 2] (Ex.call Cq28 (Ar.cons (Ex.var 0) (Ar.cons (Ex.var 1) (Ar.cons (Ex.var 2) Ar.nil)))) (Tg.nm 0) (Itb.seq (Ex.ix (Ex.var 0) (Ex.int 1))) Cd.no) Ar.nil)))))) Bl.nil
def vY:Bl Ω:=
 Bl.cons (Sm.set 2 (Ex.blt bc B.len_ (Ar.cons (Ex.ix (Ex.var 0) (Ex.int 0)) Ar.nil))) (wC B Cq41 Cq31 Cq28)
def Ce:Bl Ω:=
 Bl.cons (Sm.ite (Te.or (Bt.cons (Te.not (Te.val (Ex.call Cq41 (Ar.cons (Ex.var 0) (Ar.cons (Ex.int 2) (Ar.cons (Ex.int 2) Ar.nil)))))) (Bt.one (Te.not (Te.val (Ex.call Cq31 (Ar.cons (Ex.ix (Ex.var 0) (Ex.int 0)) Ar.nil))))))) (Bl.cons (Sm.ret (Ex.bl false)) Bl.nil) Bl.nil) (vY B Cq41 Cq31 Cq28)
end
abbrev gM:Stmt:=top 31
abbrev zR:List Str:=["thing","widths"]
abbrev zL:List Str:=["thing","widths"]
def xJ(B:Bi Ω.mg){Fq41:Ct}(Cq41:Cal Ω "is_tuple_of" 1 3 Fq41){Fq32:Ct}(Cq32:Cal Ω "is_nest" 8 2 Fq32):Bl Ω:=
 Bl.cons (Sm.ret (Ex.and (Bo.cons (Ex.call Cq41 (Ar.cons (Ex.var 0) (Ar.cons (Ex.int 1) (Ar.cons (Ex.int 3) Ar.nil)))) (Bo.one (Ex.blt fB B.all_ (Ar.cons (Ex.comp ["nest","widths"] [none,some 1] (Ex.call Cq32 (Ar.cons (Ex.var 0) (Ar.cons (Ex.var 1) Ar.nil))) (Tg.nm 0) (Itb.seq (Ex.var 0)) Cd.no) Ar.nil)))))) Bl.nil
abbrev cu:Stmt:=top 32
abbrev j4:List Str:=["nests"]
abbrev jO:List Str:=["nests"]
def jZ(B:Bi Ω.mg){Fq22:Ct}(Cq22:Cal Ω "counts_of" 3 1 Fq22):Bl Ω:=
 Bl.cons (Sm.ret (Ex.blt mj B.sum_ (Ar.cons (Ex.comp ["loops","deeds"] [none,none] (Ex.bin .Mult (Ex.blt bc B.len_ (Ar.cons (Ex.call Cq22 (Ar.cons (Ex.var 0) Ar.nil)) Ar.nil)) (Ex.blt bc B.len_ (Ar.cons (Ex.var 1) Ar.nil))) (Tg.tup [0,1]) (Itb.seq (Ex.var 0)) Cd.no) Ar.nil))) Bl.nil
abbrev dR:Stmt:=top 33
abbrev rZ:List Str:=["widths","nests"]
abbrev sO:List Str:=["widths","nests"]
section
variable (B : Bi Ω.mg) {Fq43 : Ct} (Cq43 : Cal Ω "is_widths" 2 1 Fq43) {Fq33 : Ct} (Cq33 : Cal Ω "is_nests" 9 2 Fq33) {Fq46 : Ct} (Cq46 : Cal Ω "number_of_steps" 4 1 Fq46)
def oG(B:Bi Ω.mg){Fq43:Ct}(Cq43:Cal Ω "is_widths" 2 1 Fq43){Fq33:Ct}(Cq33:Cal Ω "is_nests" 9 2 Fq33){Fq46:Ct}(Cq46:Cal Ω "number_of_steps" 4 1 Fq46):Bl Ω:=
 Bl.cons (Sm.ret (Ex.tup (Ar.cons (Ex.var 0) (Ar.cons (Ex.var 1) Ar.nil)))) Bl.nil
def pq:Bl Ω:=
 Bl.cons (Sm.ite (Te.cmp .Gt (Ex.call Cq46 (Ar.cons (Ex.var 1) Ar.nil)) (Ex.gint B.MOST_STEPS_)) (Bl.cons Sm.never Bl.nil) Bl.nil) (oG B Cq43 Cq33 Cq46)
def oW:Bl Ω:=
 Bl.cons (Sm.ite (Te.not (Te.val (Ex.call Cq33 (Ar.cons (Ex.var 1) (Ar.cons (Ex.var 0) Ar.nil))))) (Bl.cons Sm.never Bl.nil) Bl.nil) (pq B Cq43 Cq33 Cq46)
def uv:Bl Ω:=
 Bl.cons (Sm.ite (Te.not (Te.val (Ex.call Cq43 (Ar.cons (Ex.var 0) Ar.nil)))) (Bl.cons Sm.never Bl.nil) Bl.nil) (oW B Cq43 Cq33 Cq46)
end
abbrev fL:Stmt:=top 34
abbrev xX:List Str:=["program","steps","nest","loops_and_deeds","counts","deed"]
abbrev yr:List Str:=["program"]
section
variable (B : Bi Ω.mg) {Fq22 : Ct} (Cq22 : Cal Ω "counts_of" 3 1 Fq22)
def tZ(B:Bi Ω.mg){Fq22:Ct}(Cq22:Cal Ω "counts_of" 3 1 Fq22):Bl Ω:=
 Bl.cons (Sm.ret (Ex.var 1)) Bl.nil
def uh:Bl Ω:=
 Bl.cons (Sm.for (Tg.tup [2,3]) (Itb.enm B.enumerate_ (Ex.ix (Ex.var 0) (Ex.int 1))) (Bl.cons (Sm.forL (Tg.nm 4) (Ex.call Cq22 (Ar.cons (Ex.ix (Ex.var 3) (Ex.int 0)) Ar.nil)) (Bl.cons (Sm.for (Tg.nm 5) (Itb.rng1 B.range_ (Ex.blt bc B.len_ (Ar.cons (Ex.ix (Ex.var 3) (Ex.int 1)) Ar.nil))) (Bl.cons (Sm.expr (Ex.m_append (Ex.var 1) (Ex.tup (Ar.cons (Ex.var 2) (Ar.cons (Ex.var 4) (Ar.cons (Ex.var 5) Ar.nil)))))) Bl.nil)) Bl.nil)) Bl.nil)) (tZ B Cq22)
def xQ:Bl Ω:=
 Bl.cons (Sm.set 1 (Ex.own Ar.nil)) (uh B Cq22)
end
abbrev iI:Stmt:=top 35
abbrev Bs:List Str:=["program","step"]
abbrev CN:List Str:=["program","step"]
def Cp:Bl Ω:=
 Bl.cons (Sm.ret (Ex.ix (Ex.ix (Ex.ix (Ex.ix (Ex.var 0) (Ex.int 1)) (Ex.ix (Ex.var 1) (Ex.int 0))) (Ex.int 1)) (Ex.ix (Ex.var 1) (Ex.int 2)))) Bl.nil
abbrev iw:Stmt:=top 36
abbrev Bm:List Str:=["table","place","counts"]
abbrev CJ:List Str:=["table","place","counts"]
def Bj(B:Bi Ω.mg){Fq19:Ct}(Cq19:Cal Ω "comes_to" 1 2 Fq19):Bl Ω:=
 Bl.cons (Sm.ret (Ex.tup (Ar.cons (Ex.var 0) (Ar.cons (Ex.typ aP B.tuple_ (Ar.cons (Ex.comp ["form","counts"] [none,some 2] (Ex.call Cq19 (Ar.cons (Ex.var 0) (Ar.cons (Ex.var 1) Ar.nil))) (Tg.nm 0) (Itb.seq (Ex.var 1)) Cd.no) Ar.nil)) Ar.nil)))) Bl.nil
abbrev cM:Stmt:=top 37
abbrev mZ:List Str:=["program","step","counts","deed","reads"]
abbrev mK:List Str:=["program","step"]
section
variable {Fq23 : Ct} (Cq23 : Cal Ω "deed_of" 1 2 Fq23) {Fq16 : Ct} (Cq16 : Cal Ω "cell_at" 2 3 Fq16)
def j9{Fq23:Ct}(Cq23:Cal Ω "deed_of" 1 2 Fq23){Fq16:Ct}(Cq16:Cal Ω "cell_at" 2 3 Fq16):Bl Ω:=
 Bl.cons (Sm.ret (Ex.tup (Ar.cons (Ex.call Cq16 (Ar.cons (Ex.ix (Ex.var 3) (Ex.int 0)) (Ar.cons (Ex.ix (Ex.var 3) (Ex.int 1)) (Ar.cons (Ex.var 2) Ar.nil)))) (Ar.cons (Ex.var 4) Ar.nil)))) Bl.nil
def jY:Bl Ω:=
 Bl.cons (Sm.setC 4 ["factor","table","place","counts"] [none,none,none,some 2] (Ex.call Cq16 (Ar.cons (Ex.var 1) (Ar.cons (Ex.var 2) (Ar.cons (Ex.var 3) Ar.nil)))) (Tg.tup [0,1,2]) (Itb.seq (Ex.ix (Ex.var 3) (Ex.int 3))) Cd.no) (j9 Cq23 Cq16)
def jQ:Bl Ω:=
 Bl.cons (Sm.set 3 (Ex.call Cq23 (Ar.cons (Ex.var 0) (Ar.cons (Ex.var 1) Ar.nil)))) (jY Cq23 Cq16)
def mQ:Bl Ω:=
 Bl.cons (Sm.set 2 (Ex.ix (Ex.var 1) (Ex.int 1))) (jQ Cq23 Cq16)
end
abbrev fU:Stmt:=top 38
abbrev xF:List Str:=["program"]
abbrev Al:List Str:=["program"]
def yf{Fq54:Ct}(Cq54:Cal Ω "steps_of" 4 1 Fq54){Fq18:Ct}(Cq18:Cal Ω "cells_of_step" 3 2 Fq18):Bl Ω:=
 Bl.cons (Sm.ret (Ex.comp ["step","program"] [none,some 0] (Ex.call Cq18 (Ar.cons (Ex.var 1) (Ar.cons (Ex.var 0) Ar.nil))) (Tg.nm 0) (Itb.seq (Ex.call Cq54 (Ar.cons (Ex.var 0) Ar.nil))) Cd.no)) Bl.nil
abbrev jx:Stmt:=top 40
abbrev Gw:List Str:=["program","thing","number"]
abbrev Gb:List Str:=["program","thing"]
section
variable (B : Bi Ω.mg) {Fq42 : Ct} (Cq42 : Cal Ω "is_whole" 1 1 Fq42) {Fq46 : Ct} (Cq46 : Cal Ω "number_of_steps" 4 1 Fq46)
def z9(B:Bi Ω.mg){Fq42:Ct}(Cq42:Cal Ω "is_whole" 1 1 Fq42){Fq46:Ct}(Cq46:Cal Ω "number_of_steps" 4 1 Fq46):Bl Ω:=
 Bl.cons (Sm.ret (Ex.cmp .Eq (Ex.lset B.len_ B.set_ (Ex.var 1)) (Ex.blt bc B.len_ (Ar.cons (Ex.var 1) Ar.nil)))) Bl.nil
def yh:Bl Ω:=
 Bl.cons (Sm.ite (Te.not (Te.val (Ex.blt fB B.all_ (Ar.cons (Ex.comp ["step","number"] [none,some 2] (Ex.and (Bo.cons (Ex.call Cq42 (Ar.cons (Ex.var 0) Ar.nil)) (Bo.one (Ex.ch2 (Ex.int 0) .LtE (Ex.var 0) .Lt (Ex.var 1))))) (Tg.nm 0) (Itb.seq (Ex.var 1)) Cd.no) Ar.nil)))) (Bl.cons (Sm.ret (Ex.bl false)) Bl.nil) Bl.nil) (z9 B Cq42 Cq46)
def zY:Bl Ω:=
 Bl.cons (Sm.set 2 (Ex.call Cq46 (Ar.cons (Ex.ix (Ex.var 0) (Ex.int 1)) Ar.nil))) (yh B Cq42 Cq46)
def Gp:Bl Ω:=
 Bl.cons (Sm.ite (Te.not (Te.val (Ex.isi B.isinstance_ (Ex.var 1) .list B.list_))) (Bl.cons (Sm.ret (Ex.bl false)) Bl.nil) Bl.nil) (zY B Cq42 Cq46)
end
abbrev gK:Stmt:=top 42
abbrev Av:List Str:=["program","thing"]
abbrev zE:List Str:=["program","thing"]
def Af(B:Bi Ω.mg){Fq46:Ct}(Cq46:Cal Ω "number_of_steps" 4 1 Fq46){Fq38:Ct}(Cq38:Cal Ω "is_row" 5 2 Fq38):Bl Ω:=
 Bl.cons (Sm.ret (Ex.and (Bo.cons (Ex.call Cq38 (Ar.cons (Ex.var 0) (Ar.cons (Ex.var 1) Ar.nil))) (Bo.one (Ex.cmp .Eq (Ex.blt bc B.len_ (Ar.cons (Ex.var 1) Ar.nil)) (Ex.call Cq46 (Ar.cons (Ex.ix (Ex.var 0) (Ex.int 1)) Ar.nil))))))) Bl.nil
abbrev b7:Stmt:=top 43
abbrev jV:List Str:=["program","order"]
abbrev j7:List Str:=["program","order"]
def jU(E:ExF Ω.mg Ω.K XL XT){Fq34:Ct}(Cq34:Cal Ω "is_order" 6 2 Fq34):BX Ω:=
 (BX.ifr (E.exc (x:="NoOrder") (by decide)) (Te.not (Te.val (Ex.call Cq34 (Ar.cons (Ex.var 0) (Ar.cons (Ex.var 1) Ar.nil))))) (BX.of Bl.nil))
abbrev cW:Stmt:=top 46
abbrev rm:List Str:=["number","d"]
abbrev pR:List Str:=["number","d"]
def qt:Bl Ω:=
 Bl.cons (Sm.ret (Ex.bin .Add (Ex.tup (Ar.cons (Ex.var 0) Ar.nil)) (Ex.bin .Mult (Ex.tup (Ar.cons (Ex.int 0) Ar.nil)) (Ex.var 1)))) Bl.nil
abbrev dH:Stmt:=top 47
abbrev uH:List Str:=["k","d"]
abbrev um:List Str:=["k","d"]
def uE(B:Bi Ω.mg):Bl Ω:=
 Bl.cons (Sm.ret (Ex.bin .Add (Ex.tup (Ar.cons (Ex.int 0) Ar.nil)) (Ex.typ aP B.tuple_ (Ar.cons (Ex.comp ["at","k"] [none,some 0] (Ex.ifE (Te.cmp .Eq (Ex.var 1) (Ex.var 0)) (Ex.int 1) (Ex.int 0)) (Tg.nm 0) (Itb.rng1 B.range_ (Ex.var 1)) Cd.no) Ar.nil)))) Bl.nil
abbrev dg:Stmt:=top 48
abbrev qu:List Str:=["nest","deed","d","counted","forms"]
abbrev qQ:List Str:=["nest","deed","d"]
section
variable (B : Bi Ω.mg) {Fq45 : Ct} (Cq45 : Cal Ω "number_form" 1 2 Fq45) {Fq20 : Ct} (Cq20 : Cal Ω "count_form" 1 2 Fq20)
def mY(B:Bi Ω.mg){Fq45:Ct}(Cq45:Cal Ω "number_form" 1 2 Fq45){Fq20:Ct}(Cq20:Cal Ω "count_form" 1 2 Fq20):Bl Ω:=
 Bl.cons (Sm.ret (Ex.typ aP B.tuple_ (Ar.cons (Ex.comp ["form"] [none] (Ex.tup (Ar.cons (Ex.str "form") (Ar.cons (Ex.var 0) Ar.nil))) (Tg.nm 0) (Itb.seq (Ex.var 4)) Cd.no) Ar.nil))) Bl.nil
def m7:Bl Ω:=
 Bl.cons (Sm.set 4 (Ex.binL false .Add (Ex.binL false .Add (Ex.lst (Ar.cons (Ex.call Cq45 (Ar.cons (Ex.var 0) (Ar.cons (Ex.var 2) Ar.nil))) Ar.nil)) (Ex.var 3)) (Ex.lst (Ar.cons (Ex.call Cq45 (Ar.cons (Ex.var 1) (Ar.cons (Ex.var 2) Ar.nil))) Ar.nil)))) (mY B Cq45 Cq20)
def qb:Bl Ω:=
 Bl.cons (Sm.setC 3 ["k","d"] [none,some 2] (Ex.call Cq20 (Ar.cons (Ex.var 0) (Ar.cons (Ex.var 1) Ar.nil))) (Tg.nm 0) (Itb.rng1 B.range_ (Ex.gint B.MOST_LOOPS_)) Cd.no) (m7 B Cq45 Cq20)
end
abbrev b8:Stmt:=top 49
abbrev jW:List Str:=["nest","loops","deeds"]
abbrev j6:List Str:=["nest","loops","deeds"]
def jX(B:Bi Ω.mg){Fq47:Ct}(Cq47:Cal Ω "plain_lines" 2 3 Fq47):Bl Ω:=
 Bl.cons (Sm.ret (Ex.typ aP B.tuple_ (Ar.cons (Ex.comp ["deed","nest","loops"] [none,some 0,some 1] (Ex.call Cq47 (Ar.cons (Ex.var 1) (Ar.cons (Ex.var 0) (Ar.cons (Ex.blt bc B.len_ (Ar.cons (Ex.var 2) Ar.nil)) Ar.nil)))) (Tg.nm 0) (Itb.rng1 B.range_ (Ex.blt bc B.len_ (Ar.cons (Ex.var 2) Ar.nil))) Cd.no) Ar.nil))) Bl.nil
abbrev dX:Stmt:=top 50
abbrev tR:List Str:=["program"]
abbrev tK:List Str:=["program"]
def uc(B:Bi Ω.mg){Fq48:Ct}(Cq48:Cal Ω "plain_nest_plan" 3 3 Fq48):Bl Ω:=
 Bl.cons (Sm.ret (Ex.typ aP B.tuple_ (Ar.cons (Ex.comp ["number","nest"] [none,none] (Ex.call Cq48 (Ar.cons (Ex.var 0) (Ar.cons (Ex.ix (Ex.var 1) (Ex.int 0)) (Ar.cons (Ex.ix (Ex.var 1) (Ex.int 1)) Ar.nil)))) (Tg.tup [0,1]) (Itb.enm B.enumerate_ (Ex.ix (Ex.var 0) (Ex.int 1))) Cd.no) Ar.nil))) Bl.nil
abbrev fP:Stmt:=top 52
abbrev Ab:List Str:=["things","at","thing"]
abbrev yt:List Str:=["things","at","thing"]
def zV:Bl Ω:=
 Bl.cons (Sm.ret (Ex.bin .Add (Ex.bin .Add (Ex.sl (Ex.var 0) Po.no (Po.so (Ex.var 1))) (Ex.tup (Ar.cons (Ex.var 2) Ar.nil))) (Ex.sl (Ex.var 0) (Po.so (Ex.bin .Add (Ex.var 1) (Ex.int 1))) Po.no))) Bl.nil
abbrev eY:Stmt:=top 55
abbrev wN:List Str:=["cell","other"]
abbrev v5:List Str:=["cell","other"]
def pO(B:Bi Ω.mg):Bl Ω:=
 Bl.cons (Sm.ret (Ex.blt mj B.sum_ (Ar.cons (Ex.comp ["one","two"] [none,none] (Ex.blt JH B.abs_ (Ar.cons (Ex.bin .Sub (Ex.var 0) (Ex.var 1)) Ar.nil)) (Tg.tup [0,1]) (Itb.zip B.zip_ (Ex.ix (Ex.var 0) (Ex.int 1)) (Ex.ix (Ex.var 1) (Ex.int 1))) Cd.no) Ar.nil))) Bl.nil
def wZ(B:Bi Ω.mg):Bl Ω:=
 Bl.cons (Sm.ite (Te.cmp .NotEq (Ex.ix (Ex.var 0) (Ex.int 0)) (Ex.ix (Ex.var 1) (Ex.int 0))) (Bl.cons (Sm.ret (Ex.gint B.BETWEEN_TABLES_)) Bl.nil) Bl.nil) (pO B)
abbrev kI:Stmt:=top 56
abbrev G6:List Str:=["program","order","cells","settings"]
abbrev HF:List Str:=["program","order"]
section
variable (B : Bi Ω.mg) (E : ExF Ω.mg Ω.K XL XT) {Fq17 : Ct} (Cq17 : Cal Ω "cells_of" 5 1 Fq17) {Fq52 : XCt} (Cq52 : gR Ω "refuse_no_order" 7 2 Fq52) {Fq25 : Ct} (Cq25 : Cal Ω "far_apart" 1 2 Fq25)
def Bh(B:Bi Ω.mg)(E:ExF Ω.mg Ω.K XL XT){Fq17:Ct}(Cq17:Cal Ω "cells_of" 5 1 Fq17){Fq52:XCt}(Cq52:gR Ω "refuse_no_order" 7 2 Fq52){Fq25:Ct}(Cq25:Cal Ω "far_apart" 1 2 Fq25):BX Ω:=
 (BX.cons (Sm.ret (Ex.blt mj B.sum_ (Ar.cons (Ex.comp ["cell","behind"] [none,none] (Ex.call Cq25 (Ar.cons (Ex.var 0) (Ar.cons (Ex.var 1) Ar.nil))) (Tg.tup [0,1]) (Itb.zipL B.zip_ (Ex.var 3) (Ex.sl (Ex.var 3) (Po.so (Ex.int 1)) Po.no)) Cd.no) Ar.nil))) (BX.of Bl.nil))
def Bu:BX Ω:=
 (BX.cons (Sm.setC 3 ["step","cells"] [none,some 2] (Ex.ix (Ex.ix (Ex.var 1) (Ex.var 0)) (Ex.int 0)) (Tg.nm 0) (Itb.seq (Ex.var 1)) Cd.no) (Bh B E Cq17 Cq52 Cq25))
def Bx:BX Ω:=
 (BX.cons (Sm.set 2 (Ex.call Cq17 (Ar.cons (Ex.var 0) Ar.nil))) (Bu B E Cq17 Cq52 Cq25))
def Hf:BX Ω:=
 (BX.exs (XEx.call Cq52 (Ar.cons (Ex.var 0) (Ar.cons (Ex.var 1) Ar.nil))) (Bx B E Cq17 Cq52 Cq25))
end
abbrev dm:Stmt:=top 57
abbrev qT:List Str:=["things","choice","longer","thing"]
abbrev qy:List Str:=["things","choice"]
def mL:Bl Ω:=
 Bl.cons (Sm.ret (Ex.var 2)) Bl.nil
def mU:Bl Ω:=
 Bl.cons (Sm.forL (Tg.nm 3) (Ex.var 0) (Bl.cons (Sm.expr (Ex.m_extend (Ex.var 2) (Ex.comp ["number","thing"] [none,some 3] (Ex.bin .Add (Ex.var 1) (Ex.tup (Ar.cons (Ex.var 0) Ar.nil))) (Tg.nm 0) (Itb.seq (Ex.var 1)) Cd.no))) Bl.nil)) (mL)
def pU:Bl Ω:=
 Bl.cons (Sm.set 2 (Ex.own Ar.nil)) (mU)
abbrev fu:Stmt:=top 58
abbrev vL:List Str:=["choice","d","told","place"]
abbrev wW:List Str:=["choice","d"]
section
variable (B : Bi Ω.mg) {Fq24 : Ct} (Cq24 : Cal Ω "each_longer" 1 2 Fq24)
def qK(B:Bi Ω.mg){Fq24:Ct}(Cq24:Cal Ω "each_longer" 1 2 Fq24):Bl Ω:=
 Bl.cons (Sm.ret (Ex.var 2)) Bl.nil
def qm:Bl Ω:=
 Bl.cons (Sm.for (Tg.nm 3) (Itb.rng1 B.range_ (Ex.var 1)) (Bl.cons (Sm.set 2 (Ex.call Cq24 (Ar.cons (Ex.var 2) (Ar.cons (Ex.var 0) Ar.nil)))) Bl.nil)) (qK B Cq24)
def wg:Bl Ω:=
 Bl.cons (Sm.set 2 (Ex.lst (Ar.cons (Ex.tup Ar.nil) Ar.nil))) (qm B Cq24)
end
abbrev gH:Stmt:=top 59
abbrev xW:List Str:=["program","nest"]
abbrev ym:List Str:=["program","nest"]
def Ad(B:Bi Ω.mg):Bl Ω:=
 Bl.cons (Sm.ret (Ex.blt bc B.len_ (Ar.cons (Ex.ix (Ex.ix (Ex.ix (Ex.var 0) (Ex.int 1)) (Ex.var 1)) (Ex.int 0)) Ar.nil))) Bl.nil
abbrev gJ:Stmt:=top 60
abbrev Ah:List Str:=["program","nest","d","told","lines"]
abbrev xY:List Str:=["program","nest"]
section
variable (B : Bi Ω.mg) {Fq55 : Ct} (Cq55 : Cal Ω "tuples_of" 2 2 Fq55) {Fq44 : Ct} (Cq44 : Cal Ω "loops_of" 1 2 Fq44)
def uB(B:Bi Ω.mg){Fq55:Ct}(Cq55:Cal Ω "tuples_of" 2 2 Fq55){Fq44:Ct}(Cq44:Cal Ω "loops_of" 1 2 Fq44):Bl Ω:=
 Bl.cons (Sm.ret (Ex.var 3)) Bl.nil
def rY:Bl Ω:=
 Bl.cons (Sm.forL (Tg.nm 4) (Ex.call Cq55 (Ar.cons (Ex.trng B.range_ B.tuple_ (Ex.var 2)) (Ar.cons (Ex.var 2) Ar.nil))) (Bl.cons (Sm.ite (Te.cmp .Eq (Ex.lsetT B.len_ B.set_ (Ex.var 4)) (Ex.var 2)) (Bl.cons (Sm.expr (Ex.m_extend (Ex.var 3) (Ex.comp ["signs","lines"] [none,some 4] (Ex.tup (Ar.cons (Ex.var 1) (Ar.cons (Ex.var 0) Ar.nil))) (Tg.nm 0) (Itb.seq (Ex.call Cq55 (Ar.cons (Ex.tup (Ar.cons (Ex.int 1) (Ar.cons (Ex.neg (Ex.int 1)) Ar.nil))) (Ar.cons (Ex.var 2) Ar.nil)))) Cd.no))) Bl.nil) Bl.nil) Bl.nil)) (uB B Cq55 Cq44)
def tB:Bl Ω:=
 Bl.cons (Sm.set 3 (Ex.own Ar.nil)) (rY B Cq55 Cq44)
def yX:Bl Ω:=
 Bl.cons (Sm.set 2 (Ex.call Cq44 (Ar.cons (Ex.var 0) (Ar.cons (Ex.var 1) Ar.nil)))) (tB B Cq55 Cq44)
end
abbrev dJ:Stmt:=top 61
abbrev ud:List Str:=["k","d","sign"]
abbrev uf:List Str:=["k","d","sign"]
def sG(B:Bi Ω.mg){Fq20:Ct}(Cq20:Cal Ω "count_form" 1 2 Fq20):Bl Ω:=
 Bl.cons (Sm.ret (Ex.tup (Ar.cons (Ex.str "form") (Ar.cons (Ex.typ aP B.tuple_ (Ar.cons (Ex.comp ["number","sign"] [none,some 2] (Ex.bin .Mult (Ex.var 1) (Ex.var 0)) (Tg.nm 0) (Itb.seq (Ex.call Cq20 (Ar.cons (Ex.var 0) (Ar.cons (Ex.var 1) Ar.nil)))) Cd.no) Ar.nil)) Ar.nil)))) Bl.nil
abbrev eZ:Stmt:=top 62
abbrev wB:List Str:=["program","nest","turning","d","turned","plan","deeds"]
abbrev vX:List Str:=["program","nest","turning"]
section
variable (B : Bi Ω.mg) {Fq49 : Ct} (Cq49 : Cal Ω "plain_plan" 4 1 Fq49) {Fq53 : Ct} (Cq53 : Cal Ω "replaced" 1 3 Fq53) {Fq44 : Ct} (Cq44 : Cal Ω "loops_of" 1 2 Fq44) {Fq21 : Ct} (Cq21 : Cal Ω "count_line" 2 3 Fq21)
def rC(B:Bi Ω.mg){Fq49:Ct}(Cq49:Cal Ω "plain_plan" 4 1 Fq49){Fq53:Ct}(Cq53:Cal Ω "replaced" 1 3 Fq53){Fq44:Ct}(Cq44:Cal Ω "loops_of" 1 2 Fq44){Fq21:Ct}(Cq21:Cal Ω "count_line" 2 3 Fq21):Bl Ω:=
 Bl.cons (Sm.ret (Ex.call Cq53 (Ar.cons (Ex.var 5) (Ar.cons (Ex.var 1) (Ar.cons (Ex.var 6) Ar.nil))))) Bl.nil
def pP:Bl Ω:=
 Bl.cons (Sm.set 6 (Ex.typ aP B.tuple_ (Ar.cons (Ex.comp ["lines","turned","d"] [none,some 4,some 3] (Ex.bin .Add (Ex.bin .Add (Ex.sl (Ex.var 0) Po.no (Po.so (Ex.int 1))) (Ex.var 1)) (Ex.sl (Ex.var 0) (Po.so (Ex.bin .Add (Ex.int 1) (Ex.var 2))) Po.no)) (Tg.nm 0) (Itb.seq (Ex.ix (Ex.var 5) (Ex.var 1))) Cd.no) Ar.nil))) (rC B Cq49 Cq53 Cq44 Cq21)
def qI:Bl Ω:=
 Bl.cons (Sm.set 5 (Ex.call Cq49 (Ar.cons (Ex.var 0) Ar.nil))) (pP B Cq49 Cq53 Cq44 Cq21)
def rG:Bl Ω:=
 Bl.cons (Sm.set 4 (Ex.typ aP B.tuple_ (Ar.cons (Ex.comp ["k","sign","d"] [none,none,some 3] (Ex.call Cq21 (Ar.cons (Ex.var 0) (Ar.cons (Ex.var 2) (Ar.cons (Ex.var 1) Ar.nil)))) (Tg.tup [0,1]) (Itb.zip B.zip_ (Ex.ix (Ex.var 2) (Ex.int 0)) (Ex.ix (Ex.var 2) (Ex.int 1))) Cd.no) Ar.nil))) (qI B Cq49 Cq53 Cq44 Cq21)
def vP:Bl Ω:=
 Bl.cons (Sm.set 3 (Ex.call Cq44 (Ar.cons (Ex.var 0) (Ar.cons (Ex.var 1) Ar.nil)))) (rG B Cq49 Cq53 Cq44 Cq21)
end
abbrev n8:Stmt:=top 64
abbrev JD:List Str:=["_law_script","_law_k","_law_number"]
abbrev J3:List Str:=["_law_script","_law_k"]
section
variable (B : Bi Ω.mg)
def qG(B:Bi Ω.mg):Bl Ω:=
 Bl.cons (Sm.ret (Ex.var 2)) Bl.nil
def Fy:Bl Ω:=
 Bl.cons (Sm.ite (Te.cmp .Gt (Ex.blt bc B.len_ (Ar.cons (Ex.var 0) Ar.nil)) (Ex.int 0)) (Bl.cons (Sm.set 2 (Ex.bin .Add (Ex.bin .Mult (Ex.ix (Ex.var 0) (Ex.bin .Mod (Ex.bin .Mult (Ex.var 1) (Ex.int 41)) (Ex.blt bc B.len_ (Ar.cons (Ex.var 0) Ar.nil)))) (Ex.int 69621)) (Ex.bin .Mult (Ex.bin .Mult (Ex.var 1) (Ex.var 1)) (Ex.int 1021)))) Bl.nil) Bl.nil) (qG B)
def qH:Bl Ω:=
 Bl.cons (Sm.set 2 (Ex.bin .Add (Ex.bin .Mult (Ex.int 100003) (Ex.var 1)) (Ex.int 37))) (Fy B)
def Kg:Bl Ω:=
 Bl.cons (Sm.ite (Te.cmp .Lt (Ex.var 1) (Ex.blt bc B.len_ (Ar.cons (Ex.var 0) Ar.nil))) (Bl.cons (Sm.ret (Ex.ix (Ex.var 0) (Ex.var 1))) Bl.nil) Bl.nil) (qH B)
end
abbrev oN:Stmt:=top 65
abbrev JR:List Str:=["_law_pen_here","_law_many","_law_digit","_law_number"]
abbrev Kc:List Str:=["_law_pen_here","_law_many"]
section
variable {Fq0 : Ct} (Cq0 : Cal Ω "_law_cell" 1 2 Fq0)
def v9{Fq0:Ct}(Cq0:Cal Ω "_law_cell" 1 2 Fq0):Bl Ω:=
 Bl.cons (Sm.ret (Ex.var 2)) Bl.nil
def vG:Bl Ω:=
 Bl.cons (Sm.setIx (Ex.var 0) (Ex.int 3) (Ex.fdiv (Ex.ix (Ex.var 0) (Ex.int 3)) (Ex.var 1))) (v9 Cq0)
def Bq:Bl Ω:=
 Bl.cons (Sm.set 2 (Ex.bin .Mod (Ex.ix (Ex.var 0) (Ex.int 3)) (Ex.var 1))) (vG Cq0)
def Fe{Fq0:Ct}(Cq0:Cal Ω "_law_cell" 1 2 Fq0):Bl Ω:=
 Bl.cons (Sm.ret (Ex.bin .Mod (Ex.fdiv (Ex.var 3) (Ex.int 16)) (Ex.var 1))) Bl.nil
def EY:Bl Ω:=
 Bl.cons (Sm.set 3 (Ex.bin .Mod (Ex.bin .Add (Ex.bin .Mult (Ex.var 3) (Ex.var 3)) (Ex.bin .Mult (Ex.ix (Ex.var 0) (Ex.int 1)) (Ex.int 9973))) (Ex.int 2147483269))) (Fe Cq0)
def Fv:Bl Ω:=
 Bl.cons (Sm.set 3 (Ex.bin .Mod (Ex.bin .Mult (Ex.bin .Add (Ex.bin .Mod (Ex.call Cq0 (Ar.cons (Ex.ix (Ex.var 0) (Ex.int 0)) (Ar.cons (Ex.ix (Ex.var 0) (Ex.int 1)) Ar.nil))) (Ex.int 2147483353)) (Ex.ix (Ex.var 0) (Ex.int 1))) (Ex.int 40692)) (Ex.int 2147483353))) (EY Cq0)
def Eu:Bl Ω:=
 Bl.cons (Sm.setIx (Ex.var 0) (Ex.int 1) (Ex.bin .Add (Ex.ix (Ex.var 0) (Ex.int 1)) (Ex.int 1))) (Fv Cq0)
def K6:Bl Ω:=
 Bl.cons (Sm.ite (Te.cmp .Eq (Ex.bin .Mod (Ex.ix (Ex.var 0) (Ex.int 2)) (Ex.int 2)) (Ex.int 0)) (Bq Cq0) Bl.nil) (Eu Cq0)
end
abbrev rO:Stmt:=top 66
abbrev Oj:List Str:=["_law_script"]
abbrev Mm:List Str:=["_law_script"]
def Nb{Fq0:Ct}(Cq0:Cal Ω "_law_cell" 1 2 Fq0):Bl Ω:=
 Bl.cons (Sm.ret (Ex.own (Ar.cons (Ex.var 0) (Ar.cons (Ex.int 0) (Ar.cons (Ex.call Cq0 (Ar.cons (Ex.var 0) (Ar.cons (Ex.int 0) Ar.nil))) (Ar.cons (Ex.fdiv (Ex.call Cq0 (Ar.cons (Ex.var 0) (Ar.cons (Ex.int 0) Ar.nil))) (Ex.int 2)) Ar.nil)))))) Bl.nil
abbrev lr:Stmt:=top 67
abbrev Hz:List Str:=["_law_pen_here","_law_loops_here","_law_k","_law_low","_law_high","_law_j"]
abbrev Hq:List Str:=["_law_pen_here"]
section
variable (B : Bi Ω.mg) {Fq5 : Ct} (Cq5 : Cal Ω "_law_next" 2 2 Fq5)
def tW(B:Bi Ω.mg){Fq5:Ct}(Cq5:Cal Ω "_law_next" 2 2 Fq5):Bl Ω:=
 Bl.cons (Sm.expr (Ex.m_append (Ex.var 1) (Ex.tup (Ar.cons (Ex.typ aP B.tuple_ (Ar.cons (Ex.var 3) Ar.nil)) (Ar.cons (Ex.typ aP B.tuple_ (Ar.cons (Ex.var 4) Ar.nil)) Ar.nil))))) Bl.nil
def sJ:Bl Ω:=
 Bl.cons (Sm.for (Tg.nm 5) (Itb.rng2 B.range_ (Ex.int 1) (Ex.bin .Add (Ex.var 2) (Ex.int 1))) (Bl.cons (Sm.setIx (Ex.var 4) (Ex.var 5) (Ex.blt UG B.max_ (Ar.cons (Ex.neg (Ex.int 2)) (Ar.cons (Ex.blt UL B.min_ (Ar.cons (Ex.int 2) (Ar.cons (Ex.bin .Add (Ex.ix (Ex.var 4) (Ex.var 5)) (Ex.ix (Ex.lst (Ar.cons (Ex.int 0) (Ar.cons (Ex.int 0) (Ar.cons (Ex.int 1) (Ar.cons (Ex.neg (Ex.int 1)) (Ar.cons (Ex.int 0) (Ar.cons (Ex.int 0) Ar.nil))))))) (Ex.call Cq5 (Ar.cons (Ex.var 0) (Ar.cons (Ex.int 6) Ar.nil))))) Ar.nil))) Ar.nil)))) Bl.nil)) (tW B Cq5)
def rR:Bl Ω:=
 Bl.cons (Sm.setIx (Ex.var 4) (Ex.int 0) (Ex.bin .Add (Ex.ix (Ex.var 3) (Ex.int 0)) (Ex.ix (Ex.lst (Ar.cons (Ex.int 2) (Ar.cons (Ex.int 1) (Ar.cons (Ex.int 3) (Ar.cons (Ex.int 4) (Ar.cons (Ex.int 2) (Ar.cons (Ex.int 3) (Ar.cons (Ex.int 0) Ar.nil)))))))) (Ex.call Cq5 (Ar.cons (Ex.var 0) (Ar.cons (Ex.int 7) Ar.nil)))))) (sJ B Cq5)
def uD:Bl Ω:=
 Bl.cons (Sm.set 4 (Ex.typ Iv B.list_ (Ar.cons (Ex.var 3) Ar.nil))) (rR B Cq5)
def yP:Bl Ω:=
 Bl.cons (Sm.set 3 (Ex.binL false .Add (Ex.lst (Ar.cons (Ex.bin .Sub (Ex.call Cq5 (Ar.cons (Ex.var 0) (Ar.cons (Ex.int 5) Ar.nil))) (Ex.int 2)) Ar.nil)) (Ex.comp ["_law_j","_law_pen_here"] [none,some 0] (Ex.ix (Ex.lst (Ar.cons (Ex.int 0) (Ar.cons (Ex.int 0) (Ar.cons (Ex.int 1) (Ar.cons (Ex.neg (Ex.int 1)) Ar.nil))))) (Ex.call Cq5 (Ar.cons (Ex.var 1) (Ar.cons (Ex.int 4) Ar.nil)))) (Tg.nm 0) (Itb.rng1 B.range_ (Ex.var 2)) Cd.no))) (uD B Cq5)
def Bv(B:Bi Ω.mg){Fq5:Ct}(Cq5:Cal Ω "_law_next" 2 2 Fq5):Bl Ω:=
 Bl.cons (Sm.ret (Ex.var 1)) Bl.nil
def Cv:Bl Ω:=
 Bl.cons (Sm.for (Tg.nm 2) (Itb.rng1 B.range_ (Ex.bin .Add (Ex.int 1) (Ex.call Cq5 (Ar.cons (Ex.var 0) (Ar.cons (Ex.int 3) Ar.nil))))) (yP B Cq5)) (Bv B Cq5)
def Hm:Bl Ω:=
 Bl.cons (Sm.set 1 (Ex.own Ar.nil)) (Cv B Cq5)
end
abbrev kE:Stmt:=top 68
abbrev GC:List Str:=["_law_form","_law_counts"]
abbrev Ib:List Str:=["_law_form","_law_counts"]
def Ir(B:Bi Ω.mg):Bl Ω:=
 Bl.cons (Sm.ret (Ex.bin .Add (Ex.ix (Ex.var 0) (Ex.int 0)) (Ex.blt mj B.sum_ (Ar.cons (Ex.comp ["_law_one","_law_other"] [none,none] (Ex.bin .Mult (Ex.var 0) (Ex.var 1)) (Tg.tup [0,1]) (Itb.zip B.zip_ (Ex.sl (Ex.var 0) (Po.so (Ex.int 1)) Po.no) (Ex.var 1)) Cd.no) Ar.nil)))) Bl.nil
abbrev lG:Stmt:=top 69
abbrev G4:List Str:=["_law_loops_here","_law_found","_law_low","_law_high","_law_longer","_law_counts","_law_number"]
abbrev GP:List Str:=["_law_loops_here"]
section
variable (B : Bi Ω.mg) {Fq15 : Ct} (Cq15 : Cal Ω "_law_value" 1 2 Fq15)
def tD(B:Bi Ω.mg){Fq15:Ct}(Cq15:Cal Ω "_law_value" 1 2 Fq15):Bl Ω:=
 Bl.cons (Sm.set 1 (Ex.var 4)) Bl.nil
def uo:Bl Ω:=
 Bl.cons (Sm.forL (Tg.nm 5) (Ex.var 1) (Bl.cons (Sm.for (Tg.nm 6) (Itb.rng2 B.range_ (Ex.call Cq15 (Ar.cons (Ex.var 2) (Ar.cons (Ex.var 5) Ar.nil))) (Ex.call Cq15 (Ar.cons (Ex.var 3) (Ar.cons (Ex.var 5) Ar.nil)))) (Bl.cons (Sm.expr (Ex.m_append (Ex.var 4) (Ex.bin .Add (Ex.var 5) (Ex.tup (Ar.cons (Ex.var 6) Ar.nil))))) Bl.nil)) Bl.nil)) (tD B Cq15)
def lq:Bl Ω:=
 Bl.cons (Sm.set 4 (Ex.own Ar.nil)) (uo B Cq15)
def BW(B:Bi Ω.mg){Fq15:Ct}(Cq15:Cal Ω "_law_value" 1 2 Fq15):Bl Ω:=
 Bl.cons (Sm.ret (Ex.blt bc B.len_ (Ar.cons (Ex.var 1) Ar.nil))) Bl.nil
def CG:Bl Ω:=
 Bl.cons (Sm.forL (Tg.tup [2,3]) (Ex.var 0) (Bl.fzl (lq B Cq15))) (BW B Cq15)
def GZ:Bl Ω:=
 Bl.cons (Sm.set 1 (Ex.lst (Ar.cons (Ex.tup Ar.nil) Ar.nil))) (CG B Cq15)
end
abbrev lL:Stmt:=top 70
abbrev Jx:List Str:=["_law_pen_here","_law_wide","_law_depth","_law_place_here","_law_k","_law_more"]
abbrev Ip:List Str:=["_law_pen_here","_law_wide","_law_depth"]
section
variable (B : Bi Ω.mg) {Fq5 : Ct} (Cq5 : Cal Ω "_law_next" 2 2 Fq5)
def sr(B:Bi Ω.mg){Fq5:Ct}(Cq5:Cal Ω "_law_next" 2 2 Fq5):Bl Ω:=
 Bl.cons (Sm.expr (Ex.m_append (Ex.var 3) (Ex.typ aP B.tuple_ (Ar.cons (Ex.binL false .Add (Ex.lst (Ar.cons (Ex.bin .Sub (Ex.call Cq5 (Ar.cons (Ex.var 0) (Ar.cons (Ex.int 5) Ar.nil))) (Ex.int 2)) Ar.nil)) (Ex.var 5)) Ar.nil)))) Bl.nil
def z7:Bl Ω:=
 Bl.cons (Sm.setC 5 ["_law_j","_law_pen_here"] [none,some 0] (Ex.ix (Ex.lst (Ar.cons (Ex.int 0) (Ar.cons (Ex.int 1) (Ar.cons (Ex.int 0) (Ar.cons (Ex.neg (Ex.int 1)) (Ar.cons (Ex.int 1) (Ar.cons (Ex.int 2) Ar.nil))))))) (Ex.call Cq5 (Ar.cons (Ex.var 1) (Ar.cons (Ex.int 6) Ar.nil)))) (Tg.nm 0) (Itb.rng1 B.range_ (Ex.var 2)) Cd.no) (sr B Cq5)
def CP(B:Bi Ω.mg){Fq5:Ct}(Cq5:Cal Ω "_law_next" 2 2 Fq5):Bl Ω:=
 Bl.cons (Sm.ret (Ex.typ aP B.tuple_ (Ar.cons (Ex.var 3) Ar.nil))) Bl.nil
def Ck:Bl Ω:=
 Bl.cons (Sm.for (Tg.nm 4) (Itb.rng1 B.range_ (Ex.var 1)) (z7 B Cq5)) (CP B Cq5)
def Jq:Bl Ω:=
 Bl.cons (Sm.set 3 (Ex.own Ar.nil)) (Ck B Cq5)
end
abbrev pF:Stmt:=top 71
abbrev Kq:List Str:=["_law_pen_here","_law_widths","_law_depth","_law_table","_law_place_here","_law_start","_law_reads","_law_k","_law_other"]
abbrev Kp:List Str:=["_law_pen_here","_law_widths","_law_depth"]
section
variable (B : Bi Ω.mg) {Fq5 : Ct} (Cq5 : Cal Ω "_law_next" 2 2 Fq5) {Fq8 : Ct} (Cq8 : Cal Ω "_law_place" 3 3 Fq8)
def wA(B:Bi Ω.mg){Fq5:Ct}(Cq5:Cal Ω "_law_next" 2 2 Fq5){Fq8:Ct}(Cq8:Cal Ω "_law_place" 3 3 Fq8):Bl Ω:=
 Bl.cons (Sm.expr (Ex.m_append (Ex.var 6) (Ex.tup (Ar.cons (Ex.bin .Sub (Ex.call Cq5 (Ar.cons (Ex.var 0) (Ar.cons (Ex.int 5) Ar.nil))) (Ex.int 2)) (Ar.cons (Ex.var 8) (Ar.cons (Ex.call Cq8 (Ar.cons (Ex.var 0) (Ar.cons (Ex.ix (Ex.var 1) (Ex.var 8)) (Ar.cons (Ex.var 2) Ar.nil)))) Ar.nil)))))) Bl.nil
def Bk:Bl Ω:=
 Bl.cons (Sm.set 8 (Ex.call Cq5 (Ar.cons (Ex.var 0) (Ar.cons (Ex.blt bc B.len_ (Ar.cons (Ex.var 1) Ar.nil)) Ar.nil)))) (wA B Cq5 Cq8)
def Gu(B:Bi Ω.mg){Fq5:Ct}(Cq5:Cal Ω "_law_next" 2 2 Fq5){Fq8:Ct}(Cq8:Cal Ω "_law_place" 3 3 Fq8):Bl Ω:=
 Bl.cons (Sm.ret (Ex.tup (Ar.cons (Ex.var 3) (Ar.cons (Ex.var 4) (Ar.cons (Ex.var 5) (Ar.cons (Ex.typ aP B.tuple_ (Ar.cons (Ex.var 6) Ar.nil)) Ar.nil)))))) Bl.nil
def Gs:Bl Ω:=
 Bl.cons (Sm.for (Tg.nm 7) (Itb.rng1 B.range_ (Ex.call Cq5 (Ar.cons (Ex.var 0) (Ar.cons (Ex.int 4) Ar.nil)))) (Bk B Cq5 Cq8)) (Gu B Cq5 Cq8)
def FJ:Bl Ω:=
 Bl.cons (Sm.set 6 (Ex.own Ar.nil)) (Gs B Cq5 Cq8)
def FP:Bl Ω:=
 Bl.cons (Sm.set 5 (Ex.typ aP B.tuple_ (Ar.cons (Ex.binL false .Add (Ex.lst (Ar.cons (Ex.bin .Sub (Ex.call Cq5 (Ar.cons (Ex.var 0) (Ar.cons (Ex.int 7) Ar.nil))) (Ex.int 3)) Ar.nil)) (Ex.comp ["_law_k","_law_pen_here"] [none,some 0] (Ex.bin .Sub (Ex.call Cq5 (Ar.cons (Ex.var 1) (Ar.cons (Ex.int 3) Ar.nil))) (Ex.int 1)) (Tg.nm 0) (Itb.rng1 B.range_ (Ex.var 2)) Cd.no)) Ar.nil))) (FJ B Cq5 Cq8)
def Gi:Bl Ω:=
 Bl.cons (Sm.set 4 (Ex.call Cq8 (Ar.cons (Ex.var 0) (Ar.cons (Ex.ix (Ex.var 1) (Ex.var 3)) (Ar.cons (Ex.var 2) Ar.nil))))) (FP B Cq5 Cq8)
def KJ:Bl Ω:=
 Bl.cons (Sm.set 3 (Ex.call Cq5 (Ar.cons (Ex.var 0) (Ar.cons (Ex.blt bc B.len_ (Ar.cons (Ex.var 1) Ar.nil)) Ar.nil)))) (Gi B Cq5 Cq8)
end
abbrev iG:Stmt:=top 72
abbrev CT:List Str:=["_law_pen_here","_law_widths","_law_left","_law_nests","_law_k","_law_loops_here","_law_many","_law_deeds"]
abbrev Bb:List Str:=["_law_pen_here"]
section
variable (B : Bi Ω.mg) {Fq50 : Ct} (Cq50 : Cal Ω "program_of" 10 2 Fq50) {Fq5 : Ct} (Cq5 : Cal Ω "_law_next" 2 2 Fq5) {Fq3 : Ct} (Cq3 : Cal Ω "_law_loops" 3 1 Fq3) {Fq1 : Ct} (Cq1 : Cal Ω "_law_count" 2 1 Fq1) {Fq2 : Ct} (Cq2 : Cal Ω "_law_deed" 4 3 Fq2)
def pD(B:Bi Ω.mg){Fq50:Ct}(Cq50:Cal Ω "program_of" 10 2 Fq50){Fq5:Ct}(Cq5:Cal Ω "_law_next" 2 2 Fq5){Fq3:Ct}(Cq3:Cal Ω "_law_loops" 3 1 Fq3){Fq1:Ct}(Cq1:Cal Ω "_law_count" 2 1 Fq1){Fq2:Ct}(Cq2:Cal Ω "_law_deed" 4 3 Fq2):Bl Ω:=
 Bl.cons (Sm.expr (Ex.m_append (Ex.var 3) (Ex.tup (Ar.cons (Ex.typ aP B.tuple_ (Ar.cons (Ex.var 5) Ar.nil)) (Ar.cons (Ex.var 7) Ar.nil))))) Bl.nil
def nQ:Bl Ω:=
 Bl.cons (Sm.set 7 (Ex.typ aP B.tuple_ (Ar.cons (Ex.comp ["_law_j","_law_pen_here","_law_widths","_law_loops_here"] [none,some 0,some 1,some 5] (Ex.call Cq2 (Ar.cons (Ex.var 1) (Ar.cons (Ex.var 2) (Ar.cons (Ex.blt bc B.len_ (Ar.cons (Ex.var 3) Ar.nil)) Ar.nil)))) (Tg.nm 0) (Itb.rng1 B.range_ (Ex.var 6)) Cd.no) Ar.nil))) (pD B Cq50 Cq5 Cq3 Cq1 Cq2)
def gF:Bl Ω:=
 Bl.cons (Sm.set 2 (Ex.bin .Sub (Ex.var 2) (Ex.bin .Mult (Ex.call Cq1 (Ar.cons (Ex.var 5) Ar.nil)) (Ex.var 6)))) (nQ B Cq50 Cq5 Cq3 Cq1 Cq2)
def fO:Bl Ω:=
 Bl.cons (Sm.ite (Te.cmp .Gt (Ex.bin .Mult (Ex.call Cq1 (Ar.cons (Ex.var 5) Ar.nil)) (Ex.var 6)) (Ex.var 2)) (Bl.cons (Sm.set 5 (Ex.own (Ar.cons (Ex.tup (Ar.cons (Ex.tup (Ar.cons (Ex.int 0) Ar.nil)) (Ar.cons (Ex.tup (Ar.cons (Ex.int 0) Ar.nil)) Ar.nil))) Ar.nil))) Bl.nil) Bl.nil) (gF B Cq50 Cq5 Cq3 Cq1 Cq2)
def nO:Bl Ω:=
 Bl.cons (Sm.while (Te.and (Bt.cons (Te.cmp .Gt (Ex.blt bc B.len_ (Ar.cons (Ex.var 5) Ar.nil)) (Ex.int 1)) (Bt.one (Te.cmp .Gt (Ex.bin .Mult (Ex.call Cq1 (Ar.cons (Ex.var 5) Ar.nil)) (Ex.var 6)) (Ex.var 2))))) (Bl.cons (Sm.expr (Ex.m_pop0 (Ex.var 5))) Bl.nil)) (fO B Cq50 Cq5 Cq3 Cq1 Cq2)
def nT:Bl Ω:=
 Bl.cons (Sm.set 6 (Ex.bin .Add (Ex.int 1) (Ex.call Cq5 (Ar.cons (Ex.var 0) (Ar.cons (Ex.int 4) Ar.nil))))) (nO B Cq50 Cq5 Cq3 Cq1 Cq2)
def iT:Bl Ω:=
 Bl.cons (Sm.set 5 (Ex.call Cq3 (Ar.cons (Ex.var 0) Ar.nil))) (nT B Cq50 Cq5 Cq3 Cq1 Cq2)
def vK(B:Bi Ω.mg){Fq50:Ct}(Cq50:Cal Ω "program_of" 10 2 Fq50){Fq5:Ct}(Cq5:Cal Ω "_law_next" 2 2 Fq5){Fq3:Ct}(Cq3:Cal Ω "_law_loops" 3 1 Fq3){Fq1:Ct}(Cq1:Cal Ω "_law_count" 2 1 Fq1){Fq2:Ct}(Cq2:Cal Ω "_law_deed" 4 3 Fq2):Bl Ω:=
 Bl.cons (Sm.ret (Ex.call Cq50 (Ar.cons (Ex.var 1) (Ar.cons (Ex.typ aP B.tuple_ (Ar.cons (Ex.var 3) Ar.nil)) Ar.nil)))) Bl.nil
def wJ:Bl Ω:=
 Bl.cons (Sm.for (Tg.nm 4) (Itb.rng1 B.range_ (Ex.bin .Add (Ex.int 1) (Ex.call Cq5 (Ar.cons (Ex.var 0) (Ar.cons (Ex.int 3) Ar.nil))))) (iT B Cq50 Cq5 Cq3 Cq1 Cq2)) (vK B Cq50 Cq5 Cq3 Cq1 Cq2)
def vM:Bl Ω:=
 Bl.cons (Sm.set 3 (Ex.own Ar.nil)) (wJ B Cq50 Cq5 Cq3 Cq1 Cq2)
def vD:Bl Ω:=
 Bl.cons (Sm.set 2 (Ex.int 24)) (vM B Cq50 Cq5 Cq3 Cq1 Cq2)
def Cr:Bl Ω:=
 Bl.cons (Sm.set 1 (Ex.typ aP B.tuple_ (Ar.cons (Ex.comp ["_law_k","_law_pen_here"] [none,some 0] (Ex.bin .Add (Ex.int 1) (Ex.call Cq5 (Ar.cons (Ex.var 1) (Ar.cons (Ex.int 2) Ar.nil)))) (Tg.nm 0) (Itb.rng1 B.range_ (Ex.bin .Add (Ex.int 1) (Ex.call Cq5 (Ar.cons (Ex.var 0) (Ar.cons (Ex.int 3) Ar.nil))))) Cd.no) Ar.nil))) (vD B Cq50 Cq5 Cq3 Cq1 Cq2)
end
abbrev fW:Stmt:=top 73
abbrev zj:List Str:=["_law_pen_here","_law_some","_law_left","_law_found"]
abbrev Aq:List Str:=["_law_pen_here","_law_some"]
section
variable (B : Bi Ω.mg) {Fq5 : Ct} (Cq5 : Cal Ω "_law_next" 2 2 Fq5)
def uK(B:Bi Ω.mg){Fq5:Ct}(Cq5:Cal Ω "_law_next" 2 2 Fq5):Bl Ω:=
 Bl.cons (Sm.ret (Ex.var 3)) Bl.nil
def tV:Bl Ω:=
 Bl.cons (Sm.while (Te.cmp .NotEq (Ex.var 2) (Ex.lst Ar.nil)) (Bl.cons (Sm.expr (Ex.m_append (Ex.var 3) (Ex.m_pop (Ex.var 2) (Ex.call Cq5 (Ar.cons (Ex.var 0) (Ar.cons (Ex.blt bc B.len_ (Ar.cons (Ex.var 2) Ar.nil)) Ar.nil)))))) Bl.nil)) (uK B Cq5)
def sX:Bl Ω:=
 Bl.cons (Sm.set 3 (Ex.own Ar.nil)) (tV B Cq5)
def yD:Bl Ω:=
 Bl.cons (Sm.set 2 (Ex.typ Iv B.list_ (Ar.cons (Ex.var 1) Ar.nil))) (sX B Cq5)
end
abbrev lO:Stmt:=top 74
abbrev Iz:List Str:=["_law_cells","_law_order","_law_total","_law_one","_law_other","_law_mine","_law_yours"]
abbrev Gy:List Str:=["_law_cells","_law_order"]
section
variable (B : Bi Ω.mg)
def uM(B:Bi Ω.mg):Bl Ω:=
 Bl.cons (Sm.ite (Te.cmp .NotEq (Ex.ix (Ex.var 5) (Ex.int 0)) (Ex.ix (Ex.var 6) (Ex.int 0))) (Bl.cons (Sm.set 2 (Ex.bin .Add (Ex.var 2) (Ex.int 100))) Bl.nil) (Bl.cons (Sm.set 2 (Ex.bin .Add (Ex.var 2) (Ex.blt mj B.sum_ (Ar.cons (Ex.comp ["_law_a","_law_b"] [none,none] (Ex.blt JH B.abs_ (Ar.cons (Ex.bin .Sub (Ex.var 0) (Ex.var 1)) Ar.nil)) (Tg.tup [0,1]) (Itb.zip B.zip_ (Ex.ix (Ex.var 5) (Ex.int 1)) (Ex.ix (Ex.var 6) (Ex.int 1))) Cd.no) Ar.nil)))) Bl.nil)) Bl.nil
def rJ:Bl Ω:=
 Bl.cons (Sm.set 6 (Ex.ix (Ex.ix (Ex.var 0) (Ex.var 4)) (Ex.int 0))) (uM B)
def yG:Bl Ω:=
 Bl.cons (Sm.set 5 (Ex.ix (Ex.ix (Ex.var 0) (Ex.var 3)) (Ex.int 0))) (rJ B)
def BL(B:Bi Ω.mg):Bl Ω:=
 Bl.cons (Sm.ret (Ex.var 2)) Bl.nil
def Cw:Bl Ω:=
 Bl.cons (Sm.for (Tg.tup [3,4]) (Itb.zipL B.zip_ (Ex.var 1) (Ex.sl (Ex.var 1) (Po.so (Ex.int 1)) Po.no)) (yG B)) (BL B)
def HD:Bl Ω:=
 Bl.cons (Sm.set 2 (Ex.int 0)) (Cw B)
end
abbrev iK:Stmt:=top 75
abbrev Bd:List Str:=["_law_program_here","_law_order","_law_caught","e"]
abbrev BK:List Str:=["_law_program_here","_law_order"]
def wy(B:Bi Ω.mg)(E:ExF Ω.mg Ω.K XL XT){Fq51:XCt}(Cq51:gR Ω "reach" 8 2 Fq51):BT Ω:=
 (BT.tryc E B.isinstance_ B.int_ (TB.exs (XEx.call Cq51 (Ar.cons (Ex.var 0) (Ar.cons (Ex.var 1) Ar.nil)))) 3 "e" 2 "_law_caught" [HB.ifr (HT.or (HT.no (HT.one "NoOrder")) (HT.no (HT.one "ValueError"))) (Oc.bl false),HB.val (HT.no (HT.any ["NoPlan","NoProgram","NoRow","NoText","NoTurn","Tied","TooMany"]))])
def Bp(B:Bi Ω.mg)(E:ExF Ω.mg Ω.K XL XT){Fq51:XCt}(Cq51:gR Ω "reach" 8 2 Fq51):BT Ω:=
 (BT.cons (Sm.set 2 Ex.non) (wy B E Cq51))
abbrev fj:Stmt:=top 76
abbrev wM:List Str:=["_law_pen_here","_law_many","_law_order","_law_some","_law_at"]
abbrev vW:List Str:=["_law_pen_here","_law_many"]
section
variable (B : Bi Ω.mg) {Fq5 : Ct} (Cq5 : Cal Ω "_law_next" 2 2 Fq5)
def lB(B:Bi Ω.mg){Fq5:Ct}(Cq5:Cal Ω "_law_next" 2 2 Fq5):Bl Ω:=
 Bl.cons (Sm.set 3 (Ex.bin .Add (Ex.var 3) (Ex.lst (Ar.cons (Ex.bin .Add (Ex.sl (Ex.var 2) Po.no (Po.so (Ex.var 4))) (Ex.sl (Ex.var 2) (Po.so (Ex.bin .Add (Ex.var 4) (Ex.int 1))) Po.no)) (Ar.cons (Ex.bin .Add (Ex.var 2) (Ex.lst (Ar.cons (Ex.var 4) Ar.nil))) (Ar.cons (Ex.bin .Add (Ex.bin .Add (Ex.sl (Ex.var 2) Po.no (Po.so (Ex.var 4))) (Ex.lst (Ar.cons (Ex.var 1) Ar.nil))) (Ex.sl (Ex.var 2) (Po.so (Ex.bin .Add (Ex.var 4) (Ex.int 1))) Po.no)) Ar.nil)))))) Bl.nil
def oX:Bl Ω:=
 Bl.cons (Sm.set 4 (Ex.call Cq5 (Ar.cons (Ex.var 0) (Ar.cons (Ex.var 1) Ar.nil)))) (lB B Cq5)
def qg(B:Bi Ω.mg){Fq5:Ct}(Cq5:Cal Ω "_law_next" 2 2 Fq5):Bl Ω:=
 Bl.cons (Sm.ret (Ex.var 3)) Bl.nil
def qJ:Bl Ω:=
 Bl.cons (Sm.ite (Te.cmp .Gt (Ex.var 1) (Ex.int 0)) (oX B Cq5) Bl.nil) (qg B Cq5)
def qZ:Bl Ω:=
 Bl.cons (Sm.set 3 (Ex.lst (Ar.cons (Ex.bin .Add (Ex.var 2) (Ex.lst (Ar.cons (Ex.var 1) Ar.nil))) (Ar.cons (Ex.bin .Add (Ex.var 2) (Ex.lst (Ar.cons (Ex.neg (Ex.int 1)) Ar.nil))) (Ar.cons (Ex.bin .Add (Ex.sl (Ex.var 2) Po.no (Po.so (Ex.neg (Ex.int 1)))) (Ex.binL false .Mult (Ex.lst (Ar.cons (Ex.var 1) Ar.nil)) (Ex.typ RP B.int_ (Ar.cons (Ex.cmp .Eq (Ex.var 1) (Ex.int 0)) Ar.nil)))) Ar.nil))))) (qJ B Cq5)
def xf:Bl Ω:=
 Bl.cons (Sm.set 2 (Ex.lrng B.range_ B.list_ (Ex.var 1))) (qZ B Cq5)
end
abbrev gk:Stmt:=top 77
abbrev yu:List Str:=["_law_depth","_law_lines","_law_signs","_law_k","_law_longer","_law_some","_law_found","_law_one"]
abbrev zm:List Str:=["_law_depth"]
section
variable (B : Bi Ω.mg)
def mV(B:Bi Ω.mg):Bl Ω:=
 Bl.cons (Sm.set 2 (Ex.var 4)) Bl.nil
def m5:Bl Ω:=
 Bl.cons (Sm.forL (Tg.nm 5) (Ex.var 2) (Bl.cons (Sm.set 4 (Ex.bin .Add (Ex.var 4) (Ex.lst (Ar.cons (Ex.bin .Add (Ex.var 5) (Ex.tup (Ar.cons (Ex.int 1) Ar.nil))) (Ar.cons (Ex.bin .Add (Ex.var 5) (Ex.tup (Ar.cons (Ex.neg (Ex.int 1)) Ar.nil))) Ar.nil))))) Bl.nil)) (mV B)
def rA:Bl Ω:=
 Bl.cons (Sm.set 4 (Ex.lst Ar.nil)) (m5 B)
def su(B:Bi Ω.mg):Bl Ω:=
 Bl.cons (Sm.ret (Ex.var 6)) Bl.nil
def sI:Bl Ω:=
 Bl.cons (Sm.forL (Tg.nm 7) (Ex.var 1) (Bl.cons (Sm.set 6 (Ex.bin .Add (Ex.var 6) (Ex.comp ["_law_some","_law_one"] [none,some 7] (Ex.tup (Ar.cons (Ex.var 1) (Ar.cons (Ex.var 0) Ar.nil))) (Tg.nm 0) (Itb.seq (Ex.var 2)) Cd.no))) Bl.nil)) (su B)
def rT:Bl Ω:=
 Bl.cons (Sm.set 6 (Ex.lst Ar.nil)) (sI B)
def uG:Bl Ω:=
 Bl.cons (Sm.for (Tg.nm 3) (Itb.rng1 B.range_ (Ex.var 0)) (rA B)) (rT B)
def tM:Bl Ω:=
 Bl.cons (Sm.set 2 (Ex.lst (Ar.cons (Ex.tup Ar.nil) Ar.nil))) (uG B)
def Aw:Bl Ω:=
 Bl.cons (Sm.set 1 (Ex.ix (Ex.lst (Ar.cons (Ex.lst (Ar.cons (Ex.tup (Ar.cons (Ex.int 0) Ar.nil)) Ar.nil)) (Ar.cons (Ex.lst (Ar.cons (Ex.tup (Ar.cons (Ex.int 0) (Ar.cons (Ex.int 1) Ar.nil))) (Ar.cons (Ex.tup (Ar.cons (Ex.int 1) (Ar.cons (Ex.int 0) Ar.nil))) Ar.nil))) (Ar.cons (Ex.lst (Ar.cons (Ex.tup (Ar.cons (Ex.int 0) (Ar.cons (Ex.int 1) (Ar.cons (Ex.int 2) Ar.nil)))) (Ar.cons (Ex.tup (Ar.cons (Ex.int 0) (Ar.cons (Ex.int 2) (Ar.cons (Ex.int 1) Ar.nil)))) (Ar.cons (Ex.tup (Ar.cons (Ex.int 1) (Ar.cons (Ex.int 0) (Ar.cons (Ex.int 2) Ar.nil)))) (Ar.cons (Ex.tup (Ar.cons (Ex.int 1) (Ar.cons (Ex.int 2) (Ar.cons (Ex.int 0) Ar.nil)))) (Ar.cons (Ex.tup (Ar.cons (Ex.int 2) (Ar.cons (Ex.int 0) (Ar.cons (Ex.int 1) Ar.nil)))) (Ar.cons (Ex.tup (Ar.cons (Ex.int 2) (Ar.cons (Ex.int 1) (Ar.cons (Ex.int 0) Ar.nil)))) Ar.nil))))))) Ar.nil)))) (Ex.bin .Sub (Ex.var 0) (Ex.int 1)))) (tM B)
end
abbrev pB:Stmt:=top 78
abbrev Jz:List Str:=["_law_program_here","_law_nest","_law_turning","_law_plan_here","_law_n","_law_part","_law_depth","_law_lines","_law_k","_law_count_here","_law_sign","_law_deeds"]
abbrev Lf:List Str:=["_law_program_here","_law_nest","_law_turning"]
section
variable (B : Bi Ω.mg)
def vI(B:Bi Ω.mg):Bl Ω:=
 Bl.cons (Sm.set 10 (Ex.ix (Ex.ix (Ex.var 2) (Ex.int 1)) (Ex.var 8))) Bl.nil
def Cj:Bl Ω:=
 Bl.cons (Sm.set 9 (Ex.ix (Ex.ix (Ex.var 2) (Ex.int 0)) (Ex.var 8))) (vI B)
def jM(B:Bi Ω.mg):Bl Ω:=
 Bl.cons (Sm.expr (Ex.m_append (Ex.var 7) (Ex.tup (Ar.cons (Ex.str "form") (Ar.cons (Ex.typ aP B.tuple_ (Ar.cons (Ex.binL false .Add (Ex.lst (Ar.cons (Ex.int 0) Ar.nil)) (Ex.comp ["_law_j","_law_sign","_law_count_here"] [none,some 10,some 9] (Ex.bin .Mult (Ex.var 1) (Ex.typ RP B.int_ (Ar.cons (Ex.cmp .Eq (Ex.var 0) (Ex.var 2)) Ar.nil))) (Tg.nm 0) (Itb.rng1 B.range_ (Ex.var 6)) Cd.no)) Ar.nil)) Ar.nil))))) Bl.nil
def wI:Bl Ω:=
 Bl.cons (Sm.ite (Te.and (Bt.cons (Te.cmp .Eq (Ex.var 4) (Ex.var 1)) (Bt.one (Te.cmp .Lt (Ex.var 8) (Ex.var 6))))) (Cj B) Bl.nil) (jM B)
def wk:Bl Ω:=
 Bl.cons (Sm.set 10 (Ex.int 1)) (wI B)
def nq:Bl Ω:=
 Bl.cons (Sm.set 9 (Ex.var 8)) (wk B)
def vZ(B:Bi Ω.mg):Bl Ω:=
 Bl.cons (Sm.expr (Ex.m_append (Ex.var 3) (Ex.typ aP B.tuple_ (Ar.cons (Ex.var 11) Ar.nil)))) Bl.nil
def vB:Bl Ω:=
 Bl.cons (Sm.setC 11 ["_law_s","_law_lines","_law_depth"] [none,some 7,some 6] (Ex.typ aP B.tuple_ (Ar.cons (Ex.binL false .Add (Ex.var 1) (Ex.lst (Ar.cons (Ex.tup (Ar.cons (Ex.str "form") (Ar.cons (Ex.bin .Add (Ex.tup (Ar.cons (Ex.var 0) Ar.nil)) (Ex.bin .Mult (Ex.tup (Ar.cons (Ex.int 0) Ar.nil)) (Ex.var 2))) Ar.nil))) Ar.nil))) Ar.nil)) (Tg.nm 0) (Itb.rng1 B.range_ (Ex.blt bc B.len_ (Ar.cons (Ex.ix (Ex.var 5) (Ex.int 1)) Ar.nil))) Cd.no) (vZ B)
def wV:Bl Ω:=
 Bl.cons (Sm.for (Tg.nm 8) (Itb.rng1 B.range_ (Ex.int 3)) (nq B)) (vB B)
def vJ:Bl Ω:=
 Bl.cons (Sm.set 7 (Ex.own (Ar.cons (Ex.tup (Ar.cons (Ex.str "form") (Ar.cons (Ex.bin .Add (Ex.tup (Ar.cons (Ex.var 4) Ar.nil)) (Ex.bin .Mult (Ex.tup (Ar.cons (Ex.int 0) Ar.nil)) (Ex.var 6))) Ar.nil))) Ar.nil))) (wV B)
def m8:Bl Ω:=
 Bl.cons (Sm.set 6 (Ex.blt bc B.len_ (Ar.cons (Ex.ix (Ex.var 5) (Ex.int 0)) Ar.nil))) (vJ B)
def Gd(B:Bi Ω.mg):Bl Ω:=
 Bl.cons (Sm.ret (Ex.typ aP B.tuple_ (Ar.cons (Ex.var 3) Ar.nil))) Bl.nil
def Gx:Bl Ω:=
 Bl.cons (Sm.for (Tg.tup [4,5]) (Itb.enm B.enumerate_ (Ex.ix (Ex.var 0) (Ex.int 1))) (m8 B)) (Gd B)
def KQ:Bl Ω:=
 Bl.cons (Sm.set 3 (Ex.own Ar.nil)) (Gx B)
end
abbrev dD:Stmt:=top 79
abbrev sW:List Str:=["_law_pen_here","_law_program_here","_law_nest","_law_due","_law_found","_law_lines","_law_signs","_law_k","_law_turning"]
abbrev t6:List Str:=["_law_pen_here","_law_program_here","_law_nest"]
section
variable (B : Bi Ω.mg) {Fq57 : Ct} (Cq57 : Cal Ω "turnings" 3 2 Fq57) {Fq56 : Ct} (Cq56 : Cal Ω "turned_by" 5 3 Fq56) {Fq5 : Ct} (Cq5 : Cal Ω "_law_next" 2 2 Fq5) {Fq14 : Ct} (Cq14 : Cal Ω "_law_turnings" 1 1 Fq14) {Fq9 : Ct} (Cq9 : Cal Ω "_law_plan" 1 3 Fq9)
def j5(B:Bi Ω.mg){Fq57:Ct}(Cq57:Cal Ω "turnings" 3 2 Fq57){Fq56:Ct}(Cq56:Cal Ω "turned_by" 5 3 Fq56){Fq5:Ct}(Cq5:Cal Ω "_law_next" 2 2 Fq5){Fq14:Ct}(Cq14:Cal Ω "_law_turnings" 1 1 Fq14){Fq9:Ct}(Cq9:Cal Ω "_law_plan" 1 3 Fq9):Bl Ω:=
 Bl.cons (Sm.ite (Te.cmp .NotEq (Ex.call Cq56 (Ar.cons (Ex.var 1) (Ar.cons (Ex.var 2) (Ar.cons (Ex.var 8) Ar.nil)))) (Ex.call Cq9 (Ar.cons (Ex.var 1) (Ar.cons (Ex.var 2) (Ar.cons (Ex.var 8) Ar.nil))))) (Bl.cons (Sm.ret (Ex.bl false)) Bl.nil) Bl.nil) Bl.nil
def mR:Bl Ω:=
 Bl.cons (Sm.set 8 (Ex.ix (Ex.var 3) (Ex.call Cq5 (Ar.cons (Ex.var 0) (Ar.cons (Ex.blt bc B.len_ (Ar.cons (Ex.var 3) Ar.nil)) Ar.nil))))) (j5 B Cq57 Cq56 Cq5 Cq14 Cq9)
def oJ(B:Bi Ω.mg){Fq57:Ct}(Cq57:Cal Ω "turnings" 3 2 Fq57){Fq56:Ct}(Cq56:Cal Ω "turned_by" 5 3 Fq56){Fq5:Ct}(Cq5:Cal Ω "_law_next" 2 2 Fq5){Fq14:Ct}(Cq14:Cal Ω "_law_turnings" 1 1 Fq14){Fq9:Ct}(Cq9:Cal Ω "_law_plan" 1 3 Fq9):Bl Ω:=
 Bl.cons (Sm.ret (Ex.cmp .Eq (Ex.call Cq57 (Ar.cons (Ex.var 1) (Ar.cons (Ex.var 2) Ar.nil))) (Ex.var 3))) Bl.nil
def nP:Bl Ω:=
 Bl.cons (Sm.expr (Ex.m_clear (Ex.var 4))) (oJ B Cq57 Cq56 Cq5 Cq14 Cq9)
def pH:Bl Ω:=
 Bl.cons (Sm.for (Tg.nm 7) (Itb.rng1 B.range_ (Ex.int 3)) (mR B Cq57 Cq56 Cq5 Cq14 Cq9)) (nP B Cq57 Cq56 Cq5 Cq14 Cq9)
def nH:Bl Ω:=
 Bl.cons (Sm.forL (Tg.tup [5,6]) (Ex.var 4) (Bl.cons (Sm.ite (Te.cmp .NotEq (Ex.comp ["_law_one"] [none] (Ex.var 0) (Tg.nm 0) (Itb.seq (Ex.bin .Add (Ex.var 5) (Ex.var 6))) (Cd.so (Te.or (Bt.cons (Te.not (Te.val (Ex.isi B.isinstance_ (Ex.var 0) .int B.int_))) (Bt.one (Te.val (Ex.isi B.isinstance_ (Ex.var 0) .bool B.bool_))))))) (Ex.lst Ar.nil)) (Bl.cons (Sm.ret (Ex.bl false)) Bl.nil) Bl.nil) Bl.nil)) (pH B Cq57 Cq56 Cq5 Cq14 Cq9)
def oR:Bl Ω:=
 Bl.cons (Sm.ite (Te.or (Bt.cons (Te.not (Te.val (Ex.isi B.isinstance_ (Ex.var 4) .list B.list_))) (Bt.one (Te.cmp .NotEq (Ex.var 4) (Ex.var 3))))) (Bl.cons (Sm.ret (Ex.bl false)) Bl.nil) Bl.nil) (nH B Cq57 Cq56 Cq5 Cq14 Cq9)
def pA:Bl Ω:=
 Bl.cons (Sm.set 4 (Ex.call Cq57 (Ar.cons (Ex.var 1) (Ar.cons (Ex.var 2) Ar.nil)))) (oR B Cq57 Cq56 Cq5 Cq14 Cq9)
def ul:Bl Ω:=
 Bl.cons (Sm.set 3 (Ex.call Cq14 (Ar.cons (Ex.blt bc B.len_ (Ar.cons (Ex.ix (Ex.ix (Ex.ix (Ex.var 1) (Ex.int 1)) (Ex.var 2)) (Ex.int 0)) Ar.nil)) Ar.nil))) (pA B Cq57 Cq56 Cq5 Cq14 Cq9)
end
abbrev jC:Stmt:=top 80
abbrev Tt:List Str:=["_law_script","_law_pen_here","_law_program_here","_law_cells","_law_order","_law_some","_law_handed","_law_found","_law_nest"]
abbrev Mf:List Str:=["_law_script"]
section
variable (B : Bi Ω.mg) {Fq17 : Ct} (Cq17 : Cal Ω "cells_of" 5 1 Fq17) {Fq51 : XCt} (Cq51 : gR Ω "reach" 8 2 Fq51) {Fq7 : Ct} (Cq7 : Cal Ω "_law_pen" 2 1 Fq7) {Fq10 : Ct} (Cq10 : Cal Ω "_law_program" 11 1 Fq10) {Fq13 : Ct} (Cq13 : Cal Ω "_law_shuffled" 3 2 Fq13) {Fq11 : Ct} (Cq11 : Cal Ω "_law_reach" 1 2 Fq11) {Fq12 : Ct} (Cq12 : Cal Ω "_law_refused" 9 2 Fq12) {Fq6 : Ct} (Cq6 : Cal Ω "_law_no_orders" 3 2 Fq6) {Fq4 : Ct} (Cq4 : Cal Ω "_law_nest_right" 6 3 Fq4)
def Es(B:Bi Ω.mg){Fq17:Ct}(Cq17:Cal Ω "cells_of" 5 1 Fq17){Fq51:XCt}(Cq51:gR Ω "reach" 8 2 Fq51){Fq7:Ct}(Cq7:Cal Ω "_law_pen" 2 1 Fq7){Fq10:Ct}(Cq10:Cal Ω "_law_program" 11 1 Fq10){Fq13:Ct}(Cq13:Cal Ω "_law_shuffled" 3 2 Fq13){Fq11:Ct}(Cq11:Cal Ω "_law_reach" 1 2 Fq11){Fq12:Ct}(Cq12:Cal Ω "_law_refused" 9 2 Fq12){Fq6:Ct}(Cq6:Cal Ω "_law_no_orders" 3 2 Fq6){Fq4:Ct}(Cq4:Cal Ω "_law_nest_right" 6 3 Fq4):Bl Ω:=
 Bl.cons (Sm.ite (Te.or (Bt.cons (Te.not (Te.val (Ex.isi B.isinstance_ (Ex.var 7) .int B.int_))) (Bt.cons (Te.val (Ex.isi B.isinstance_ (Ex.var 7) .bool B.bool_)) (Bt.cons (Te.cmp .NotEq (Ex.var 7) (Ex.call Cq11 (Ar.cons (Ex.var 3) (Ar.cons (Ex.var 5) Ar.nil)))) (Bt.one (Te.cmp .NotEq (Ex.var 6) (Ex.var 5))))))) (Bl.cons (Sm.ret (Ex.bl false)) Bl.nil) Bl.nil) Bl.nil
def Fp:Bl Ω:=
 Bl.cons (Sm.set 7 (Ex.ofX (XEx.call Cq51 (Ar.cons (Ex.var 2) (Ar.cons (Ex.var 6) Ar.nil))))) (Es B Cq17 Cq51 Cq7 Cq10 Cq13 Cq11 Cq12 Cq6 Cq4)
def JG:Bl Ω:=
 Bl.cons (Sm.set 6 (Ex.typ Th B.list_ (Ar.cons (Ex.var 5) Ar.nil))) (Fp B Cq17 Cq51 Cq7 Cq10 Cq13 Cq11 Cq12 Cq6 Cq4)
def Nz(B:Bi Ω.mg){Fq17:Ct}(Cq17:Cal Ω "cells_of" 5 1 Fq17){Fq51:XCt}(Cq51:gR Ω "reach" 8 2 Fq51){Fq7:Ct}(Cq7:Cal Ω "_law_pen" 2 1 Fq7){Fq10:Ct}(Cq10:Cal Ω "_law_program" 11 1 Fq10){Fq13:Ct}(Cq13:Cal Ω "_law_shuffled" 3 2 Fq13){Fq11:Ct}(Cq11:Cal Ω "_law_reach" 1 2 Fq11){Fq12:Ct}(Cq12:Cal Ω "_law_refused" 9 2 Fq12){Fq6:Ct}(Cq6:Cal Ω "_law_no_orders" 3 2 Fq6){Fq4:Ct}(Cq4:Cal Ω "_law_nest_right" 6 3 Fq4):Bl Ω:=
 Bl.cons (Sm.ret (Ex.bl true)) Bl.nil
def NQ:Bl Ω:=
 Bl.cons (Sm.for (Tg.nm 8) (Itb.rng1 B.range_ (Ex.blt bc B.len_ (Ar.cons (Ex.ix (Ex.var 2) (Ex.int 1)) Ar.nil))) (Bl.cons (Sm.ite (Te.not (Te.val (Ex.call Cq4 (Ar.cons (Ex.var 1) (Ar.cons (Ex.var 2) (Ar.cons (Ex.var 8) Ar.nil)))))) (Bl.cons (Sm.ret (Ex.bl false)) Bl.nil) Bl.nil) Bl.nil)) (Nz B Cq17 Cq51 Cq7 Cq10 Cq13 Cq11 Cq12 Cq6 Cq4)
def Nh:Bl Ω:=
 Bl.cons (Sm.forL (Tg.nm 5) (Ex.call Cq6 (Ar.cons (Ex.var 1) (Ar.cons (Ex.blt bc B.len_ (Ar.cons (Ex.var 3) Ar.nil)) Ar.nil))) (Bl.cons (Sm.ite (Te.not (Te.val (Ex.call Cq12 (Ar.cons (Ex.var 2) (Ar.cons (Ex.var 5) Ar.nil))))) (Bl.cons (Sm.ret (Ex.bl false)) Bl.nil) Bl.nil) Bl.nil)) (NQ B Cq17 Cq51 Cq7 Cq10 Cq13 Cq11 Cq12 Cq6 Cq4)
def Ov:Bl Ω:=
 Bl.cons (Sm.forL (Tg.nm 5) (Ex.lst (Ar.cons (Ex.var 4) (Ar.cons (Ex.rev (Ex.var 4)) (Ar.cons (Ex.call Cq13 (Ar.cons (Ex.var 1) (Ar.cons (Ex.var 4) Ar.nil))) (Ar.cons (Ex.call Cq13 (Ar.cons (Ex.var 1) (Ar.cons (Ex.var 4) Ar.nil))) Ar.nil))))) (JG B Cq17 Cq51 Cq7 Cq10 Cq13 Cq11 Cq12 Cq6 Cq4)) (Nh B Cq17 Cq51 Cq7 Cq10 Cq13 Cq11 Cq12 Cq6 Cq4)
def Nx:Bl Ω:=
 Bl.cons (Sm.set 4 (Ex.lrng B.range_ B.list_ (Ex.blt bc B.len_ (Ar.cons (Ex.var 3) Ar.nil)))) (Ov B Cq17 Cq51 Cq7 Cq10 Cq13 Cq11 Cq12 Cq6 Cq4)
def Od:Bl Ω:=
 Bl.cons (Sm.set 3 (Ex.call Cq17 (Ar.cons (Ex.var 2) Ar.nil))) (Nx B Cq17 Cq51 Cq7 Cq10 Cq13 Cq11 Cq12 Cq6 Cq4)
def Nt:Bl Ω:=
 Bl.cons (Sm.set 2 (Ex.call Cq10 (Ar.cons (Ex.var 1) Ar.nil))) (Od B Cq17 Cq51 Cq7 Cq10 Cq13 Cq11 Cq12 Cq6 Cq4)
def R1:Bl Ω:=
 Bl.cons (Sm.set 1 (Ex.call Cq7 (Ar.cons (Ex.var 0) Ar.nil))) (Nt B Cq17 Cq51 Cq7 Cq10 Cq13 Cq11 Cq12 Cq6 Cq4)
end
end
end K49
local macro_rules | `(tactic| walk_at "n") => `(tactic| ((conv => whnf); repeat (with_reducible first | apply RF.cLt | apply RF.cLe | apply RF.cGt | apply RF.cGe | apply RF.cEqI | apply RF.cNeI | apply RF.cEqB | apply RF.cNeB | apply RF.cIsN | apply RF.cIsB | apply RF.cIsNotB | apply RF.cIsNot); (conv => whnf)))
local macro_rules | `(tactic| walk_at "at") => `(tactic| first | (with_reducible assumption) | exact DL.set_get (by first | (with_reducible assumption) | exact DL.set_get (by with_reducible assumption)))
local macro_rules | `(tactic| walk_at "o") => `(tactic| first | omega | decide | (simp; done) | (simp; omega))
local macro_rules | `(tactic| walk_at "a1") => `(tactic| first
 | refine RF.wM1 (by first | exact .inl ⟨by walk_at "o", by walk_at "o"⟩ | exact .inr ⟨by walk_at "o", by walk_at "o"⟩) ?_
 | refine RF.wM2 ⟨by decide, by decide, by decide⟩ ?_
 | refine RF.wM3 ⟨by omega, by omega⟩ ?_
 | refine RF.wM4 (by omega) ?_
 | ((fail_if_success (with_reducible show (_ /\ ∃ _ : Nat -> List DL.D -> DL.Store -> Prop, _))); refine RF.wM5 (by walk_at "o") ?_)
 | refine RF.wM6 (by walk_at "o") ?_
 | (refine' RF.wM7 ?h1 ?h2 ?h3; (case h1 => walk_at "at"); (case h2 => exact rfl); (try rw [List.set_set]))
 | (refine' RF.wM8 ?h1 ?h2 ?h3; (case h1 => walk_at "at"); (case h2 => exact rfl))
 | refine RF.wM9 rfl ?_)
local macro_rules | `(tactic| walk_at "a") => `(tactic| (walk_at "n"; repeat (walk_at "a1"; walk_at "n")))
local macro_rules | `(tactic| walk_at "b") => `(tactic| (walk_at "n"; repeat ((first | walk_at "a1" | apply RF.bT | apply RF.bF | apply RF.dT | apply RF.dF); walk_at "n")))
namespace K49
open PySem L2 DL RF XE
variable {cs ws us : List Int} {i k j d m : Nat} {l N x : List D} {J : Store}
variable {Ω : Wd} {f : Addr} {fd : FuncData}
def whole:D->Bool
 | .int _=>true
 | _=>false
def aX(x:D)(a b:Int):Bool:=match x with
 | .tup ds=>decide (a≤(ds.length:Int))&&decide ((ds.length:Int)≤b)
 | _=>false
def bV(x:D)(d:Int):Bool:=match x with
 | .tup ds=>decide ((ds.length:Int)=d+1)&&ds.all whole
 | _=>false
def fJ:Ct:=λ ds S W=>∃x,ds=[x]/\W (.bl (whole x)) S
def dh:Ct:=λ ds S W=>∃x a b,ds=[x,.int a,.int b]/\W (.bl (aX x a b)) S
def qU:Ct:=λ ds S W=>∃x d,ds=[x,.int d]/\d≤1000/\W (.bl (bV x d)) S
def comesTo(f:Int)(fs cs:List Int):Int:=f+(List.zipWith (λ a b=>a*b) fs cs).sum
def jb:Ct:=λ ds S W=>∃f fs cs,ds=[.tup (.int f::fs.map .int),.tup (cs.map .int)]/\fs.length≤1000/\(∀c∈cs,-(2 ^ 64)<c/\c<2 ^ 64)/\W (.int (comesTo f fs cs)) S
theorem Hk(ds:List D):(ds.map whole).all id=ds.all whole:=by rw[List.all_map];rfl
theorem DN{fs:List Int}{d:D}(h:(List.zipWith (λ x y=>D.tup [x,y]) (fs.map D.int) (cs.map D.int))[i]? =some d):∃a b,fs[i]? =some a/\cs[i]? =some b/\d=.tup [.int a,.int b]:=by
 rw[List.getElem?_zipWith,y9,y9]at h
 cases e1:fs[i]? with
 | none=>rw[e1]at h;cases h
 | some a=>
   cases e2:cs[i]? with
   | none=>rw[e1,e2]at h;cases h
   | some b=>rw[e1,e2]at h;cases h;exact⟨a,b,rfl,rfl,rfl⟩
theorem wF(F:Fun Ω.K "is_whole" "is_whole" gr f fd)(N0:Ω.cd=none)(B:Bi Ω.mg):Ok Ω 1 f fd zK fJ:=by
 refine az N0 (N:=zF) F (Ax B) (by kernel_rfl!) ?_
 rintro ds S W ⟨x,rfl,hw⟩ hl
 walk_at "n"
 refine⟨λ c=>?_,λ c=>?_⟩
 . walk_at "n"
   have e:(!isD .bool x)=whole x:=by cases x<;>first | rfl | exact ff c | exact tf c
   rw[e];exact hw
 . have e:whole x=false:=by cases x<;>first | rfl | exact ff c | exact tf c
   rw[e]at hw;exact hw
theorem oM(F:Fun Ω.K "is_tuple_of" "is_tuple_of" cZ f fd)(N0:Ω.cd=none)(B:Bi Ω.mg):Ok Ω 1 f fd qw dh:=by
 refine az N0 (N:=pY) F (pI B) (by kernel_rfl!) ?_
 rintro ds S W ⟨x,a,b,rfl,hw⟩ hl
 walk_at "n"
 cases x with
 | tup ds=>
   refine⟨λ _=>?_,λ c=>tf c⟩
   walk_at "n"
   refine⟨λ c1=>?_,λ c1=>?_⟩
   . have e:aX (.tup ds) a b=false:=by show(decide _&&decide _)=false;rw[c1];rfl
     rw[e]at hw;exact hw
   . walk_at "n"
     have e:aX (.tup ds) a b=decide ((ds.length:Int)≤b):=by show(decide _&&decide _)=_;rw[c1];rfl
     rw[e]at hw;exact hw
 | _=>exact⟨λ c=>ff c,λ _=>hw⟩
theorem yW(F:Fun Ω.K "is_form" "is_form" il f fd)(N0:Ω.cd=none)(B:Bi Ω.mg)(Cq42:Cal Ω "is_whole" 1 1 fJ)(Cq41:Cal Ω "is_tuple_of" 1 3 dh):Ok Ω 2 f fd Ca qU:=by
 refine az N0 (N:=Bw) F (Cz B Cq42 Cq41) (by kernel_rfl!) ?_
 rintro ds S W ⟨x,d,rfl,hd,hw⟩ hl
 walk_at "n"
 refine⟨rfl,_,_,_,rfl,?_⟩
 refine⟨λ c=>?_,λ c=>?_⟩
 . cases x with
   | tup ds=>
     have hlen:(ds.length:Int)=d+1:=by
      have c':(decide (d+1≤(ds.length:Int))&&decide ((ds.length:Int)≤d+1))=true:=c
      rw[Bool.and_eq_true,decide_eq_true_eq,decide_eq_true_eq]at c'
      omega
     walk_at "n"
     refine fK ⟨by omega,λ i acc S'=>acc=(ds.take i).map (λ d=>.bl (whole d))/\S'=S,⟨rfl,rfl⟩,?_,?_⟩
     . rintro i e acc S' he ⟨rfl,rfl⟩
       walk_at "n"
       refine⟨λ _=>⟨rfl,_,rfl,?_,rfl⟩,λ z=>tf z⟩
       rw[aJ he,List.map_append];rfl
     . rintro acc S' ⟨rfl,rfl⟩
       rw[List.take_length]
       refine⟨ds.map whole,by rw[List.map_map];rfl,?_⟩
       have e2:bV (.tup ds) d=(ds.map whole).all id:=by
        show(decide _&&_)=_
        rw[decide_eq_true hlen,Hk];rfl
       rw[e2]at hw;exact hw
   | _=>exact ff c
 . have e:bV x d=false:=by
    cases x with
    | tup ds=>
      have c':(decide (d+1≤(ds.length:Int))&&decide ((ds.length:Int)≤d+1))=false:=c
      show(decide _&&_)=false
      rw[Bool.and_eq_false_iff,decide_eq_false_iff_not,decide_eq_false_iff_not]at c'
      rw[decide_eq_false (by omega)];rfl
    | _=>rfl
   rw[e]at hw;exact hw
theorem vQ(F:Fun Ω.K "comes_to" "comes_to" fY f fd)(N0:Ω.cd=none)(B:Bi Ω.mg):Ok Ω 1 f fd yO jb:=by
 refine az N0 (N:=zM) F (zH B) (by kernel_rfl!) ?_
 rintro ds S W ⟨g,fs,cs,rfl,hfs,hcs,hw⟩ hl
 walk_at "n"
 refine⟨_,jA _ _,?_⟩
 walk_at "n"
 rw[nG]
 refine fK ⟨by rw[List.length_zipWith,y8];omega,λ i acc S'=>acc=((List.zipWith (λ a b=>a*b) fs cs).take i).map D.int/\S'=S,⟨rfl,rfl⟩,?_,?_⟩
 . rintro i e acc S' he ⟨rfl,rfl⟩
   obtain⟨a,b,h1,h2,rfl⟩:=DN he
   walk_at "n"
   refine⟨rfl,λ _=>⟨.inr (hcs b (y6 h2)),?_,rfl⟩,λ z=>tf z⟩
   have e3:(List.zipWith (λ a b=>a*b) fs cs)[i]? =some (a*b):=by rw[List.getElem?_zipWith,h1,h2]
   rw[aJ e3,List.map_append];rfl
 . rintro acc S' ⟨rfl,rfl⟩
   have e:(List.zipWith (λ x y=>D.tup [x,y]) (fs.map D.int) (cs.map D.int)).length=(List.zipWith (λ a b=>a*b) fs cs).length:=by simp
   rw[e,List.take_length]
   exact⟨_,rfl,hw⟩
def small:D->Bool
 | .int n=>decide (-2≤n)&&decide (n≤2)
 | _=>false
def TV:List D->Bool
 | .int a::fs=>decide (-9≤a)&&(decide (a≤9)&&fs.all small)
 | _=>false
def bI(x:D)(d:Int):Bool:=bV x d&&TV (match x with | .tup ds=>ds | _=>[])
def fQ(x:D)(d:Int):Bool:=match x with
 | .tup [a,b]=>bI a d&&bI b d
 | _=>false
def dO(x:D):Bool:=match x with
 | .tup ds=>(decide (1≤(ds.length:Int))&&decide ((ds.length:Int)≤3))&&(ds.mapIdx λ i d=>fQ d i).all id
 | _=>false
def Eg:Ct:=λ ds S W=>∃x d,ds=[x,.int d]/\0≤d/\d≤1000/\W (.bl (bI x d)) S
def Ij:Ct:=λ ds S W=>∃x d,ds=[x,.int d]/\0≤d/\d≤1000/\W (.bl (fQ x d)) S
def Do:Ct:=λ ds S W=>∃x,ds=[x]/\W (.bl (dO x)) S
theorem ints_of:∀{ds:List D},ds.all whole=true->∃ns:List Int,ds=ns.map .int
 | [],_=>⟨[],rfl⟩
 | d::ds,h=>by
   rw[List.all_cons]at h
   obtain⟨h1,h2⟩:=aa h
   obtain⟨ns,rfl⟩:=ints_of h2
   cases d with
   | int i=>exact⟨i::ns,rfl⟩
   | _=>exact ff h1
theorem iC{x:D}{d:Int}(h:bV x d=true)(hd:0≤d):∃a fs,x=.tup (.int a::List.map .int fs)/\(fs.length:Int)=d:=by
 cases x with
 | tup ds=>
   obtain⟨h1,h2⟩:=aa h
   have h1:=of_decide_eq_true h1
   cases ds with
   | nil=>simp at h1;omega
   | cons e es=>
     rw[List.all_cons]at h2
     obtain⟨h2,h3⟩:=aa h2
     have h4:=ints_of h3
     obtain⟨ns,rfl⟩:=h4
     cases e with
     | int a=>exact⟨a,ns,rfl,by simp at h1;omega⟩
     | _=>exact ff h2
 | _=>exact ff h
theorem yV(p:D->Bool)(ds:List D):(ds.map p).all id=ds.all p:=by rw[List.all_map];rfl
theorem vU (F:Fun Ω.K "is_bound" "is_bound" gC f fd)(N0:Ω.cd=none)(B:Bi Ω.mg)(Cq29:Cal Ω "is_form" 2 2 qU):Ok Ω 3 f fd Am Eg:=by
 refine az N0 (N:=zu) F (xO B Cq29) (by kernel_rfl!) ?_
 rintro ds S W ⟨x,d,rfl,hd0,hd,hw⟩ hl
 walk_at "a"
 refine⟨rfl,_,_,rfl,hd,?_⟩
 walk_at "a"
 cases h:bV x d with
 | false=>
   have e:bI x d=false:=by unfold bI;rw[h];rfl
   rw[e]at hw
   exact⟨λ _=>hw,λ z=>tf z⟩
 | true=>
   refine⟨λ z=>ff z,λ _=>?_⟩
   obtain⟨a,fs,rfl,hf⟩:=iC h hd0
   have e:bI (.tup (.int a::fs.map .int)) d=(decide (-9≤a)&&(decide (a≤9)&&(fs.map D.int).all small)):=by unfold bI;rw[h];rfl
   rw[e]at hw
   walk_at "a"
   refine⟨_,jA _ _,?_⟩
   walk_at "a"
   refine⟨λ h1=>?_,λ h1=>?_⟩
   . have h1:decide (-9≤a)=false:=h1
     rw[h1]at hw
     exact⟨λ z=>ff z,λ _=>hw⟩
   have h1:decide (-9≤a)=true:=h1
   rw[h1,Bool.true_and]at hw
   walk_at "a"
   refine⟨λ h2=>?_,λ h2=>?_⟩
   . rw [h2,Bool.true_and]at hw
     walk_at "a"
     rw[nG]
     refine cX (λ d=>.bl (small d)) (by simp;omega) ?_ ?_
     . intro i e he Q hq
       rw[y9]at he
       cases e1:fs[i]? with
       | none=>rw[e1]at he;cases he
       | some n=>
         rw[e1]at he
         cases he
         walk_at "a"
         refine⟨λ h3=>?_,λ h3=>?_⟩
         . have h3:decide (-2≤n)=false:=h3
           have e:small (.int n)=false:=by show(decide _&&_)=false;rw[h3];rfl
           rw[e]at hq
           exact hq
         . have h3:decide (-2≤n)=true:=h3
           walk_at "a"
           have e:small (.int n)=decide (n≤2):=by show(decide _&&_)=_;rw[h3];rfl
           rw[e]at hq
           exact hq
     . refine⟨(fs.map D.int).map small,by simp only[List.map_map];rfl,?_⟩
       rw[yV];exact hw
   . rw[h2]at hw
     exact hw
theorem Aj(F:Fun Ω.K "is_loop" "is_loop" iM f fd)(N0:Ω.cd=none)(Cq41:Cal Ω "is_tuple_of" 1 3 dh)(Cq27:Cal Ω "is_bound" 3 2 Eg):Ok Ω 4 f fd Br Ij:=by
 refine az N0 (N:=Cq) F (BJ Cq41 Cq27) (by kernel_rfl!) ?_
 rintro ds S W ⟨x,d,rfl,hd0,hd,hw⟩ hl
 walk_at "a"
 refine⟨rfl,_,_,_,rfl,?_⟩
 walk_at "a"
 cases x with
 | tup ds=>
   match ds,hw with
   | [a,b],hw=>
     refine⟨λ _=>?_,λ z=>tf z⟩
     walk_at "a"
     refine⟨rfl,_,_,rfl,hd0,hd,?_⟩
     have e:fQ (.tup [a,b]) d=(bI a d&&bI b d):=rfl
     rw[e]at hw
     refine⟨λ h=>?_,λ h=>?_⟩
     . rw[h,Bool.true_and]at hw
       walk_at "a"
       exact⟨rfl,_,_,rfl,hd0,hd,hw⟩
     . rw[h]at hw;exact hw
   | [],hw=>exact⟨λ z=>ff z,λ _=>hw⟩
   | [_],hw=>exact⟨λ z=>ff z,λ _=>hw⟩
   | _::_::_::es,hw=>
     refine⟨λ z=>?_,λ _=>hw⟩
     obtain⟨_,z⟩:=aa z
     have z:=of_decide_eq_true z
     simp at z;omega
 | _=>exact⟨λ z=>ff z,λ _=>hw⟩
theorem v7(F:Fun Ω.K "is_loops" "is_loops" gj f fd)(N0:Ω.cd=none)(B:Bi Ω.mg)(Cq41:Cal Ω "is_tuple_of" 1 3 dh)(Cq30:Cal Ω "is_loop" 4 2 Ij):Ok Ω 5 f fd zz Do:=by
 refine az N0 (N:=zg) F (zy B Cq41 Cq30) (by kernel_rfl!) ?_
 rintro ds S W ⟨x,rfl,hw⟩ hl
 walk_at "a"
 refine⟨rfl,_,_,_,rfl,?_⟩
 walk_at "a"
 cases x with
 | tup ds=>
   have e:dO (.tup ds)=((decide (1≤(ds.length:Int))&&decide ((ds.length:Int)≤3))&&(ds.mapIdx λ i d=>fQ d i).all id):=rfl
   rw[e]at hw
   refine⟨λ h=>?_,λ h=>?_⟩
   . have h:(decide (1≤(ds.length:Int))&&decide ((ds.length:Int)≤3))=true:=h
     rw[h,Bool.true_and]at hw
     have hlen:=of_decide_eq_true (aa h).2
     walk_at "a"
     refine cX (λ p=>match p with | .tup [.int i,d]=>.bl (fQ d i) | _=>.non) (by simp;omega) ?_ ?_
     . intro i e he Q hq
       rw[List.getElem?_mapIdx]at he
       cases e1:ds[i]? with
       | none=>rw[e1]at he;cases he
       | some d0=>
         rw[e1]at he
         cases he
         have hi:i<ds.length:=(y3.mp e1).1
         walk_at "a"
         refine⟨rfl,?_⟩
         walk_at "a"
         exact⟨rfl,_,_,rfl,by omega,by omega,hq⟩
     . refine⟨ds.mapIdx λ i d=>fQ d i,?_,hw⟩
       apply List.ext_getElem?
       intro i
       simp only[y9,List.getElem?_mapIdx]
       cases ds[i]?<;>rfl
   . have h:(decide (1≤(ds.length:Int))&&decide ((ds.length:Int)≤3))=false:=h
     rw[h]at hw
     exact hw
 | _=>exact⟨λ z=>ff z,λ _=>hw⟩
abbrev Fm:=Int×List Int
abbrev Lp:=Fm×Fm
def dF(f:Fm):D:=.tup (.int f.1::f.2.map .int)
def dC(cs:List Int):D:=.tup (cs.map .int)
def dL(l:Lp):D:=.tup [dF l.1,dF l.2]
def atC(f:Fm)(cs:List Int):Int:=comesTo f.1 f.2 cs
def upI(a:Int)(n:Nat):List Int:=(List.range n).map λ(k:Nat)=>a+(k:Int)
def bj(lo hi:Fm)(cs:List Int):List (List Int):=(upI (atC lo cs) (atC hi cs-atC lo cs).toNat).map λ c=>cs++[c]
def aG(lo hi:Fm)(ahead:List (List Int)):List (List Int):=ahead.flatMap (bj lo hi)
def cnt(ls:List Lp):List (List Int):=ls.foldl (λ acc l=>aG l.1 l.2 acc) [[]]
def Sm6(ns:List Int):Prop:=ns.length≤10/\∀n∈ns,-1000000≤n/\n≤1000000
def SmF(f:Fm):Prop:= -1000000≤f.1/\f.1≤1000000/\Sm6 f.2
theorem uT:∀(fs cs:List Int),(∀n∈fs,-1000000≤n/\n≤1000000)->(∀n∈cs,-1000000≤n/\n≤1000000)-> -(1000000000000*(cs.length:Int))≤(List.zipWith (λ a b=>a*b) fs cs).sum/\(List.zipWith (λ a b=>a*b) fs cs).sum≤1000000000000*(cs.length:Int)
 | [],cs,_,_=>by simp;omega
 | f::fs,[],_,_=>by simp
 | f::fs,c::cs,h1,h2=>by
   have ih:=uT fs cs (λ n hn=>h1 n (x6 _ hn)) (λ n hn=>h2 n (x6 _ hn))
   have hf:=h1 f x9
   have hc:=h2 c x9
   have hp:(f*c).natAbs≤1000000*1000000:=by rw[Int.natAbs_mul];exact Nat.mul_le_mul (by omega) (by omega)
   simp only[List.zipWith_cons_cons,List.sum_cons,List.length_cons]
   omega
theorem ig{f:Fm}(hf:SmF f)(hc:Sm6 cs): -(2 ^ 62)≤atC f cs/\atC f cs<2 ^ 62:=by
 have:=uT f.2 cs hf.2.2.2 hc.2
 have h1:=hf.1
 have h2:=hf.2.1
 have h3:=hc.1
 unfold atC comesTo
 omega
theorem My(a:Int)(n:Nat):(upI a n).length=n:=by simp[upI]
theorem Ek{a:Int}{n:Nat}(h:i<n):(upI a n)[i]? =some (a+i):=by simp[upI,h]
theorem cC(lo hi:Fm)(cs:List Int):(bj lo hi cs).length=(atC hi cs-atC lo cs).toNat:=by simp[bj,My]
theorem gq{lo hi:Fm}{ahead:List (List Int)}(h:ahead[i]? =some cs):aG lo hi (ahead.take (i+1))=aG lo hi (ahead.take i)++bj lo hi cs:=by
 unfold aG
 rw[aJ h,List.flatMap_append];simp
theorem xV{lo hi:Fm}{ahead:List (List Int)}(h:ahead[i]? =some cs):(aG lo hi (ahead.take i)).length+(bj lo hi cs).length≤(aG lo hi ahead).length:=by
 have e:aG lo hi ahead=aG lo hi (ahead.take (i+1))++aG lo hi (ahead.drop (i+1)):=by
  unfold aG
  rw[←List.flatMap_append,List.take_append_drop]
 rw[e,gq h,w9,w9];omega
theorem lM(xs:List (List Int)):aj (xs.map dC)=true:=by
 induction xs with
 | nil=>rfl
 | cons x xs ih=>
   simp only[List.map_cons,aj,ih,Bool.and_true]
   show aj (x.map D.int)=true
   induction x with
   | nil=>rfl
   | cons y ys ih=>simp only[List.map_cons,aj,ih,Bool.and_true];rfl
def zP:Ct:=λ ds S W=>∃ahead lo hi,ds=[.lst (List.map dC ahead),dF lo,dF hi]/\SmF lo/\SmF hi/\(∀cs∈ahead,Sm6 cs)/\ahead.length≤1000000/\(aG lo hi ahead).length≤1000000/\flat S/\hand W ((aG lo hi ahead).map dC) S
theorem jm(F:Fun Ω.K "with_next_count" "with_next_count" cg f fd)(N0:Ω.cd=none)(B:Bi Ω.mg)(Cq19:Cal Ω "comes_to" 1 2 jb):Ok Ω 2 f fd kh zP:=by
 refine az N0 (N:=j8) F (Bl.frz (jP B Cq19)) (by kernel_rfl!) ?_
 rintro ds S W ⟨ahead,lo,hi,rfl,hlo,hhi,hah,hz0,hz,hS,hw⟩ hl
 walk_at "b"
 refine aL ⟨λ i Γ' S'=>(∃o4 o5,Γ'=[some (.lst (ahead.map dC)),some (dF lo),some (dF hi),some (.loc S.length),o4,o5])/\S'=S++[(aG lo hi (ahead.take i)).map dC],⟨⟨_,_,rfl⟩,rfl⟩,?_,?_⟩
 . rintro i e Γ' S' he ⟨⟨o4,o5,rfl⟩,rfl⟩
   rw[y9]at he
   cases e1:ahead[i]? with
   | none=>rw[e1]at he;cases he
   | some cs=>
     rw[e1]at he
     cases he
     have hcs:=hah cs (y6 e1)
     have b1:=ig hlo hcs
     have b2:=ig hhi hcs
     have h64:∀c∈cs,-(2 ^ 64)<c/\c<2 ^ 64:=λ c hc=>by have:=hcs.2 c hc;omega
     walk_at "b"
     refine⟨rfl,lo.1,lo.2,cs,rfl,by have:=hlo.2.2.1;omega,h64,?_⟩
     walk_at "b"
     refine⟨rfl,hi.1,hi.2,cs,rfl,by have:=hhi.2.2.1;omega,h64,?_⟩
     walk_at "b"
     refine⟨⟨b1.1,b1.2,b2.1,b2.2⟩,aL ⟨λ j Γ' S'=>(∃o5,Γ'=[some (.lst (ahead.map dC)),some (dF lo),some (dF hi),some (.loc S.length),some (dC cs),o5])/\S'=S++[(aG lo hi (ahead.take i)++(bj lo hi cs).take j).map dC],⟨⟨_,rfl⟩,by simp⟩,?_,?_⟩⟩
     . rintro j e Γ' S' he ⟨⟨o5,rfl⟩,rfl⟩
       obtain⟨hj,rfl⟩:=aM he
       have hj':j<(bj lo hi cs).length:=by rw[cC];exact hj
       have lf:=xV (lo:=lo) (hi:=hi) e1
       walk_at "b"
       refine⟨by simp;have:=hcs.1;omega,_,gU _ _,by simp;omega,?_⟩
       refine⟨⟨_,rfl⟩,?_⟩
       rw[gP]
       have e3:(bj lo hi cs)[j]? =some (cs++[atC lo cs+(j:Int)]):=by
        unfold bj
        rw[y9,Ek (by rw[cC]at hj';exact hj')];rfl
       have e4:dC (cs++[atC lo cs+(j:Int)])=D.tup (cs.map D.int++[D.int (comesTo lo.1 lo.2 cs+(j:Int))]):=by
        unfold dC;rw[List.map_append];rfl
       rw[aJ e3,←List.append_assoc,List.map_append (l₂:=[_]),List.map_singleton,e4]
     . rintro Γ' S' ⟨⟨o5,rfl⟩,rfl⟩
       refine⟨⟨_,_,rfl⟩,?_⟩
       have e5:(bj lo hi cs).take (DL.upTo (comesTo lo.1 lo.2 cs) (comesTo hi.1 hi.2 cs-comesTo lo.1 lo.2 cs).toNat).length=bj lo hi cs:=by
        rw[au];exact List.take_of_length_le (by rw[cC];exact x5 _)
       rw[e5,gq e1]
 . rintro Γ' S' ⟨⟨o4,o5,rfl⟩,rfl⟩
   rw[y8,List.take_length]
   exact yH hw (lM _) hS
def Fits(ls:List Lp):Prop:=(∀l∈ls,SmF l.1/\SmF l.2)/\∀i,i≤ls.length->(cnt (ls.take i)).length≤1000000/\∀cs∈cnt (ls.take i),Sm6 cs
def oY:Ct:=λ ds S W=>∃ls,ds=[.tup (List.map dL ls)]/\1≤ls.length/\Fits ls/\flat S/\hand W ((cnt ls).map dC) S
theorem jK{ls:List Lp}{l:Lp}(h:ls[i]? =some l):cnt (ls.take (i+1))=aG l.1 l.2 (cnt (ls.take i)):=by
 unfold cnt
 rw[aJ h,List.foldl_append];rfl
theorem tQ(F:Fun Ω.K "counts_of" "counts_of" eX f fd)(N0:Ω.cd=none)(Cq58:Cal Ω "with_next_count" 2 3 zP):Ok Ω 3 f fd wG oY:=by
 refine az N0 (N:=v6) F (Bl.frz (vR Cq58)) (by kernel_rfl!) ?_
 rintro ds S W ⟨ls,rfl,hn,hf,hS,hw⟩ hl
 walk_at "b"
 have turn:∀(i:Nat)(e:D),(ls.map dL)[i]? =some e->∃l,ls[i]? =some l/\e=dL l:=λ i e he=>by
  rw[y9]at he
  cases e1:ls[i]? with
  | none=>rw[e1]at he;cases he
  | some l=>rw[e1]at he;cases he;exact⟨l,rfl,rfl⟩
 have step:∀(i:Nat)(l:Lp)(W:WD),ls[i]? =some l->hand W ((cnt (ls.take (i+1))).map dC) S->zP [.lst ((cnt (ls.take i)).map dC),dF l.1,dF l.2] S W:=λ i l W h w=>by
  have hi:=(y3.mp h).1
  obtain⟨a,b⟩:=hf.1 l (y6 h)
  obtain⟨c,d⟩:=hf.2 i (by omega)
  obtain⟨c',d'⟩:=hf.2 (i+1) (by omega)
  rw[jK h]at c' w
  exact⟨_,_,_,rfl,a,b,d,c,c',hS,w⟩
 rcases hw with hw | hw
 . refine aL ⟨λ i Γ' S'=>(∃o2 o3,Γ'=[some (.tup (ls.map dL)),some (.lst ((cnt (ls.take i)).map dC)),o2,o3])/\S'=S,⟨⟨_,_,rfl⟩,rfl⟩,?_,?_⟩
   . rintro i e Γ' S' he ⟨⟨o2,o3,rfl⟩,rfl⟩
     obtain⟨l,hl',rfl⟩:=turn i e he
     walk_at "b"
     refine⟨rfl,?_⟩
     walk_at "n"
     exact⟨rfl,step i l _ hl' (.inl ⟨⟨_,_,rfl⟩,rfl⟩)⟩
   . rintro Γ' S' ⟨⟨o2,o3,rfl⟩,rfl⟩
     rw[y8,List.take_length]
     exact .inl hw
 . refine aL ⟨λ i Γ' S'=>(i<ls.length/\(∃o2 o3,Γ'=[some (.tup (ls.map dL)),some (.lst ((cnt (ls.take i)).map dC)),o2,o3])/\S'=S)∨(i=ls.length/\(∃o2 o3,Γ'=[some (.tup (ls.map dL)),some (.loc S.length),o2,o3])/\S'=S++[(cnt ls).map dC]),.inl ⟨by omega,⟨_,_,rfl⟩,rfl⟩,?_,?_⟩
   . rintro i e Γ' S' he q
     obtain⟨l,hl',rfl⟩:=turn i e he
     have hi:=(y3.mp hl').1
     rcases q with⟨_,⟨o2,o3,rfl⟩,rfl⟩ | ⟨q,_⟩
     . walk_at "b"
       refine⟨rfl,?_⟩
       walk_at "n"
       by_cases hlast:i+1=ls.length
       . refine⟨rfl,step i l _ hl' (.inr (.inr ⟨hlast,⟨_,_,rfl⟩,?_⟩))⟩
         rw[hlast,List.take_length]
       . exact⟨rfl,step i l _ hl' (.inl (.inl ⟨by omega,⟨_,_,rfl⟩,rfl⟩))⟩
     . omega
   . rintro Γ' S' q
     rw[y8]at q
     rcases q with⟨q,_⟩ | ⟨_,⟨o2,o3,rfl⟩,rfl⟩
     . omega
     . exact .inl hw
def BdF(f:Fm)(k:Nat):Prop:=f.2.length=k/\ -9≤f.1/\f.1≤9/\∀n∈f.2,-2≤n/\n≤2
theorem Gk{g a m:Int}(hg: -2≤g/\g≤2)(ha: -m≤a/\a≤m): -(2*m)≤g*a/\g*a≤2*m:=by
 have:g= -2∨g= -1∨g=0∨g=1∨g=2:=by omega
 rcases this with rfl | rfl | rfl | rfl | rfl<;>omega
def bnd:Nat->Int
 | 0=>0
 | 1=>9
 | 2=>27
 | _=>117
def Cs(i:Nat)(cs:List Int):Prop:=cs.length=i/\∀c∈cs,-(bnd i)≤c/\c≤bnd i
theorem rE{f:Fm}(hi:i≤2)(hf:BdF f i)(hc:Cs i cs): -(bnd (i+1))≤atC f cs/\atC f cs≤bnd (i+1):=by
 obtain⟨a,fs⟩:=f
 obtain⟨h1,h2,h3,h4⟩:=hf
 obtain⟨c1,c2⟩:=hc
 dsimp only at h1 h2 h3 h4
 unfold atC comesTo
 have:i=0∨i=1∨i=2:=by omega
 rcases this with rfl | rfl | rfl
 . match fs,cs,h1,c1 with
   | [],[],_,_=>simp[bnd];omega
 . match fs,cs,h1,c1 with
   | [g],[x],_,_=>
     have:=Gk (h4 g (by simp)) (c2 x (by simp))
     simp[bnd]at this ⊢;omega
 . match fs,cs,h1,c1 with
   | [g,g'],[x,x'],_,_=>
     have t1:=Gk (h4 g (by simp)) (c2 x (by simp))
     have t2:=Gk (h4 g' (by simp)) (c2 x' (by simp))
     simp[bnd]at t1 t2 ⊢;omega
theorem QK:bnd i≤bnd (i+1):=by
 match i with
 | 0=>decide
 | 1=>decide
 | 2=>decide
 | i+3=>exact Int.le_refl _
theorem P0(i:Nat):bnd i≤117:=by
 match i with
 | 0=>decide
 | 1=>decide
 | 2=>decide
 | i+3=>exact Int.le_refl _
theorem Nj{lo hi:Fm}{ds:List Int}(hi2:i≤2)(hlo:BdF lo i)(hhi:BdF hi i)(hc:Cs i cs)(h:ds∈bj lo hi cs):Cs (i+1) ds:=by
 unfold bj at h
 obtain⟨c,hc',rfl⟩:=List.mem_map.mp h
 unfold upI at hc'
 obtain⟨k,hk,rfl⟩:=List.mem_map.mp hc'
 have hk:=List.mem_range.mp hk
 have b1:=rE hi2 hlo hc
 have b2:=rE hi2 hhi hc
 refine⟨by simp[hc.1],λ c h=>?_⟩
 rcases List.mem_append.mp h with h | h
 . have:=hc.2 c h
   have:=QK (i:=i)
   omega
 . have:c=atC lo cs+(k:Int):=by simpa using h
   omega
def Lps(ls:List Lp):Prop:=1≤ls.length/\ls.length≤3/\∀(i:Nat)(l:Lp),ls[i]? =some l->BdF l.1 i/\BdF l.2 i
theorem yN{ls:List Lp}(h:Lps ls):∀i,i≤ls.length->∀cs∈cnt (ls.take i),Cs i cs
 | 0,_,cs,hc=>by
   have:cs=[]:=by simpa[cnt]using hc
   subst this
   exact⟨rfl,λ c hc=>by simp at hc⟩
 | i+1,hi,cs,hc=>by
   have hl:=y4 (l:=ls) (i:=i) (by omega)
   rw[jK hl]at hc
   obtain⟨ds,hd,hc⟩:=List.mem_flatMap.mp hc
   have:=h.2.2 i _ hl
   have h3:=h.2.1
   exact Nj (by omega) this.1 this.2 (yN h i (by omega) ds hd) hc
def Gq:Nat->Nat
 | 0=>1
 | 1=>18
 | 2=>972
 | _=>227448
theorem xM{lo hi:Fm}{m:Nat}:∀{ahead:List (List Int)},(∀cs∈ahead,(bj lo hi cs).length≤m)->(aG lo hi ahead).length≤ahead.length*m
 | [],_=>by simp[aG]
 | a::as,h=>by
   have ih:=xM (ahead:=as) λ cs hc=>h cs (x6 _ hc)
   have:=h a x9
   unfold aG at ih ⊢
   rw[List.flatMap_cons,w9,List.length_cons,Nat.succ_mul]
   omega
theorem Dl{ls:List Lp}(h:Lps ls):∀i,i≤ls.length->(cnt (ls.take i)).length≤Gq i
 | 0,_=>by simp[cnt,Gq]
 | i+1,hi=>by
   have hl:=y4 (l:=ls) (i:=i) (by omega)
   have ih:=Dl h i (by omega)
   have h3:=h.2.1
   have hb:=h.2.2 i _ hl
   rw[jK hl]
   have hm:∀cs∈cnt (ls.take i),(bj ls[i].1 ls[i].2 cs).length≤(2*bnd (i+1)).toNat:=λ cs hc=>by
    have c:=yN h i (by omega) cs hc
    have b1:=rE (by omega) hb.1 c
    have b2:=rE (by omega) hb.2 c
    rw[cC];omega
   have:=xM hm
   have:i=0∨i=1∨i=2:=by omega
   rcases this with rfl | rfl | rfl<;>simp[bnd,Gq]at* <;>omega
theorem Lps.fits{ls:List Lp}(h:Lps ls):Fits ls:=by
 refine⟨λ l hl=>?_,λ i hi=>⟨?_,λ cs hc=>?_⟩⟩
 . obtain⟨i,hi⟩:=List.getElem?_of_mem hl
   have hl':=(y3.mp hi).1
   have h3:=h.2.1
   obtain⟨⟨a1,a2,a3,a4⟩,b1,b2,b3,b4⟩:=h.2.2 i l hi
   exact⟨⟨by omega,by omega,by omega,λ n hn=>by have:=a4 n hn;omega⟩,by omega,by omega,by omega,λ n hn=>by have:=b4 n hn;omega⟩
 . have:=Dl h i hi
   have h3:=h.2.1
   have:i=0∨i=1∨i=2∨i=3:=by omega
   rcases this with rfl | rfl | rfl | rfl<;>simp only[Gq]at* <;>omega
 . have c:=yN h i hi cs hc
   have h3:=h.2.1
   exact⟨by have:=c.1;omega,λ n hn=>by have:=c.2 n hn;have:=P0 i;omega⟩
def jH(a b:Int):D->Bool
 | .int n=>decide (a≤n)&&decide (n≤b)
 | _=>false
def oh(n:Int):Bool:=decide ((if n<0 then-n else n)<10 ^ Int.toNat 30)
def rQ:D->Bool
 | .int n=>oh n
 | _=>false
def parts:D->List D
 | .tup ds=>ds
 | _=>[]
def gf(x:D):Bool:=aX x 1 3&&(parts x).all (jH 1 2)
def isPlace(d:Int)(x:D):Bool:=bV x d&&(parts x).all (jH (-99) 99)
def isStart(x:D)(d:Int):Bool:=bV x d&&(parts x).all rQ
def iJ(t p:D)(ws:List Int)(d:Int):Bool:=match t with
 | .int n=>(decide (0≤n)&&decide (n<(ws.length:Int)))&&(aX p (ws.getD n.toNat 0) (ws.getD n.toNat 0)&&(parts p).all (isPlace d))
 | _=>false
def jg(ws:List Int)(d:Int)(x:D):Bool:=match x with
 | .tup [f,t,p]=>rQ f&&iJ t p ws d
 | _=>false
def my(x:D)(ws:List Int)(d:Int):Bool:=aX x 0 3&&(parts x).all (jg ws d)
def dB(ws:List Int)(d:Int)(x:D):Bool:=match x with
 | .tup [t,p,s,r]=>iJ t p ws d&&(isStart s d&&my r ws d)
 | _=>false
def gm(ws:List Int)(x:D):Bool:=match x with
 | .tup [l,ds]=>dO l&&(aX ds 1 4&&(parts ds).all (dB ws ((parts l).length:Int)))
 | _=>false
def lW(x:D)(ws:List Int):Bool:=aX x 1 3&&(parts x).all (gm ws)
def Gm:Ct:=λ ds S W=>∃n,ds=[.int n]/\W (.bl (oh n)) S
def zZ:Ct:=λ ds S W=>∃x,ds=[x]/\W (.bl (gf x)) S
def xK:Ct:=λ ds S W=>∃x d,ds=[x,.int d]/\0≤d/\d≤1000/\W (.bl (isPlace d x)) S
def Dw:Ct:=λ ds S W=>∃x d,ds=[x,.int d]/\0≤d/\d≤1000/\W (.bl (isStart x d)) S
def Ws(ws:List Int):Prop:=ws.length≤3/\∀w∈ws,1≤w/\w≤2
def Km:Ct:=λ ds S W=>∃t p ws d,ds=[t,p,.tup (List.map .int ws),.int d]/\Ws ws/\0≤d/\d≤1000/\W (.bl (iJ t p ws d)) S
def Jp:Ct:=λ ds S W=>∃x ws d,ds=[x,.tup (List.map .int ws),.int d]/\Ws ws/\0≤d/\d≤1000/\W (.bl (jg ws d x)) S
def DG:Ct:=λ ds S W=>∃x ws d,ds=[x,.tup (List.map .int ws),.int d]/\Ws ws/\0≤d/\d≤1000/\W (.bl (my x ws d)) S
def Hb:Ct:=λ ds S W=>∃x ws d,ds=[x,.tup (List.map .int ws),.int d]/\Ws ws/\0≤d/\d≤1000/\W (.bl (dB ws d x)) S
def Ie:Ct:=λ ds S W=>∃x ws,ds=[x,.tup (List.map .int ws)]/\Ws ws/\W (.bl (gm ws x)) S
def Ec:Ct:=λ ds S W=>∃x ws,ds=[x,.tup (List.map .int ws)]/\Ws ws/\W (.bl (lW x ws)) S
theorem cB{ds:List D}{p:D->Bool}{S:Store}{W:WD}(w:W (.bl (ds.all p)) S):fB.wp [.lst (ds.map λ d=>.bl (p d))] S W:=
 ⟨ds.map p,by rw[List.map_map];rfl,by rw[yV];exact w⟩
theorem uY{ds:List D}{a b:Int}(h:aX (.tup ds) a b=true):a≤(ds.length:Int)/\(ds.length:Int)≤b:=by
 obtain⟨h1,h2⟩:=aa h
 exact⟨of_decide_eq_true h1,of_decide_eq_true h2⟩
theorem bQ{x:D}{a b:Int}(h:aX x a b=true):∃ds,x=.tup ds/\a≤(ds.length:Int)/\(ds.length:Int)≤b:=by
 cases x with
 | tup ds=>exact⟨ds,rfl,uY h⟩
 | _=>exact ff h
theorem lZ{a b n:Int}{Q:WD}{S:Store}(hq:Q (.bl (jH a b (.int n))) S):(decide (a≤n)=false->Q (.bl false) S)/\(decide (a≤n)=true->Q (.bl (decide (n≤b))) S):=by
 have e:jH a b (.int n)=(decide (a≤n)&&decide (n≤b)):=rfl
 rw[e]at hq
 exact⟨λ h=>by rw[h]at hq;exact hq,λ h=>by rw[h]at hq;exact hq⟩
theorem jD(F:Fun Ω.K "has_few_figures" "has_few_figures" bY f fd)(N0:Ω.cd=none)(B:Bi Ω.mg):Ok Ω 1 f fd jT Gm:=by
 refine az N0 (N:=j0) F (kj B) (by kernel_rfl!) ?_
 rintro ds S W ⟨n,rfl,hw⟩ hl
 walk_at "b"
 exact hw
theorem tG(F:Fun Ω.K "is_widths" "is_widths" fc f fd)(N0:Ω.cd=none)(B:Bi Ω.mg)(Cq42:Cal Ω "is_whole" 1 1 fJ)(Cq41:Cal Ω "is_tuple_of" 1 3 dh):Ok Ω 2 f fd ww zZ:=by
 refine az N0 (N:=vC) F (wK B Cq42 Cq41) (by kernel_rfl!) ?_
 rintro ds S W ⟨x,rfl,hw⟩ hl
 walk_at "b"
 refine⟨rfl,_,_,_,rfl,?_⟩
 walk_at "b"
 unfold gf at hw
 refine⟨λ h=>?_,λ h=>by rw[h]at hw;exact hw⟩
 rw[h]at hw
 obtain⟨ds,rfl,l1,l2⟩:=bQ h
 walk_at "b"
 refine cX (λ d=>.bl (jH 1 2 d)) (by omega) ?_ (cB hw)
 intro i e he Q hq
 walk_at "b"
 refine⟨rfl,_,rfl,?_⟩
 cases e with
 | int n=>
   walk_at "b"
   refine⟨(lZ hq).1,λ h=>?_⟩
   walk_at "b"
   exact(lZ hq).2 h
 | _=>walk_at "b";exact hq
theorem lR(F:Fun Ω.K "is_place_form" "is_place_form" cJ f fd)(N0:Ω.cd=none)(B:Bi Ω.mg)(Cq29:Cal Ω "is_form" 2 2 qU):Ok Ω 3 f fd m6 xK:=by
 refine az N0 (N:=mO) F (mX B Cq29) (by kernel_rfl!) ?_
 rintro ds S W ⟨x,d,rfl,hd0,hd,hw⟩ hl
 walk_at "b"
 refine⟨rfl,_,_,rfl,hd,?_⟩
 walk_at "b"
 unfold isPlace at hw
 refine⟨λ h=>?_,λ h=>by rw[h]at hw;exact hw⟩
 rw[h]at hw
 obtain⟨a,fs,rfl,hf⟩:=iC h hd0
 walk_at "b"
 refine cX (λ d=>.bl (jH (-99) 99 d)) (by simp;omega) ?_ (cB hw)
 intro i e he Q hq
 have:∃n,e=.int n:=by
  have:=y6 he
  rcases List.mem_cons.mp this with rfl | h
  . exact⟨_,rfl⟩
  . obtain⟨n,_,rfl⟩:=List.mem_map.mp h
    exact⟨n,rfl⟩
 obtain⟨n,rfl⟩:=this
 walk_at "b"
 refine⟨(lZ hq).1,λ h=>?_⟩
 walk_at "b"
 exact(lZ hq).2 h
theorem v4(F:Fun Ω.K "is_start" "is_start" gG f fd)(N0:Ω.cd=none)(B:Bi Ω.mg)(Cq29:Cal Ω "is_form" 2 2 qU)(Cq26:Cal Ω "has_few_figures" 1 1 Gm):Ok Ω 3 f fd Az Dw:=by
 refine az N0 (N:=xU) F (yL B Cq29 Cq26) (by kernel_rfl!) ?_
 rintro ds S W ⟨x,d,rfl,hd0,hd,hw⟩ hl
 walk_at "b"
 refine⟨rfl,_,_,rfl,hd,?_⟩
 walk_at "b"
 unfold isStart at hw
 refine⟨λ h=>?_,λ h=>by rw[h]at hw;exact hw⟩
 rw[h]at hw
 obtain⟨a,fs,rfl,hf⟩:=iC h hd0
 walk_at "b"
 refine cX (λ d=>.bl (rQ d)) (by simp;omega) ?_ (cB hw)
 intro i e he Q hq
 have:∃n,e=.int n:=by
  have:=y6 he
  rcases List.mem_cons.mp this with rfl | h
  . exact⟨_,rfl⟩
  . obtain⟨n,_,rfl⟩:=List.mem_map.mp h
    exact⟨n,rfl⟩
 obtain⟨n,rfl⟩:=this
 walk_at "b"
 exact⟨rfl,_,rfl,hq⟩
theorem gQ(F:Fun Ω.K "is_table_with_place" "is_table_with_place" bG f fd)(N0:Ω.cd=none)(B:Bi Ω.mg)(Cq42:Cal Ω "is_whole" 1 1 fJ)(Cq41:Cal Ω "is_tuple_of" 1 3 dh)(Cq35:Cal Ω "is_place_form" 3 2 xK):Ok Ω 4 f fd gW Km:=by
 refine az N0 (N:=gV) F (gY B Cq42 Cq41 Cq35) (by kernel_rfl!) ?_
 rintro ds S W ⟨t,p,ws,d,rfl,hws,hd0,hd,hw⟩ hl
 walk_at "b"
 refine⟨rfl,_,rfl,?_⟩
 cases t with
 | int n=>
   have e:iJ (.int n) p ws d=((decide (0≤n)&&decide (n<(ws.length:Int)))&&(aX p (ws.getD n.toNat 0) (ws.getD n.toNat 0)&&(parts p).all (isPlace d))):=rfl
   rw[e]at hw
   have hl3:((ws.map D.int).length:Int)=(ws.length:Int):=by rw[y8]
   walk_at "b"
   refine⟨λ h=>?_,λ h=>?_⟩
   . rw[h]at hw
     walk_at "b"
     exact hw
   rw[h,Bool.true_and]at hw
   walk_at "b"
   rw[hl3]
   refine⟨λ h2=>?_,λ h2=>?_⟩
   . have h2:decide (n<(ws.length:Int))=false:=nt h2
     rw[h2]at hw
     walk_at "b"
     exact hw
   have h2:decide (n<(ws.length:Int))=true:=by
    cases q:decide (n<(ws.length:Int))with
    | true=>rfl
    | false=>rw[q]at h2;exact tf h2
   rw[h2,Bool.true_and]at hw
   have h0:=of_decide_eq_true h
   have h1:=of_decide_eq_true h2
   have hk:n.toNat<ws.length:=by omega
   have ew:ws.getD n.toNat 0=ws[n.toNat]:=by simp[List.getD,hk]
   have at1:atI (ws.map D.int) n=some (.int (ws.getD n.toNat 0)):=by
    have:=dZ (xs:=ws.map D.int) (j:=n.toNat) (v:=.int ws[n.toNat]) (by rw[y9,y4 hk];rfl)
    rw[Int.toNat_of_nonneg h0]at this
    rw[ew];exact this
   have hw12:=hws.2 _ (List.getElem_mem hk)
   rw[←ew]at hw12
   generalize ws.getD n.toNat 0=w at at1 hw hw12
   walk_at "b"
   refine⟨_,at1,?_⟩
   walk_at "b"
   refine⟨_,at1,?_⟩
   walk_at "b"
   refine⟨rfl,_,_,_,rfl,?_⟩
   walk_at "b"
   refine⟨λ h3=>?_,λ h3=>by rw[h3]at hw;exact hw⟩
   rw[h3]at hw
   obtain⟨ds,rfl,l1,l2⟩:=bQ h3
   walk_at "b"
   refine cX (λ x=>.bl (isPlace d x)) (by omega) ?_ (cB hw)
   intro i e he Q hq
   walk_at "b"
   exact⟨rfl,_,_,rfl,hd0,hd,hq⟩
 | _=>walk_at "b";exact hw
theorem zX(F:Fun Ω.K "is_read" "is_read" iu f fd)(N0:Ω.cd=none)(Cq42:Cal Ω "is_whole" 1 1 fJ)(Cq41:Cal Ω "is_tuple_of" 1 3 dh)(Cq26:Cal Ω "has_few_figures" 1 1 Gm)(Cq40:Cal Ω "is_table_with_place" 4 4 Km):Ok Ω 5 f fd Cg Jp:=by
 refine az N0 (N:=Bg) F (BV Cq42 Cq41 Cq26 Cq40) (by kernel_rfl!) ?_
 rintro ds S W ⟨x,ws,d,rfl,hws,hd0,hd,hw⟩ hl
 walk_at "b"
 refine⟨rfl,_,_,_,rfl,?_⟩
 cases h:aX x 3 3 with
 | false=>
   have e:jg ws d x=false:=by
    cases x with
    | tup ds=>
      match ds,h with
      | [a,b,c],h=>exact tf h
      | [],_=>rfl
      | [_],_=>rfl
      | [_,_],_=>rfl
      | _::_::_::_::_,_=>rfl
    | _=>rfl
   rw[e]at hw
   walk_at "b"
   exact hw
 | true=>
   obtain⟨ds,rfl,l1,l2⟩:=bQ h
   match ds,l1,l2,hw with
   | [f, t,p],_,_,hw=>
     walk_at "b"
     refine⟨rfl,_,rfl,?_⟩
     have e:jg ws d (.tup [f,t,p])=(rQ f&&iJ t p ws d):=rfl
     rw[e]at hw
     cases f with
     | int n=>
       walk_at "b"
       refine⟨rfl,_,rfl,?_⟩
       have e:rQ (.int n)=oh n:=rfl
       rw[e]at hw
       cases h2:oh n with
       | true=>
         rw[h2]at hw
         walk_at "b"
         exact⟨rfl,_,_,_,_,rfl,hws,hd0,hd,hw⟩
       | false=>
         rw[h2]at hw
         walk_at "b"
         exact hw
     | _=>walk_at "b";exact hw
   | [],l1,_,_=>simp at l1
   | [_],l1,_,_=>simp at l1
   | [_,_],l1,_,_=>simp at l1
   | _::_::_::_::es,_,l2,_=>simp at l2;omega
theorem vN(F:Fun Ω.K "is_reads" "is_reads" fM f fd)(N0:Ω.cd=none)(B:Bi Ω.mg)(Cq41:Cal Ω "is_tuple_of" 1 3 dh)(Cq36:Cal Ω "is_read" 5 3 Jp):Ok Ω 6 f fd za DG:=by
 refine az N0 (N:=zA) F (zW B Cq41 Cq36) (by kernel_rfl!) ?_
 rintro ds S W ⟨x,ws,d,rfl,hws,hd0,hd,hw⟩ hl
 walk_at "b"
 refine⟨rfl,_,_,_,rfl,?_⟩
 walk_at "b"
 unfold my at hw
 refine⟨λ h=>?_,λ h=>by rw[h]at hw;exact hw⟩
 rw[h]at hw
 obtain⟨ds,rfl,l1,l2⟩:=bQ h
 walk_at "b"
 refine cX (λ x=>.bl (jg ws d x)) (by omega) ?_ (cB hw)
 intro i e he Q hq
 walk_at "b"
 exact⟨rfl,_,_,_,rfl,hws,hd0,hd,hq⟩
theorem yM(F:Fun Ω.K "is_deed" "is_deed" ir f fd)(N0:Ω.cd=none)(Cq41:Cal Ω "is_tuple_of" 1 3 dh)(Cq39:Cal Ω "is_start" 3 2 Dw)(Cq40:Cal Ω "is_table_with_place" 4 4 Km)(Cq37:Cal Ω "is_reads" 6 3 DG):Ok Ω 7 f fd Cm Hb:=by
 refine az N0 (N:=BR) F (BP Cq41 Cq39 Cq40 Cq37) (by kernel_rfl!) ?_
 rintro ds S W ⟨x,ws,d,rfl,hws,hd0,hd,hw⟩ hl
 walk_at "b"
 refine⟨rfl,_,_,_,rfl,?_⟩
 cases h:aX x 4 4 with
 | false=>
   have e:dB ws d x=false:=by
    cases x with
    | tup ds=>
      match ds,h with
      | [a,b,c,d],h=>exact tf h
      | [],_=>rfl
      | [_],_=>rfl
      | [_,_],_=>rfl
      | [_,_,_],_=>rfl
      | _::_::_::_::_::_,_=>rfl
    | _=>rfl
   rw[e]at hw
   walk_at "b"
   exact hw
 | true=>
   obtain⟨ds,rfl,l1,l2⟩:=bQ h
   match ds,l1,l2,hw with
   | [t, p,s,r],_,_,hw=>
     have e:dB ws d (.tup [t,p,s,r])=(iJ t p ws d&&(isStart s d&&my r ws d)):=rfl
     rw[e]at hw
     walk_at "b"
     refine⟨rfl,_,_,_,_,rfl,hws,hd0,hd,?_⟩
     cases h2:iJ t p ws d with
     | false=>
       rw[h2]at hw
       walk_at "b"
       exact hw
     | true=>
       rw[h2,Bool.true_and]at hw
       walk_at "b"
       refine⟨rfl,_,_,rfl,hd0,hd,?_⟩
       cases h3:isStart s d with
       | false=>
         rw[h3]at hw
         walk_at "b"
         exact hw
       | true=>
         rw[h3,Bool.true_and]at hw
         walk_at "b"
         exact⟨rfl,_,_,_,rfl,hws,hd0,hd,hw⟩
   | [],l1,_,_=>simp at l1
   | [_],l1,_,_=>simp at l1
   | [_,_],l1,_,_=>simp at l1
   | [_,_,_],l1,_,_=>simp at l1
   | _::_::_::_::_::es,_,l2,_=>simp at l2;omega
theorem Ay(F:Fun Ω.K "is_nest" "is_nest" iy f fd)(N0:Ω.cd=none)(B:Bi Ω.mg)(Cq41:Cal Ω "is_tuple_of" 1 3 dh)(Cq31:Cal Ω "is_loops" 5 1 Do)(Cq28:Cal Ω "is_deed" 7 3 Hb):Ok Ω 8 f fd Cu Ie:=by
 refine az N0 (N:=CQ) F (Ce B Cq41 Cq31 Cq28) (by kernel_rfl!) ?_
 rintro ds S W ⟨x,ws,rfl,hws,hw⟩ hl
 walk_at "b"
 refine⟨rfl,_,_,_,rfl,?_⟩
 cases h:aX x 2 2 with
 | false=>
   have e:gm ws x=false:=by
    cases x with
    | tup ds=>
      match ds,h with
      | [a,b],h=>exact tf h
      | [],_=>rfl
      | [_],_=>rfl
      | _::_::_::_,_=>rfl
    | _=>rfl
   rw[e]at hw
   walk_at "b"
   exact hw
 | true=>
   obtain⟨ds,rfl,l1,l2⟩:=bQ h
   match ds,l1,l2,hw with
   | [l, dd],_,_,hw=>
     have e:gm ws (.tup [l,dd])=(dO l&&(aX dd 1 4&&(parts dd).all (dB ws ((parts l).length:Int)))):=rfl
     rw[e]at hw
     walk_at "b"
     refine⟨rfl,_,rfl,?_⟩
     cases h2:dO l with
     | false=>
       rw[h2]at hw
       walk_at "b"
       exact hw
     | true=>
       rw[h2,Bool.true_and]at hw
       cases l with
       | tup ls=>
         have hlen:(ls.length:Int)≤3:=of_decide_eq_true (aa (aa h2).1).2
         have hw:W (.bl (aX dd 1 4&&(parts dd).all (dB ws (ls.length:Int)))) S:=hw
         walk_at "b"
         refine⟨rfl,_,_,_,rfl,?_⟩
         walk_at "b"
         refine⟨λ h3=>?_,λ h3=>by rw[h3]at hw;exact hw⟩
         rw[h3]at hw
         obtain⟨es,rfl,l1,l2⟩:=bQ h3
         walk_at "b"
         refine cX (λ x=>.bl (dB ws (ls.length:Int) x)) (by omega) ?_ (cB hw)
         intro i e he Q hq
         walk_at "b"
         exact⟨rfl,_,_,_,rfl,hws,by omega,by omega,hq⟩
       | _=>exact ff h2
   | [],l1,_,_=>simp at l1
   | [_],l1,_,_=>simp at l1
   | _::_::_::es,_,l2,_=>simp at l2;omega
theorem vH(F:Fun Ω.K "is_nests" "is_nests" gM f fd)(N0:Ω.cd=none)(B:Bi Ω.mg)(Cq41:Cal Ω "is_tuple_of" 1 3 dh)(Cq32:Cal Ω "is_nest" 8 2 Ie):Ok Ω 9 f fd zL Ec:=by
 refine az N0 (N:=zR) F (xJ B Cq41 Cq32) (by kernel_rfl!) ?_
 rintro ds S W ⟨x,ws,rfl,hws,hw⟩ hl
 walk_at "b"
 refine⟨rfl,_,_,_,rfl,?_⟩
 walk_at "b"
 unfold lW at hw
 refine⟨λ h=>?_,λ h=>by rw[h]at hw;exact hw⟩
 rw[h]at hw
 obtain⟨ds,rfl,l1,l2⟩:=bQ h
 walk_at "b"
 refine cX (λ x=>.bl (gm ws x)) (by omega) ?_ (cB hw)
 intro i e he Q hq
 walk_at "b"
 exact⟨rfl,_,_,rfl,hws,hq⟩
structure Rd where
 fac:Int
 tab:Nat
 pl:List Fm
structure Dd where
 tab:Nat
 pl:List Fm
 st:Fm
 rds:List Rd
structure Ns where
 lps:List Lp
 dds:List Dd
structure Pg where
 ws:List Int
 nss:List Ns
def dP(pl:List Fm):D:=.tup (pl.map dF)
def dRd(r:Rd):D:=.tup [.int r.fac,.int r.tab,dP r.pl]
def dDd(x:Dd):D:=.tup [.int x.tab,dP x.pl,dF x.st,.tup (x.rds.map dRd)]
def dNs(n:Ns):D:=.tup [.tup (n.lps.map dL),.tup (n.dds.map dDd)]
def dWs(ws:List Int):D:=.tup (ws.map .int)
def dPg(p:Pg):D:=.tup [dWs p.ws,.tup (p.nss.map dNs)]
def many(nss:List Ns):Int:=(nss.map λ n=>((cnt n.lps).length:Int)*(n.dds.length:Int)).sum
def lE(n:Ns):Prop:=1≤n.lps.length/\Fits n.lps/\n.dds.length≤1000
def lA:Ct:=λ ds S W=>∃nss,ds=[.tup (List.map dNs nss)]/\nss.length≤1000/\(∀n∈nss,lE n)/\flat S/\W (.int (many nss)) S
def yZ:Ct:=λ ds S W=>∃p:Pg,ds=[dWs p.ws,.tup (List.map dNs p.nss)]/\gf (dWs p.ws)=true/\lW (.tup (p.nss.map dNs)) p.ws=true/\p.nss.length≤1000/\(∀n∈p.nss,lE n)/\many p.nss≤60/\flat S/\W (dPg p) S
theorem Io(h:gf (dWs ws)=true):Ws ws:=by
 obtain⟨h1,h2⟩:=aa h
 have:=uY h1
 refine⟨by simp at this;omega,λ w hw=>?_⟩
 have h3:=List.all_eq_true.mp h2 (.int w) (List.mem_map.mpr ⟨w,hw,rfl⟩)
 obtain⟨a,b⟩:=aa h3
 exact⟨of_decide_eq_true a,of_decide_eq_true b⟩
theorem jz(F:Fun Ω.K "number_of_steps" "number_of_steps" cu f fd)(N0:Ω.cd=none)(B:Bi Ω.mg)(Cq22:Cal Ω "counts_of" 3 1 oY):Ok Ω 4 f fd jO lA:=by
 refine az N0 (N:=j4) F (jZ B Cq22) (by kernel_rfl!) ?_
 rintro ds S W ⟨nss,rfl,hz,hok,hS,hw⟩ hl
 walk_at "b"
 refine di (λ n=>.int (((cnt n.lps).length:Int)*(n.dds.length:Int))) (by omega) ?_ ?_
 . intro i n hn Q hq
   obtain⟨h1,h2,h3⟩:=hok n (y6 hn)
   have h4:=(h2.2 n.lps.length (x5 _)).1
   rw[List.take_length]at h4
   walk_at "b"
   refine⟨rfl,?_⟩
   walk_at "b"
   refine⟨rfl,_,rfl,h1,h2,hS,.inl ?_⟩
   have e1:(((cnt n.lps).map dC).length:Int)=((cnt n.lps).length:Int):=by rw[y8]
   have e2:((n.dds.map dDd).length:Int)=(n.dds.length:Int):=by rw[y8]
   walk_at "n"
   rw[e1,e2]
   exact⟨.inl ⟨by omega,by omega⟩,hq⟩
 . exact⟨nss.map λ(n:Ns)=>((cnt n.lps).length:Int)*(n.dds.length:Int),by rw[List.map_map];rfl,hw⟩
theorem qd(F:Fun Ω.K "program_of" "program_of" dR f fd)(N0:Ω.cd=none)(B:Bi Ω.mg)(Cq43:Cal Ω "is_widths" 2 1 zZ)(Cq33:Cal Ω "is_nests" 9 2 Ec)(Cq46:Cal Ω "number_of_steps" 4 1 lA):Ok Ω 10 f fd sO yZ:=by
 refine az N0 (N:=rZ) F (uv B Cq43 Cq33 Cq46) (by kernel_rfl!) ?_
 rintro ds S W ⟨p,rfl,h1,h2,hz,hok,h60,hS,hw⟩ hl
 have hws:=Io h1
 walk_at "b"
 refine⟨rfl,_,rfl,?_⟩
 rw[h1]
 walk_at "b"
 refine⟨rfl,_,_,rfl,hws,?_⟩
 rw[h2]
 walk_at "b"
 refine⟨rfl,_,rfl,hz,hok,hS,?_⟩
 walk_at "b"
 rw[decide_eq_false (by omega)]
 walk_at "b"
 exact hw
abbrev Stp:=Nat×List Int×Nat
def dSt(s:Stp):D:=.tup [.int s.1,dC s.2.1,.int s.2.2]
def cD(i:Nat)(n:Ns):List Stp:=(cnt n.lps).flatMap λ cs=>(List.range n.dds.length).map λ s=>(i,cs,s)
def aN(nss:List Ns):List Stp:=(nss.mapIdx cD).flatten
def Di:Ct:=λ ds S W=>∃p:Pg,ds=[dPg p]/\p.nss.length≤1000/\(∀n∈p.nss,lE n)/\(aN p.nss).length≤1000000/\flat S/\hand W ((aN p.nss).map dSt) S
theorem iz{nss:List Ns}{n:Ns}(h:nss[i]? =some n):aN (nss.take (i+1))=aN (nss.take i)++cD i n:=by
 unfold aN
 rw[aJ h,List.mapIdx_append,List.flatten_append]
 have hi:=(y3.mp h).1
 simp only[List.mapIdx_cons,List.mapIdx_nil,List.flatten_cons,List.flatten_nil,List.append_nil,List.length_take]
 rw[Nat.min_eq_left (by omega),Nat.zero_add]
theorem qx(xs:List Stp):aj (xs.map dSt)=true:=by
 induction xs with
 | nil=>rfl
 | cons x xs ih=>
   simp only[List.map_cons,aj,ih,Bool.and_true]
   have:=lM [x.2.1]
   simp only[List.map_cons,List.map_nil,aj,Bool.and_true]at this
   show aj [D.int _,dC x.2.1,D.int _]=true
   simp only[aj,this,Bool.and_true];rfl
theorem GJ{S:Store}(h:flat S)(hl:aj l=true):flat (S++[l]):=λ x hx=>by
 rcases List.mem_append.mp hx with q | q
 . exact h x q
 . rw[List.mem_singleton.mp q];exact hl
theorem Ju{nss:List Ns}{n:Ns}(h:nss[i]? =some n):(aN (nss.take i)).length+(cD i n).length≤(aN nss).length:=by
 have e:∃more,aN nss=aN (nss.take (i+1))++more:=by
  unfold aN
  conv=>enter [1,more,1,1];rw[←List.take_append_drop (i+1) nss]
  rw[List.mapIdx_append,List.flatten_append]
  exact⟨_,rfl⟩
 obtain⟨more,e⟩:=e
 rw[e,iz h,w9,w9];omega
theorem wQ(F:Fun Ω.K "steps_of" "steps_of" fL f fd)(N0:Ω.cd=none)(B:Bi Ω.mg)(Cq22:Cal Ω "counts_of" 3 1 oY):Ok Ω 4 f fd yr Di:=by
 refine az N0 (N:=xX) F (Bl.frz (xQ B Cq22)) (by kernel_rfl!) ?_
 rintro ds S W ⟨p,rfl,hz,hok,hlen,hS,hw⟩ hl
 walk_at "b"
 refine aL ⟨λ i Γ' S'=>(∃o2 o3 o4 o5,Γ'=[some (dPg p),some (.loc S.length),o2,o3,o4,o5])/\S'=S++[(aN (p.nss.take i)).map dSt],⟨⟨_,_,_,_,rfl⟩,rfl⟩,?_,?_⟩
 . rintro i e Γ' S' he ⟨⟨o2,o3,o4,o5,rfl⟩,rfl⟩
   obtain⟨e',he',rfl⟩:=En he
   obtain⟨n,hn,rfl⟩:=bf he'
   obtain⟨h1,h2,h3⟩:=hok n (y6 hn)
   have lf:=Ju hn
   walk_at "b"
   refine⟨rfl,?_⟩
   walk_at "b"
   refine⟨rfl,_,rfl,h1,h2,GJ hS (qx _),.inl ?_⟩
   walk_at "n"
   refine aL ⟨λ j Γ' S'=>(∃o4 o5,Γ'=[some (dPg p),some (.loc S.length),some (.int (i:Int)),some (dNs n),o4,o5])/\S'=S++[(aN (p.nss.take i)++((cnt n.lps).take j).flatMap λ cs=>(List.range n.dds.length).map λ s=>(i,cs,s)).map dSt],⟨⟨_,_,rfl⟩,by simp⟩,?_,?_⟩
   . rintro j e Γ' S' he ⟨⟨o4,o5,rfl⟩,rfl⟩
     obtain⟨cs,hcs,rfl⟩:=bf he
     have e2:((n.dds.map dDd).length:Int)=(n.dds.length:Int):=by rw[y8]
     have lj:((cnt n.lps).take j |>.flatMap λ cs=>(List.range n.dds.length).map λ s=>(i,cs,s)).length+n.dds.length≤(cD i n).length:=by
      have:∃more,cD i n=((cnt n.lps).take (j+1) |>.flatMap λ cs=>(List.range n.dds.length).map λ s=>(i,cs,s))++more:=by
       unfold cD
       conv=>enter [1,more,1,2];rw[←List.take_append_drop (j+1) (cnt n.lps)]
       rw[List.flatMap_append]
       exact⟨_,rfl⟩
      obtain⟨more,em⟩:=this
      rw[em,aJ hcs,List.flatMap_append,w9,w9]
      simp
     walk_at "b"
     rw[e2]
     refine⟨⟨by omega,by omega⟩,aL ⟨λ t Γ' S'=>(∃o5,Γ'=[some (dPg p),some (.loc S.length),some (.int (i:Int)),some (dNs n),some (dC cs),o5])/\S'=S++[((aN (p.nss.take i)++((cnt n.lps).take j).flatMap λ cs=>(List.range n.dds.length).map λ s=>(i,cs,s))++(List.range t).map λ s=>(i,cs,s)).map dSt],⟨⟨_,rfl⟩,by simp⟩,?_,?_⟩⟩
     . rintro t e Γ' S' he ⟨⟨o5,rfl⟩,rfl⟩
       obtain⟨ht,rfl⟩:=aM he
       have ez:(0:Int)+(t:Int)=(t:Int):=by omega
       rw[ez]
       walk_at "b"
       refine⟨_,gU _ _,by simp only[y8,w9,List.length_range];omega,?_⟩
       refine⟨⟨_,rfl⟩,?_⟩
       rw[gP,List.range_succ]
       simp only[List.map_append,List.map_cons,List.map_nil,List.append_assoc]
       rfl
     . rintro Γ' S' ⟨⟨o5,rfl⟩,rfl⟩
       refine⟨⟨_,_,rfl⟩,?_⟩
       rw[au,aJ hcs,List.flatMap_append,List.flatMap_singleton,←List.append_assoc,Int.toNat_natCast]
   . rintro Γ' S' ⟨⟨o4,o5,rfl⟩,rfl⟩
     refine⟨⟨_,_,_,_,rfl⟩,?_⟩
     rw[y8,List.take_length,iz hn];rfl
 . rintro Γ' S' ⟨⟨o2,o3,o4,o5,rfl⟩,rfl⟩
   have e:((p.nss.map dNs).mapIdx λ i d=>D.tup [D.int (i:Int),d]).length=p.nss.length:=by simp
   rw[e,List.take_length]
   exact yH hw (qx _) hS
def yo:Ct:=λ ds S W=>∃(p:Pg) (s:Stp) (n:Ns) (x:Dd),ds=[dPg p,dSt s]/\p.nss[s.1]? =some n/\n.dds[s.2.2]? =some x/\W (dDd x) S
abbrev Cell:=Nat×List Int
def eF(c:Cell):D:=.tup [.int c.1,.tup (c.2.map .int)]
def C64(cs:List Int):Prop:=∀c∈cs,-(2 ^ 64)<c/\c<2 ^ 64
def Fg(pl:List Fm):Prop:=pl.length≤1000/\∀f∈pl,f.2.length≤1000
def spot(t:Nat)(pl:List Fm)(cs:List Int):Cell:=(t,pl.map λ f=>atC f cs)
def xu:Ct:=λ ds S W=>∃(t:Nat) (pl:List Fm) (cs:List Int),ds=[.int t,dP pl,dC cs]/\Fg pl/\C64 cs/\W (eF (spot t pl cs)) S
theorem xH(F:Fun Ω.K "deed_of" "deed_of" iI f fd)(N0:Ω.cd=none):Ok Ω 1 f fd CN yo:=by
 refine az N0 (N:=Bs) F (Cp) (by kernel_rfl!) ?_
 rintro ds S W ⟨p,⟨i,cs,t⟩,n,x,rfl,hn,hx,hw⟩ hl
 have a1:atI (p.nss.map dNs) ((i:Nat):Int)=some (dNs n):=dZ (by rw[y9,hn];rfl)
 have a2:atI (n.dds.map dDd) ((t:Nat):Int)=some (dDd x):=dZ (by rw[y9,hx];rfl)
 walk_at "b"
 refine⟨_,a1,?_⟩
 walk_at "b"
 exact⟨_,a2,hw⟩
theorem xZ(F:Fun Ω.K "cell_at" "cell_at" iw f fd)(N0:Ω.cd=none)(B:Bi Ω.mg)(Cq19:Cal Ω "comes_to" 1 2 jb):Ok Ω 2 f fd CJ xu:=by
 refine az N0 (N:=Bm) F (Bj B Cq19) (by kernel_rfl!) ?_
 rintro ds S W ⟨t,pl,cs,rfl,hpl,hcs,hw⟩ hl
 walk_at "b"
 refine di (λ f=>.int (atC f cs)) (by have:=hpl.1;omega) ?_ ?_
 . intro i f hf Q hq
   walk_at "b"
   exact⟨rfl,f.1,f.2,cs,rfl,hpl.2 f (y6 hf),hcs,hq⟩
 . walk_at "b"
   have e:(spot t pl cs).2.map D.int=pl.map λ f=>D.int (atC f cs):=by unfold spot;rw[List.map_map];rfl
   unfold eF at hw
   rw[e]at hw
   exact hw
def dCs(x:Dd)(cs:List Int):D:=.tup [eF (spot x.tab x.pl cs),.lst (x.rds.map λ r=>eF (spot r.tab r.pl cs))]
def JS(x:Dd):Prop:=Fg x.pl/\x.rds.length≤1000/\∀r∈x.rds,Fg r.pl
def m9:Ct:=λ ds S W=>∃(p:Pg) (s:Stp) (n:Ns) (x:Dd),ds=[dPg p,dSt s]/\p.nss[s.1]? =some n/\n.dds[s.2.2]? =some x/\JS x/\C64 s.2.1/\W (dCs x s.2.1) S
theorem kO(F:Fun Ω.K "cells_of_step" "cells_of_step" cM f fd)(N0:Ω.cd=none)(Cq23:Cal Ω "deed_of" 1 2 yo)(Cq16:Cal Ω "cell_at" 2 3 xu):Ok Ω 3 f fd mK m9:=by
 refine az N0 (N:=mZ) F (mQ Cq23 Cq16) (by kernel_rfl!) ?_
 rintro ds S W ⟨p,⟨i,cs,t⟩,n,x,rfl,hn,hx,hok,hcs,hw⟩ hl
 walk_at "b"
 refine⟨rfl,p,(i,cs,t),n,x,rfl,hn,hx,?_⟩
 walk_at "b"
 refine di (λ r=>eF (spot r.tab r.pl cs)) (by have:=hok.2.1;omega) ?_ ?_
 . intro j r hr Q hq
   walk_at "b"
   refine⟨rfl,?_⟩
   walk_at "b"
   exact⟨rfl,r.tab,r.pl,cs,rfl,hok.2.2 r (y6 hr),hcs,hq⟩
 . walk_at "b"
   refine⟨rfl,x.tab,x.pl,cs,rfl,hok.1,hcs,?_⟩
   walk_at "b"
   exact hw
theorem Ht{nss:List Ns}{s:Stp}(h:s∈aN nss):∃n,nss[s.1]? =some n/\s.2.1∈cnt n.lps/\s.2.2<n.dds.length:=by
 unfold aN at h
 obtain⟨l,hl,hs⟩:=List.mem_flatten.mp h
 obtain⟨i,hi,rfl⟩:=List.mem_mapIdx.mp hl
 unfold cD at hs
 obtain⟨cs,hcs,hs⟩:=List.mem_flatMap.mp hs
 obtain⟨t,ht,rfl⟩:=List.mem_map.mp hs
 exact⟨nss[i],y4 hi,hcs,List.mem_range.mp ht⟩
def dz(p:Pg)(s:Stp):D:=match p.nss[s.1]? with
 | some n=>(match n.dds[s.2.2]? with | some x=>dCs x s.2.1 | none=>.non)
 | none=>.non
def ik:Ct:=λ ds S W=>∃p:Pg,ds=[dPg p]/\p.nss.length≤1000/\(∀n∈p.nss,lE n/\∀x∈n.dds,JS x)/\(aN p.nss).length≤1000000/\flat S/\W (.lst ((aN p.nss).map (dz p))) S
theorem lE.c64{n:Ns}(h:lE n){cs:List Int}(hc:cs∈cnt n.lps):C64 cs:=λ c hcc=>by
 have:=((h.2.1.2 n.lps.length (x5 _)).2 cs (by rw[List.take_length];exact hc)).2 c hcc
 omega
theorem wO(F:Fun Ω.K "cells_of" "cells_of" fU f fd)(N0:Ω.cd=none)(Cq54:Cal Ω "steps_of" 4 1 Di)(Cq18:Cal Ω "cells_of_step" 3 2 m9):Ok Ω 5 f fd Al ik:=by
 refine az N0 (N:=xF) F (yf Cq54 Cq18) (by kernel_rfl!) ?_
 rintro ds S W ⟨p,rfl,hz,hok,hlen,hS,hw⟩ hl
 walk_at "b"
 refine⟨rfl,p,rfl,hz,λ n hn=>(hok n hn).1,hlen,hS,.inl ?_⟩
 walk_at "n"
 refine di (dz p) hlen ?_ hw
 intro i s hs Q hq
 obtain⟨n,h1,h2,h3⟩:=Ht (y6 hs)
 obtain⟨ok,dd⟩:=hok n (y6 h1)
 have e:n.dds[s.2.2]? =some n.dds[s.2.2]:=y4 h3
 have ec:dz p s=dCs n.dds[s.2.2] s.2.1:=by
  unfold dz
  rw[h1]
  show(match n.dds[s.2.2]? with | some x=>dCs x s.2.1 | none=>D.non)=_
  rw[e]
 rw[ec]at hq
 walk_at "b"
 exact⟨rfl,p,s,n,n.dds[s.2.2],rfl,h1,e,dd _ (List.getElem_mem _),ok.c64 h2,hq⟩
theorem bD(x:List Int):aj (x.map D.int)=true:=by
 induction x with
 | nil=>rfl
 | cons y ys ih=>simp only[List.map_cons,aj,ih,Bool.and_true];rfl
def f9(ns:List Int)(n c d:Int):List D:=[.lst (ns.map .int),.int n,.int c,.int d]
def aD(S:Store)(k b:Nat):Prop:=∃ns n c d,S[k]? =some (f9 ns n c d)/\0≤n/\n≤(b:Int)
def aF(S:Store)(k:Nat)(S':Store):Prop:=∃ns n c d,S'=S.set k (f9 ns n c d)
theorem aF.trans{S S1 S2:Store}(a:aF S k S1)(b:aF S1 k S2):aF S k S2:=by
 obtain⟨_,_,_,_,rfl⟩:=a
 obtain⟨ns,n,c,d,rfl⟩:=b
 exact⟨ns,n,c,d,by rw[List.set_set]⟩
theorem aF.refl{S:Store}{b:Nat}(p:aD S k b):aF S k S:=by
 obtain⟨ns,n,c,d,h,_⟩:=p
 exact⟨ns,n,c,d,by
  obtain⟨hl,e⟩:=y3.mp h
  rw[←e,List.set_getElem_self]⟩
theorem aF.len{S S':Store}(u:aF S k S'):S'.length=S.length:=by
 obtain⟨_,_,_,_,rfl⟩:=u
 simp
theorem aD.lt{S:Store}{b:Nat}(p:aD S k b):k<S.length:=by
 obtain⟨_,_,_,_,h,_⟩:=p
 exact(y3.mp h).1
theorem aD.mono{S:Store}{b b':Nat}(p:aD S k b)(h:b≤b'):aD S k b':=by
 obtain⟨ns,n,c,d,h1,h2,h3⟩:=p
 exact⟨ns,n,c,d,h1,h2,by omega⟩
theorem aD.app{S:Store}{b:Nat}(R:Store)(p:aD S k b):aD (S++R) k b:=by
 have hl:=p.lt
 obtain⟨ns,n,c,d,h,hn⟩:=p
 exact⟨ns,n,c,d,by rw[v3 hl];exact h,hn⟩
theorem aF.split{S T:Store}{b b':Nat}{R:Store}(p:aD S k b)(u:aF (S++R) k T)(p':aD T k b'):∃S',T=S'++R/\aF S k S'/\aD S' k b':=by
 have hl:=p.lt
 obtain⟨ns,n,c,d,rfl⟩:=u
 have e:(S++R).set k (f9 ns n c d)=S.set k (f9 ns n c d)++R:=by rw[List.set_append_left k _ hl]
 refine⟨S.set k (f9 ns n c d),e,⟨ns,n,c,d,rfl⟩,?_⟩
 obtain⟨ns',n',c',d',h,hn⟩:=p'
 rw[e,v3 (by simpa using hl)]at h
 exact⟨ns',n',c',d',h,hn⟩
theorem nF(ns:List Int)(n c d:Int):aj (f9 ns n c d)=true:=by
 show(aj (ns.map D.int)&&true)=true
 rw[bD];rfl
theorem aF.flat{S S':Store}(u:aF S k S')(h:flat S):RF.flat S':=by
 obtain⟨ns,n,c,d,rfl⟩:=u
 intro l hl
 rcases List.mem_or_eq_of_mem_set hl with hl | rfl
 . exact h l hl
 . exact nF ..
def ug:Ct:=λ ds S W=>∃ns k,ds=[.lst (List.map .int ns),.int k]/\0≤k/\k≤1000000000/\∀v,W (.int v) S
def HY:Ct:=λ ds S W=>∃ns:List Int,ds=[.lst (List.map .int ns)]/\∀c d,W (.loc S.length) (S++[f9 ns 0 c d])
def bW:Ct:=λ ds S W=>∃(k:Nat) (m:Int) (b:Nat),ds=[.loc k,.int m]/\aD S k b/\b≤1000000/\0<m/\m<1000000/\∀v S',0≤v->v<m->aF S k S'->aD S' k (b+1)->W (.int v) S'
theorem dM{S:Store}{b:Nat}{m:Int}{W:WD}(hp:aD S k b)(hb:b≤1000000)(h0:0<m)(h1:m<1000000)(w:∀v S',0≤v->v<m->aF S k S'->aD S' k (b+1)->W (.int v) S'):([D.loc k,.int m].length=2/\bW [.loc k,.int m] S W):=⟨rfl,k,m,b,rfl,hp,hb,h0,h1,w⟩
theorem aW{S R:Store}{b:Nat}{m:Int}{W:WD}(hp:aD S k b)(hb:b≤1000000)(h0:0<m)(h1:m<1000000)(w:∀v S',0≤v->v<m->aF S k S'->aD S' k (b+1)->W (.int v) (S'++R)):([D.loc k,.int m].length=2/\bW [.loc k,.int m] (S++R) W):=by
 refine dM (hp.app R) hb h0 h1 λ v T v0 v1 u p=>?_
 obtain⟨S',rfl,u',p'⟩:=u.split hp p
 exact w v S' v0 v1 u' p'
theorem Ry{ns:List Int}{a:Int}{W:D->Prop}(h:0<((ns.map D.int).length:Int))(w:∀y:Int,W (.int y)):∃d,atI (ns.map D.int) (a % ((ns.map D.int).length:Int))=some d/\W d:=by
 obtain⟨x,h1,h2⟩:=fV (ds:=ns.map D.int) (v:=a % ((ns.map D.int).length:Int)) (Int.emod_nonneg _ (by omega)) (Int.emod_lt_of_pos _ h)
 obtain⟨y,_,rfl⟩:=List.mem_map.mp (y6 h2)
 exact⟨_,h1,w y⟩
theorem Hi(F:Fun Ω.K "_law_cell" "_law_cell" n8 f fd)(N0:Ω.cd=none)(B:Bi Ω.mg):Ok Ω 1 f fd J3 ug:=by
 refine az N0 (N:=JD) F (Kg B) (by kernel_rfl!) ?_
 rintro ds S W ⟨ns,k,rfl,hk,hk2,hw⟩ hl
 have last:∀v:Int,(qG B).wp [some (.lst (ns.map .int)),some (.int k),some (.int v)] S {nx:=λ _ S1=>W .non S1,rt:=W}:=by
  intro v
  walk_at "b"
  exact hw _
 have two:(qH B).wp [some (.lst (ns.map .int)),some (.int k),none] S {nx:=λ _ S1=>W .non S1,rt:=W}:=by
  walk_at "b"
  refine⟨λ q=>?_,λ q=>last _⟩
  have q:=of_decide_eq_true q
  walk_at "b"
  refine Ry q λ y=>?_
  walk_at "b"
  exact last _
 walk_at "b"
 refine⟨λ q=>?_,λ q=>two⟩
 have q:=of_decide_eq_true q
 walk_at "b"
 obtain⟨x,h1,h2⟩:=fV (ds:=ns.map D.int) (v:=k) hk q
 obtain⟨y,_,rfl⟩:=List.mem_map.mp (y6 h2)
 refine⟨_,h1,?_⟩
 walk_at "b"
 exact hw _
theorem KY(F:Fun Ω.K "_law_pen" "_law_pen" rO f fd)(N0:Ω.cd=none)(Cq0:Cal Ω "_law_cell" 1 2 ug):Ok Ω 2 f fd Mm HY:=by
 refine az N0 (N:=Oj) F (Nb Cq0) (by kernel_rfl!) ?_
 rintro ds S W ⟨ns,rfl,hw⟩ hl
 walk_at "b"
 refine⟨rfl,ns,0,rfl,by decide,by decide,λ c=>?_⟩
 walk_at "b"
 refine⟨rfl,ns,0,rfl,by decide,by decide,λ d=>?_⟩
 walk_at "b"
 exact hw _ _
theorem IW(F:Fun Ω.K "_law_next" "_law_next" oN f fd)(N0:Ω.cd=none)(Cq0:Cal Ω "_law_cell" 1 2 ug):Ok Ω 2 f fd Kc bW:=by
 refine az N0 (N:=JR) F (K6 Cq0) (by kernel_rfl!) ?_
 rintro ds S W ⟨k,m,b,rfl,⟨ns,n,c,d,hk,hn0,hn1⟩,hb,h0,h1,hw⟩ hl
 have k2:∀l:List D,(S.set k l)[k]? =some l:=λ l=>set_get hk
 have fin:∀v n' d',0≤n'->n'≤(b:Int)+1->W (.int (v % m)) (S.set k (f9 ns n' c d')):=λ v n' d' h h'=>
  hw _ _ (Int.emod_nonneg _ (by omega)) (Int.emod_lt_of_pos _ h0) ⟨ns,n',c,d',rfl⟩ ⟨ns,n',c,d',k2 _,h,by omega⟩
 walk_at "b"
 refine⟨λ _=>?_,λ _=>?_⟩
 . walk_at "b"
   exact fin d n _ hn0 (by omega)
 walk_at "b"
 refine⟨rfl,ns,n+1,rfl,by omega,by omega,λ v=>?_⟩
 walk_at "b"
 exact fin _ (n+1) d (by omega) (by omega)
theorem gB(f:Fm):ak (dF f)=true:=bD (f.1::f.2)
theorem Ko(cs:List Int):ak (dC cs)=true:=bD cs
theorem fD(ls:List Lp):aj (ls.map dL)=true:=by
 induction ls with
 | nil=>rfl
 | cons y ys ih=>
   simp only[List.map_cons,aj,ih,Bool.and_true]
   show aj [dF y.1,dF y.2]=true
   simp only[aj,gB,Bool.and_true]
def nlO(o:Option D):Prop:=∀d,o=some d->ak d=true
theorem jG:nlO none:=λ d h=>by cases h
theorem Og(n:Int):nlO (some (.int n)):=λ d h=>by cases h;rfl
theorem Ql(cs:List Int):nlO (some (dC cs)):=λ d h=>by cases h;exact Ko cs
theorem uL{ds:List D}{o:Option D}(h:nlO o):iD k ds o=o:=by
 cases o with
 | none=>rfl
 | some d=>
   cases d with
   | loc j=>have:=h _ rfl;simp[ak]at this
   | _=>rfl
def Old(n:Nat)(x:D):Prop:=ak x=true∨∃j,x=.loc j/\j<n
theorem JC{n:Nat}{ds:List D}{x:D}(h:Old n x):iD n ds (some x)=some x:=by
 rcases h with h | ⟨j,rfl,hj⟩
 . exact uL λ d e=>by cases e;exact h
 . simp[iD];omega
def HW:Ct:=λ ds S W=>∃(x:D) (ls:List Lp),ds=[x]/\(x=.tup (ls.map dL)∨∃k,x=.loc k/\S[k]? =some (ls.map dL))/\Lps ls/\flat S/\W (.int (cnt ls).length) S
theorem FZ(F:Fun Ω.K "_law_value" "_law_value" kE f fd)(N0:Ω.cd=none)(B:Bi Ω.mg):Ok Ω 1 f fd Ib jb:=by
 refine az N0 (N:=GC) F (Ir B) (by kernel_rfl!) ?_
 rintro ds S W ⟨g,fs,cs,rfl,hfs,hcs,hw⟩ hl
 walk_at "n"
 refine⟨_,jA _ _,?_⟩
 walk_at "n"
 rw[nG]
 refine fK ⟨by rw[List.length_zipWith,y8];omega,λ i acc S'=>acc=((List.zipWith (λ a b=>a*b) fs cs).take i).map D.int/\S'=S,⟨rfl,rfl⟩,?_,?_⟩
 . rintro i e acc S' he ⟨rfl,rfl⟩
   obtain⟨a,b,h1,h2,rfl⟩:=DN he
   walk_at "n"
   refine⟨rfl,λ _=>⟨.inr (hcs b (y6 h2)),?_,rfl⟩,λ z=>tf z⟩
   have e3:(List.zipWith (λ a b=>a*b) fs cs)[i]? =some (a*b):=by rw[List.getElem?_zipWith,h1,h2]
   rw[aJ e3,List.map_append];rfl
 . rintro acc S' ⟨rfl,rfl⟩
   have e:(List.zipWith (λ x y=>D.tup [x,y]) (fs.map D.int) (cs.map D.int)).length=(List.zipWith (λ a b=>a*b) fs cs).length:=by simp
   rw[e,List.take_length]
   exact⟨_,rfl,hw⟩
theorem Fq(F:Fun Ω.K "_law_count" "_law_count" lG f fd)(N0:Ω.cd=none)(B:Bi Ω.mg)(Cq15:Cal Ω "_law_value" 1 2 jb):Ok Ω 2 f fd GP HW:=by
 refine az N0 (N:=G4) F (GZ B Cq15) (by kernel_rfl!) ?_
 rintro ds S W ⟨x,ls,rfl,hx,hL,hS,hw⟩ hl
 have hf:=hL.fits
 have turn:∀(x:D),Old S.length x->∀(i:Nat)(l:Lp),ls[i]? =some l->∀(o2 o3 o4 o5 o6:Option D),nlO o5->nlO o6->∀Wf:DL.Fin,(∀o2' o3' o4' o5' o6',nlO o5'->nlO o6'->Wf.nx [some x,some (.lst ((cnt (ls.take (i+1))).map dC)),o2',o3',o4',o5',o6'] S)->
  (Tg.tup [2,3]).wp (dL l) [some x,some (.lst ((cnt (ls.take i)).map dC)),o2,o3,o4,o5,o6] λ Γ2=>(Bl.fzl (lq B Cq15)).wp Γ2 S Wf:=by
  intro x hx i l hli o2 o3 o4 o5 o6 n5 n6 Wf hnx
  have hi:=(y3.mp hli).1
  obtain⟨hlo,hhi⟩:=hf.1 l (y6 hli)
  have hah:=(hf.2 i (by omega)).2
  have hz:=(hf.2 (i+1) (by omega)).1
  rw[jK hli]at hz hnx
  obtain⟨lo,hi_⟩:=l
  dsimp only at hlo hhi hz hnx
  generalize hG:cnt (ls.take i)=ahead at*
  walk_at "b"
  refine⟨rfl,?_⟩
  walk_at "b"
  refine aL ⟨λ j Γ' S'=>(∃o5 o6,Γ'=[some x,some (.lst (ahead.map dC)),some (dF lo),some (dF hi_),some (.loc S.length),o5,o6]/\nlO o5/\nlO o6)/\S'=S++[(aG lo hi_ (ahead.take j)).map dC],⟨⟨_,_,rfl,n5,n6⟩,rfl⟩,?_,?_⟩
  . rintro j e Γ' S' he ⟨⟨o5,o6,rfl,n5,n6⟩,rfl⟩
    obtain⟨cs,e1,rfl⟩:=bf he
    have hcs:=hah cs (y6 e1)
    have b1:=ig hlo hcs
    have b2:=ig hhi hcs
    have h64:∀c∈cs,-(2 ^ 64)<c/\c<2 ^ 64:=λ c hc=>by have:=hcs.2 c hc;omega
    walk_at "b"
    refine⟨rfl,lo.1,lo.2,cs,rfl,by have:=hlo.2.2.1;omega,h64,?_⟩
    walk_at "b"
    refine⟨rfl,hi_.1,hi_.2,cs,rfl,by have:=hhi.2.2.1;omega,h64,?_⟩
    walk_at "b"
    refine⟨⟨b1.1,b1.2,b2.1,b2.2⟩,aL ⟨λ m Γ' S'=>(∃o6,Γ'=[some x,some (.lst (ahead.map dC)),some (dF lo),some (dF hi_),some (.loc S.length),some (dC cs),o6]/\nlO o6)/\S'=S++[(aG lo hi_ (ahead.take j)++(bj lo hi_ cs).take m).map dC],⟨⟨_,rfl,n6⟩,by simp⟩,?_,?_⟩⟩
    . rintro m e Γ' S' he ⟨⟨o6,rfl,n6⟩,rfl⟩
      obtain⟨hj,rfl⟩:=aM he
      have hj':m<(bj lo hi_ cs).length:=by rw[cC];exact hj
      have lf:=xV (lo:=lo) (hi:=hi_) e1
      walk_at "b"
      refine⟨by simp;have:=hcs.1;omega,_,gU _ _,by simp;omega,?_⟩
      refine⟨⟨_,rfl,Og _⟩,?_⟩
      rw[gP]
      have e3:(bj lo hi_ cs)[m]? =some (cs++[atC lo cs+(m:Int)]):=by
       unfold bj
       rw[y9,Ek (by rw[cC]at hj';exact hj')];rfl
      have e4:dC (cs++[atC lo cs+(m:Int)])=D.tup (cs.map D.int++[D.int (comesTo lo.1 lo.2 cs+(m:Int))]):=by
       unfold dC;rw[List.map_append];rfl
      rw[aJ e3,←List.append_assoc,List.map_append (l₂:=[_]),List.map_singleton,e4]
    . rintro Γ' S' ⟨⟨o6,rfl,n6⟩,rfl⟩
      refine⟨⟨_,_,rfl,Ql _,n6⟩,?_⟩
      have e5:(bj lo hi_ cs).take (DL.upTo (comesTo lo.1 lo.2 cs) (comesTo hi_.1 hi_.2 cs-comesTo lo.1 lo.2 cs).toNat).length=bj lo hi_ cs:=by
       rw[au];exact List.take_of_length_le (by rw[cC];exact x5 _)
      rw[e5,gq e1]
  . rintro Γ' S' ⟨⟨o5,o6,rfl,n5,n6⟩,rfl⟩
    rw[y8,List.take_length]
    walk_at "b"
    refine .inr ⟨_,_,rfl,x5 _,lM _,hS,?_,?_⟩
    . intro y d hy
      match y,hy with
      | 0,hy=>cases hy;rcases hx with hx | ⟨j,rfl,_⟩;exact .inl hx;exact .inr ⟨_,rfl⟩
      | 1,hy=>cases hy;exact .inr ⟨_,rfl⟩
      | 2,hy=>cases hy;exact .inl (gB _)
      | 3,hy=>cases hy;exact .inl (gB _)
      | 4,hy=>cases hy;exact .inr ⟨_,rfl⟩
      | 5,hy=>exact .inl (n5 d (by simpa using hy))
      | 6,hy=>exact .inl (n6 d (by simpa using hy))
      | y+7,hy=>simp at hy
    . have e:∀Γ:Gam,Γ=[some x,some (.loc S.length),some (dF lo),some (dF hi_),some (.loc S.length),o5,o6]->Γ.map (iD S.length ((aG lo hi_ ahead).map dC))=[some x,some (.lst ((aG lo hi_ ahead).map dC)),some (dF lo),some (dF hi_),some (.lst ((aG lo hi_ ahead).map dC)),o5,o6]:=by
       rintro Γ rfl
       have e1:iD S.length ((aG lo hi_ ahead).map dC) (some (.loc S.length))=some (.lst ((aG lo hi_ ahead).map dC)):=by simp[iD]
       simp only[List.map_cons,List.map_nil,JC hx,uL n5,uL n6,e1]
       rfl
      simp only[List.set_cons_succ,List.set_cons_zero]
      rw[e _ rfl]
      exact hnx _ _ _ _ _ n5 n6
 rcases hx with rfl | ⟨k,rfl,hk⟩
 . walk_at "b"
   refine aL ⟨λ i Γ' S'=>(∃o2 o3 o4 o5 o6,Γ'=[some (.tup (ls.map dL)),some (.lst ((cnt (ls.take i)).map dC)),o2,o3,o4,o5,o6]/\nlO o5/\nlO o6)/\S'=S,⟨⟨_,_,_,_,_,rfl,jG,jG⟩,rfl⟩,?_,?_⟩
   . rintro i e Γ' S' he ⟨⟨o2,o3,o4,o5,o6,rfl,n5,n6⟩,rfl⟩
     obtain⟨l,hli,rfl⟩:=bf he
     exact turn _ (.inl (show ak (.tup (ls.map dL))=true from fD ls)) i l hli o2 o3 o4 o5 o6 n5 n6 _ λ a b c d e h1 h2=>⟨⟨a,b,c,d,e,rfl,h1,h2⟩,rfl⟩
   . rintro Γ' S' ⟨⟨o2,o3,o4,o5,o6,rfl,n5,n6⟩,rfl⟩
     rw[y8,List.take_length]
     walk_at "b"
     rw[y8]
     exact hw
 . have hlt:=(y3.mp hk).1
   walk_at "b"
   refine⟨_,hk,Ej ⟨λ i Γ' S'=>(∃o2 o3 o4 o5 o6,Γ'=[some (.loc k),some (.lst ((cnt (ls.take i)).map dC)),o2,o3,o4,o5,o6]/\nlO o5/\nlO o6)/\S'=S,⟨⟨_,_,_,_,_,rfl,jG,jG⟩,rfl⟩,?_,?_,?_⟩⟩
   . rintro i Γ' S' ⟨_,rfl⟩
     exact hk
   . rintro i e Γ' S' he ⟨⟨o2,o3,o4,o5,o6,rfl,n5,n6⟩,rfl⟩
     obtain⟨l,hli,rfl⟩:=bf he
     exact turn _ (.inr ⟨k,rfl,hlt⟩) i l hli o2 o3 o4 o5 o6 n5 n6 _ λ a b c d e h1 h2=>⟨⟨a,b,c,d,e,rfl,h1,h2⟩,rfl⟩
   . rintro Γ' S' ⟨⟨o2,o3,o4,o5,o6,rfl,n5,n6⟩,rfl⟩
     rw[y8,List.take_length]
     walk_at "b"
     rw[y8]
     exact hw
section
variable {Ω : Wd} {cap : List (Option Nat)} {Γ : Gam} {elt : Ex Ω} {tg : Tg} {W : WD} {ds : List D} {S1 : Store}
theorem iV(P:D->Prop)(Q:Nat->Store->Prop)(hz:ds.length≤1000000)(q0:Q 0 S1)(h:∀(i:Nat)(d:D)(S':Store),ds[i]? =some d->Q i S'->∀R:WD,(∀y S4,P y->Q (i+1) S4->R y S4)->tg.wp d (capt cap Γ) λ Γ2=>elt.wp Γ2 S' R)
 (w:∀(ys:List D)(S':Store),ys.length=ds.length->(∀y∈ys,P y)->Q ds.length S'->W (.lst ys) S'):mG cap Γ elt tg (Cd.no (Ω:=Ω)) W ds S1:=by
 refine fK ⟨hz,λ i acc S'=>(acc.length=i/\∀y∈acc,P y)/\Q i S',⟨⟨rfl,λ y e=>by cases e⟩,q0⟩,?_,λ acc S' h=>w acc S' h.1.1 h.1.2 h.2⟩
 rintro i d acc S' hd ⟨⟨hl,ha⟩,q⟩
 refine Tg.mono (h i d S' hd q (λ y S4=>((acc++[y]).length=i+1/\∀y'∈(acc++[y]),P y')/\Q (i+1) S4) λ y S4 hy q4=>⟨⟨by simp[hl],λ y' e=>?_⟩,q4⟩) λ G q=>⟨λ _=>q,λ z=>tf z⟩
 rcases List.mem_append.mp e with e | e
 . exact ha y' e
 . rw[List.mem_singleton.mp e];exact hy
end
theorem gA{P:Int->Prop}:∀{ys:List D},(∀y∈ys,∃n:Int,y=D.int n/\P n)->∃fs:List Int,ys=fs.map D.int/\∀n∈fs,P n
 | [],_=>⟨[],rfl,by simp⟩
 | y::ys,h=>by
   obtain⟨n,rfl,hn⟩:=h y x9
   obtain⟨fs,rfl,hf⟩:=gA (ys:=ys) λ y h'=>h y (x6 _ h')
   exact⟨n::fs,rfl,by
    intro m hm
    rcases List.mem_cons.mp hm with rfl | hm
    . exact hn
    . exact hf m hm⟩
theorem lX{S:Store}{n:Nat}(h:n=S.length):(S++[l])[n]? =some l:=by subst h;exact gU _ _
theorem zB{S:Store}{l':List D}{n:Nat}(h:n=S.length):(S++[l]).set n l'=S++[l']:=by subst h;exact gP _ _ _
theorem at1{S:Store}{a:List D}{n:Nat}(h:n=S.length):(S++a::J)[n]? =some a:=by subst h;simp
theorem rH{S:Store}{a b:List D}{n:Nat}(h:n=S.length):(S++a::J).set n b=S++b::J:=by subst h;simp
theorem at2{S:Store}{a c:List D}{n:Nat}(h:n=(S++a::J).length):(S++a::(J++[c]))[n]? =some c:=by
 have e:S++a::(J++[c])=(S++a::J)++[c]:=by simp
 rw[e,h];exact gU _ _
theorem put2{S:Store}{a b c:List D}{n:Nat}(h:n=(S++a::J).length):(S++a::(J++[c])).set n b=S++a::(J++[b]):=by
 have e:∀c,S++a::(J++[c])=(S++a::J)++[c]:=λ c=>by simp
 rw[e,e,h];exact gP _ _ _
theorem Ds{n:Nat}(h:j<n):ixN n (j:Int)=some j:=by
 unfold ixN
 have h1:¬((j:Int)<0):=by omega
 simp[h1,h]
theorem Q9(a m:Int)(his:List Int)(j:Nat):((a::his).map D.int).set (j+1) (.int m)=(a::his.set j m).map D.int:=by simp[List.map_set]
def jq(ls:List Lp):Prop:=∀(i:Nat)(l:Lp),ls[i]? =some l->BdF l.1 i/\BdF l.2 i
theorem jq.snoc{ls:List Lp}{l:Lp}(h:jq ls)(b1:BdF l.1 ls.length)(b2:BdF l.2 ls.length):jq (ls++[l]):=by
 intro i l' hl
 by_cases hi:i<ls.length
 . rw[v3 hi]at hl
   exact h i l' hl
 . rw[List.getElem?_append_right (by omega)]at hl
   have:i-ls.length=0:=by
    have:=(y3.mp hl).1
    simp at this;omega
   rw[this]at hl
   cases hl
   have e:i=ls.length:=by omega
   rw[e]
   exact⟨b1,b2⟩
theorem jq.cut{ls:List Lp}(h:jq ls):jq ls.dropLast:=by
 intro i l hl
 refine h i l ?_
 rw[List.dropLast_eq_take,List.getElem?_take]at hl
 split at hl
 . exact hl
 . cases hl
def yj:Ct:=λ ds S W=>∃(k b:Nat),ds=[.loc k]/\aD S k b/\b≤1000/\flat S/\∀ls S' J,Lps ls->aF S k S'->aD S' k (b+20)->flat J->W (.loc S.length) (S'++ls.map dL::J)
theorem Ff(F:Fun Ω.K "_law_loops" "_law_loops" lr f fd)(N0:Ω.cd=none)(B:Bi Ω.mg)(Cq5:Cal Ω "_law_next" 2 2 bW):Ok Ω 3 f fd Hq yj:=by
 refine az N0 (N:=Hz) F (Hm B Cq5) (by kernel_rfl!) ?_
 rintro ds S W ⟨k,b,rfl,hp,hb,hS,hw⟩ hl
 walk_at "b"
 refine aW (R:=[[]]) hp (by omega) (by decide) (by decide) λ v S1 v0 v1 u1 p1=>?_
 walk_at "b"
 refine⟨⟨by omega,by omega⟩,aL ⟨λ i Γ' T=>∃(S':Store) (ls:List Lp) (J:Store) (o2 o3 o4 o5:Option D),Γ'=[some (.loc k),some (.loc S.length),o2,o3,o4,o5]/\T=S'++ls.map dL::J/\ls.length=i/\jq ls/\aF S k S'/\aD S' k (b+1+6*i)/\flat J,⟨S1,[],[],_,_,_,_,rfl,rfl,rfl,λ i l h=>by simp at h,u1,p1,λ l h=>by cases h⟩,?_,?_⟩⟩
 . rintro i e Γ' T he ⟨S2,ls,J,o2,o3,o4,o5,rfl,rfl,hln,hI,u2,p2,hJ⟩
   obtain⟨hi,rfl⟩:=aM he
   have hi3:i≤2:=by omega
   have ez:(0:Int)+(i:Int)=(i:Int):=by omega
   rw[ez]
   walk_at "b"
   refine aW p2 (by omega) (by decide) (by decide) λ x S3 x0 x1 u3 p3=>?_
   have u3:=u2.trans u3
   walk_at "b"
   refine⟨⟨by omega,by omega⟩,iV (λ y=>∃n:Int,y=.int n/\(-2≤n/\n≤2)) (λ j T=>∃S',T=S'++ls.map dL::J/\aF S k S'/\aD S' k (b+1+6*i+1+j)) (by rw[au];omega) ⟨S3,rfl,u3,p3⟩ ?_ ?_⟩
   . rintro j d T hd ⟨S4,rfl,u4,p4⟩ R hR
     have hj:=(aM hd).1
     walk_at "b"
     refine aW p4 (by omega) (by decide) (by decide) λ y S5 y0 y1 u5 p5=>?_
     obtain⟨e,a1,a2⟩:=fV (ds:=[D.int 0,.int 0,.int 1,.int (-1)]) (v:=y) y0 y1
     have he:=y6 a2
     walk_at "b"
     refine⟨_,a1,?_⟩
     obtain⟨t,rfl,t1,t2⟩:∃h:Int,e=.int h/\ -2≤h/\h≤2:=by
      clear a1 a2
      simp only[List.mem_cons,List.not_mem_nil,or_false]at he
      rcases he with rfl | rfl | rfl | rfl<;>exact⟨_,rfl,by decide,by decide⟩
     exact hR _ _ ⟨_,rfl,t1,t2⟩ ⟨S5,rfl,u4.trans u5,p5⟩
   rintro ys T hyl hys ⟨S4,rfl,u4,p4⟩
   obtain⟨los,rfl,hlos⟩:=gA hys
   rw[au,y8]at hyl
   rw[au]at p4
   have hyl:los.length=i:=by omega
   have p4:=p4.mono (b':=b+1+6*i+1+i) (by omega)
   clear hys
   walk_at "b"
   refine⟨_,_,rfl,rfl,by simp;omega,?_⟩
   have ec:[D.int (x-2)]++los.map D.int=((x-2)::los).map D.int:=rfl
   have ea:∀L,(S4++ls.map dL::J)++[L]=S4++ls.map dL::(J++[L]):=λ L=>by simp
   have en:∀S',aF S k S'->S'.length=S.length:=λ S' u=>u.len
   have n4:(S4++ls.map dL::J).length=S.length+1+J.length:=by simp[en S4 u4];omega
   have nn:∀S',aF S k S'->S.length+1+J.length=(S'++ls.map dL::J).length:=λ S' u=>by simp[en S' u];omega
   walk_at "b"
   rw[ec,ea,n4]
   walk_at "b"
   refine⟨_,jA _ _,?_⟩
   walk_at "b"
   refine aW p4 (by omega) (by decide) (by decide) λ y S5 y0 y1 u5 p5=>?_
   have u5:=u4.trans u5
   walk_at "b"
   have pk:∀d∈[D.int 2,.int 1,.int 3,.int 4,.int 2,.int 3,.int 0],∃h:Int,d=.int h/\0≤h/\h≤4:=by
    intro d hd
    simp only[List.mem_cons,List.not_mem_nil,or_false]at hd
    rcases hd with rfl | rfl | rfl | rfl | rfl | rfl | rfl<;>exact⟨_,rfl,by decide,by decide⟩
   obtain⟨d,a1,a2⟩:=fV (ds:=[D.int 2,.int 1,.int 3,.int 4,.int 2,.int 3,.int 0]) (v:=y) y0 y1
   obtain⟨h,rfl,h0,h4⟩:=pk d (y6 a2)
   refine⟨_,a1,?_⟩
   walk_at "b"
   refine⟨_,_,at2 (nn S5 u5),Ds (j:=0) (by simp),?_⟩
   rw[put2 (nn S5 u5)]
   walk_at "b"
   refine⟨⟨by decide,by decide,by omega,by omega⟩,aL ⟨λ j Γ' T=>∃(S':Store) (his:List Int) (o5:Option D),Γ'=[some (.loc k),some (.loc S.length),some (.int i),some (.lst (((x-2)::los).map D.int)),some (.loc (S.length+1+J.length)),o5]/\T=S'++ls.map dL::(J++[((x-2+h)::his).map D.int])/\aF S k S'/\aD S' k (b+1+6*i+1+i+1+j)/\his.length=i/\∀n∈his,-2≤n/\n≤2,⟨S5,los,_,rfl,rfl,u5,p5,hyl,hlos⟩,?_,?_⟩⟩
   . rintro j d Γ' T hd ⟨S6,his,o5,rfl,rfl,u6,p6,hhl,hhs⟩
     obtain⟨hj,rfl⟩:=aM hd
     have hj':j<i:=by omega
     walk_at "b"
     have gh:(((x-2+h)::his).map D.int)[j+1]? =some (.int his[j]):=by
      rw[y9,List.getElem?_cons_succ,y4 (by omega)];rfl
     have gb:=hhs his[j] (List.getElem_mem _)
     have ej:(1:Int)+(j:Int)=((j+1:Nat):Int):=by omega
     rw[ej]
     refine⟨_,_,at2 (nn S6 u6),dZ gh,?_⟩
     walk_at "b"
     refine aW p6 (by omega) (by decide) (by decide) λ z S7 z0 z1 u7 p7=>?_
     have u7:=u6.trans u7
     walk_at "b"
     have pk:∀d∈[D.int 0,.int 0,.int 1,.int (-1),.int 0,.int 0],∃h:Int,d=.int h:=by
      intro d hd
      simp only[List.mem_cons,List.not_mem_nil,or_false]at hd
      rcases hd with rfl | rfl | rfl | rfl | rfl | rfl<;>exact⟨_,rfl⟩
     obtain⟨d,a1,a2⟩:=fV (ds:=[D.int 0,.int 0,.int 1,.int (-1),.int 0,.int 0]) (v:=z) z0 z1
     obtain⟨w,rfl⟩:=pk d (y6 a2)
     refine⟨_,a1,?_⟩
     walk_at "b"
     refine⟨_,_,at2 (nn S7 u7),Ds (j:=j+1) (by simp;omega),?_⟩
     rw[put2 (nn S7 u7),Q9]
     refine⟨S7,_,_,rfl,rfl,u7,p7,by rw[List.length_set];exact hhl,λ n hn=>?_⟩
     rcases List.mem_or_eq_of_mem_set hn with hn | rfl
     . exact hhs n hn
     . constructor<;>(repeat' split)<;>omega
   . rintro Γ' T ⟨S6,his,o5,rfl,rfl,u6,p6,hhl,hhs⟩
     rw[au]at p6
     walk_at "b"
     refine⟨_,at2 (nn S6 u6),?_⟩
     walk_at "b"
     refine⟨_,at1 (en S6 u6).symm,by simp;omega,?_⟩
     walk_at "b"
     rw[rH (en S6 u6).symm]
     refine⟨S6,ls++[((x-2,los),(x-2+h,his))],J++[((x-2+h)::his).map D.int],_,_,_,_,rfl,?_,by simp[hln],hI.snoc ⟨by rw[hln];exact hyl,by show-9≤x-2;omega,by show x-2≤9;omega,hlos⟩ ⟨by rw[hln];exact hhl,by show-9≤x-2+h;omega,by show x-2+h≤9;omega,hhs⟩,u6,p6.mono (by omega),λ l hl=>?_⟩
     . rw[List.map_append];rfl
     . rcases List.mem_append.mp hl with hl | hl
       . exact hJ l hl
       . rw[List.mem_singleton.mp hl];exact bD _
 . rintro Γ' T ⟨S6,ls,J,o2,o3,o4,o5,rfl,rfl,hln,hI,u6,p6,hJ⟩
   rw[au]at hln p6
   walk_at "b"
   exact hw ls S6 J ⟨by omega,by omega,hI⟩ u6 (p6.mono (by omega)) hJ
def Qn(ns:List Int):Prop:=∀n∈ns,-99≤n/\n≤99
def FmB(d:Nat)(w:Int)(f:Fm):Prop:=f.2.length=d/\Qn f.2/\((-w≤f.1/\f.1≤w)∨(w=1/\ -99≤f.1/\f.1≤99))
def TpB(ws:List Int)(d t:Nat)(pl:List Fm):Prop:=∃w,ws[t]? =some w/\(pl.length:Int)=w/\∀f∈pl,FmB d 1 f
def RdB(ws:List Int)(d:Nat)(r:Rd):Prop:= -1000000000000000000000000000000<r.fac/\r.fac<1000000000000000000000000000000/\TpB ws d r.tab r.pl
def StB(d:Nat)(f:Fm):Prop:=f.2.length=d/\Qn f.2/\ -1000000000000000000000000000000<f.1/\f.1<1000000000000000000000000000000
def DdB(ws:List Int)(d:Nat)(x:Dd):Prop:=TpB ws d x.tab x.pl/\StB d x.st/\x.rds.length≤3/\∀r∈x.rds,RdB ws d r
def WsB(ws:List Int):Prop:=1≤ws.length/\ws.length≤3/\∀w∈ws,1≤w/\w≤2
theorem Li{t:Int}(hw:WsB ws)(h0:0≤t)(h1:t<(ws.map D.int).length):∃w:Int,atI (ws.map D.int) t=some (.int w)/\ws[t.toNat]? =some w/\1≤w/\w≤2:=by
 obtain⟨x,a,b⟩:=fV h0 h1
 rw[y9]at b
 cases e:ws[t.toNat]? with
 | none=>rw[e]at b;cases b
 | some w=>rw[e]at b;cases b;exact⟨w,a,rfl,hw.2.2 w (y6 e)⟩
theorem kJ(pl:List Fm):ak (dP pl)=true:=by
 show aj (pl.map dF)=true
 induction pl with
 | nil=>rfl
 | cons y ys ih=>simp only[List.map_cons,aj,ih,gB,Bool.and_true]
theorem qC(rs:List Rd):aj (rs.map dRd)=true:=by
 induction rs with
 | nil=>rfl
 | cons y ys ih=>
   simp only[List.map_cons,aj,ih,Bool.and_true]
   show aj [D.int _,D.int _,dP y.pl]=true
   simp only[aj,kJ,Bool.and_true];rfl
theorem vo(x:Dd):ak (dDd x)=true:=by
 show aj [D.int _,dP x.pl,dF x.st,.tup (x.rds.map dRd)]=true
 have:ak (.tup (x.rds.map dRd))=true:=qC x.rds
 simp only[aj,kJ,gB,this,Bool.and_true];rfl
theorem Tf:(10:Int) ^ (30:Int).toNat=1000000000000000000000000000000:=by decide
def zb:Ct:=λ ds S W=>∃(k b n:Nat) (w:Int),ds=[.loc k,.int w,.int n]/\aD S k b/\b≤100000/\n≤3/\1≤w/\w≤2/\flat S/\∀(p:List Fm) S',(p.length:Int)=w->(∀f∈p,FmB n 1 f)->aF S k S'->aD S' k (b+8)->W (dP p) S'
theorem FQ(F:Fun Ω.K "_law_place" "_law_place" lL f fd)(N0:Ω.cd=none)(B:Bi Ω.mg)(Cq5:Cal Ω "_law_next" 2 2 bW):Ok Ω 3 f fd Ip zb:=by
 refine az N0 (N:=Jx) F (Bl.drp (Jq B Cq5)) (by kernel_rfl!) ?_
 rintro ds S W ⟨k,b,n,w,rfl,hp,hb,hn,hw1,hw2,hS,hw⟩ hl
 walk_at "b"
 refine⟨⟨by omega,by omega⟩,aL ⟨λ i Γ' T=>∃(S':Store) (p:List Fm) (o4 o5:Option D),Γ'=[some (.loc k),some (.int w),some (.int n),some (.loc S.length),o4,o5]/\T=S'++[p.map dF]/\p.length=i/\(∀f∈p,FmB n 1 f)/\aF S k S'/\aD S' k (b+4*i),⟨S,[],_,_,rfl,rfl,rfl,(λ f h=>by cases h),aF.refl hp,hp⟩,?_,?_⟩⟩
 . rintro i e Γ' T he ⟨S2,p,o4,o5,rfl,rfl,hpl,hpf,u2,p2⟩
   obtain⟨hi,rfl⟩:=aM he
   have hi:i<2:=by omega
   have en:∀S',aF S k S'->S.length=S'.length:=λ S' u=>u.len.symm
   walk_at "b"
   refine⟨⟨by omega,by omega⟩,iV (λ y=>∃n:Int,y=.int n/\(-99≤n/\n≤99)) (λ j T=>∃S',T=S'++[p.map dF]/\aF S k S'/\aD S' k (b+4*i+j)) (by rw[au];omega) ⟨S2,rfl,u2,p2⟩ ?_ ?_⟩
   . rintro j d T hd ⟨S6,rfl,u6,p6⟩ R hR
     have hj:=(aM hd).1
     walk_at "b"
     refine aW p6 (by omega) (by decide) (by decide) λ y S7 y0 y1 u7 p7=>?_
     obtain⟨e,a1,a2⟩:=fV (ds:=[D.int 0,.int 1,.int 0,.int (-1),.int 1,.int 2]) (v:=y) y0 y1
     have he:=y6 a2
     walk_at "b"
     refine⟨_,a1,?_⟩
     obtain⟨t,rfl,t1,t2⟩:∃h:Int,e=.int h/\ -99≤h/\h≤99:=by
      clear a1 a2
      simp only[List.mem_cons,List.not_mem_nil,or_false]at he
      rcases he with rfl | rfl | rfl | rfl | rfl | rfl<;>exact⟨_,rfl,by decide,by decide⟩
     exact hR _ _ ⟨_,rfl,t1,t2⟩ ⟨S7,rfl,u6.trans u7,p7⟩
   rintro ys T hyl hys ⟨S6,rfl,u6,p6⟩
   obtain⟨fs,rfl,hfb⟩:=gA hys
   rw[au,y8]at hyl
   rw[au]at p6
   have hyl:fs.length=n:=by omega
   walk_at "b"
   refine aW p6 (by omega) (by decide) (by decide) λ x S7 x0 x1 u7 p7=>?_
   have u7:=u6.trans u7
   walk_at "b"
   refine⟨_,_,rfl,rfl,by simp;omega,?_⟩
   walk_at "b"
   refine⟨_,lX (en S7 u7),by simp;omega,?_⟩
   rw[zB (en S7 u7)]
   walk_at "b"
   refine⟨S7,p++[(x-2,fs)],_,_,rfl,?_,by simp[hpl],λ g hg=>?_,u7,p7.mono (by omega)⟩
   . rw[List.map_append];rfl
   . rcases List.mem_append.mp hg with hg | hg
     . exact hpf g hg
     . rw[List.mem_singleton.mp hg];exact⟨hyl,hfb,.inr ⟨rfl,by show-99≤x-2;omega,by show x-2≤99;omega⟩⟩
 . rintro Γ' T ⟨S2,p,o4,o5,rfl,rfl,hpl,hpf,u2,p2⟩
   rw[au]at hpl p2
   walk_at "b"
   refine⟨_,lX u2.len.symm,?_⟩
   exact .inr ⟨_,S2,rfl,by rw[u2.len];exact x5 _,kJ p,u2.flat hS,hw p S2 (by omega) hpf u2 (p2.mono (by omega))⟩
def DR:Ct:=λ ds S W=>∃(k b d:Nat) (ws:List Int),ds=[.loc k,dWs ws,.int d]/\aD S k b/\b≤10000/\flat S/\d≤3/\WsB ws/\∀x S',DdB ws d x->aF S k S'->aD S' k (b+50)->W (dDd x) S'
theorem Qt{S:Store}(h:flat S)(hl:aj l=true):flat (S++[l]):=λ x hx=>by
 rcases List.mem_append.mp hx with hx | hx
 . exact h x hx
 . rw[List.mem_singleton.mp hx];exact hl
theorem G3(F:Fun Ω.K "_law_deed" "_law_deed" pF f fd)(N0:Ω.cd=none)(B:Bi Ω.mg)(Cq5:Cal Ω "_law_next" 2 2 bW)(Cq8:Cal Ω "_law_place" 3 3 zb):Ok Ω 4 f fd Kp DR:=by
 refine az N0 (N:=Kq) F (Bl.drp (KJ B Cq5 Cq8)) (by kernel_rfl!) ?_
 rintro ds S W ⟨k,b,d,ws,rfl,hp,hb,hS,hd,hws,hw⟩ hl
 obtain⟨hw1,hw2,hw3⟩:=id hws
 have hlen:((ws.map D.int).length:Int)=(ws.length:Int):=by rw[y8]
 walk_at "b"
 refine dM hp (by omega) (by rw[hlen];omega) (by rw[hlen];omega) λ t S1 t0 t1 u1 p1=>?_
 obtain⟨w,g1,g2,gw1,gw2⟩:=Li hws t0 t1
 obtain⟨tn,rfl⟩:∃tn:Nat,t=(tn:Int):=⟨t.toNat,by omega⟩
 walk_at "b"
 refine⟨_,g1,?_⟩
 walk_at "b"
 refine⟨rfl,k,_,d,w,rfl,p1,by omega,hd,gw1,gw2,u1.flat hS,λ pl S2 hpl hpf u2 p2=>?_⟩
 have u2:=u1.trans u2
 walk_at "b"
 refine dM p2 (by omega) (by decide) (by decide) λ sx Sa sx0 sx1 ua pa=>?_
 have ua:=u2.trans ua
 walk_at "b"
 refine⟨⟨by omega,by omega⟩,iV (λ y=>∃n:Int,y=.int n/\(-99≤n/\n≤99)) (λ j T=>aF S k T/\aD T k (b+10+j)) (by rw[au];omega) ⟨ua,pa.mono (by omega)⟩ ?_ ?_⟩
 . rintro j e T he ⟨u6,p6⟩ R hR
   have hj:=(aM he).1
   walk_at "b"
   refine dM p6 (by omega) (by decide) (by decide) λ y S7 y0 y1 u7 p7=>?_
   walk_at "b"
   exact hR _ _ ⟨_,rfl,by omega,by omega⟩ ⟨u6.trans u7,p7⟩
 rintro ys Sb hyl hys ⟨ub,pb⟩
 obtain⟨fs,rfl,hfb⟩:=gA hys
 rw[au,y8]at hyl
 rw[au]at pb
 have hfl:fs.length=d:=by omega
 have pb:=pb.mono (b':=b+13) (by omega)
 have hst:StB d (sx-3,fs):=⟨hfl,hfb,by show _<sx-3;omega,by show sx-3<_;omega⟩
 walk_at "b"
 refine⟨_,_,rfl,rfl,by simp;omega,?_⟩
 walk_at "b"
 refine aW (R:=[[]]) pb (by omega) (by decide) (by decide) λ n S3 n0 n1 u3 p3=>?_
 have u3:=ub.trans u3
 walk_at "b"
 refine⟨⟨by omega,by omega⟩,aL ⟨λ i Γ' T=>∃(S':Store) (rds:List Rd) (o6 o7:Option D),Γ'=[some (.loc k),some (dWs ws),some (.int d),some (.int tn),some (dP pl),some (dF (sx-3,fs)),some (.loc S.length),o6,o7]/\T=S'++[rds.map dRd]/\rds.length=i/\(∀r∈rds,RdB ws d r)/\aF S k S'/\aD S' k (b+15+11*i),⟨S3,[],none,none,by rw[←ub.len];rfl,rfl,rfl,(λ r h=>by cases h),u3,p3.mono (by omega)⟩,?_,?_⟩⟩
 . rintro i e Γ' T he ⟨S4,rds,o6,o7,rfl,rfl,hrl,hrd,u4,p4⟩
   obtain⟨hi,rfl⟩:=aM he
   have hi:i<3:=by omega
   have en:∀S',aF S k S'->S.length=S'.length:=λ S' u=>u.len.symm
   walk_at "b"
   refine aW p4 (by omega) (by rw[hlen];omega) (by rw[hlen];omega) λ o S5 o0 o1 u5 p5=>?_
   have u5:=u4.trans u5
   obtain⟨w',g1',g2',gw1',gw2'⟩:=Li hws o0 o1
   obtain⟨on,rfl⟩:∃on:Nat,o=(on:Int):=⟨o.toNat,by omega⟩
   walk_at "b"
   refine aW p5 (by omega) (by decide) (by decide) λ f S6 f0 f1 u6 p6=>?_
   have u6:=u5.trans u6
   walk_at "b"
   refine⟨_,g1',?_⟩
   walk_at "b"
   refine⟨rfl,k,_,d,w',rfl,p6.app _,by omega,hd,gw1',gw2',Qt (u6.flat hS) (qC _),λ pl' T7 hpl' hpf' u7 p7=>?_⟩
   obtain⟨S7,rfl,u7,p7⟩:=u7.split p6 p7
   have u7:=u6.trans u7
   walk_at "b"
   refine⟨_,lX (en S7 u7),by simp;omega,?_⟩
   rw[zB (en S7 u7)]
   refine⟨S7,rds++[⟨f-2,on,pl'⟩],_,_,rfl,by rw[List.map_append];rfl,by simp[hrl],λ r hr=>?_,u7,p7.mono (by omega)⟩
   rcases List.mem_append.mp hr with hr | hr
   . exact hrd r hr
   . rw[List.mem_singleton.mp hr]
     exact⟨by show _<f-2;omega,by show f-2<_;omega,w',by simpa using g2',hpl',hpf'⟩
 . rintro Γ' T ⟨S4,rds,o6,o7,rfl,rfl,hrl,hrd,u4,p4⟩
   rw[au]at hrl p4
   have en:S.length=S4.length:=u4.len.symm
   walk_at "b"
   refine⟨_,lX en,?_⟩
   walk_at "b"
   have ok:DdB ws d ⟨tn,pl,(sx-3,fs),rds⟩:=⟨⟨w,by simpa using g2,hpl,hpf⟩,hst,by show rds.length≤3;omega,hrd⟩
   exact .inr ⟨_,S4,rfl,by rw[u4.len];exact x5 _,vo ⟨tn,pl,(sx-3,fs),rds⟩,u4.flat hS,hw ⟨tn,pl,(sx-3,fs),rds⟩ S4 ok u4 (p4.mono (by omega))⟩
def NsB(ws:List Int)(m:Nat)(n:Ns):Prop:=Lps n.lps/\1≤n.dds.length/\n.dds.length≤4/\m=m/\∀x∈n.dds,DdB ws n.lps.length x
def PgB(m:Nat)(p:Pg):Prop:=WsB p.ws/\1≤p.nss.length/\p.nss.length≤3/\∀n∈p.nss,NsB p.ws m n
theorem Fz(xs:List Dd):aj (xs.map dDd)=true:=by
 induction xs with
 | nil=>rfl
 | cons y ys ih=>simp only[List.map_cons,aj,ih,vo,Bool.and_true]
theorem Ik(n:Ns):ak (dNs n)=true:=by
 show aj [.tup (n.lps.map dL),.tup (n.dds.map dDd)]=true
 have h1:ak (.tup (n.lps.map dL))=true:=fD _
 have h2:ak (.tup (n.dds.map dDd))=true:=Fz _
 simp only[aj,h1,h2,Bool.and_true]
theorem jo(xs:List Ns):aj (xs.map dNs)=true:=by
 induction xs with
 | nil=>rfl
 | cons y ys ih=>simp only[List.map_cons,aj,ih,Ik,Bool.and_true]
theorem IV(p:Pg):ak (dPg p)=true:=by
 show aj [dWs p.ws,.tup (p.nss.map dNs)]=true
 have h1:ak (dWs p.ws)=true:=bD _
 have h2:ak (.tup (p.nss.map dNs))=true:=jo _
 simp only[aj,h1,h2,Bool.and_true]
theorem all_map{α:Type}{enc:α->D}{q:D->Bool}{l:List α}(h:∀a∈l,q (enc a)=true):(l.map enc).all q=true:=by
 rw[List.all_eq_true]
 intro x hx
 obtain⟨a,ha,rfl⟩:=List.mem_map.mp hx
 exact h a ha
theorem eV{α:Type}{enc:α->D}{l:List α}{a b:Int}(h1:a≤(l.length:Int))(h2:(l.length:Int)≤b):aX (.tup (l.map enc)) a b=true:=by
 show(decide _&&decide _)=true
 rw[y8,decide_eq_true h1,decide_eq_true h2];rfl
theorem tO{f:Fm}(h:f.2.length=d):bV (dF f) (d:Int)=true:=by
 show(decide _&&((f.1::f.2).map D.int).all whole)=true
 rw[decide_eq_true (by simp;omega),all_map (λ _ _=>rfl)];rfl
theorem zp{a b n:Int}(h1:a≤n)(h2:n≤b):jH a b (.int n)=true:=by
 show(decide _&&decide _)=true
 rw[decide_eq_true h1,decide_eq_true h2];rfl
theorem La{f:Fm}(h:FmB d 1 f):isPlace (d:Int) (dF f)=true:=by
 obtain⟨h1,h2,h3⟩:=h
 show(bV (dF f) (d:Int)&&((f.1::f.2).map D.int).all (jH (-99) 99))=true
 rw[tO h1,all_map λ n hn=>?_]
 . rfl
 . rcases List.mem_cons.mp hn with rfl | hn
   . exact zp (by omega) (by omega)
   . exact zp (h2 n hn).1 (h2 n hn).2
theorem yF{n:Int}(h1: -1000000000000000000000000000000<n)(h2:n<1000000000000000000000000000000):oh n=true:=by
 unfold oh
 rw[Tf]
 exact decide_eq_true (by split<;>omega)
theorem Kf{f:Fm}(h:StB d f):isStart (dF f) (d:Int)=true:=by
 obtain⟨h1,h2,h3,h4⟩:=h
 show(bV (dF f) (d:Int)&&((f.1::f.2).map D.int).all rQ)=true
 rw[tO h1,all_map λ n hn=>?_]
 . rfl
 . rcases List.mem_cons.mp hn with rfl | hn
   . exact yF h3 h4
   . have:=h2 n hn
     exact yF (by omega) (by omega)
theorem LC{t:Nat}{pl:List Fm}(h:TpB ws d t pl):iJ (.int t) (dP pl) ws (d:Int)=true:=by
 obtain⟨w,hw,hl,hf⟩:=h
 have ht:=(y3.mp hw).1
 have e:ws.getD ((t:Int)).toNat 0=w:=by simp[List.getD,hw]
 show((decide _&&decide _)&&(aX (.tup (pl.map dF)) (ws.getD ((t:Int)).toNat 0) (ws.getD ((t:Int)).toNat 0)&&(pl.map dF).all (isPlace d)))=true
 rw[e,decide_eq_true (p:=(0:Int)≤t) (by omega),decide_eq_true (p:=(t:Int)<ws.length) (by omega),eV (by omega) (by omega),all_map λ f hf'=>La (hf f hf')];rfl
theorem Nu{x:Dd}(h:DdB ws d x):dB ws (d:Int) (dDd x)=true:=by
 obtain⟨h1,h2,h3,h4⟩:=h
 show(iJ (.int x.tab) (dP x.pl) ws d&&(isStart (dF x.st) d&&(aX (.tup (x.rds.map dRd)) 0 3&&(x.rds.map dRd).all (jg ws d))))=true
 rw[LC h1,Kf h2,eV (by omega) (by omega),all_map λ r hr=>?_]
 . rfl
 . obtain⟨a,b,c⟩:=h4 r hr
   show(oh r.fac&&iJ (.int r.tab) (dP r.pl) ws d)=true
   rw[yF a b,LC c];rfl
theorem yS{f:Fm}(h:BdF f i):bI (dF f) (i:Int)=true:=by
 obtain⟨h1,h2,h3,h4⟩:=h
 show(bV (dF f) (i:Int)&&(decide _&&(decide _&&(f.2.map D.int).all small)))=true
 rw[tO h1,decide_eq_true h2,decide_eq_true h3,all_map λ n hn=>?_]
 . rfl
 . have:=h4 n hn
   show(decide _&&decide _)=true
   rw[decide_eq_true this.1,decide_eq_true this.2];rfl
theorem JZ{ls:List Lp}(h:Lps ls):dO (.tup (ls.map dL))=true:=by
 obtain⟨h1,h2,h3⟩:=h
 show((decide _&&decide _)&&((ls.map dL).mapIdx λ i d=>fQ d i).all id)=true
 rw[y8,decide_eq_true (by omega),decide_eq_true (by omega),List.all_eq_true.mpr λ b hb=>?_]
 . rfl
 . obtain⟨i,hi⟩:=List.getElem?_of_mem hb
   rw[List.getElem?_mapIdx,y9]at hi
   cases e:ls[i]? with
   | none=>rw[e]at hi;cases hi
   | some l=>
     rw[e]at hi
     cases hi
     show(bI (dF l.1) i&&bI (dF l.2) i)=true
     rw[yS (h3 i l e).1,yS (h3 i l e).2];rfl
theorem Mp{n:Ns}(h:NsB ws m n):gm ws (dNs n)=true:=by
 obtain⟨h1,h2,h3,h4,h5⟩:=h
 show(dO (.tup (n.lps.map dL))&&(aX (.tup (n.dds.map dDd)) 1 4&&(n.dds.map dDd).all (dB ws ((n.lps.map dL).length:Int))))=true
 rw[JZ h1,eV (by omega) (by omega),y8,all_map λ x hx=>Nu (h5 x hx)];rfl
theorem PgB.widths{p:Pg}(h:PgB m p):gf (dWs p.ws)=true:=by
 obtain⟨⟨h1,h2,h3⟩,_⟩:=h
 show(aX (.tup (p.ws.map D.int)) 1 3&&(p.ws.map D.int).all (jH 1 2))=true
 rw[eV (by omega) (by omega),all_map λ w hw=>zp (h3 w hw).1 (h3 w hw).2];rfl
theorem PgB.nests{p:Pg}(h:PgB m p):lW (.tup (p.nss.map dNs)) p.ws=true:=by
 obtain⟨_,h1,h2,h3⟩:=h
 show(aX (.tup (p.nss.map dNs)) 1 3&&(p.nss.map dNs).all (gm p.ws))=true
 rw[eV (by omega) (by omega),all_map λ n hn=>Mp (h3 n hn)];rfl
theorem PgB.ok{p:Pg}(h:PgB m p):∀n∈p.nss,lE n:=λ n hn=>by
 obtain⟨h1,h2,h3,_⟩:=h.2.2.2 n hn
 exact⟨h1.1,h1.fits,by omega⟩
theorem TpB.pl{t:Nat}{pl:List Fm}(hW:WsB ws)(hd:d≤3)(h:TpB ws d t pl):Fg pl:=by
 obtain⟨w,hw,hl,hf⟩:=h
 have:=hW.2.2 w (y6 hw)
 exact⟨by omega,λ f hf'=>by rw[(hf f hf').1];omega⟩
theorem PgB.deeds{p:Pg}(h:PgB m p):∀n∈p.nss,lE n/\∀x∈n.dds,JS x:=λ n hn=>by
 refine⟨h.ok n hn,λ x hx=>?_⟩
 obtain⟨hL,_,_,_,hd⟩:=h.2.2.2 n hn
 obtain⟨h1,h2,h3,h4⟩:=hd x hx
 exact⟨h1.pl h.1 hL.2.1,by omega,λ r hr=>(h4 r hr).2.2.pl h.1 hL.2.1⟩
theorem Fb(i:Nat)(n:Ns):(cD i n).length=(cnt n.lps).length*n.dds.length:=by
 unfold cD
 generalize cnt n.lps=l
 induction l with
 | nil=>simp
 | cons c l ih=>rw[List.flatMap_cons,w9,ih,List.length_cons,Nat.succ_mul];simp[Nat.add_comm]
theorem pJ(nss:List Ns):((aN nss).length:Int)=many nss:=by
 have:∀i,i≤nss.length->((aN (nss.take i)).length:Int)=many (nss.take i):=by
  intro i
  induction i with
  | zero=>intro _;rfl
  | succ i ih=>
    intro hi
    have hl:=y4 (l:=nss) (i:=i) (by omega)
    rw[iz hl,w9,Int.natCast_add,ih (by omega),Fb,aJ hl]
    unfold many
    rw[List.map_append,List.sum_append]
    simp
 have:=this nss.length (x5 _)
 rw[List.take_length]at this
 exact this
theorem K9{p:Pg}{S:Store}{W:WD}(h:PgB 0 p)(h24:many p.nss≤60)(hS:flat S)(w:W (dPg p) S):yZ [dWs p.ws,.tup (p.nss.map dNs)] S W:=
 ⟨p,rfl,h.widths,h.nests,by have:=h.2.2.1;omega,h.ok,by omega,hS,w⟩
theorem vd{p:Pg}{S:Store}{W:WD}(h:PgB 0 p)(h24:many p.nss≤60)(hS:flat S)(w:W (.lst ((aN p.nss).map (dz p))) S):ik [dPg p] S W:=
 ⟨p,rfl,by have:=h.2.2.1;omega,h.deeds,by have:=pJ p.nss;omega,hS,w⟩
theorem cO{d:D}{Γ:Gam}{R:Gam->Prop}(h:R (Γ.set j (some d))):(Tg.nm j).wp d Γ R:=h
theorem DP{α:Type}{enc:α->D}{P:α->Prop}:∀{ys:List D},(∀y∈ys,∃a,y=enc a/\P a)->∃as,ys=List.map enc as/\∀a∈as,P a
 | [],_=>⟨[],rfl,by simp⟩
 | y::ys,h=>by
   obtain⟨a,rfl,ha⟩:=h y x9
   obtain⟨as,rfl,has⟩:=DP (enc:=enc) (P:=P) (ys:=ys) λ y h'=>h y (x6 _ h')
   exact⟨a::as,rfl,λ b hb=>(List.mem_cons.mp hb).elim (λ e=>e▸ha) (has b)⟩
theorem atJ{S:Store}{n:Nat}(h:n=S.length+1+j):(S++N::J)[n]? =J[j]?:=by
 subst h
 rw[List.getElem?_append_right (by omega),show S.length+1+j-S.length=j+1 from by omega,List.getElem?_cons_succ]
theorem Pb{S:Store}{n:Nat}(h:n=S.length+1+j):(S++N::J).set n x=S++N::J.set j x:=by
 subst h
 rw[List.set_append_right _ _ (by omega),show S.length+1+j-S.length=j+1 from by omega];rfl
theorem mH{S:Store}(hS:flat S)(hN:aj N=true)(hJ:flat J):flat (S++N::J):=λ l hl=>by
 rcases List.mem_append.mp hl with hl | hl
 . exact hS l hl
 . rcases List.mem_cons.mp hl with rfl | hl
   . exact hN
   . exact hJ l hl
theorem J2(h:flat J)(hx:aj x=true):flat (J.set j x):=λ l hl=>by
 rcases List.mem_or_eq_of_mem_set hl with hl | rfl
 . exact h l hl
 . exact hx
theorem Hv(nss:List Ns)(n:Ns):many (nss++[n])=many nss+((cnt n.lps).length:Int)*(n.dds.length:Int):=by
 unfold many
 rw[List.map_append,List.sum_append];simp
theorem KZ:(cnt [((0,[]),(0,[]))]).length=0:=by decide
theorem J8:Lps [((0,[]),(0,[]))]:=⟨by decide,by decide,λ i l h=>by
 match i,h with
 | 0,h=>cases h;exact⟨⟨rfl,by decide,by decide,λ n hn=>by cases hn⟩,⟨rfl,by decide,by decide,λ n hn=>by cases hn⟩⟩
 | i+1,h=>simp at h⟩
def DY:Ct:=λ ds S W=>∃(k b:Nat),ds=[.loc k]/\aD S k b/\b≤100/\flat S/\∀p S',PgB 0 p->many p.nss≤60->aF S k S'->aD S' k (b+1000)->W (dPg p) S'
def Mi(L:Int)(S:Store)(k b:Nat)(ws:List Int)(i:Nat)(Γ':Gam)(T:Store):Prop:=∃(S':Store) (nss:List Ns) (J:Store) (l:Int) (o4 o5 o6 o7:Option D),Γ'=[some (.loc k),some (dWs ws),some (.int l),some (.loc S.length),o4,o5,o6,o7]/\T=S'++nss.map dNs::J/\nss.length=i/\(∀n∈nss,NsB ws 0 n)/\many nss+l=L/\0≤l/\flat J/\aF S k S'/\aD S' k (b+6+230*i)
theorem zq(F:Fun Ω.K "_law_program" "_law_program" iG f fd)(N0:Ω.cd=none)(B:Bi Ω.mg)(Cq50:Cal Ω "program_of" 10 2 yZ)(Cq5:Cal Ω "_law_next" 2 2 bW)(Cq3:Cal Ω "_law_loops" 3 1 yj)(Cq1:Cal Ω "_law_count" 2 1 HW)(Cq2:Cal Ω "_law_deed" 4 3 DR):Ok Ω 11 f fd Bb DY:=by
 refine az N0 (N:=CT) F (Bl.drp (Cr B Cq50 Cq5 Cq3 Cq1 Cq2)) (by kernel_rfl!) ?_
 rintro ds S W ⟨k,b,rfl,hp,hb,hS,hw⟩ hl
 walk_at "b"
 refine dM hp (by omega) (by decide) (by decide) λ v S1 v0 v1 u1 p1=>?_
 walk_at "b"
 refine⟨⟨by omega,by omega⟩,iV (λ y=>∃n:Int,y=.int n/\(1≤n/\n≤2)) (λ j T=>aF S k T/\aD T k (b+1+j)) (by rw[au];omega) ⟨u1,p1⟩ ?_ ?_⟩
 . rintro j d T hd ⟨u,p⟩ R hR
   have hj:=(aM hd).1
   walk_at "b"
   refine dM p (by omega) (by decide) (by decide) λ w S2 w0 w1 u2 p2=>?_
   walk_at "b"
   exact hR _ _ ⟨_,rfl,by omega,by omega⟩ ⟨u.trans u2,p2⟩
 rintro ys S2 hyl hys ⟨u2,p2⟩
 obtain⟨ws,rfl,hws⟩:=gA hys
 rw[au,y8]at hyl
 rw[au]at p2
 have hW:WsB ws:=⟨by omega,by omega,hws⟩
 have p2:=p2.mono (b':=b+4) (by omega)
 walk_at "b"
 refine aW (R:=[[]]) p2 (by omega) (by decide) (by decide) λ mv S3 m0 m1 u3 p3=>?_
 have u3:=u2.trans u3
 walk_at "b"
 refine⟨⟨by omega,by omega⟩,aL ⟨Mi 24 S k b ws,⟨S3,[],[],24,none,none,none,none,by rw[←u2.len];rfl,rfl,rfl,(λ n h=>by cases h),by show many []+24=24;unfold many;simp,by decide,(λ l h=>by cases h),u3,p3.mono (by omega)⟩,?_,?_⟩⟩
 . rintro i e Γ' T he ⟨S4,nss,J,l,o4,o5,o6,o7,rfl,rfl,hnl,hns,hml,hl0,hJ,u4,p4⟩
   obtain⟨hi,rfl⟩:=aM he
   have hi:i<3:=by omega
   suffices body:∀Wf:DL.Fin,(∀G T,Mi 24 S k b ws (i+1) G T->Wf.nx G T)->(iT B Cq50 Cq5 Cq3 Cq1 Cq2).wp [some (.loc k),some (dWs ws),some (.int l),some (.loc S.length),some (.int (0+(i:Int))),o5,o6,o7] (S4++nss.map dNs::J) Wf by
    refine cO ?_
    simp only[List.set_cons_succ,List.set_cons_zero]
    exact body _ λ G T h=>h
   intro Wf hnx
   have nN:=jo nss
   walk_at "b"
   refine⟨rfl,k,_,rfl,p4.app _,by omega,mH (u4.flat hS) nN hJ,λ ls T5 J5 hL u5 p5 fJ5=>?_⟩
   obtain⟨S5,rfl,u5,p5⟩:=u5.split p4 p5
   have u5:=u4.trans u5
   have e1:(S5++nss.map dNs::J)++ls.map dL::J5=S5++nss.map dNs::(J++ls.map dL::J5):=by simp
   have e2:(S4++nss.map dNs::J).length=S.length+1+J.length:=by simp[u4.len];omega
   rw[e1,e2]
   walk_at "b"
   refine aW p5 (by omega) (by decide) (by decide) λ mv S6 m0 m1 u6 p6=>?_
   have u6:=u5.trans u6
   obtain⟨mn,hmn⟩:∃n:Nat,1+mv=(n:Int):=⟨(1+mv).toNat,by omega⟩
   have en:∀S',aF S k S'->S.length=S'.length:=λ S' u=>u.len.symm
   have rest:∀(q j':Nat)(ls':List Lp)(J':Store),q=S.length+1+j'->J'[j']? =some (ls'.map dL)->Lps ls'->((cnt ls').length:Int)*(mn:Int)≤l->flat J'->(gF B Cq50 Cq5 Cq3 Cq1 Cq2).wp [some (.loc k),some (dWs ws),some (.int l),some (.loc S.length),some (.int (0+(i:Int))),some (.loc q),some (.int mn),o7] (S6++nss.map dNs::J') Wf:=by
    intro q j' ls' J' hq hj' hL' hle fJ'
    have l3:=hL'.2.1
    have get:∀S',aF S k S'->(S'++nss.map dNs::J')[q]? =some (ls'.map dL):=λ S' u=>by rw[atJ (by rw[u.len];exact hq)];exact hj'
    walk_at "b"
    refine⟨rfl,_,ls',rfl,.inr ⟨_,rfl,get S6 u6⟩,hL',mH (u6.flat hS) nN fJ',?_⟩
    walk_at "b"
    refine⟨⟨by omega,by omega⟩,iV (λ y=>∃x,y=dDd x/\DdB ws ls'.length x) (λ j T=>∃S',T=S'++nss.map dNs::J'/\aF S k S'/\aD S' k (b+6+230*i+21+50*j)) (by rw[au];omega) ⟨S6,rfl,u6,p6.mono (by omega)⟩ ?_ ?_⟩
    . rintro j d T hd ⟨S7,rfl,u7,p7⟩ R hR
      have hj:=(aM hd).1
      walk_at "b"
      refine⟨_,get S7 u7,?_⟩
      walk_at "b"
      rw[y8]
      refine⟨rfl,k,_,ls'.length,ws,rfl,p7.app _,by omega,mH (u7.flat hS) nN fJ',l3,hW,λ x T8 hx u8 p8=>?_⟩
      obtain⟨S8,rfl,u8,p8⟩:=u8.split p7 p8
      exact hR _ _ ⟨x,rfl,hx⟩ ⟨S8,rfl,u7.trans u8,p8.mono (by omega)⟩
    rintro ys T hyl hys ⟨S7,rfl,u7,p7⟩
    obtain⟨dds,rfl,hdds⟩:=DP hys
    rw[au,y8]at hyl
    rw[au]at p7
    walk_at "b"
    refine⟨_,get S7 u7,?_⟩
    walk_at "b"
    refine⟨_,at1 (en S7 u7),by simp;omega,?_⟩
    rw[rH (en S7 u7)]
    refine hnx _ _ ⟨S7,nss++[⟨ls',dds⟩],J',l-((cnt ls').length:Int)*(mn:Int),_,_,_,_,rfl,by rw[List.map_append];rfl,by simp[hnl],λ n hn=>?_,?_,by omega,fJ',u7,p7.mono (by omega)⟩
    . rcases List.mem_append.mp hn with hn | hn
      . exact hns n hn
      . rw[List.mem_singleton.mp hn]
        exact⟨hL',by show 1≤dds.length;omega,by show dds.length≤4;omega,rfl,hdds⟩
    . rw[Hv]
      show many nss+((cnt ls').length:Int)*(dds.length:Int)+_=24
      rw[show(dds.length:Int)=(mn:Int)from by omega]
      omega
   walk_at "b"
   rw[hmn]
   refine yz ⟨λ m Γ' T=>∃(ls:List Lp) (J':Store),Γ'=[some (.loc k),some (dWs ws),some (.int l),some (.loc S.length),some (.int (0+(i:Int))),some (.loc (S.length+1+J.length)),some (.int mn),o7]/\T=S6++nss.map dNs::J'/\J'[J.length]? =some (ls.map dL)/\flat J'/\ls.length=m/\Lps ls,ls.length,⟨ls,_,rfl,rfl,by simp,?_,rfl,hL⟩,?_⟩
   . intro x hx
     rcases List.mem_append.mp hx with hx | hx
     . exact hJ x hx
     . rcases List.mem_cons.mp hx with rfl | hx
       . exact fD ls
       . exact fJ5 x hx
   clear hL e1 e2
   rintro m Γ' T ⟨ls,J',rfl,rfl,hj,fJ',hm,hL⟩
   have hq:∀S',aF S k S'->S.length+1+J.length=S'.length+1+J.length:=λ S' u=>by rw[u.len]
   have get:(S6++nss.map dNs::J')[S.length+1+J.length]? =some (ls.map dL):=by rw[atJ (hq S6 u6)];exact hj
   have out:(fO B Cq50 Cq5 Cq3 Cq1 Cq2).wp [some (.loc k),some (dWs ws),some (.int l),some (.loc S.length),some (.int (0+(i:Int))),some (.loc (S.length+1+J.length)),some (.int mn),o7] (S6++nss.map dNs::J') Wf:=by
    walk_at "b"
    refine⟨rfl,_,ls,rfl,.inr ⟨_,rfl,get⟩,hL,mH (u6.flat hS) nN fJ',?_⟩
    walk_at "b"
    refine⟨λ c=>?_,λ c=>rest _ J.length ls J' rfl hj hL (by have:=of_decide_eq_false c;omega) fJ'⟩
    walk_at "b"
    have e3:(S6++nss.map dNs::J').length=S.length+1+J'.length:=by simp[u6.len];omega
    have e4:(S6++nss.map dNs::J')++[[D.tup [.tup [.int 0],.tup [.int 0]]]]=S6++nss.map dNs::(J'++[[D.tup [.tup [.int 0],.tup [.int 0]]]]):=by simp
    rw[e3,e4]
    exact rest _ J'.length [((0,[]),(0,[]))] _ rfl (by simp;rfl) J8 (by rw[KZ];simp;omega) λ x hx=>by
     rcases List.mem_append.mp hx with hx | hx
     . exact fJ' x hx
     . rw[List.mem_singleton.mp hx];rfl
   walk_at "b"
   refine⟨_,get,?_⟩
   walk_at "b"
   refine⟨λ c=>?_,λ c=>⟨λ z=>ff z,λ _=>out⟩⟩
   have c:=of_decide_eq_true c
   rw[y8]at c
   walk_at "b"
   refine⟨rfl,_,ls,rfl,.inr ⟨_,rfl,get⟩,hL,mH (u6.flat hS) nN fJ',?_⟩
   walk_at "b"
   refine⟨λ _=>?_,λ _=>out⟩
   walk_at "b"
   obtain⟨x,hx⟩:∃x,ls[ls.length-1]? =some x:=⟨_,y4 (by omega)⟩
   refine⟨_,dL x,get,by rw[y8,y9,hx];rfl,?_⟩
   walk_at "b"
   have hcut:jq ls.dropLast:=jq.cut hL.2.2
   refine⟨m-1,by omega,ls.dropLast,J'.set J.length (ls.dropLast.map dL),rfl,?_,?_,J2 fJ' (fD _),by rw[List.length_dropLast];omega,⟨by rw[List.length_dropLast];omega,by rw[List.length_dropLast];have:=hL.2.1;omega,hcut⟩⟩
   . rw[Pb (hq S6 u6),List.map_dropLast]
   . rw[List.getElem?_set_self (y3.mp hj).1]
 . rintro Γ' T ⟨S4,nss,J,l,o4,o5,o6,o7,rfl,rfl,hnl,hns,hml,hl0,hJ,u4,p4⟩
   rw[au]at hnl p4
   have ok:PgB 0 ⟨ws,nss⟩:=⟨hW,by show 1≤nss.length;omega,by show nss.length≤3;omega,hns⟩
   have h24:many nss≤60:=by omega
   walk_at "b"
   refine⟨_,at1 u4.len.symm,?_⟩
   walk_at "b"
   refine⟨rfl,K9 (p:=⟨ws,nss⟩) ok h24 (mH (u4.flat hS) (jo nss) hJ) ?_⟩
   exact .inr ⟨_,S4,rfl,by rw[u4.len];exact x5 _,IV ⟨ws,nss⟩,u4.flat hS,hw ⟨ws,nss⟩ _ ok h24 u4 (p4.mono (by omega))⟩
def dCR(a:Cell×List Cell):D:=.tup [eF a.1,.lst (a.2.map eF)]
abbrev CR:=Cell×List Cell
def aK(p:Pg):List (Dd×List Int):=p.nss.flatMap λ n=>(cnt n.lps).flatMap λ cs=>n.dds.map λ x=>(x,cs)
def crs(x:Dd×List Int):Cell×List Cell:=(spot x.1.tab x.1.pl x.2,x.1.rds.map λ r=>spot r.tab r.pl x.2)
theorem M8(x:Dd×List Int):dCR (crs x)=dCs x.1 x.2:=by
 unfold dCR crs dCs
 rw[List.map_map];rfl
theorem xq{α β:Type}{f g:α->List β}:∀{l:List α},(∀a∈l,f a=g a)->l.flatMap f=l.flatMap g
 | [],_=>rfl
 | a::l,h=>by rw[List.flatMap_cons,List.flatMap_cons,h a x9,xq λ x hx=>h x (x6 _ hx)]
theorem Ae{p:Pg}{n:Ns}(h:p.nss[i]? =some n):(cD i n).map (dz p)=((cnt n.lps).flatMap λ cs=>n.dds.map λ x=>(x,cs)).map λ x=>dCR (crs x):=by
 unfold cD
 rw[List.map_flatMap,List.map_flatMap]
 refine xq λ cs _=>?_
 rw[List.map_map,List.map_map]
 apply List.ext_getElem
 . simp
 . intro s h1 h2
   have hs:s<n.dds.length:=by simpa using h2
   rw[List.getElem_map,List.getElem_map,List.getElem_range]
   show dz p (i,cs,s)=dCR (crs (n.dds[s],cs))
   rw[M8]
   unfold dz
   show(match p.nss[i]? with | some n=>(match n.dds[s]? with | some x=>dCs x cs | none=>D.non) | none=>D.non)=_
   rw[h]
   show(match n.dds[s]? with | some x=>dCs x cs | none=>D.non)=_
   rw[y4 hs]
theorem lz(p:Pg):(aN p.nss).map (dz p)=(aK p).map λ x=>dCR (crs x):=by
 unfold aN aK
 rw[List.map_flatten,List.map_flatMap,List.flatMap_def]
 congr 1
 apply List.ext_getElem
 . simp
 . intro i h1 h2
   have hi:i<p.nss.length:=by simpa using h2
   rw[List.getElem_map,List.getElem_mapIdx,List.getElem_map]
   exact Ae (y4 hi)
theorem Be(p:Pg):(aN p.nss).length=(aK p).length:=by
 have:=congrArg List.length (lz p)
 rw[y8,y8]at this
 exact this
theorem vh(p:Pg):many p.nss=((aK p).length:Int):=by rw[←pJ,Be]
theorem J0{p:Pg}(h60:many p.nss≤60):(aK p).length≤60:=by
 have h2:=vh p
 omega
theorem zN{p:Pg}{S:Store}{W:WD}(hP:PgB 0 p)(hS:flat S)(w:W (.int ((aK p).length:Int)) S):lA [.tup (p.nss.map dNs)] S W:=
 ⟨p.nss,rfl,by have:=hP.2.2.1;omega,λ n hn=>(hP.deeds n hn).1,hS,by rw[vh];exact w⟩
def OkI(n:Nat)(ts:List Int):Prop:=(∀t∈ts,0≤t/\t<(n:Int))/\ts.Nodup
theorem Mz(ns:List Int):unl ns=ns.length↔ns.Nodup:=by
 have key:∀i,i≤ns.length->(PyProof.Rows.firstMet (λ i=>ns.getD i 0) i).length≤i/\((PyProof.Rows.firstMet (λ i=>ns.getD i 0) i).length=i->PyProof.Rows.firstMet (λ i=>ns.getD i 0) i=ns.take i/\(ns.take i).Nodup)/\((ns.take i).Nodup->PyProof.Rows.firstMet (λ i=>ns.getD i 0) i=ns.take i):=by
  intro i
  induction i with
  | zero=>intro _;exact⟨x5 _,λ _=>⟨rfl,by simp⟩,λ _=>rfl⟩
  | succ i ih=>
    intro hi
    have hl:i<ns.length:=by omega
    obtain⟨h1,h2,h3⟩:=ih (by omega)
    have e:ns.getD i 0=ns[i]:=by simp[List.getD,hl]
    have et:ns.take (i+1)=ns.take i++[ns[i]]:=aJ (y4 hl)
    rw[PyProof.Rows.firstMet_succ,et]
    unfold PyProof.Rows.step_dedup
    rw[e]
    have hlen:(ns.take i).length=i:=by rw[List.length_take];omega
    have any_mem:∀l:List Int,(l.any λ x=>x==ns[i])=true↔ns[i]∈l:=λ l=>by
     rw[List.any_eq_true]
     exact⟨λ⟨x,hx,z⟩=>(eq_of_beq z)▸hx,λ h=>⟨_,h,beq_self_eq_true _⟩⟩
    have ndr:(ns.take i++[ns[i]]).Nodup↔(ns.take i).Nodup/\ns[i]∉ns.take i:=by
     rw[List.nodup_append]
     constructor
     . rintro⟨a,_,c⟩
       exact⟨a,λ hm=>c _ hm _ (List.mem_singleton.mpr rfl) rfl⟩
     . rintro⟨a,c⟩
       refine⟨a,by simp,λ x hx y hy=>?_⟩
       rw[List.mem_singleton.mp hy]
       exact λ z=>c (z▸hx)
    split
    . rename_i hm
      have hm:=(any_mem _).mp hm
      refine⟨by omega,λ z=>by omega,λ z=>?_⟩
      obtain⟨z1,z2⟩:=ndr.mp z
      rw[h3 z1]at hm
      exact(z2 hm).elim
    . rename_i hm
      have hm:ns[i]∉_:=λ z=>hm ((any_mem _).mpr z)
      refine⟨by rw[w9];exact Nat.succ_le_succ h1,λ z=>?_,λ z=>?_⟩
      . have z:(PyProof.Rows.firstMet (λ i=>ns.getD i 0) i).length=i:=by rw[w9]at z;exact Nat.succ.inj z
        obtain⟨g1,g2⟩:=h2 z
        rw[g1]at hm ⊢
        exact⟨rfl,ndr.mpr ⟨g2,hm⟩⟩
      . rw[h3 (ndr.mp z).1]
 obtain⟨_,k2,k3⟩:=key ns.length (x5 _)
 rw[List.take_length]at k2 k3
 unfold unl
 exact⟨λ z=>(k2 z).2,λ z=>by rw[k3 z]⟩
def yp:Ct:=λ ds S W=>∃(p:Pg) (ts:List Int),ds=[dPg p,.lst (ts.map D.int)]/\PgB 0 p/\flat S/\ts.length≤100/\∀b:Bool,(b=true↔OkI (aK p).length ts)->W (.bl b) S
theorem BZ(F:Fun Ω.K "is_row" "is_row" jx f fd)(N0:Ω.cd=none)(B:Bi Ω.mg)(Cq42:Cal Ω "is_whole" 1 1 fJ)(Cq46:Cal Ω "number_of_steps" 4 1 lA):Ok Ω 5 f fd Gb yp:=by
 refine az N0 (N:=Gw) F (Gp B Cq42 Cq46) (by kernel_rfl!) ?_
 rintro ds S W ⟨p,ts,rfl,hP,hS,ho,hw⟩ hl
 walk_at "b"
 refine⟨rfl,zN hP hS ?_⟩
 walk_at "b"
 refine bC (C0:=λ _=>True) (xs:=ts) (enc:=D.int) (λ t=>.bl (decide (0≤t/\t<((aK p).length:Int)))) (by omega) trivial ?_ (.inl ?_)
 . intro i t ht Q hq
   walk_at "b"
   refine⟨rfl,_,rfl,?_⟩
   walk_at "b"
   refine⟨λ z=>?_,λ z=>?_⟩
   . have z:=of_decide_eq_false z
     rw[decide_eq_false (λ y=>z y.1)]at hq
     exact hq
   . have z:=of_decide_eq_true z
     walk_at "b"
     rw[show decide (t<((aK p).length:Int))=decide (0≤t/\t<((aK p).length:Int))from by simp[z]]
     exact hq
 walk_at "b"
 refine⟨ts.map λ t=>decide (0≤t/\t<((aK p).length:Int)),by rw[List.map_map];rfl,?_⟩
 by_cases hr:∀t∈ts,0≤t/\t<((aK p).length:Int)
 . rw[show(ts.map λ t=>decide (0≤t/\t<((aK p).length:Int))).all id=true from by rw[List.all_map,List.all_eq_true];exact λ t ht=>decide_eq_true (hr t ht)]
   walk_at "b"
   refine⟨ts,rfl,by show _<4096;omega,?_⟩
   walk_at "b"
   rw[y8]
   refine hw _ ?_
   rw[decide_eq_true_iff]
   rw[show((unl ts:Int)=(ts.length:Int))↔unl ts=ts.length from by omega,Mz]
   exact⟨λ z=>⟨hr,z⟩,λ z=>z.2⟩
 . rw[show(ts.map λ t=>decide (0≤t/\t<((aK p).length:Int))).all id=false from by
    rw[Bool.eq_false_iff]
    intro z
    rw[List.all_map,List.all_eq_true]at z
    exact hr λ t ht=>of_decide_eq_true (z t ht)]
   walk_at "b"
   exact hw false ⟨λ z=>(by cases z),λ z=>(hr z.1).elim⟩
def yJ:Ct:=λ ds S W=>∃(p:Pg) (ts:List Int),ds=[dPg p,.lst (ts.map D.int)]/\PgB 0 p/\flat S/\ts.length≤100/\∀b:Bool,(b=true↔OkI (aK p).length ts/\ts.length=(aK p).length)->W (.bl b) S
theorem vO(F:Fun Ω.K "is_order" "is_order" gK f fd)(N0:Ω.cd=none)(B:Bi Ω.mg)(Cq46:Cal Ω "number_of_steps" 4 1 lA)(Cq38:Cal Ω "is_row" 5 2 yp):Ok Ω 6 f fd zE yJ:=by
 refine az N0 (N:=Av) F (Af B Cq46 Cq38) (by kernel_rfl!) ?_
 rintro ds S W ⟨p,ts,rfl,hP,hS,ho,hw⟩ hl
 walk_at "b"
 refine⟨rfl,p,ts,rfl,hP,hS,ho,λ b hb=>?_⟩
 cases b with
 | false=>
   walk_at "b"
   exact hw false ⟨λ z=>(by cases z),λ z=>(by have:=hb.mpr z.1;cases this)⟩
 | true=>
   walk_at "b"
   refine⟨rfl,zN hP hS ?_⟩
   walk_at "b"
   rw[y8]
   refine hw _ ?_
   rw[decide_eq_true_iff]
   have:=hb.mp rfl
   exact⟨λ z=>⟨this,by omega⟩,λ z=>by have:=z.2;omega⟩
def Okn(n:Nat)(ts:List Int):Prop:=OkI n ts/\ts.length=n
def LR:XCt:=λ ds S W WE=>∃(p:Pg) (ts:List Int),ds=[dPg p,.lst (ts.map D.int)]/\PgB 0 p/\flat S/\ts.length≤100/\(Okn (aK p).length ts->W .non S)/\(¬Okn (aK p).length ts->WE "NoOrder" S)
theorem jn(F:Fun Ω.K "refuse_no_order" "refuse_no_order" b7 f fd)(N0:Ω.cd=none)(E:ExF Ω.mg Ω.K XL XT)(Cq34:Cal Ω "is_order" 6 2 yJ):OkX Ω 7 f fd j7 LR:=by
 refine Lq N0 (N:=jV) F (jU E Cq34) (by kernel_rfl!) ?_
 rintro ds S W WE ⟨p,ts,rfl,hP,hS,ho,h1,h2⟩ hl
 walk_at "b"
 refine⟨rfl,p,ts,rfl,hP,hS,ho,λ b hb=>?_⟩
 cases b with
 | false=>exact⟨λ _=>h2 λ z=>absurd (hb.mpr z) (by decide),λ z=>tf z⟩
 | true=>exact⟨λ z=>ff z,λ _=>h1 (hb.mp rfl)⟩
def nY(i:Int):Int:=if i<0 then-i else i
def far(a b:Cell):Int:=if a.1=b.1 then((a.2.zip b.2).map λ q=>nY (q.1-q.2)).sum else 100
theorem rF{α:Type}(e:α->D)(l l':List α):List.zipWith (λ x y=>D.tup [x,y]) (l.map e) (l'.map e)=(l.zip l').map λ q=>D.tup [e q.1,e q.2]:=by
 rw[List.zipWith_map,List.zip,List.map_zipWith]
def Mg:Ct:=λ ds S W=>∃a b:Cell,ds=[eF a,eF b]/\a.2.length≤1000/\W (.int (far a b)) S
theorem uF(F:Fun Ω.K "far_apart" "far_apart" eY f fd)(N0:Ω.cd=none)(B:Bi Ω.mg):Ok Ω 1 f fd v5 Mg:=by
 refine az N0 (N:=wN) F (wZ B) (by kernel_rfl!) ?_
 rintro ds S W ⟨a,b,rfl,hz,hw⟩ hl
 walk_at "b"
 refine⟨λ c=>?_,λ c=>?_⟩
 . have c:¬((a.1:Int)=(b.1:Int)):=by simpa using c
   have e:far a b=100:=if_neg λ z=>c (by rw[z])
   rw[e]at hw
   walk_at "b"
   exact hw
 . have c:(a.1:Int)=(b.1:Int):=by simpa using c
   have e:far a b=((a.2.zip b.2).map λ q=>nY (q.1-q.2)).sum:=if_pos (by omega)
   rw[e]at hw
   walk_at "b"
   rw[rF]
   refine bC (λ q:Int×Int=>D.int (nY (q.1-q.2))) (by rw[List.length_zip];omega) trivial ?_ (.inl ?_)
   . rintro i ⟨x,y⟩ hq Q hQ
     walk_at "b"
     refine⟨rfl,?_⟩
     walk_at "b"
     exact hQ
   walk_at "b"
   refine⟨(a.2.zip b.2).map λ q=>nY (q.1-q.2),by rw[List.map_map];rfl,hw⟩
theorem DX{p:Pg}(hP:PgB 0 p):∀x∈(aK p).map crs,x.1.2.length≤1000:=λ x hx=>by
 obtain⟨z,hz,rfl⟩:=List.mem_map.mp hx
 obtain⟨n,hn,hm⟩:=List.mem_flatMap.mp hz
 obtain⟨cs,_,hm⟩:=List.mem_flatMap.mp hm
 obtain⟨d,hd,rfl⟩:=List.mem_map.mp hm
 have:=((hP.deeds n hn).2 d hd).1.1
 show(List.map _ d.pl).length≤1000
 rw[y8]
 exact this
theorem pG{α:Type}{f:α->D}{xs:List α}{x:α}(h:xs[i]? =some x):atI (xs.map f) (i:Int)=some (f x):=dZ (by rw[y9,h];rfl)
def stC(xs:List CR)(t:Int):Cell:=(xs.getD t.toNat (((0:Nat),[]),[])).1
def rch(xs:List CR)(ts:List Int):Int:=((ts.zip (ts.drop 1)).map λ q=>far (stC xs q.1) (stC xs q.2)).sum
theorem pK{xs:List CR}{t:Int}(h0:0≤t)(h1:t<(xs.length:Int)):∃x,x∈xs/\atI (xs.map dCR) t=some (dCR x)/\stC xs t=x.1:=by
 obtain⟨n,rfl⟩:=Int.eq_ofNat_of_zero_le h0
 have hn:n<xs.length:=by omega
 refine⟨xs[n],List.getElem_mem hn,pG (y4 hn),?_⟩
 unfold stC
 rw[Int.toNat_natCast,List.getD,y4 hn]
 rfl
def rP:XCt:=λ ds S W WE=>∃(p:Pg) (ts:List Int),ds=[dPg p,.lst (ts.map D.int)]/\PgB 0 p/\many p.nss≤60/\flat S/\ts.length≤100/\(Okn (aK p).length ts->W (.int (rch ((aK p).map crs) ts)) S)/\(¬Okn (aK p).length ts->WE "NoOrder" S)
theorem Gr(F:Fun Ω.K "reach" "reach" kI f fd)(N0:Ω.cd=none)(B:Bi Ω.mg)(E:ExF Ω.mg Ω.K XL XT)(Cq17:Cal Ω "cells_of" 5 1 ik)(Cq52:gR Ω "refuse_no_order" 7 2 LR)(Cq25:Cal Ω "far_apart" 1 2 Mg):OkX Ω 8 f fd HF rP:=by
 refine Lq N0 (N:=G6) F (Hf B E Cq17 Cq52 Cq25) (by kernel_rfl!) ?_
 rintro ds S W WE ⟨p,ts,rfl,hP,h60,hS,ho,h1,h2⟩ hl
 have eC:(aN p.nss).map (dz p)=((aK p).map crs).map dCR:=by rw[lz,List.map_map];rfl
 walk_at "b"
 refine⟨rfl,p,ts,rfl,hP,hS,ho,λ hk=>?_,h2⟩
 replace h1:=h1 hk
 have hpl:=DX hP
 have hin:∀t∈ts,0≤t/\t<(((aK p).map crs).length:Int):=λ t ht=>by rw[y8];exact hk.1.1 t ht
 generalize (aK p).map crs=xs at*
 walk_at "b"
 refine⟨rfl,vd hP h60 hS ?_⟩
 rw[eC]
 walk_at "b"
 refine bC (λ t:Int=>eF (stC xs t)) (by omega) trivial ?_ (.inl ?_)
 . rintro i t ht Q hQ
   obtain⟨a0,a1⟩:=hin t (y6 ht)
   obtain⟨x,_,g1,g2⟩:=pK a0 a1
   walk_at "b"
   refine⟨_,g1,?_⟩
   walk_at "b"
   rw[g2]at hQ
   exact hQ
 walk_at "b"
 rw[dY (by decide)]
 rw[←List.map_drop,rF]
 refine bC (λ q:Int×Int=>D.int (far (stC xs q.1) (stC xs q.2))) (by rw[List.length_zip];omega) trivial ?_ (.inl ?_)
 . rintro i ⟨x,y⟩ hq Q hQ
   obtain⟨m1,_⟩:=List.of_mem_zip (y6 hq)
   obtain⟨a0,a1⟩:=hin x m1
   obtain⟨c,hc,_,g2⟩:=pK a0 a1
   walk_at "b"
   refine⟨rfl,?_⟩
   walk_at "b"
   exact⟨rfl,_,_,rfl,by rw[g2];exact hpl c hc,hQ⟩
 walk_at "b"
 exact⟨(ts.zip (ts.drop 1)).map λ q:Int×Int=>far (stC xs q.1) (stC xs q.2),by rw[List.map_map];rfl,h1⟩
theorem Kw(l:List Int)(a:Int):(l++[a]).sum=l.sum+a:=by rw[List.sum_append];simp
def yd:Ct:=λ ds S W=>∃(xs:List CR) (ts:List Int),ds=[.lst (xs.map dCR),.lst (ts.map D.int)]/\ts.length≤100/\(∀t∈ts,0≤t/\t<(xs.length:Int))/\(∀x∈xs,x.1.2.length≤1000)/\W (.int (rch xs ts)) S
theorem FT(F:Fun Ω.K "_law_reach" "_law_reach" lO f fd)(N0:Ω.cd=none)(B:Bi Ω.mg):Ok Ω 1 f fd Gy yd:=by
 refine az N0 (N:=Iz) F (HD B) (by kernel_rfl!) ?_
 rintro ds S W ⟨xs,ts,rfl,ho,hin,hpl,hw⟩ hl
 walk_at "b"
 rw[dY (by decide),←List.map_drop,rF]
 refine aL ⟨λ i Γ' T=>T=S/\∃o3 o4 o5 o6,Γ'=[some (.lst (xs.map dCR)),some (.lst (ts.map D.int)),some (.int (((ts.zip (ts.drop 1)).take i).map λ q=>far (stC xs q.1) (stC xs q.2)).sum),o3,o4,o5,o6],⟨rfl,_,_,_,_,rfl⟩,?_,?_⟩
 . rintro i e Γ' T he ⟨rfl,o3,o4,o5,o6,rfl⟩
   obtain⟨⟨x,y⟩,hq,rfl⟩:=bf he
   have hq:(ts.zip (ts.drop 1))[i]? =some (x,y):=hq
   obtain⟨m1,m2⟩:=List.of_mem_zip (y6 hq)
   obtain⟨a0,a1⟩:=hin x m1
   obtain⟨b0,b1⟩:=hin y (List.mem_of_mem_drop m2)
   obtain⟨c,hc,g1,g2⟩:=pK a0 a1
   obtain⟨c',hc',g1',g2'⟩:=pK b0 b1
   have et:(((ts.zip (ts.drop 1)).take i).map λ q=>far (stC xs q.1) (stC xs q.2)).sum+far c.1 c'.1=(((ts.zip (ts.drop 1)).take (i+1)).map λ q=>far (stC xs q.1) (stC xs q.2)).sum:=by
    rw[aJ hq,List.map_append,List.map_singleton,Kw,g2,g2']
   refine⟨rfl,?_⟩
   walk_at "b"
   refine⟨_,g1,?_⟩
   walk_at "b"
   refine⟨_,g1',?_⟩
   walk_at "b"
   refine⟨λ z=>?_,λ z=>?_⟩
   . have z:¬((c.1.1:Int)=(c'.1.1:Int)):=by simpa using z
     have e:far c.1 c'.1=100:=if_neg λ q=>z (by rw[q])
     rw[e]at et
     walk_at "b"
     rw[et]
     exact⟨rfl,_,_,_,_,rfl⟩
   . have z:(c.1.1:Int)=(c'.1.1:Int):=by simpa using z
     have e:far c.1 c'.1=((c.1.2.zip c'.1.2).map λ q=>nY (q.1-q.2)).sum:=if_pos (by omega)
     rw[e]at et
     have hcl:=hpl c hc
     walk_at "b"
     rw[rF]
     refine bC (λ q:Int×Int=>D.int (nY (q.1-q.2))) (by rw[List.length_zip];omega) trivial ?_ (.inl ?_)
     . rintro i ⟨x,y⟩ hq Q hQ
       walk_at "b"
       refine⟨rfl,?_⟩
       walk_at "b"
       exact hQ
     walk_at "b"
     refine⟨(c.1.2.zip c'.1.2).map λ q=>nY (q.1-q.2),by rw[List.map_map];rfl,?_⟩
     walk_at "b"
     rw[et]
     exact⟨rfl,_,_,_,_,rfl⟩
 . rintro Γ' T ⟨rfl,o3,o4,o5,o6,rfl⟩
   rw[y8,show Int.toNat 1=1 from rfl,List.take_length]
   walk_at "b"
   exact hw
def lng(ch:List Int)(ts:List (List Int)):List (List Int):=ts.flatMap λ t=>ch.map λ x=>t++[x]
def tups(ch:List Int):Nat->List (List Int)
 | 0=>[[]]
 | d+1=>lng ch (tups ch d)
def dN(f:List Int):D:=.tup (f.map .int)
theorem Fj(ts:List (List Int)):aj (ts.map dN)=true:=by
 induction ts with
 | nil=>rfl
 | cons a ts ih=>
   have h:ak (dN a)=true:=bD a
   simp only[List.map_cons,aj,ih,h,Bool.and_true]
theorem sY(ch:List Int)(ts:List (List Int)):(lng ch ts).length=ts.length*ch.length:=by
 unfold lng
 induction ts with
 | nil=>simp
 | cons t ts ih=>rw[List.flatMap_cons,w9,ih,y8,List.length_cons,Nat.succ_mul,Nat.add_comm]
def CW:Ct:=λ ds S W=>∃(ch:List Int) (ts:List (List Int)),ds=[.lst (ts.map dN),.tup (ch.map .int)]/\ts.length≤1000/\ch.length≤10/\(∀t∈ts,t.length≤1000)/\flat S/\W (.lst ((lng ch ts).map dN)) S
theorem nM(F:Fun Ω.K "each_longer" "each_longer" dm f fd)(N0:Ω.cd=none):Ok Ω 1 f fd qy CW:=by
 refine az N0 (N:=qT) F (Bl.frz (pU)) (by kernel_rfl!) ?_
 rintro ds S W ⟨ch,ts,rfl,ht,hc,htl,hS,hw⟩ hl
 walk_at "b"
 refine aL ⟨λ i Γ' T=>∃o3,Γ'=[some (.lst (ts.map dN)),some (.tup (ch.map .int)),some (.loc S.length),o3]/\T=S++[(lng ch (ts.take i)).map dN],⟨_,rfl,rfl⟩,?_,?_⟩
 . rintro i e Γ' T he ⟨o3,rfl,rfl⟩
   obtain⟨t,hq,rfl⟩:=bf he
   have h1:=htl t (y6 hq)
   have et:(lng ch (ts.take i)).map dN++ch.map (λ x=>dN (t++[x]))=(lng ch (ts.take (i+1))).map dN:=by
    rw[aJ hq]
    unfold lng
    rw[List.flatMap_append,List.map_append,List.flatMap_singleton,List.map_map]
    rfl
   have hl1:(lng ch (ts.take i)).length≤10000:=by
    rw[sY]
    have:(ts.take i).length≤1000:=by rw[List.length_take];omega
    exact Nat.mul_le_mul this hc
   refine cO ?_
   simp only[List.set_cons_succ,List.set_cons_zero]
   walk_at "b"
   refine bC (λ x=>dN (t++[x])) (by omega) trivial ?_ (.inl ?_)
   . rintro i x hx Q hQ
     walk_at "b"
     rw[show dN (t++[x])=D.tup (List.map D.int t++[D.int x])from by unfold dN;rw[List.map_append];rfl]at hQ
     exact hQ
   walk_at "b"
   refine⟨_,_,at1 rfl,rfl,by rw[y8,y8];omega,?_⟩
   rw[rH rfl,et]
   exact⟨_,rfl,rfl⟩
 . rintro Γ' T ⟨o3,rfl,rfl⟩
   rw[y8,List.take_length]
   walk_at "b"
   exact .inr ⟨_,S,rfl,rfl,x5 _,Fj _,hS,hw⟩
theorem zJ{ch:List Int}(hc:ch.length≤3):∀d,(tups ch d).length≤3 ^ d
 | 0=>x5 _
 | d+1=>by
   show(lng ch (tups ch d)).length≤3 ^ (d+1)
   rw[sY,Nat.pow_succ]
   exact Nat.mul_le_mul (zJ hc d) hc
theorem dU{ch:List Int}(hc:ch.length≤3){d:Nat}(hd:d≤3):(tups ch d).length≤27:=Nat.le_trans (zJ hc d) (Nat.pow_le_pow_right (by decide) hd)
theorem dG{ch:List Int}:∀d,∀t∈tups ch d,t.length=d
 | 0,t,h=>by rw[List.mem_singleton.mp h];rfl
 | d+1,t,h=>by
   obtain⟨u,hu,h⟩:=List.mem_flatMap.mp h
   obtain⟨x,_,rfl⟩:=List.mem_map.mp h
   rw[w9,dG d u hu];rfl
def HJ:Ct:=λ ds S W=>∃(ch:List Int) (d:Nat),ds=[.tup (ch.map .int),.int (d:Int)]/\ch.length≤3/\d≤3/\flat S/\W (.lst ((tups ch d).map dN)) S
theorem tU(F:Fun Ω.K "tuples_of" "tuples_of" fu f fd)(N0:Ω.cd=none)(B:Bi Ω.mg)(Cq24:Cal Ω "each_longer" 1 2 CW):Ok Ω 2 f fd wW HJ:=by
 refine az N0 (N:=vL) F (wg B Cq24) (by kernel_rfl!) ?_
 rintro ds S W ⟨ch,d,rfl,hc,hd,hS,hw⟩ hl
 walk_at "b"
 refine⟨⟨by omega,by omega⟩,aL ⟨λ i Γ' T=>(∃o3,Γ'=[some (.tup (ch.map .int)),some (.int (d:Int)),some (.lst ((tups ch i).map dN)),o3])/\T=S,⟨⟨_,rfl⟩,rfl⟩,?_,?_⟩⟩
 . rintro i e Γ' T he ⟨⟨o3,rfl⟩,rfl⟩
   obtain⟨hi,rfl⟩:=aM he
   have h27:=dU hc (show i≤3 by omega)
   refine cO ?_
   simp only[List.set_cons_succ,List.set_cons_zero]
   walk_at "b"
   refine⟨rfl,ch,tups ch i,rfl,by omega,by omega,λ t ht=>by rw[dG i t ht];omega,hS,?_⟩
   walk_at "b"
   exact⟨⟨_,rfl⟩,rfl⟩
 . rintro Γ' T ⟨⟨o3,rfl⟩,rfl⟩
   rw[au,Int.toNat_natCast]
   walk_at "b"
   exact hw
def kW:Ct:=λ ds S W=>∃(pg:Pg) (i:Nat) (n:Ns),ds=[dPg pg,.int (i:Int)]/\pg.nss[i]? =some n/\W (.int (n.lps.length:Int)) S
theorem wz(F:Fun Ω.K "loops_of" "loops_of" gH f fd)(N0:Ω.cd=none)(B:Bi Ω.mg):Ok Ω 1 f fd ym kW:=by
 refine az N0 (N:=xW) F (Ad B) (by kernel_rfl!) ?_
 rintro ds S W ⟨pg,i,n,rfl,hn,hw⟩ hl
 walk_at "b"
 refine⟨_,pG hn,?_⟩
 walk_at "b"
 rw[y8]
 exact hw
def dT(q:List Int×List Int):D:=.tup [dN q.1,dN q.2]
def fX(d:Nat)(l:List Int):List (List Int×List Int):=if unl l=d then(tups [1,-1] d).map λ s=>(l,s)else[]
def trn(d:Nat):List (List Int×List Int):=(tups (RF.upI d) d).flatMap (fX d)
theorem pQ(l:List (List Int×List Int)):aj (l.map dT)=true:=by
 induction l with
 | nil=>rfl
 | cons a l ih=>
   have h:ak (dT a)=true:=by
    have h1:ak (dN a.1)=true:=bD _
    have h2:ak (dN a.2)=true:=bD _
    show aj [dN a.1,dN a.2]=true
    simp only[aj,h1,h2,Bool.and_true]
   simp only[List.map_cons,aj,ih,h,Bool.and_true]
theorem cR{S:Store}(hS:flat S)(hx:aj x=true):flat (S++[x]):=λ l hl=>by
 rcases List.mem_append.mp hl with hl | hl
 . exact hS l hl
 . rw[List.mem_singleton.mp hl];exact hx
theorem DQ(d:Nat)(hd:d≤3)(L:List (List Int)):(L.flatMap (fX d)).length≤L.length*27:=by
 induction L with
 | nil=>simp
 | cons l L ih=>
   rw[List.flatMap_cons,w9,List.length_cons,Nat.succ_mul]
   have:(fX d l).length≤27:=by
    unfold fX
    split
    . rw[y8];exact dU (by decide) hd
    . simp
   omega
def qW:Ct:=λ ds S W=>∃(pg:Pg) (i:Nat) (n:Ns),ds=[dPg pg,.int (i:Int)]/\pg.nss[i]? =some n/\n.lps.length≤3/\flat S/\W (.loc S.length) (S++[(trn n.lps.length).map dT])
theorem vV(F:Fun Ω.K "turnings" "turnings" gJ f fd)(N0:Ω.cd=none)(B:Bi Ω.mg)(Cq55:Cal Ω "tuples_of" 2 2 HJ)(Cq44:Cal Ω "loops_of" 1 2 kW):Ok Ω 3 f fd xY qW:=by
 refine az N0 (N:=Ah) F (yX B Cq55 Cq44) (by kernel_rfl!) ?_
 rintro ds S W ⟨pg,i,n,rfl,hn,h3,hS,hw⟩ hl
 walk_at "b"
 refine⟨rfl,pg,i,n,rfl,hn,?_⟩
 walk_at "b"
 refine⟨⟨by omega,by omega⟩,?_⟩
 rw[lV,Int.toNat_natCast]
 have hu:(RF.upI n.lps.length).length=n.lps.length:=by unfold RF.upI;simp
 refine⟨rfl,RF.upI n.lps.length,n.lps.length,rfl,by omega,h3,cR hS rfl,?_⟩
 have h27:=dU (ch:=RF.upI n.lps.length) (by omega) h3
 walk_at "b"
 refine aL ⟨λ q Γ' T=>∃o4,Γ'=[some (dPg pg),some (.int (i:Int)),some (.int (n.lps.length:Int)),some (.loc S.length),o4]/\T=S++[(((tups (RF.upI n.lps.length) n.lps.length).take q).flatMap (fX n.lps.length)).map dT],⟨_,rfl,rfl⟩,?_,?_⟩
 . rintro q e Γ' T he ⟨o4,rfl,rfl⟩
   obtain⟨l,hq,rfl⟩:=bf he
   have hll:=dG _ l (y6 hq)
   have et:(((tups (RF.upI n.lps.length) n.lps.length).take (q+1)).flatMap (fX n.lps.length)).map dT=(((tups (RF.upI n.lps.length) n.lps.length).take q).flatMap (fX n.lps.length)).map dT++(fX n.lps.length l).map dT:=by
    rw[aJ hq,List.flatMap_append,List.map_append,List.flatMap_singleton]
   have hz:=DQ n.lps.length h3 ((tups (RF.upI n.lps.length) n.lps.length).take q)
   have hz2:((tups (RF.upI n.lps.length) n.lps.length).take q).length≤27:=by rw[List.length_take];omega
   have h27':=dU (ch:=[1,-1]) (by decide) h3
   refine cO ?_
   simp only[List.set_cons_succ,List.set_cons_zero]
   walk_at "b"
   refine⟨l,rfl,by show _<4096;omega,?_⟩
   walk_at "b"
   refine⟨λ c=>?_,λ c=>?_⟩
   . have c:=of_decide_eq_true c
     have e1:fX n.lps.length l=(tups [1,-1] n.lps.length).map λ s=>(l,s):=if_pos (by omega)
     walk_at "b"
     refine⟨rfl,[1,-1],n.lps.length,rfl,by decide,h3,cR hS (pQ _),?_⟩
     refine bC (λ s=>dT (l,s)) (by omega) trivial ?_ (.inl ?_)
     . rintro j s hs Q hQ
       walk_at "b"
       exact hQ
     walk_at "b"
     refine⟨_,_,at1 rfl,rfl,by rw[y8,y8];omega,?_⟩
     rw[rH rfl]
     refine⟨_,rfl,?_⟩
     rw[et,e1,List.map_map]
     rfl
   . have c:=of_decide_eq_false c
     have e1:fX n.lps.length l=[]:=if_neg (by omega)
     walk_at "b"
     refine⟨_,rfl,?_⟩
     rw[et,e1,List.map_nil,List.append_nil]
 . rintro Γ' T ⟨o4,rfl,rfl⟩
   rw[y8,List.take_length]
   walk_at "b"
   exact hw
def prm:Nat->List (List Int)
 | 1=>[[0]]
 | 2=>[[0,1],[1,0]]
 | _=>[[0,1,2],[0,2,1],[1,0,2],[1,2,0],[2,0,1],[2,1,0]]
theorem Mt:∀d,1≤d->d≤3->trn d=(prm d).flatMap λ l=>(tups [1,-1] d).map λ s=>(l,s)
 | 1,_,_=>by decide+kernel
 | 2,_,_=>by decide+kernel
 | 3,_,_=>by decide+kernel
def Dq:Ct:=λ ds S W=>∃d:Nat,ds=[.int (d:Int)]/\1≤d/\d≤3/\W (.lst ((trn d).map dT)) S
theorem wU(F:Fun Ω.K "_law_turnings" "_law_turnings" gk f fd)(N0:Ω.cd=none)(B:Bi Ω.mg):Ok Ω 1 f fd zm Dq:=by
 refine az N0 (N:=yu) F (Aw B) (by kernel_rfl!) ?_
 rintro ds S W ⟨d,rfl,h1,h3,hw⟩ hl
 rw[Mt d h1 h3]at hw
 walk_at "b"
 have pick:∃ls,atI [D.lst [.tup [.int 0]],.lst [.tup [.int 0,.int 1],.tup [.int 1,.int 0]],.lst [.tup [.int 0,.int 1,.int 2],.tup [.int 0,.int 2,.int 1],.tup [.int 1,.int 0,.int 2],.tup [.int 1,.int 2,.int 0],.tup [.int 2,.int 0,.int 1],.tup [.int 2,.int 1,.int 0]]] ((d:Int)-1)=some ls/\ls=.lst ((prm d).map dN):=by
  rcases(show d=1∨d=2∨d=3 by omega)with rfl | rfl | rfl
  . exact⟨_,rfl,rfl⟩
  . exact⟨_,rfl,rfl⟩
  . exact⟨_,rfl,rfl⟩
 obtain⟨ls,g1,rfl⟩:=pick
 refine⟨_,g1,?_⟩
 walk_at "b"
 refine⟨⟨by omega,by omega⟩,aL ⟨λ i Γ' T=>T=S/\∃o3 o4 o5,Γ'=[some (.int (d:Int)),some (.lst ((prm d).map dN)),some (.lst ((tups [1,-1] i).map dN)),o3,o4,o5,none,none],⟨rfl,_,_,_,rfl⟩,?_,?_⟩⟩
 . rintro i e Γ' T he ⟨rfl,o3,o4,o5,rfl⟩
   obtain⟨hi,rfl⟩:=aM he
   have h27:=dU (ch:=[1,-1]) (by decide) (show i≤3 by omega)
   refine cO ?_
   simp only[List.set_cons_succ,List.set_cons_zero]
   walk_at "b"
   refine aL ⟨λ j Γ' T'=>T'=T/\∃o3 o5,Γ'=[some (.int (d:Int)),some (.lst ((prm d).map dN)),some (.lst ((tups [1,-1] i).map dN)),o3,some (.lst ((lng [1,-1] ((tups [1,-1] i).take j)).map dN)),o5,none,none],⟨rfl,_,_,rfl⟩,?_,?_⟩
   . rintro j e Γ' T' he ⟨rfl,o3,o5,rfl⟩
     obtain⟨t,hq,rfl⟩:=bf he
     have htl:=dG _ t (y6 hq)
     have et:(lng [1,-1] ((tups [1,-1] i).take j)).map dN++[.tup (t.map .int++[.int 1]),.tup (t.map .int++[.int (-1)])]=(lng [1,-1] ((tups [1,-1] i).take (j+1))).map dN:=by
      rw[aJ hq]
      unfold lng
      rw[List.flatMap_append,List.map_append,List.flatMap_singleton]
      simp only[List.map_cons,List.map_nil,dN,List.map_append]
     have hl1:(lng [1,-1] ((tups [1,-1] i).take j)).length≤54:=by
      have:((tups [1,-1] i).take j).length≤27:=by rw[List.length_take];omega
      rw[sY]
      exact Nat.mul_le_mul this (show 2≤2 from x5 _)
     refine cO ?_
     simp only[List.set_cons_succ,List.set_cons_zero]
     walk_at "b"
     rw[et]
     exact⟨rfl,_,_,rfl⟩
   . rintro Γ' T' ⟨rfl,o3,o5,rfl⟩
     rw[y8,List.take_length]
     walk_at "b"
     exact⟨rfl,_,_,_,rfl⟩
 rintro Γ' T ⟨rfl,o3,o4,o5,rfl⟩
 rw[au,Int.toNat_natCast]
 have h27:=dU (ch:=[1,-1]) (by decide) h3
 have hp:(prm d).length≤6:=by
  rcases(show d=1∨d=2∨d=3 by omega)with rfl | rfl | rfl<;>decide
 have hpl:∀L:List (List Int),(L.flatMap λ l=>(tups [1,-1] d).map λ s=>(l,s)).length≤L.length*27:=λ L=>by
  induction L with
  | nil=>simp
  | cons l L ih=>rw[List.flatMap_cons,w9,List.length_cons,Nat.succ_mul,y8];omega
 walk_at "b"
 refine aL ⟨λ j Γ' T'=>T'=T/\∃o3 o4 o5 o7,Γ'=[some (.int (d:Int)),some (.lst ((prm d).map dN)),some (.lst ((tups [1,-1] d).map dN)),o3,o4,o5,some (.lst ((((prm d).take j).flatMap λ l=>(tups [1,-1] d).map λ s=>(l,s)).map dT)),o7],⟨rfl,_,_,_,_,rfl⟩,?_,?_⟩
 . rintro j e Γ' T' he ⟨rfl,o3,o4,o5,o7,rfl⟩
   obtain⟨l,hq,rfl⟩:=bf he
   have et:((((prm d).take j).flatMap λ l=>(tups [1,-1] d).map λ s=>(l,s)).map dT)++((tups [1,-1] d).map λ s=>dT (l,s))=((((prm d).take (j+1)).flatMap λ l=>(tups [1,-1] d).map λ s=>(l,s)).map dT):=by
    rw[aJ hq,List.flatMap_append,List.map_append,List.flatMap_singleton,List.map_map]
    rfl
   have hz:=hpl ((prm d).take j)
   have hz2:((prm d).take j).length≤6:=by rw[List.length_take];omega
   refine cO ?_
   simp only[List.set_cons_succ,List.set_cons_zero]
   walk_at "b"
   refine bC (λ s=>dT (l,s)) (by omega) trivial ?_ (.inl ?_)
   . rintro q s hs Q hQ
     walk_at "b"
     exact hQ
   walk_at "b"
   refine⟨by rw[y8,y8];omega,?_⟩
   rw[et]
   exact⟨rfl,_,_,_,_,rfl⟩
 rintro Γ' T' ⟨rfl,o3,o4,o5,o7,rfl⟩
 rw[y8,List.take_length]
 walk_at "b"
 exact hw
inductive Ln where
 | fm(f:List Int) | bk(f:List Int)(z:Int)
def dLn:Ln->D
 | .fm f=>.tup [.str "form",dN f]
 | .bk f z=>.tup [.str "block",dN f,.int z]
def dLs(ls:List Ln):D:=.tup (ls.map dLn)
def dDs(ds:List (List Ln)):D:=.tup (ds.map dLs)
abbrev Pn:=List (List (List Ln))
def dPn(p:Pn):D:=.tup (p.map dDs)
theorem z6(n:Nat):(List.replicate n [D.int 0]).flatten=(List.replicate n (0:Int)).map D.int:=by
 induction n with
 | zero=>rfl
 | succ m ih=>simp[List.replicate_succ,ih]
def PN:Ct:=λ ds S W=>∃(n:Int) (d:Nat),ds=[.int n,.int d]/\d≤10/\W (dN (n::List.replicate d 0)) S
theorem oF(F:Fun Ω.K "number_form" "number_form" cW f fd)(N0:Ω.cd=none):Ok Ω 1 f fd pR PN:=by
 refine az N0 (N:=rm) F (qt) (by kernel_rfl!) ?_
 rintro ds S W ⟨n,d,rfl,hd,hw⟩ hl
 walk_at "b"
 refine⟨⟨by omega,by omega⟩,by show 1*_≤_;omega,?_⟩
 rw[Int.toNat_natCast,z6]
 walk_at "b"
 exact hw
def Jv:Ct:=λ ds S W=>∃xs x,∃a:Nat,ds=[.tup xs,.int a,x]/\a<xs.length/\xs.length≤1000/\W (.tup (xs.set a x)) S
theorem wD(F:Fun Ω.K "replaced" "replaced" fP f fd)(N0:Ω.cd=none):Ok Ω 1 f fd yt Jv:=by
 refine az N0 (N:=Ab) F (zV) (by kernel_rfl!) ?_
 rintro ds S W ⟨xs,x,a,rfl,ha,hz,hw⟩ hl
 have c1:=CV xs none (some (a:Int))
 have c2:=CV xs (some ((a:Int)+1)) none
 walk_at "b"
 rw[ql (by omega),dY (by omega),Int.toNat_natCast,show((a:Int)+1).toNat=a+1 from by omega]
 rw[List.set_eq_take_append_cons_drop,if_pos ha]at hw
 rw[List.append_assoc]
 exact hw
theorem pL(n:Nat):DL.upTo 0 n=(List.range n).map λ(i:Nat)=>D.int (i:Int):=by
 rw[lV]
 unfold RF.upI
 rw[List.map_map]
 refine List.map_congr_left λ i _=>?_
 show D.int (0+(i:Int))=_
 rw[Int.zero_add]
def cfm(k d:Nat):List Int:=0::(List.range d).map λ(a:Nat)=>if k=a then 1 else 0
def Ey:Ct:=λ ds S W=>∃k d:Nat,ds=[.int k,.int d]/\d≤10/\W (dN (cfm k d)) S
theorem qj(F:Fun Ω.K "count_form" "count_form" dH f fd)(N0:Ω.cd=none)(B:Bi Ω.mg):Ok Ω 1 f fd um Ey:=by
 refine az N0 (N:=uH) F (uE B) (by kernel_rfl!) ?_
 rintro ds S W ⟨k,d,rfl,hd,hw⟩ hl
 walk_at "b"
 refine⟨⟨by omega,by omega⟩,?_⟩
 rw[Int.toNat_natCast,pL]
 refine di (λ(a:Nat)=>D.int (if k=a then 1 else 0)) (by simp;omega) ?_ ?_
 . intro q a hq Q hQ
   walk_at "b"
   refine⟨λ c=>?_,λ c=>?_⟩
   . have c:=of_decide_eq_true c
     rw[if_pos (by omega)]at hQ
     walk_at "b"
     exact hQ
   . have c:=of_decide_eq_false c
     rw[if_neg (by omega)]at hQ
     walk_at "b"
     exact hQ
 walk_at "b"
 have e:dN (cfm k d)=.tup ([D.int 0]++List.map (λ(a:Nat)=>D.int (if k=a then 1 else 0)) (List.range d)):=by
  unfold dN cfm
  rw[List.map_cons,List.map_map]
  rfl
 rw[e]at hw
 exact hw
def zer(n:Int)(d:Nat):List Int:=n::List.replicate d 0
def fZ(i s d:Nat):List Ln:=[.fm (zer i d),.fm (cfm 0 d),.fm (cfm 1 d),.fm (cfm 2 d),.fm (zer s d)]
def yx:Ct:=λ ds S W=>∃i s d:Nat,ds=[.int i,.int s,.int d]/\d≤10/\W (dLs (fZ i s d)) S
theorem oO(F:Fun Ω.K "plain_lines" "plain_lines" dg f fd)(N0:Ω.cd=none)(B:Bi Ω.mg)(Cq45:Cal Ω "number_form" 1 2 PN)(Cq20:Cal Ω "count_form" 1 2 Ey):Ok Ω 2 f fd qQ yx:=by
 refine az N0 (N:=qu) F (qb B Cq45 Cq20) (by kernel_rfl!) ?_
 rintro ds S W ⟨i,s,d,rfl,hd,hw⟩ hl
 walk_at "b"
 refine⟨⟨by decide,by decide⟩,?_⟩
 rw[pL]
 refine di (λ(a:Nat)=>dN (cfm a d)) (by decide) ?_ ?_
 . intro q a hq Q hQ
   walk_at "b"
   exact⟨rfl,a,d,rfl,hd,hQ⟩
 walk_at "b"
 refine⟨rfl,i,d,rfl,hd,?_⟩
 walk_at "b"
 refine⟨_,_,rfl,rfl,by simp,?_⟩
 walk_at "b"
 refine⟨rfl,s,d,rfl,hd,?_⟩
 walk_at "b"
 refine⟨_,_,rfl,rfl,by simp,?_⟩
 walk_at "b"
 have e:[dN ((i:Int)::List.replicate d 0)]++List.map (λ(a:Nat)=>dN (cfm a d)) (List.range (Int.toNat 3))++[dN ((s:Int)::List.replicate d 0)]=[zer i d,cfm 0 d,cfm 1 d,cfm 2 d,zer s d].map dN:=rfl
 rw[e]
 refine bC (λ f=>dLn (.fm f)) (by show 5≤1000000;decide) trivial ?_ (.inl ?_)
 . intro q f hq Q hQ
   walk_at "b"
   exact hQ
 walk_at "b"
 exact hw
def bK(i m d:Nat):List (List Ln):=(List.range m).map λ(s:Nat)=>fZ i s d
def Mj:Ct:=λ ds S W=>∃(i:Nat) (n:Ns),ds=[.int i,.tup (n.lps.map dL),.tup (n.dds.map dDd)]/\n.lps.length≤10/\n.dds.length≤10/\W (dDs (bK i n.dds.length n.lps.length)) S
theorem jy(F:Fun Ω.K "plain_nest_plan" "plain_nest_plan" b8 f fd)(N0:Ω.cd=none)(B:Bi Ω.mg)(Cq47:Cal Ω "plain_lines" 2 3 yx):Ok Ω 3 f fd j6 Mj:=by
 refine az N0 (N:=jW) F (jX B Cq47) (by kernel_rfl!) ?_
 rintro ds S W ⟨i,n,rfl,h1,h2,hw⟩ hl
 walk_at "b"
 rw[y8]
 refine⟨⟨by omega,by omega⟩,?_⟩
 rw[Int.toNat_natCast,pL]
 refine di (λ(s:Nat)=>dLs (fZ i s n.lps.length)) (by simp;omega) ?_ ?_
 . intro q s hq Q hQ
   walk_at "b"
   rw[y8]
   exact⟨rfl,i,s,n.lps.length,rfl,h1,hQ⟩
 walk_at "b"
 have e:dDs (bK i n.dds.length n.lps.length)=.tup ((List.range n.dds.length).map λ(s:Nat)=>dLs (fZ i s n.lps.length)):=by
  unfold dDs bK
  rw[List.map_map]
  rfl
 rw[e]at hw
 exact hw
def cF(pg:Pg):Pn:=pg.nss.mapIdx λ i n=>bK i n.dds.length n.lps.length
def Dn:Ct:=λ ds S W=>∃pg:Pg,ds=[dPg pg]/\pg.nss.length≤10/\(∀n∈pg.nss,n.lps.length≤10/\n.dds.length≤10)/\W (dPn (cF pg)) S
theorem qD(F:Fun Ω.K "plain_plan" "plain_plan" dX f fd)(N0:Ω.cd=none)(B:Bi Ω.mg)(Cq48:Cal Ω "plain_nest_plan" 3 3 Mj):Ok Ω 4 f fd tK Dn:=by
 refine az N0 (N:=tR) F (uc B Cq48) (by kernel_rfl!) ?_
 rintro ds S W ⟨pg,rfl,h1,h2,hw⟩ hl
 have e0:(List.mapIdx (λ(i:Nat) d=>D.tup [D.int (i:Int),d]) (List.map dNs pg.nss))=(pg.nss.mapIdx λ i n=>(i,n)).map λ p:Nat×Ns=>D.tup [D.int (p.1:Int),dNs p.2]:=by
  refine List.ext_getElem? λ j=>?_
  simp only[y9,List.getElem?_mapIdx,Option.map_map]
  rfl
 walk_at "b"
 rw[e0]
 refine bC (λ p:Nat×Ns=>dDs (bK p.1 p.2.dds.length p.2.lps.length)) (by rw[List.length_mapIdx];omega) trivial ?_ (.inl ?_)
 . rintro q ⟨i,n⟩ hq Q hQ
   rw[List.getElem?_mapIdx]at hq
   cases e:pg.nss[q]? with
   | none=>rw[e]at hq;cases hq
   | some n'=>
     rw[e]at hq
     cases hq
     obtain⟨a,b⟩:=h2 n (y6 e)
     walk_at "b"
     refine⟨rfl,?_⟩
     walk_at "b"
     exact⟨rfl,q,n,rfl,a,b,hQ⟩
 walk_at "b"
 have e:dPn (cF pg)=.tup ((pg.nss.mapIdx λ i n=>(i,n)).map λ p:Nat×Ns=>dDs (bK p.1 p.2.dds.length p.2.lps.length)):=by
  unfold dPn cF
  congr 1
  refine List.ext_getElem? λ j=>?_
  simp only[y9,List.getElem?_mapIdx,Option.map_map]
  rfl
 rw[e]at hw
 exact hw
def RG:Ct:=λ ds S W=>∃(k d:Nat) (s:Int),ds=[.int (k:Int),.int (d:Int),.int s]/\d≤10/\W (dLn (.fm ((cfm k d).map (s*·)))) S
theorem rD(F:Fun Ω.K "count_line" "count_line" dJ f fd)(N0:Ω.cd=none)(B:Bi Ω.mg)(Cq20:Cal Ω "count_form" 1 2 Ey):Ok Ω 2 f fd uf RG:=by
 refine az N0 (N:=ud) F (sG B Cq20) (by kernel_rfl!) ?_
 rintro ds S W ⟨k,d,s,rfl,hd,hw⟩ hl
 walk_at "b"
 refine⟨rfl,k,d,rfl,hd,?_⟩
 refine bC (λ x:Int=>D.int (s*x)) (by unfold cfm;simp;omega) trivial ?_ (.inl ?_)
 . rintro j x hx Q hQ
   have h01:0≤x/\x≤1:=by
    rcases List.mem_cons.mp (y6 hx)with rfl | h
    . decide
    . obtain⟨a,_,rfl⟩:=List.mem_map.mp h
      split<;>decide
   obtain⟨x0,x1⟩:=h01
   walk_at "b"
   exact hQ
 walk_at "b"
 rw[show List.map (λ x:Int=>D.int (s*x)) (cfm k d)=((cfm k d).map (s*·)).map D.int from by rw[List.map_map];rfl]
 exact hw
def bO(d:Nat)(q:List Int×List Int):List Ln:=(q.1.zip q.2).map λ z=>Ln.fm ((cfm z.1.toNat d).map (z.2*·))
def KR(pg:Pg)(i:Nat)(n:Ns)(q:List Int×List Int):Pn:=(cF pg).set i ((bK i n.dds.length n.lps.length).map λ ls=>ls.take 1++bO n.lps.length q++ls.drop (1+n.lps.length))
theorem Jd{pg:Pg}{n:Ns}(h:pg.nss[i]? =some n):(cF pg)[i]? =some (bK i n.dds.length n.lps.length):=by
 unfold cF
 rw[List.getElem?_mapIdx,h];rfl
def xx:Ct:=λ ds S W=>∃(pg:Pg) (i:Nat) (n:Ns) (q:List Int×List Int),ds=[dPg pg,.int (i:Int),dT q]/\pg.nss.length≤10/\(∀n∈pg.nss,n.lps.length≤10/\n.dds.length≤10)/\pg.nss[i]? =some n/\(∀a∈q.1,0≤a)/\q.1.length≤10/\W (dPn (KR pg i n q)) S
theorem rN(F:Fun Ω.K "turned_by" "turned_by" eZ f fd)(N0:Ω.cd=none)(B:Bi Ω.mg)(Cq49:Cal Ω "plain_plan" 4 1 Dn)(Cq53:Cal Ω "replaced" 1 3 Jv)(Cq44:Cal Ω "loops_of" 1 2 kW)(Cq21:Cal Ω "count_line" 2 3 RG):Ok Ω 5 f fd vX xx:=by
 refine az N0 (N:=wB) F (vP B Cq49 Cq53 Cq44 Cq21) (by kernel_rfl!) ?_
 rintro ds S W ⟨pg,i,n,q,rfl,h1,h2,hn,hq0,hql,hw⟩ hl
 have hi:=(y3.mp hn).1
 obtain⟨n1,n2⟩:=h2 n (y6 hn)
 walk_at "b"
 refine⟨rfl,pg,i,n,rfl,hn,?_⟩
 walk_at "b"
 rw[rF]
 refine bC (λ z:Int×Int=>dLn (.fm ((cfm z.1.toNat n.lps.length).map (z.2*·)))) (by rw[List.length_zip];omega) trivial ?_ (.inl ?_)
 . rintro j ⟨a,s⟩ hz Q hQ
   have ha:=hq0 a (List.of_mem_zip (y6 hz)).1
   obtain⟨k,rfl⟩:=Int.eq_ofNat_of_zero_le ha
   walk_at "b"
   refine⟨rfl,?_⟩
   walk_at "b"
   exact⟨rfl,k,n.lps.length,s,rfl,n1,hQ⟩
 have et:(q.1.zip q.2).map (λ z:Int×Int=>dLn (.fm ((cfm z.1.toNat n.lps.length).map (z.2*·))))=(bO n.lps.length q).map dLn:=by unfold bO;rw[List.map_map];rfl
 have htl:(bO n.lps.length q).length≤10:=by unfold bO;rw[y8,List.length_zip];omega
 rw[et]
 walk_at "b"
 refine⟨rfl,pg,rfl,h1,h2,?_⟩
 walk_at "b"
 refine⟨_,pG (Jd hn),?_⟩
 walk_at "b"
 refine bC (λ ls:List Ln=>dLs (ls.take 1++bO n.lps.length q++ls.drop (1+n.lps.length))) (by unfold bK;simp;omega) trivial ?_ (.inl ?_)
 . rintro j ls hls Q hQ
   have h5:ls.length=5:=by
    obtain⟨s,_,rfl⟩:=List.mem_map.mp (y6 hls)
    rfl
   walk_at "b"
   rw[ql (by decide)]
   refine⟨by rw[List.length_take,y8,y8];omega,?_⟩
   walk_at "b"
   rw[dY (by omega)]
   refine⟨by rw[w9,List.length_take,List.length_drop,y8,y8];omega,?_⟩
   have e:dLs (ls.take 1++bO n.lps.length q++ls.drop (1+n.lps.length))=.tup (List.take (Int.toNat 1) (List.map dLn ls)++List.map dLn (bO n.lps.length q)++List.drop ((1:Int)+(n.lps.length:Int)).toNat (List.map dLn ls)):=by
    unfold dLs
    rw[List.map_append,List.map_append,List.map_take,List.map_drop,show((1:Int)+(n.lps.length:Int)).toNat=1+n.lps.length from by omega]
    rfl
   rw[e]at hQ
   exact hQ
 walk_at "b"
 refine⟨rfl,(cF pg).map dDs,_,i,rfl,by rw[y8];unfold cF;rw[List.length_mapIdx];exact hi,by rw[y8];unfold cF;rw[List.length_mapIdx];omega,?_⟩
 rw[show D.tup (List.map (λ ls:List Ln=>dLs (ls.take 1++bO n.lps.length q++ls.drop (1+n.lps.length))) (bK i n.dds.length n.lps.length))=dDs ((bK i n.dds.length n.lps.length).map λ ls=>ls.take 1++bO n.lps.length q++ls.drop (1+n.lps.length))from by unfold dDs;rw[List.map_map];rfl,←List.map_set]
 exact hw
def sgf(d:Nat)(c s:Int):List Int:=0::(List.range d).map λ(j:Nat)=>s*(if(j:Int)=c then 1 else 0)
def cj(i ni d:Nat)(q:List Int×List Int)(k:Nat):Ln:=if i=ni/\k<d then .fm (sgf d (q.1.getD k 0) (q.2.getD k 0))else .fm (sgf d (k:Int) 1)
def bZ(i ni d:Nat)(q:List Int×List Int)(k:Nat):List Ln:=.fm (zer i d)::(List.range k).map (cj i ni d q)
def lC(i ni m d:Nat)(q:List Int×List Int):List (List Ln):=(List.range m).map λ(s:Nat)=>bZ i ni d q 3++[.fm (zer s d)]
def iQ(pg:Pg)(ni:Nat)(q:List Int×List Int):Pn:=pg.nss.mapIdx λ i n=>lC i ni n.dds.length n.lps.length q
theorem Il(i ni d:Nat)(q:List Int×List Int)(k:Nat):bZ i ni d q (k+1)=bZ i ni d q k++[cj i ni d q k]:=by
 unfold bZ
 rw[List.range_succ,List.map_append];rfl
theorem Fd{α:Type}{f:α->D}(h:∀a,ak (f a)=true)(l:List α):aj (l.map f)=true:=by
 induction l with
 | nil=>rfl
 | cons a l ih=>simp only[List.map_cons,aj,ih,h,Bool.and_true]
theorem uZ(l:Ln):ak (dLn l)=true:=by
 cases l with
 | fm f=>
   have h:ak (dN f)=true:=bD f
   show aj [D.str _,dN f]=true
   simp only[aj,h,Bool.and_true];rfl
 | bk f z=>
   have h:ak (dN f)=true:=bD f
   show aj [D.str _,dN f,.int z]=true
   simp only[aj,h,Bool.and_true];rfl
theorem Hj(ls:List Ln):ak (dLs ls)=true:=Fd uZ ls
theorem Ja(ds:List (List Ln)):ak (dDs ds)=true:=Fd Hj ds
theorem uR(p:Pn):ak (dPn p)=true:=Fd Ja p
def PlJ(S:Store)(pg:Pg)(ni:Nat)(q:List Int×List Int)(i:Nat)(Γ':Gam)(T:Store):Prop:=∃J o4 o5 o6 o7 o8 o9 o10 o11,Γ'=[some (dPg pg),some (.int (ni:Int)),some (dT q),some (.loc S.length),o4,o5,o6,o7,o8,o9,o10,o11]/\T=S++((iQ pg ni q).take i).map dDs::J/\flat J
theorem Ox{S:Store}{L:List D}:(S++N::(J++[L]))[S.length+1+J.length]? =some L:=by rw[atJ rfl];simp
theorem Sw{S:Store}{L:List D}:(S++N::(J++[L])).set (S.length+1+J.length) x=S++N::(J++[x]):=by rw[Pb rfl];simp
theorem QZ{L:List D}(hJ:flat J)(hL:aj L=true):flat (J++[L]):=cR hJ hL
def Du:Ct:=λ ds S W=>∃(pg:Pg) (ni:Nat) (n0:Ns) (q:List Int×List Int),ds=[dPg pg,.int (ni:Int),dT q]/\PgB 0 pg/\pg.nss[ni]? =some n0/\q.1.length=n0.lps.length/\q.2.length=n0.lps.length/\(∀s∈q.2,-1≤s/\s≤1)/\flat S/\W (dPn (iQ pg ni q)) S
theorem Jw(F:Fun Ω.K "_law_plan" "_law_plan" pB f fd)(N0:Ω.cd=none)(B:Bi Ω.mg):Ok Ω 1 f fd Lf Du:=by
 refine az N0 (N:=Jz) F (Bl.drp (KQ B)) (by kernel_rfl!) ?_
 rintro ds S W ⟨pg,ni,n0,q,rfl,hP,hn0,q1,q2,hs,hS,hw⟩ hl
 have h3:=hP.2.2.1
 walk_at "b"
 refine aL ⟨PlJ S pg ni q,⟨[],_,_,_,_,_,_,_,_,rfl,rfl,λ l h=>nomatch h⟩,?_,?_⟩
 . rintro i e Γ' T he ⟨J,o4,o5,o6,o7,o8,o9,o10,o11,rfl,rfl,hJ⟩
   obtain⟨dn,hdn,rfl⟩:=En he
   obtain⟨n,hn,rfl⟩:=bf hdn
   obtain⟨hL,d1,d4,_,_⟩:=hP.2.2.2 n (y6 hn)
   have dl:=hL.2.1
   have hpi:(iQ pg ni q)[i]? =some (lC i ni n.dds.length n.lps.length q):=by unfold iQ;rw[List.getElem?_mapIdx,hn];rfl
   have hil:=(y3.mp hn).1
   generalize hPd:((iQ pg ni q).take i).map dDs=P
   have hPl:P.length≤3:=by rw[←hPd,y8,List.length_take];omega
   suffices body:∀Wf:DL.Fin,(∀G T,PlJ S pg ni q (i+1) G T->Wf.nx G T)->(m8 B).wp [some (dPg pg),some (.int (ni:Int)),some (dT q),some (.loc S.length),some (.int (i:Int)),some (dNs n),o6,o7,o8,o9,o10,o11] (S++P::J) Wf by
    refine⟨rfl,?_⟩
    simp only[setAll,List.set_cons_succ,List.set_cons_zero]
    exact body _ λ G T h=>h
   intro Wf hnx
   have zr:∀a:Int,D.tup ([D.int a]++(List.replicate n.lps.length (0:Int)).map D.int)=dN (zer a n.lps.length):=λ a=>rfl
   walk_at "b"
   rw[y8]
   refine⟨⟨by omega,by omega⟩,by show 1*_≤_;omega,?_⟩
   rw[Int.toNat_natCast,z6]
   walk_at "b"
   rw[zr]
   have eS:(S++P::J)++[[D.tup [D.str "form",dN (zer (i:Int) n.lps.length)]]]=S++P::(J++[(bZ i ni n.lps.length q 0).map dLn]):=by simp;rfl
   have eN:(S++P::J).length=S.length+1+J.length:=by simp;omega
   rw[eS,eN]
   simp only[List.set_cons_succ,List.set_cons_zero]
   refine⟨⟨by decide,by decide⟩,?_⟩
   refine aL ⟨λ k Γ' T=>∃o8 o9 o10,Γ'=[some (dPg pg),some (.int (ni:Int)),some (dT q),some (.loc S.length),some (.int (i:Int)),some (dNs n),some (.int (n.lps.length:Int)),some (.loc (S.length+1+J.length)),o8,o9,o10,o11]/\T=S++P::(J++[(bZ i ni n.lps.length q k).map dLn]),⟨_,_,_,rfl,rfl⟩,?_,?_⟩
   . rintro k e Γ' T he ⟨o8,o9,o10,rfl,rfl⟩
     obtain⟨hk,rfl⟩:=aM he
     rw[show(0:Int)+(k:Int)=(k:Int)from by omega]
     have hk3:k<3:=by omega
     suffices body:∀Wk:DL.Fin,(∀G T,(∃o8 o9 o10,G=[some (dPg pg),some (.int (ni:Int)),some (dT q),some (.loc S.length),some (.int (i:Int)),some (dNs n),some (.int (n.lps.length:Int)),some (.loc (S.length+1+J.length)),o8,o9,o10,o11]/\T=S++P::(J++[(bZ i ni n.lps.length q (k+1)).map dLn]))->Wk.nx G T)->(nq B).wp [some (dPg pg),some (.int (ni:Int)),some (dT q),some (.loc S.length),some (.int (i:Int)),some (dNs n),some (.int (n.lps.length:Int)),some (.loc (S.length+1+J.length)),some (.int (k:Int)),o9,o10,o11] (S++P::(J++[(bZ i ni n.lps.length q k).map dLn])) Wk by
      refine cO ?_
      simp only[List.set_cons_succ,List.set_cons_zero]
      exact body _ λ G T h=>h
     intro Wk hwk
     have app:∀c s:Int,-1≤s->s≤1->cj i ni n.lps.length q k=.fm (sgf n.lps.length c s)->(jM B).wp [some (dPg pg),some (.int (ni:Int)),some (dT q),some (.loc S.length),some (.int (i:Int)),some (dNs n),some (.int (n.lps.length:Int)),some (.loc (S.length+1+J.length)),some (.int (k:Int)),some (.int c),some (.int s),o11] (S++P::(J++[(bZ i ni n.lps.length q k).map dLn])) Wk:=by
      intro c s s0 s1 hll
      walk_at "b"
      refine⟨⟨by omega,by omega⟩,?_⟩
      rw[Int.toNat_natCast,pL]
      refine di (λ(j:Nat)=>D.int (s*(if(j:Int)=c then 1 else 0))) (by simp;omega) ?_ ?_
      . intro j a hj Q hQ
        walk_at "b"
        rw[show(if decide ((a:Int)=c)=true then(1:Int)else 0)=if(a:Int)=c then 1 else 0 from by by_cases h:(a:Int)=c<;>simp[h]]
        exact hQ
      walk_at "b"
      refine⟨_,_,rfl,rfl,by simp;omega,?_⟩
      walk_at "b"
      refine⟨_,Ox,by rw[y8];unfold bZ;simp;omega,?_⟩
      rw[Sw]
      refine hwk _ _ ⟨_,_,_,rfl,?_⟩
      rw[Il,List.map_append,hll]
      have e:dLn (.fm (sgf n.lps.length c s))=.tup [.str "form",.tup ([D.int 0]++(List.range n.lps.length).map λ(j:Nat)=>D.int (s*(if(j:Int)=c then 1 else 0)))]:=by
       show D.tup [.str "form",dN _]=_
       unfold dN sgf
       rw[List.map_cons,List.map_map]
       rfl
      rw[List.map_singleton,e]
     have els:¬(i=ni/\k<n.lps.length)->cj i ni n.lps.length q k=.fm (sgf n.lps.length (k:Int) 1):=λ h=>if_neg h
     walk_at "b"
     simp only[List.set_cons_succ,List.set_cons_zero]
     refine⟨λ c=>?_,λ c=>?_⟩
     . have c:=of_decide_eq_true c
       obtain rfl:i=ni:=by omega
       have hnn:n=n0:=by rw[hn]at hn0;exact Option.some.inj hn0
       subst hnn
       walk_at "b"
       refine⟨λ c2=>?_,λ c2=>?_⟩
       . have c2:=of_decide_eq_true c2
         have k1:=y4 (l:=q.1) (i:=k) (by omega)
         have k2:=y4 (l:=q.2) (i:=k) (by omega)
         have hs':=hs _ (y6 k2)
         have hll:cj i i n.lps.length q k=.fm (sgf n.lps.length (q.1[k]'(by omega)) (q.2[k]'(by omega))):=by
          unfold cj
          rw[if_pos ⟨rfl,by omega⟩,List.getD,List.getD,k1,k2]
          rfl
         walk_at "b"
         refine⟨_,pG k1,?_⟩
         walk_at "b"
         refine⟨_,pG k2,?_⟩
         simp only[List.set_cons_succ,List.set_cons_zero]
         exact app _ _ hs'.1 hs'.2 hll
       . have c2:=of_decide_eq_false c2
         exact app _ 1 (by decide) (by decide) (els λ z=>by omega)
     . have c:=of_decide_eq_false c
       exact⟨λ z=>ff z,λ _=>app _ 1 (by decide) (by decide) (els λ z=>by omega)⟩
   . rintro Γ' T ⟨o8,o9,o10,rfl,rfl⟩
     rw[au]
     have hlh:(bZ i ni n.lps.length q 3).length=4:=rfl
     walk_at "b"
     rw[y8]
     refine⟨⟨by omega,by omega⟩,?_⟩
     rw[Int.toNat_natCast,pL]
     refine di (λ(s:Nat)=>dLs (bZ i ni n.lps.length q 3++[.fm (zer s n.lps.length)])) (by simp;omega) ?_ ?_
     . intro j s hj Q hQ
       walk_at "b"
       refine⟨⟨by omega,by omega⟩,by show 1*_≤_;omega,?_⟩
       rw[Int.toNat_natCast,z6]
       walk_at "b"
       refine⟨_,_,Ox,rfl,by rw[y8];show 4+1≤_;decide,?_⟩
       have e:dLs (bZ i ni n.lps.length q 3++[.fm (zer s n.lps.length)])=.tup ((bZ i ni n.lps.length q (Int.toNat 3)).map dLn++[.tup [.str "form",.tup ([D.int (s:Int)]++(List.replicate n.lps.length (0:Int)).map D.int)]]):=by
        unfold dLs
        rw[List.map_append]
        rfl
       rw[e]at hQ
       exact hQ
     walk_at "b"
     refine⟨_,at1 rfl,by omega,?_⟩
     rw[rH rfl]
     refine hnx _ _ ⟨J++[(bZ i ni n.lps.length q (Int.toNat 3)).map dLn],_,_,_,_,_,_,_,_,rfl,?_,QZ hJ (Fd uZ _)⟩
     rw[aJ hpi,List.map_append,hPd]
     have e:dDs (lC i ni n.dds.length n.lps.length q)=.tup ((List.range n.dds.length).map λ(s:Nat)=>dLs (bZ i ni n.lps.length q 3++[.fm (zer s n.lps.length)])):=by
      unfold dDs lC
      rw[List.map_map]
      rfl
     rw[List.map_singleton,e]
 . rintro Γ' T ⟨J,o4,o5,o6,o7,o8,o9,o10,o11,rfl,rfl,hJ⟩
   rw[List.length_mapIdx,y8,show pg.nss.length=(iQ pg ni q).length from by unfold iQ;rw[List.length_mapIdx],List.take_length]
   walk_at "b"
   refine⟨_,at1 rfl,?_⟩
   exact .inr ⟨_,S,rfl,x5 _,uR _,hS,hw⟩
theorem Eo{s:Int}:(cfm k d).map (s*·)=sgf d (k:Int) s:=by
 unfold cfm sgf
 rw[List.map_cons,List.map_map,Int.mul_zero]
 congr 1
 refine List.map_congr_left λ a _=>?_
 show s*(if k=a then 1 else 0)=s*(if(a:Int)=(k:Int)then 1 else 0)
 by_cases h:k=a
 . rw[if_pos h,if_pos (by omega)]
 . rw[if_neg h,if_neg (by omega)]
theorem Ed(k d:Nat):cfm k d=sgf d (k:Int) 1:=by
 rw[←Eo]
 conv=>lhs;rw[←List.map_id (cfm k d)]
 exact List.map_congr_left λ a _=>(Int.one_mul a).symm
theorem Jl(i ni s d:Nat)(q:List Int×List Int)(h:i≠ni):fZ i s d=bZ i ni d q 3++[.fm (zer s d)]:=by
 have e:∀k,cj i ni d q k=.fm (cfm k d):=λ k=>by unfold cj;rw[if_neg λ z=>h z.1,Ed]
 show _=(Ln.fm (zer i d)::[cj i ni d q 0,cj i ni d q 1,cj i ni d q 2])++[Ln.fm (zer s d)]
 rw[e,e,e]
 rfl
theorem Dk{α:Type}{l:List α}(h:l.length=2):∃a b,l=[a,b]:=by
 match l,h with
 | [a,b],_=>exact⟨a,b,rfl⟩
theorem vg{α:Type}{l:List α}(h:l.length=3):∃a b c,l=[a,b,c]:=by
 match l,h with
 | [a,b,c],_=>exact⟨a,b,c,rfl⟩
theorem JB(i s d:Nat)(q:List Int×List Int)(d1:1≤d)(d3:d≤3)(q1:q.1.length=d)(q2:q.2.length=d)(h0:∀a∈q.1,0≤a):(fZ i s d).take 1++bO d q++(fZ i s d).drop (1+d)=bZ i i d q 3++[.fm (zer s d)]:=by
 obtain⟨l,m⟩:=q
 have e:∀k,k<d->∀a b,l[k]? =some a->m[k]? =some b->cj i i d (l,m) k=.fm ((cfm a.toNat d).map (b*·)):=λ k hk a b ha hb=>by
  unfold cj
  rw[if_pos ⟨rfl,hk⟩,List.getD,List.getD]
  show Ln.fm (sgf d ((l[k]?).getD 0) ((m[k]?).getD 0))=_
  rw[ha,hb,Eo]
  have:=h0 a (y6 ha)
  show Ln.fm (sgf d a b)=Ln.fm (sgf d (a.toNat:Int) b)
  rw[Int.toNat_of_nonneg this]
 have e':∀k,¬k<d->cj i i d (l,m) k=.fm (cfm k d):=λ k hk=>by unfold cj;rw[if_neg λ z=>hk z.2,Ed]
 show _=(Ln.fm (zer i d)::[cj i i d (l,m) 0,cj i i d (l,m) 1,cj i i d (l,m) 2])++[Ln.fm (zer s d)]
 have q1:l.length=d:=q1
 have q2:m.length=d:=q2
 rcases(show d=1∨d=2∨d=3 by omega)with rfl | rfl | rfl
 . obtain⟨a,rfl⟩:=List.length_eq_one_iff.mp q1
   obtain⟨b,rfl⟩:=List.length_eq_one_iff.mp q2
   rw[e 0 (by decide) a b rfl rfl,e' 1 (by decide),e' 2 (by decide)]
   rfl
 . obtain⟨a,a',rfl⟩:=Dk q1
   obtain⟨b,b',rfl⟩:=Dk q2
   rw[e 0 (by decide) a b rfl rfl,e 1 (by decide) a' b' rfl rfl,e' 2 (by decide)]
   rfl
 . obtain⟨a,a',a2,rfl⟩:=vg q1
   obtain⟨b,b',b2,rfl⟩:=vg q2
   rw[e 0 (by decide) a b rfl rfl,e 1 (by decide) a' b' rfl rfl,e 2 (by decide) a2 b2 rfl rfl]
   rfl
theorem M5{pg:Pg}{n:Ns}{q:List Int×List Int}(hn:pg.nss[i]? =some n)(d1:1≤n.lps.length)(d3:n.lps.length≤3)(q1:q.1.length=n.lps.length)(q2:q.2.length=n.lps.length)(h0:∀a∈q.1,0≤a):KR pg i n q=iQ pg i q:=by
 unfold KR iQ
 refine List.ext_getElem? λ j=>?_
 rw[List.getElem?_mapIdx]
 by_cases c:i=j
 . subst c
   rw[List.getElem?_set_self (by unfold cF;rw[List.length_mapIdx];exact(y3.mp hn).1),hn]
   show some _=some (lC i i n.dds.length n.lps.length q)
   congr 1
   unfold bK lC
   rw[List.map_map]
   refine List.map_congr_left λ s _=>?_
   exact JB i s n.lps.length q d1 d3 q1 q2 h0
 . rw[List.getElem?_set_ne c]
   unfold cF
   rw[List.getElem?_mapIdx]
   cases e:pg.nss[j]? with
   | none=>rfl
   | some m=>
     show some (bK j m.dds.length m.lps.length)=some (lC j i m.dds.length m.lps.length q)
     congr 1
     unfold bK lC
     refine List.map_congr_left λ s _=>Jl j i s m.lps.length q λ z=>c z.symm
theorem N8{a:Int}(h:a∈RF.upI d):0≤a:=by
 unfold RF.upI at h
 obtain⟨k,_,rfl⟩:=List.mem_map.mp h
 omega
theorem tu{ch:List Int}:∀d,∀t∈tups ch d,∀a∈t,a∈ch
 | 0,t,h,a,ha=>by rw[List.mem_singleton.mp h]at ha;cases ha
 | d+1,t,h,a,ha=>by
   obtain⟨u,hu,h⟩:=List.mem_flatMap.mp h
   obtain⟨x,hx,rfl⟩:=List.mem_map.mp h
   rcases List.mem_append.mp ha with ha | ha
   . exact tu d u hu a ha
   . rw[List.mem_singleton.mp ha];exact hx
theorem Dz{q:List Int×List Int}(h:q∈trn d):q.1.length=d/\q.2.length=d/\(∀a∈q.1,0≤a)/\∀s∈q.2,-1≤s/\s≤1:=by
 obtain⟨l,hl,h⟩:=List.mem_flatMap.mp h
 unfold fX at h
 split at h
 . obtain⟨s,hs,rfl⟩:=List.mem_map.mp h
   refine⟨dG d l hl,dG d s hs,λ a ha=>N8 (tu d l hl a ha),λ x hx=>?_⟩
   have:=tu d s hs x hx
   simp at this
   omega
 . cases h
theorem g8:∀xs:List Int,bB (xs.map D.int)=true
 | []=>rfl
 | x::xs=>by simp only[List.map_cons,bB,okD,g8 xs,Bool.and_true]
theorem bU:∀xs:List Int,aO (xs.map D.int)=0
 | []=>rfl
 | x::xs=>by simp only[List.map_cons,aO,deep,bU xs];rfl
theorem dw{S:Store}{ds:List D}(h:S[k]? =some ds):vw S (.loc k)=.lst ds:=by simp only[vw,h]
theorem OJ{S:Store}{ds:List D}{W:Bool->Store->Prop}(h:S[k]? =some ds)(ok:bB ds=true)(dp:aO ds≤49)(nl:aj ds=true)(w:W false S):aR .NotEq (.loc k) (.lst ds) S W:=by
 unfold aR
 show(oV S (.loc k) (.lst ds)/\W (!eqD (vw S (.loc k)) (vw S (.lst ds))) S)∨_
 have nl:ak (.lst ds)=true:=nl
 refine .inl ⟨⟨by rw[dw h];exact ok,ok,by rw[dw h];show aO ds+1≤50;omega⟩,?_⟩
 rw[dw h,show vw S (.lst ds)=.lst ds from rfl,gn _ nl]
 exact w
theorem QS{S:Store}{ds:List D}{W:Bool->Store->Prop}(h:S[k]? =some ds)(ok:bB ds=true)(dp:aO ds≤49)(nl:aj ds=true)(w:W true S):aR .Eq (.loc k) (.lst ds) S W:=by
 unfold aR
 show oV S (.loc k) (.lst ds)/\W (eqD (vw S (.loc k)) (vw S (.lst ds))) S
 have nl:ak (.lst ds)=true:=nl
 refine⟨⟨by rw[dw h];exact ok,ok,by rw[dw h];show aO ds+1≤50;omega⟩,?_⟩
 rw[dw h,show vw S (.lst ds)=.lst ds from rfl,gn _ nl]
 exact w
theorem M7(l:List (List Int×List Int)):aO (l.map dT)≤2:=by
 induction l with
 | nil=>show 0≤2;decide
 | cons a l ih=>
   show max (max (aO (a.1.map D.int)+1) (max (aO (a.2.map D.int)+1) 0)+1) (aO (l.map dT))≤2
   rw[bU,bU]
   omega
theorem dpM{α:Type}{f:α->D}(h:∀a,deep (f a)≤m)(l:List α):aO (l.map f)≤m:=by
 induction l with
 | nil=>exact Nat.zero_le _
 | cons a l ih=>
   show max (deep (f a)) (aO (l.map f))≤m
   have:=h a
   omega
theorem Rp(l:Ln):deep (dLn l)≤2:=by
 cases l with
 | fm f=>
   show max 0 (max (aO (f.map D.int)+1) 0)+1≤2
   rw[bU];decide
 | bk f z=>
   show max 0 (max (aO (f.map D.int)+1) (max 0 0))+1≤2
   rw[bU];decide
theorem Rb(p:Pn):deep (dPn p)≤5:=Nat.succ_le_succ (dpM (λ ds=>Nat.succ_le_succ (dpM (λ ls=>Nat.succ_le_succ (dpM Rp ls)) ds)) p)
theorem Mv(l:List (List Int×List Int)):bB (l.map dT)=true:=by
 induction l with
 | nil=>rfl
 | cons a l ih=>
   have h1:bB (a.1.map D.int)=true:=g8 _
   have h2:bB (a.2.map D.int)=true:=g8 _
   show(bB [D.tup (a.1.map D.int),.tup (a.2.map D.int)]&&bB (l.map dT))=true
   rw[ih,Bool.and_true]
   show(bB (a.1.map D.int)&&(bB (a.2.map D.int)&&true))=true
   rw[h1,h2];rfl
def Eh:Ct:=λ ds S W=>∃(k b:Nat) (pg:Pg) (i:Nat) (n:Ns),ds=[.loc k,dPg pg,.int (i:Int)]/\aD S k b/\b≤100000/\PgB 0 pg/\pg.nss[i]? =some n/\flat S/\∀S',aF S k S'->aD S' k (b+3)->W (.bl true) S'
theorem qF(F:Fun Ω.K "_law_nest_right" "_law_nest_right" dD f fd)(N0:Ω.cd=none)(B:Bi Ω.mg)(Cq57:Cal Ω "turnings" 3 2 qW)(Cq56:Cal Ω "turned_by" 5 3 xx)(Cq5:Cal Ω "_law_next" 2 2 bW)(Cq14:Cal Ω "_law_turnings" 1 1 Dq)(Cq9:Cal Ω "_law_plan" 1 3 Du):Ok Ω 6 f fd t6 Eh:=by
 refine az N0 (N:=sW) F (Bl.drp (ul B Cq57 Cq56 Cq5 Cq14 Cq9)) (by kernel_rfl!) ?_
 rintro ds S W ⟨k,b,pg,i,n,rfl,hp,hb,hP,hn,hS,hw⟩ hl
 obtain⟨hL,m1,m4,_,_⟩:=hP.2.2.2 n (y6 hn)
 have d1:=hL.1
 have d3:=hL.2.1
 have p3:=hP.2.2.1
 walk_at "b"
 refine⟨_,pG hn,?_⟩
 walk_at "b"
 rw[y8]
 refine⟨rfl,n.lps.length,rfl,d1,d3,?_⟩
 walk_at "b"
 refine⟨rfl,pg,i,n,rfl,hn,d3,hS,?_⟩
 have okT:=Mv (trn n.lps.length)
 have dpT:=M7 (trn n.lps.length)
 have nlT:=pQ (trn n.lps.length)
 have hz:(trn n.lps.length).length≤729:=by
  have h1:=DQ n.lps.length d3 (tups (RF.upI n.lps.length) n.lps.length)
  have h2:=dU (ch:=RF.upI n.lps.length) (by unfold RF.upI;simp;omega) d3
  exact Nat.le_trans h1 (Nat.mul_le_mul_right 27 h2)
 have hnz:0<(trn n.lps.length).length:=by
  rcases(show n.lps.length=1∨n.lps.length=2∨n.lps.length=3 by omega)with e | e | e<;>rw[e]<;>decide+kernel
 walk_at "b"
 refine OJ (at1 rfl) okT (by omega) nlT ?_
 walk_at "b"
 refine⟨_,at1 rfl,?_⟩
 refine Ej ⟨λ j Γ' T=>∃o5 o6,Γ'=[some (.loc k),some (dPg pg),some (.int (i:Int)),some (.lst ((trn n.lps.length).map dT)),some (.loc S.length),o5,o6,none,none]/\T=S++[(trn n.lps.length).map dT],⟨_,_,rfl,rfl⟩,?_,?_,?_⟩
 . rintro j Γ' T ⟨o5,o6,rfl,rfl⟩
   exact at1 rfl
 . rintro j e Γ' T he ⟨o5,o6,rfl,rfl⟩
   obtain⟨⟨l,s⟩,hq,rfl⟩:=bf he
   have hm:=Dz (y6 hq)
   have q1:l.length=n.lps.length:=hm.1
   have q2:s.length=n.lps.length:=hm.2.1
   refine⟨rfl,?_⟩
   walk_at "b"
   refine nR ⟨by rw[w9];show(List.map _ l).length+(List.map _ s).length≤_;rw[y8,y8];omega,λ _ acc S'=>acc=[]/\S'=S++[(trn n.lps.length).map dT],⟨rfl,rfl⟩,λ _ _ _ _=>trivial,?_,?_⟩
   . rintro j' d acc S' hd ⟨rfl,rfl⟩
     obtain⟨x,rfl⟩:∃x:Int,d=.int x:=by
      rcases List.mem_append.mp (y6 hd)with h | h
      . obtain⟨x,_,e⟩:=List.mem_map.mp h
        exact⟨x,e.symm⟩
      . obtain⟨x,_,e⟩:=List.mem_map.mp h
        exact⟨x,e.symm⟩
     walk_at "b"
     exact⟨rfl,rfl⟩
   . rintro acc S' ⟨rfl,rfl⟩
     left
     walk_at "b"
     refine sV rfl (by decide) ?_
     walk_at "b"
     exact⟨_,_,rfl,rfl⟩
 rintro Γ' T ⟨o5,o6,rfl,rfl⟩
 walk_at "b"
 refine⟨⟨by decide,by decide⟩,aL ⟨λ j Γ' T=>∃S' o5 o6 o7 o8,Γ'=[some (.loc k),some (dPg pg),some (.int (i:Int)),some (.lst ((trn n.lps.length).map dT)),some (.loc S.length),o5,o6,o7,o8]/\T=S'++[(trn n.lps.length).map dT]/\aF S k S'/\aD S' k (b+j),⟨S,_,_,_,_,rfl,rfl,.refl hp,hp⟩,?_,?_⟩⟩
 . rintro j e Γ' T he ⟨S1,o5,o6,o7,o8,rfl,rfl,u1,p1⟩
   obtain⟨hj,rfl⟩:=aM he
   have f1:=cR (u1.flat hS) nlT
   refine cO ?_
   simp only[List.set_cons_succ,List.set_cons_zero]
   walk_at "b"
   rw[y8]
   refine aW p1 (by omega) (by omega) (by omega) λ v S2 v0 v1 u2 p2=>?_
   have u2:=u1.trans u2
   have f2:=cR (u2.flat hS) nlT
   obtain⟨vn,rfl⟩:=Int.eq_ofNat_of_zero_le v0
   have hq:=y4 (l:=trn n.lps.length) (i:=vn) (by omega)
   have hm:=Dz (y6 hq)
   generalize (trn n.lps.length)[vn]'(by omega)=q at hq hm
   obtain⟨q1,q2,q3,q4⟩:=hm
   have small:∀m∈pg.nss,m.lps.length≤10/\m.dds.length≤10:=λ m hm=>by
    obtain⟨a,b1,b2,_,_⟩:=hP.2.2.2 m hm
    have:=a.2.1
    exact⟨by omega,by omega⟩
   walk_at "b"
   refine⟨_,pG hq,?_⟩
   walk_at "b"
   refine⟨rfl,pg,i,n,q,rfl,by omega,small,hn,q3,by omega,?_⟩
   walk_at "b"
   refine⟨rfl,pg,i,n,q,rfl,hP,hn,q1,q2,q4,f2,?_⟩
   rw[M5 hn d1 d3 q1 q2 q3]
   refine sV (uR _) (by have:=Rb (iQ pg i q);omega) ?_
   walk_at "b"
   exact⟨S2,_,_,_,_,rfl,rfl,u2,p2⟩
 rintro Γ' T ⟨S1,o5,o6,o7,o8,rfl,rfl,u1,p1⟩
 rw[au]at p1
 walk_at "b"
 refine⟨_,at1 u1.len.symm,?_⟩
 rw[rH u1.len.symm]
 have f1:=u1.flat hS
 walk_at "b"
 refine⟨rfl,pg,i,n,rfl,hn,d3,cR f1 rfl,?_⟩
 walk_at "b"
 refine QS (at1 rfl) okT (by omega) nlT ?_
 walk_at "b"
 exact .inr ⟨_,S1,by rw[List.append_assoc],by rw[u1.len];exact x5 _,rfl,f1,hw S1 u1 (p1.mono (by omega))⟩
section
variable {S : Store} {a b z : List D} {n : Nat}
theorem t_a(h:n=S.length):(S++[a,b])[n]? =some a:=by subst h;simp
theorem t_b(h:n=S.length):(S++[a,b])[n+1]? =some b:=by subst h;simp
theorem Uh(h:n=S.length):(S++[a,b]).set n z=S++[z,b]:=by subst h;rw[List.set_append_right _ _ (x5 _),Nat.sub_self];rfl
theorem Uu(h:n=S.length):(S++[a,b]).set (n+1) z=S++[a,z]:=by subst h;rw[List.set_append_right _ _ (by omega),show S.length+1-S.length=1 from by omega];rfl
end
theorem uQ(l:List Int):aj (l.map D.int)=true:=bD l
theorem Q3{S:Store}{l:List Int}{W:Bool->Store->Prop}(h:S[k]? =some (l.map D.int))(w:W (!l.isEmpty) S):aR .NotEq (.loc k) (.lst []) S W:=by
 unfold aR
 show(oV S (.loc k) (.lst [])/\W (!eqD (vw S (.loc k)) (vw S (.lst []))) S)∨_
 refine .inl ⟨⟨by rw[dw h];exact g8 l,rfl,by rw[dw h];show aO (l.map D.int)+1≤50;rw[bU];decide⟩,?_⟩
 rw[dw h,show eqD (.lst (l.map D.int)) (vw S (.lst []))=l.isEmpty from by cases l<;>rfl]
 exact w
def Hn:Ct:=λ ds S W=>∃(k b:Nat) (ts:List Int),ds=[.loc k,.lst (ts.map D.int)]/\aD S k b/\b≤100000/\ts.length≤60/\flat S/\∀(us:List Int) S',us.Perm ts->aF S k S'->aD S' k (b+60)->W (.lst (us.map D.int)) S'
theorem wR(F:Fun Ω.K "_law_shuffled" "_law_shuffled" fW f fd)(N0:Ω.cd=none)(B:Bi Ω.mg)(Cq5:Cal Ω "_law_next" 2 2 bW):Ok Ω 3 f fd Aq Hn:=by
 refine az N0 (N:=zj) F (Bl.fro (yD B Cq5)) (by kernel_rfl!) ?_
 rintro ds S W ⟨k,b,ts,rfl,hp,hb,ht,hS,hw⟩ hl
 walk_at "b"
 rw[show(S++[ts.map D.int]).length=S.length+1 from by simp,show S++[ts.map D.int]++[[]]=S++[ts.map D.int,([]:List Int).map D.int]from by simp]
 refine yz ⟨λ m Γ' T=>∃(S':Store) (o l:List Int),Γ'=[some (.loc k),some (.lst (ts.map D.int)),some (.loc S.length),some (.loc (S.length+1))]/\T=S'++[l.map D.int,o.map D.int]/\l.length=m/\(o++l).Perm ts/\aF S k S'/\aD S' k (b+o.length),ts.length,⟨S,[],ts,rfl,rfl,rfl,.refl _,.refl hp,hp⟩,?_⟩
 rintro m Γ' T ⟨S2,o,l,rfl,rfl,hm,hO,u2,p2⟩
 have en:∀S',aF S k S'->S.length=S'.length:=λ S' u=>u.len.symm
 have hll:o.length+l.length=ts.length:=by have:=hO.length_eq;rw[w9]at this;exact this
 walk_at "b"
 refine Q3 (t_a (en S2 u2)) ⟨λ q=>?_,λ q=>?_⟩
 . have hne:0<l.length:=by
    cases l with
    | nil=>cases q
    | cons=>simp
   walk_at "b"
   refine⟨_,t_a (en S2 u2),?_⟩
   walk_at "b"
   rw[y8]
   refine aW p2 (by omega) (by omega) (by omega) λ v S3 v0 v1 u3 p3=>?_
   have u3:=u2.trans u3
   obtain⟨vn,rfl⟩:∃vn:Nat,v=(vn:Int):=⟨v.toNat,by omega⟩
   have hq:vn<l.length:=by omega
   walk_at "b"
   refine⟨vn,_,.int l[vn],rfl,t_a (en S3 u3),by rw[y9,y4 hq];rfl,by rw[y8];omega,?_⟩
   rw[Uh (en S3 u3)]
   refine⟨_,t_b (en S3 u3),by rw[y8];omega,?_⟩
   rw[Uu (en S3 u3),show o.map D.int++[D.int l[vn]]=(o++[l[vn]]).map D.int from by rw[List.map_append];rfl,show(l.map D.int).eraseIdx vn=(l.eraseIdx vn).map D.int from by rw[List.eraseIdx_eq_take_drop_succ,List.eraseIdx_eq_take_drop_succ,List.map_append,List.map_take,List.map_drop]]
   refine⟨(l.eraseIdx vn).length,?_,S3,o++[l[vn]],l.eraseIdx vn,rfl,rfl,rfl,?_,u3,p3.mono (by rw[w9];exact x5 _)⟩
   . rw[List.length_eraseIdx,if_pos hq];omega
   . refine List.Perm.trans ?_ hO
     rw[List.append_assoc]
     refine List.Perm.append_left _ ?_
     rw[List.eraseIdx_eq_take_drop_succ]
     refine(List.perm_middle (l₁:=l.take vn)).symm.trans ?_
     rw[←List.drop_eq_getElem_cons hq,List.take_append_drop]
 . have hl0:l=[]:=by
    cases l with
    | nil=>rfl
    | cons=>cases q
   subst hl0
   rw[List.append_nil]at hO
   walk_at "b"
   exact .inr ⟨[[],o.map D.int],S2,S.length+1,o.map D.int,rfl,rfl,by rw[u2.len];exact x5 _,by rw[u2.len];exact Nat.le_succ _,t_b (en S2 u2),uQ o,u2.flat hS,hw o S2 hO u2 (p2.mono (by omega))⟩
def DW:Ct:=λ ds S W=>∃(k b n:Nat),ds=[.loc k,.int (n:Int)]/\aD S k b/\b≤100000/\n≤60/\∀(L:List (List Int)) S',L.length≤6->(∀us∈L,us.length≤100/\¬Okn n us)->aF S k S'->aD S' k (b+1)->W (.lst (L.map λ us=>.lst (us.map D.int))) S'
theorem Ro(ds:List D):cutD ds none (some (-1))=ds.take (ds.length-1):=by
 unfold cutD
 rw[HT.sIx_none]
 have e:HT.sIx ds.length ds.length (some (-1))=ds.length-1:=by
  unfold HT.sIx
  simp
  omega
 rw[e,List.drop_zero,Nat.sub_zero]
theorem ur{n:Nat}(h:(n:Int)∈us):¬Okn n us:=λ z=>by have:=z.1.1 _ h;omega
theorem Q8{n:Nat}(h:(-1:Int)∈us):¬Okn n us:=λ z=>by have:=z.1.1 _ h;omega
theorem yC{n:Nat}(h:us.length≠n):¬Okn n us:=λ z=>h z.2
theorem sS(F:Fun Ω.K "_law_no_orders" "_law_no_orders" fj f fd)(N0:Ω.cd=none)(B:Bi Ω.mg)(Cq5:Cal Ω "_law_next" 2 2 bW):Ok Ω 3 f fd vW DW:=by
 refine az N0 (N:=wM) F (xf B Cq5) (by kernel_rfl!) ?_
 rintro ds S W ⟨k,b,n,rfl,hp,hb,hn,hw⟩ hl
 walk_at "b"
 refine⟨⟨by omega,by omega⟩,.inl ?_⟩
 have hU:(RF.upI n).length=n:=by unfold RF.upI;simp
 rw[lV,Int.toNat_natCast]
 generalize RF.upI n=U at hU
 have hM:(U.map D.int).length=n:=by rw[y8];exact hU
 walk_at "b"
 refine⟨_,_,rfl,rfl,by split<;>decide,by split<;>(show 1*_≤_)<;>decide,?_⟩
 rw[Ro,hM]
 have e1:U.map D.int++[D.int (n:Int)]=(U++[(n:Int)]).map D.int:=by rw[List.map_append];rfl
 have e2:U.map D.int++[D.int (-1)]=(U++[-1]).map D.int:=by rw[List.map_append];rfl
 have e3:List.take (n-1) (U.map D.int)++(List.replicate (if decide ((n:Int)=0)=true then(1:Int)else 0).toNat [D.int (n:Int)]).flatten=(U.take (n-1)++(if n=0 then[(n:Int)]else[])).map D.int:=by
  rw[List.map_append,List.map_take]
  congr 1
  by_cases h:n=0
  . subst h;rfl
  . rw[if_neg h,if_neg (by simpa using h)];rfl
 have b3:∀us∈[U++[(n:Int)],U++[-1],U.take (n-1)++(if n=0 then[(n:Int)]else[])],us.length≤100/\¬Okn n us:=λ us hu=>by
  rcases List.mem_cons.mp hu with rfl | hu
  . exact⟨by rw[w9,hU];show n+1≤_;omega,ur (List.mem_append_right _ (List.mem_singleton.mpr rfl))⟩
  . rcases List.mem_cons.mp hu with rfl | hu
    . exact⟨by rw[w9,hU];show n+1≤_;omega,Q8 (List.mem_append_right _ (List.mem_singleton.mpr rfl))⟩
    . rw[List.mem_singleton.mp hu]
      by_cases h:n=0
      . rw[if_pos h]
        exact⟨by rw[w9,List.length_take];show _+1≤_;omega,ur (List.mem_append_right _ (List.mem_singleton.mpr rfl))⟩
      . rw[if_neg h,List.append_nil]
        exact⟨by rw[List.length_take];omega,yC (by rw[List.length_take];omega)⟩
 walk_at "b"
 rw[e1,e2,e3]
 generalize hT3:U.take (n-1)++(if n=0 then[(n:Int)]else[])=T3 at b3
 refine⟨λ c=>?_,λ c=>?_⟩
 . have c:=of_decide_eq_true c
   walk_at "b"
   refine dM hp (by omega) (by omega) (by omega) λ v S2 v0 v1 u2 p2=>?_
   obtain⟨a,rfl⟩:=Int.eq_ofNat_of_zero_le v0
   walk_at "b"
   rw[ql (by omega),dY (by omega),Int.toNat_natCast,show((a:Int)+1).toNat=a+1 from by omega]
   refine⟨by rw[List.length_take,List.length_drop,hM];omega,?_⟩
   walk_at "b"
   rw[ql (by omega),Int.toNat_natCast]
   refine⟨by rw[List.length_take,hM];show _+1≤_;omega,?_⟩
   walk_at "b"
   rw[dY (by omega),show((a:Int)+1).toNat=a+1 from by omega]
   refine⟨by rw[w9,List.length_take,List.length_drop,hM];show(_+1)+_≤_;omega,?_⟩
   walk_at "b"
   have f1:List.take a (U.map D.int)++List.drop (a+1) (U.map D.int)=(U.take a++U.drop (a+1)).map D.int:=by rw[List.map_append,List.map_take,List.map_drop]
   have f2:U.map D.int++[D.int (a:Int)]=(U++[(a:Int)]).map D.int:=by rw[List.map_append];rfl
   have f3:List.take a (U.map D.int)++[D.int (n:Int)]++List.drop (a+1) (U.map D.int)=(U.take a++[(n:Int)]++U.drop (a+1)).map D.int:=by rw[List.map_append,List.map_append,List.map_take,List.map_drop];rfl
   rw[f1,f2,f3]
   refine hw [U++[(n:Int)],U++[-1],T3,U.take a++U.drop (a+1),U++[(a:Int)],U.take a++[(n:Int)]++U.drop (a+1)] S2 (show 6≤6 by decide) (λ us hu=>?_) u2 p2
   rcases List.mem_append.mp (show us∈[U++[(n:Int)],U++[-1],T3]++[U.take a++U.drop (a+1),U++[(a:Int)],U.take a++[(n:Int)]++U.drop (a+1)]from hu)with hu | hu
   . exact b3 us hu
   . rcases List.mem_cons.mp hu with rfl | hu
     . exact⟨by rw[w9,List.length_take,List.length_drop];omega,yC (by rw[w9,List.length_take,List.length_drop];omega)⟩
     . rcases List.mem_cons.mp hu with rfl | hu
       . exact⟨by rw[w9,hU];show n+1≤_;omega,yC (by rw[w9,hU];show n+1≠n;omega)⟩
       . rw[List.mem_singleton.mp hu]
         exact⟨by rw[w9,w9,List.length_take,List.length_drop];show _+1+_≤_;omega,ur (List.mem_append_left _ (List.mem_append_right _ (List.mem_singleton.mpr rfl)))⟩
 . walk_at "b"
   exact hw [U++[(n:Int)],U++[-1],T3] S (show 3≤6 by decide) b3 (.refl hp) (hp.mono (by omega))
def IK:Ct:=λ ds S W=>∃(p:Pg) (us:List Int),ds=[dPg p,.lst (us.map D.int)]/\PgB 0 p/\many p.nss≤60/\flat S/\us.length≤100/\¬Okn (aK p).length us/\W (.bl true) S
theorem yR(F:Fun Ω.K "_law_refused" "_law_refused" iK f fd)(N0:Ω.cd=none)(B:Bi Ω.mg)(E:ExF Ω.mg Ω.K XL XT)(Cq51:gR Ω "reach" 8 2 rP):Ok Ω 9 f fd BK IK:=by
 refine Tq N0 (N:=Bd) F (Bp B E Cq51) (by kernel_rfl!) ?_
 rintro ds S W ⟨p,us,rfl,hP,h60,hS,ho,hno,hw⟩ hl
 walk_at "b"
 refine⟨rfl,p,us,rfl,hP,h60,hS,ho,λ z=>absurd z hno,λ _=>⟨by decide,_,rfl,hw⟩⟩
theorem K7{n:Nat}(h:us.Perm (RF.upI n)):Okn n us:=by
 have hm:∀t∈RF.upI n,0≤t/\t<(n:Int):=λ t ht=>by
  unfold RF.upI at ht
  obtain⟨k,hk,rfl⟩:=List.mem_map.mp ht
  have:=List.mem_range.mp hk
  omega
 have hn:(RF.upI n).Nodup:=by
  unfold RF.upI
  refine List.Pairwise.map _ (λ a b hab=>?_) List.nodup_range
  intro z
  exact hab (by omega)
 refine⟨⟨λ t ht=>hm t (h.mem_iff.mp ht),h.nodup_iff.mpr hn⟩,?_⟩
 rw[h.length_eq]
 unfold RF.upI
 simp
theorem Rq(F:Fun Ω.K "law" "law" jC f fd)(N0:Ω.cd=none)(B:Bi Ω.mg)(Cq17:Cal Ω "cells_of" 5 1 ik)(Cq51:gR Ω "reach" 8 2 rP)(Cq7:Cal Ω "_law_pen" 2 1 HY)(Cq10:Cal Ω "_law_program" 11 1 DY)(Cq13:Cal Ω "_law_shuffled" 3 2 Hn)(Cq11:Cal Ω "_law_reach" 1 2 yd)(Cq12:Cal Ω "_law_refused" 9 2 IK)(Cq6:Cal Ω "_law_no_orders" 3 2 DW)(Cq4:Cal Ω "_law_nest_right" 6 3 Eh):Ok Ω 12 f fd Mf mC:=by
 refine az N0 (N:=Tt) F (R1 B Cq17 Cq51 Cq7 Cq10 Cq13 Cq11 Cq12 Cq6 Cq4) (by kernel_rfl!) ?_
 rintro ds S W ⟨ns,rfl,hlen,hw,rfl⟩ hl
 walk_at "b"
 refine⟨rfl,ns,rfl,λ c d=>?_⟩
 have hS:flat ([]++[f9 ns 0 c d]):=λ l hl=>by rw[List.mem_singleton.mp hl];exact nF ..
 have p0:aD ([]++[f9 ns 0 c d]) 0 0:=⟨ns,0,c,d,rfl,by decide,by decide⟩
 generalize ([]++[f9 ns 0 c d]:Store)=S at hS p0 ⊢
 walk_at "b"
 refine⟨rfl,0,0,rfl,p0,by decide,hS,λ pg S1 hP h60 u1 p1=>?_⟩
 have f1:=u1.flat hS
 have hN:=J0 h60
 have eC:(aN pg.nss).map (dz pg)=((aK pg).map crs).map dCR:=by rw[lz,List.map_map];rfl
 have hXL:((aK pg).map crs).length=(aK pg).length:=y8 _
 walk_at "b"
 refine⟨rfl,vd hP h60 f1 ?_⟩
 rw[eC]
 walk_at "b"
 rw[y8,hXL]
 refine⟨⟨by omega,by omega⟩,.inl ?_⟩
 rw[lV,Int.toNat_natCast]
 have hU:(RF.upI (aK pg).length).length=(aK pg).length:=by unfold RF.upI;simp
 have hpl:=DX hP
 walk_at "b"
 refine⟨rfl,0,_,RF.upI (aK pg).length,rfl,p1,by omega,by omega,f1,λ us1 S2 hu1 u2 p2=>?_⟩
 have f2:=u2.flat f1
 walk_at "b"
 refine⟨rfl,0,_,RF.upI (aK pg).length,rfl,p2,by omega,by omega,f2,λ us2 S3 hu2 u3 p3=>?_⟩
 have f3:=u3.flat f2
 walk_at "b"
 refine aL ⟨λ i Γ' T=>T=S3/\∃o5 o6 o7,Γ'=[some (.lst (ns.map D.int)),some (.loc 0),some (dPg pg),some (.lst (((aK pg).map crs).map dCR)),some (.lst ((RF.upI (aK pg).length).map D.int)),o5,o6,o7,none],⟨rfl,_,_,_,rfl⟩,?_,?_⟩
 . rintro i e Γ' T he ⟨rfl,o5,o6,o7,rfl⟩
   obtain⟨us,rfl,hu⟩:∃us:List Int,e=.lst (us.map D.int)/\us.Perm (RF.upI (aK pg).length):=by
    match i,he with
    | 0,he=>cases he;exact⟨_,rfl,.refl _⟩
    | 1,he=>cases he;exact⟨(RF.upI (aK pg).length).reverse,by rw[List.map_reverse],List.reverse_perm _⟩
    | 2,he=>cases he;exact⟨us1,rfl,hu1⟩
    | 3,he=>cases he;exact⟨us2,rfl,hu2⟩
    | i+4,he=>cases he
   have hok:=K7 hu
   have hul:us.length≤60:=by have:=hok.2;omega
   refine cO ?_
   simp only[List.set_cons_succ,List.set_cons_zero]
   walk_at "b"
   refine⟨rfl,pg,us,rfl,hP,h60,f3,by omega,λ _=>?_,λ z=>z hok⟩
   walk_at "b"
   refine⟨rfl,(aK pg).map crs,us,rfl,by omega,λ t ht=>by rw[hXL];exact hok.1.1 t ht,hpl,?_⟩
   walk_at "b"
   rw[decide_eq_true rfl]
   refine⟨λ z=>ff z,λ _=>?_⟩
   walk_at "b"
   refine sV (uQ us) (by show aO (us.map D.int)+1≤50;rw[bU];decide) ?_
   walk_at "b"
   exact⟨rfl,_,_,_,rfl⟩
 rintro Γ' T ⟨rfl,o5,o6,o7,rfl⟩
 walk_at "b"
 rw[y8,hXL]
 refine⟨rfl,0,_,(aK pg).length,rfl,p3,by omega,hN,λ L S4 hL hb u4 p4=>?_⟩
 have f4:=u4.flat f3
 walk_at "b"
 refine aL ⟨λ i Γ' T=>T=S4/\∃o5 o6 o7,Γ'=[some (.lst (ns.map D.int)),some (.loc 0),some (dPg pg),some (.lst (((aK pg).map crs).map dCR)),some (.lst ((RF.upI (aK pg).length).map D.int)),o5,o6,o7,none],⟨rfl,_,_,_,rfl⟩,?_,?_⟩
 . rintro i e Γ' T he ⟨rfl,o5,o6,o7,rfl⟩
   obtain⟨us,hu,rfl⟩:=bf he
   have hno:=hb us (y6 hu)
   refine cO ?_
   simp only[List.set_cons_succ,List.set_cons_zero]
   walk_at "b"
   refine⟨rfl,pg,us,rfl,hP,h60,f4,hno.1,hno.2,?_⟩
   walk_at "b"
   exact⟨rfl,_,_,_,rfl⟩
 rintro Γ' T ⟨rfl,o5,o6,o7,rfl⟩
 have h3:=hP.2.2.1
 walk_at "b"
 rw[y8]
 refine⟨⟨by omega,by omega⟩,aL ⟨λ i Γ' T'=>aF T 0 T'/\aD T' 0 (0+1000+60+60+1+3*i)/\∃o5 o6 o7 o8,Γ'=[some (.lst (ns.map D.int)),some (.loc 0),some (dPg pg),some (.lst (((aK pg).map crs).map dCR)),some (.lst ((RF.upI (aK pg).length).map D.int)),o5,o6,o7,o8],⟨.refl p4,p4,_,_,_,_,rfl⟩,?_,?_⟩⟩
 . rintro i e Γ' T he ⟨u5,p5,o5,o6,o7,o8,rfl⟩
   obtain⟨hi,rfl⟩:=aM he
   have hn:=y4 (l:=pg.nss) (i:=i) (by omega)
   rw[show(0:Int)+(i:Int)=(i:Int)from by omega]
   refine cO ?_
   simp only[List.set_cons_succ,List.set_cons_zero]
   walk_at "b"
   refine⟨rfl,0,_,pg,i,_,rfl,p5,by omega,hP,hn,u5.flat f4,λ S6 u6 p6=>?_⟩
   walk_at "b"
   exact⟨u5.trans u6,p6,_,_,_,_,rfl⟩
 rintro Γ' T ⟨u5,p5,o5,o6,o7,o8,rfl⟩
 walk_at "b"
 exact hw _
end K49
namespace K49
open PySem PySem.Spec L2 DL RF XE
open PyProof.Rows
variable {Ω : Wd} {f : Addr} {fd : FuncData}
theorem by1{G:List Value->Prop}(h:∀a0:Value,G [a0])(us:List Value)(e:us.length=1):G us:=by
 obtain⟨a0,us,rfl⟩:=List.exists_cons_of_length_eq_add_one e
 replace e:=Nat.succ.inj e
 obtain rfl:=List.eq_nil_of_length_eq_zero e
 exact h a0
theorem by2{G:List Value->Prop}(h:∀a0 a1:Value,G [a0,a1])(us:List Value)(e:us.length=2):G us:=by
 obtain⟨a0,us,rfl⟩:=List.exists_cons_of_length_eq_add_one e
 replace e:=Nat.succ.inj e
 obtain⟨a1,us,rfl⟩:=List.exists_cons_of_length_eq_add_one e
 replace e:=Nat.succ.inj e
 obtain rfl:=List.eq_nil_of_length_eq_zero e
 exact h a0 a1
theorem by3{G:List Value->Prop}(h:∀a0 a1 a2:Value,G [a0,a1,a2])(us:List Value)(e:us.length=3):G us:=by
 obtain⟨a0,us,rfl⟩:=List.exists_cons_of_length_eq_add_one e
 replace e:=Nat.succ.inj e
 obtain⟨a1,us,rfl⟩:=List.exists_cons_of_length_eq_add_one e
 replace e:=Nat.succ.inj e
 obtain⟨a2,us,rfl⟩:=List.exists_cons_of_length_eq_add_one e
 replace e:=Nat.succ.inj e
 obtain rfl:=List.eq_nil_of_length_eq_zero e
 exact h a0 a1 a2
theorem by4{G:List Value->Prop}(h:∀a0 a1 a2 a3:Value,G [a0,a1,a2,a3])(us:List Value)(e:us.length=4):G us:=by
 obtain⟨a0,us,rfl⟩:=List.exists_cons_of_length_eq_add_one e
 replace e:=Nat.succ.inj e
 obtain⟨a1,us,rfl⟩:=List.exists_cons_of_length_eq_add_one e
 replace e:=Nat.succ.inj e
 obtain⟨a2,us,rfl⟩:=List.exists_cons_of_length_eq_add_one e
 replace e:=Nat.succ.inj e
 obtain⟨a3,us,rfl⟩:=List.exists_cons_of_length_eq_add_one e
 replace e:=Nat.succ.inj e
 obtain rfl:=List.eq_nil_of_length_eq_zero e
 exact h a0 a1 a2 a3
def FI(K:PySem.W.Frag)(x:Str)(t:Stmt):Prop:=∃(f:Addr) (oc:Value) (od:Option Addr) (kV dc pm:Value) (an:Option Addr) (cd ct:Value) (sl:Array (Option Value)),PySem.W.nsIn K mainGlobals x=some (some (.ref f))/\K.lookup f=some ⟨oc,od,.func (PySem.W.fnOf x x (eE t) (bw t) (aq t) .none kV dc pm an cd ct),sl⟩/\PySem.W.codeIn K cd x=true/\PySem.W.keepIn K (.ref f)=true
theorem FI.mk{K:PySem.W.Frag}{x:Str}{t:Stmt}{f:Addr}{oc:Value}{od:Option Addr}{kV dc pm:Value}{an:Option Addr}{cd ct:Value}{sl:Array (Option Value)}(a:PySem.W.nsIn K mainGlobals x=some (some (.ref f)))(l:K.lookup f=some ⟨oc,od,.func (PySem.W.fnOf x x (eE t) (bw t) (aq t) .none kV dc pm an cd ct),sl⟩)(c:PySem.W.codeIn K cd x=true)(k:PySem.W.keepIn K (.ref f)=true):FI K x t:=⟨f,oc,od,kV,dc,pm,an,cd,ct,sl,a,l,c,k⟩
abbrev FU(Ω:Wd)(x:Str)(t:Stmt):Prop:=∃f fd,Fun Ω.K x x t f fd/\Ω.mg x=some (.ref f)
theorem FI.use{Ω:Wd}{h:Heap}{x:Str}{t:Stmt}(X:Ω.K.In h)(G:h.Ns mainGlobals Ω.mg)(q:FI Ω.K x t):FU Ω x t:=by
 obtain⟨f,oc,od,kV,dc,pm,an,cd,ct,sl,a,l,c,k⟩:=q
 exact⟨f,_,Im (st:=t) l c k,PySem.W.mg_of X G a⟩
theorem Qh{Ω:Wd}(B:Bi Ω.mg)(E:ExF Ω.mg Ω.K XL XT)
(u0:FU Ω "comes_to" fY)
(u1:FU Ω "with_next_count" cg)
(u2:FU Ω "counts_of" eX)
(u3:FU Ω "steps_of" fL)
(u4:FU Ω "deed_of" iI)
(u5:FU Ω "cell_at" iw)
(u6:FU Ω "cells_of_step" cM)
(u7:FU Ω "cells_of" fU)
(u8:FU Ω "number_of_steps" cu)
(u9:FU Ω "is_whole" gr)
(u10:FU Ω "is_row" jx)
(u11:FU Ω "is_order" gK)
(u12:FU Ω "refuse_no_order" b7)
(u13:FU Ω "far_apart" eY)
(u14:FU Ω "reach" kI)
(u15:FU Ω "_law_cell" n8)
(u16:FU Ω "_law_pen" rO)
(u17:FU Ω "is_tuple_of" cZ)
(u18:FU Ω "is_widths" fc)
(u19:FU Ω "is_form" il)
(u20:FU Ω "is_bound" gC)
(u21:FU Ω "is_loop" iM)
(u22:FU Ω "is_loops" gj)
(u23:FU Ω "has_few_figures" bY)
(u24:FU Ω "is_start" gG)
(u25:FU Ω "is_place_form" cJ)
(u26:FU Ω "is_table_with_place" bG)
(u27:FU Ω "is_read" iu)
(u28:FU Ω "is_reads" fM)
(u29:FU Ω "is_deed" ir)
(u30:FU Ω "is_nest" iy)
(u31:FU Ω "is_nests" gM)
(u32:FU Ω "program_of" dR)
(u33:FU Ω "_law_next" oN)
(u34:FU Ω "_law_loops" lr)
(u35:FU Ω "_law_value" kE)
(u36:FU Ω "_law_count" lG)
(u37:FU Ω "_law_place" lL)
(u38:FU Ω "_law_deed" pF)
(u39:FU Ω "_law_program" iG)
(u40:FU Ω "_law_shuffled" fW)
(u41:FU Ω "_law_reach" lO)
(u42:FU Ω "_law_refused" iK)
(u43:FU Ω "_law_no_orders" fj)
(u44:FU Ω "each_longer" dm)
(u45:FU Ω "tuples_of" fu)
(u46:FU Ω "loops_of" gH)
(u47:FU Ω "turnings" gJ)
(u48:FU Ω "number_form" cW)
(u49:FU Ω "count_form" dH)
(u50:FU Ω "plain_lines" dg)
(u51:FU Ω "plain_nest_plan" b8)
(u52:FU Ω "plain_plan" dX)
(u53:FU Ω "replaced" fP)
(u54:FU Ω "count_line" dJ)
(u55:FU Ω "turned_by" eZ)
(u56:FU Ω "_law_turnings" gk)
(u57:FU Ω "_law_plan" pB)
(u58:FU Ω "_law_nest_right" dD)
{f:Addr}{fd:FuncData}(F:Fun Ω.K "law" "law" jC f fd)(N0:Ω.cd=none):Ok Ω 12 f fd Mf mC:=by
 obtain⟨_,_,F0,g0⟩:=u0
 have Cq19:=callee F0 (vQ F0 N0 B) g0 (F0.binds λ _ _ _ _ _ _=>by2 λ _ _=>rfl)
 obtain⟨_,_,F0,g0⟩:=u1
 have Cq58:=callee F0 (jm F0 N0 B Cq19) g0 (F0.binds λ _ _ _ _ _ _=>by3 λ _ _ _=>rfl)
 obtain⟨_,_,F0,g0⟩:=u2
 have Cq22:=callee F0 (tQ F0 N0 Cq58) g0 (F0.binds λ _ _ _ _ _ _=>by1 λ _=>rfl)
 obtain⟨_,_,F0,g0⟩:=u3
 have Cq54:=callee F0 (wQ F0 N0 B Cq22) g0 (F0.binds λ _ _ _ _ _ _=>by1 λ _=>rfl)
 obtain⟨_,_,F0,g0⟩:=u4
 have Cq23:=callee F0 (xH F0 N0) g0 (F0.binds λ _ _ _ _ _ _=>by2 λ _ _=>rfl)
 obtain⟨_,_,F0,g0⟩:=u5
 have Cq16:=callee F0 (xZ F0 N0 B Cq19) g0 (F0.binds λ _ _ _ _ _ _=>by3 λ _ _ _=>rfl)
 obtain⟨_,_,F0,g0⟩:=u6
 have Cq18:=callee F0 (kO F0 N0 Cq23 Cq16) g0 (F0.binds λ _ _ _ _ _ _=>by2 λ _ _=>rfl)
 obtain⟨_,_,F0,g0⟩:=u7
 have Cq17:=callee F0 (wO F0 N0 Cq54 Cq18) g0 (F0.binds λ _ _ _ _ _ _=>by1 λ _=>rfl)
 obtain⟨_,_,F0,g0⟩:=u8
 have Cq46:=callee F0 (jz F0 N0 B Cq22) g0 (F0.binds λ _ _ _ _ _ _=>by1 λ _=>rfl)
 obtain⟨_,_,F0,g0⟩:=u9
 have Cq42:=callee F0 (wF F0 N0 B) g0 (F0.binds λ _ _ _ _ _ _=>by1 λ _=>rfl)
 obtain⟨_,_,F0,g0⟩:=u10
 have Cq38:=callee F0 (BZ F0 N0 B Cq42 Cq46) g0 (F0.binds λ _ _ _ _ _ _=>by2 λ _ _=>rfl)
 obtain⟨_,_,F0,g0⟩:=u11
 have Cq34:=callee F0 (vO F0 N0 B Cq46 Cq38) g0 (F0.binds λ _ _ _ _ _ _=>by2 λ _ _=>rfl)
 obtain⟨_,_,F0,g0⟩:=u12
 have Cq52:=Ea F0 (jn F0 N0 E Cq34) g0 (F0.binds λ _ _ _ _ _ _=>by2 λ _ _=>rfl)
 obtain⟨_,_,F0,g0⟩:=u13
 have Cq25:=callee F0 (uF F0 N0 B) g0 (F0.binds λ _ _ _ _ _ _=>by2 λ _ _=>rfl)
 obtain⟨_,_,F0,g0⟩:=u14
 have Cq51:=Ea F0 (Gr F0 N0 B E Cq17 Cq52 Cq25) g0 (F0.binds λ _ _ _ _ _ _=>by2 λ _ _=>rfl)
 obtain⟨_,_,F0,g0⟩:=u15
 have Cq0:=callee F0 (Hi F0 N0 B) g0 (F0.binds λ _ _ _ _ _ _=>by2 λ _ _=>rfl)
 obtain⟨_,_,F0,g0⟩:=u16
 have Cq7:=callee F0 (KY F0 N0 Cq0) g0 (F0.binds λ _ _ _ _ _ _=>by1 λ _=>rfl)
 obtain⟨_,_,F0,g0⟩:=u17
 have Cq41:=callee F0 (oM F0 N0 B) g0 (F0.binds λ _ _ _ _ _ _=>by3 λ _ _ _=>rfl)
 obtain⟨_,_,F0,g0⟩:=u18
 have Cq43:=callee F0 (tG F0 N0 B Cq42 Cq41) g0 (F0.binds λ _ _ _ _ _ _=>by1 λ _=>rfl)
 obtain⟨_,_,F0,g0⟩:=u19
 have Cq29:=callee F0 (yW F0 N0 B Cq42 Cq41) g0 (F0.binds λ _ _ _ _ _ _=>by2 λ _ _=>rfl)
 obtain⟨_,_,F0,g0⟩:=u20
 have Cq27:=callee F0 (vU F0 N0 B Cq29) g0 (F0.binds λ _ _ _ _ _ _=>by2 λ _ _=>rfl)
 obtain⟨_,_,F0,g0⟩:=u21
 have Cq30:=callee F0 (Aj F0 N0 Cq41 Cq27) g0 (F0.binds λ _ _ _ _ _ _=>by2 λ _ _=>rfl)
 obtain⟨_,_,F0,g0⟩:=u22
 have Cq31:=callee F0 (v7 F0 N0 B Cq41 Cq30) g0 (F0.binds λ _ _ _ _ _ _=>by1 λ _=>rfl)
 obtain⟨_,_,F0,g0⟩:=u23
 have Cq26:=callee F0 (jD F0 N0 B) g0 (F0.binds λ _ _ _ _ _ _=>by1 λ _=>rfl)
 obtain⟨_,_,F0,g0⟩:=u24
 have Cq39:=callee F0 (v4 F0 N0 B Cq29 Cq26) g0 (F0.binds λ _ _ _ _ _ _=>by2 λ _ _=>rfl)
 obtain⟨_,_,F0,g0⟩:=u25
 have Cq35:=callee F0 (lR F0 N0 B Cq29) g0 (F0.binds λ _ _ _ _ _ _=>by2 λ _ _=>rfl)
 obtain⟨_,_,F0,g0⟩:=u26
 have Cq40:=callee F0 (gQ F0 N0 B Cq42 Cq41 Cq35) g0 (F0.binds λ _ _ _ _ _ _=>by4 λ _ _ _ _=>rfl)
 obtain⟨_,_,F0,g0⟩:=u27
 have Cq36:=callee F0 (zX F0 N0 Cq42 Cq41 Cq26 Cq40) g0 (F0.binds λ _ _ _ _ _ _=>by3 λ _ _ _=>rfl)
 obtain⟨_,_,F0,g0⟩:=u28
 have Cq37:=callee F0 (vN F0 N0 B Cq41 Cq36) g0 (F0.binds λ _ _ _ _ _ _=>by3 λ _ _ _=>rfl)
 obtain⟨_,_,F0,g0⟩:=u29
 have Cq28:=callee F0 (yM F0 N0 Cq41 Cq39 Cq40 Cq37) g0 (F0.binds λ _ _ _ _ _ _=>by3 λ _ _ _=>rfl)
 obtain⟨_,_,F0,g0⟩:=u30
 have Cq32:=callee F0 (Ay F0 N0 B Cq41 Cq31 Cq28) g0 (F0.binds λ _ _ _ _ _ _=>by2 λ _ _=>rfl)
 obtain⟨_,_,F0,g0⟩:=u31
 have Cq33:=callee F0 (vH F0 N0 B Cq41 Cq32) g0 (F0.binds λ _ _ _ _ _ _=>by2 λ _ _=>rfl)
 obtain⟨_,_,F0,g0⟩:=u32
 have Cq50:=callee F0 (qd F0 N0 B Cq43 Cq33 Cq46) g0 (F0.binds λ _ _ _ _ _ _=>by2 λ _ _=>rfl)
 obtain⟨_,_,F0,g0⟩:=u33
 have Cq5:=callee F0 (IW F0 N0 Cq0) g0 (F0.binds λ _ _ _ _ _ _=>by2 λ _ _=>rfl)
 obtain⟨_,_,F0,g0⟩:=u34
 have Cq3:=callee F0 (Ff F0 N0 B Cq5) g0 (F0.binds λ _ _ _ _ _ _=>by1 λ _=>rfl)
 obtain⟨_,_,F0,g0⟩:=u35
 have Cq15:=callee F0 (FZ F0 N0 B) g0 (F0.binds λ _ _ _ _ _ _=>by2 λ _ _=>rfl)
 obtain⟨_,_,F0,g0⟩:=u36
 have Cq1:=callee F0 (Fq F0 N0 B Cq15) g0 (F0.binds λ _ _ _ _ _ _=>by1 λ _=>rfl)
 obtain⟨_,_,F0,g0⟩:=u37
 have Cq8:=callee F0 (FQ F0 N0 B Cq5) g0 (F0.binds λ _ _ _ _ _ _=>by3 λ _ _ _=>rfl)
 obtain⟨_,_,F0,g0⟩:=u38
 have Cq2:=callee F0 (G3 F0 N0 B Cq5 Cq8) g0 (F0.binds λ _ _ _ _ _ _=>by3 λ _ _ _=>rfl)
 obtain⟨_,_,F0,g0⟩:=u39
 have Cq10:=callee F0 (zq F0 N0 B Cq50 Cq5 Cq3 Cq1 Cq2) g0 (F0.binds λ _ _ _ _ _ _=>by1 λ _=>rfl)
 obtain⟨_,_,F0,g0⟩:=u40
 have Cq13:=callee F0 (wR F0 N0 B Cq5) g0 (F0.binds λ _ _ _ _ _ _=>by2 λ _ _=>rfl)
 obtain⟨_,_,F0,g0⟩:=u41
 have Cq11:=callee F0 (FT F0 N0 B) g0 (F0.binds λ _ _ _ _ _ _=>by2 λ _ _=>rfl)
 obtain⟨_,_,F0,g0⟩:=u42
 have Cq12:=callee F0 (yR F0 N0 B E Cq51) g0 (F0.binds λ _ _ _ _ _ _=>by2 λ _ _=>rfl)
 obtain⟨_,_,F0,g0⟩:=u43
 have Cq6:=callee F0 (sS F0 N0 B Cq5) g0 (F0.binds λ _ _ _ _ _ _=>by2 λ _ _=>rfl)
 obtain⟨_,_,F0,g0⟩:=u44
 have Cq24:=callee F0 (nM F0 N0) g0 (F0.binds λ _ _ _ _ _ _=>by2 λ _ _=>rfl)
 obtain⟨_,_,F0,g0⟩:=u45
 have Cq55:=callee F0 (tU F0 N0 B Cq24) g0 (F0.binds λ _ _ _ _ _ _=>by2 λ _ _=>rfl)
 obtain⟨_,_,F0,g0⟩:=u46
 have Cq44:=callee F0 (wz F0 N0 B) g0 (F0.binds λ _ _ _ _ _ _=>by2 λ _ _=>rfl)
 obtain⟨_,_,F0,g0⟩:=u47
 have Cq57:=callee F0 (vV F0 N0 B Cq55 Cq44) g0 (F0.binds λ _ _ _ _ _ _=>by2 λ _ _=>rfl)
 obtain⟨_,_,F0,g0⟩:=u48
 have Cq45:=callee F0 (oF F0 N0) g0 (F0.binds λ _ _ _ _ _ _=>by2 λ _ _=>rfl)
 obtain⟨_,_,F0,g0⟩:=u49
 have Cq20:=callee F0 (qj F0 N0 B) g0 (F0.binds λ _ _ _ _ _ _=>by2 λ _ _=>rfl)
 obtain⟨_,_,F0,g0⟩:=u50
 have Cq47:=callee F0 (oO F0 N0 B Cq45 Cq20) g0 (F0.binds λ _ _ _ _ _ _=>by3 λ _ _ _=>rfl)
 obtain⟨_,_,F0,g0⟩:=u51
 have Cq48:=callee F0 (jy F0 N0 B Cq47) g0 (F0.binds λ _ _ _ _ _ _=>by3 λ _ _ _=>rfl)
 obtain⟨_,_,F0,g0⟩:=u52
 have Cq49:=callee F0 (qD F0 N0 B Cq48) g0 (F0.binds λ _ _ _ _ _ _=>by1 λ _=>rfl)
 obtain⟨_,_,F0,g0⟩:=u53
 have Cq53:=callee F0 (wD F0 N0) g0 (F0.binds λ _ _ _ _ _ _=>by3 λ _ _ _=>rfl)
 obtain⟨_,_,F0,g0⟩:=u54
 have Cq21:=callee F0 (rD F0 N0 B Cq20) g0 (F0.binds λ _ _ _ _ _ _=>by3 λ _ _ _=>rfl)
 obtain⟨_,_,F0,g0⟩:=u55
 have Cq56:=callee F0 (rN F0 N0 B Cq49 Cq53 Cq44 Cq21) g0 (F0.binds λ _ _ _ _ _ _=>by3 λ _ _ _=>rfl)
 obtain⟨_,_,F0,g0⟩:=u56
 have Cq14:=callee F0 (wU F0 N0 B) g0 (F0.binds λ _ _ _ _ _ _=>by1 λ _=>rfl)
 obtain⟨_,_,F0,g0⟩:=u57
 have Cq9:=callee F0 (Jw F0 N0 B) g0 (F0.binds λ _ _ _ _ _ _=>by3 λ _ _ _=>rfl)
 obtain⟨_,_,F0,g0⟩:=u58
 have Cq4:=callee F0 (qF F0 N0 B Cq57 Cq56 Cq5 Cq14 Cq9) g0 (F0.binds λ _ _ _ _ _ _=>by3 λ _ _ _=>rfl)
 exact Rq F N0 B Cq17 Cq51 Cq7 Cq10 Cq13 Cq11 Cq12 Cq6 Cq4
theorem all_mk{l:PySem.W.OpenLaw}{w:World}{K:PySem.W.Frag}{h:Heap}{mg:Str->Option Value}{fa:Addr}(X:K.In h)(G:h.Ns mainGlobals mg)(hfa:mg "law"=some (.ref fa))(q:FI K "law" jC)
(q0:FI K "comes_to" fY)
(q1:FI K "with_next_count" cg)
(q2:FI K "counts_of" eX)
(q3:FI K "steps_of" fL)
(q4:FI K "deed_of" iI)
(q5:FI K "cell_at" iw)
(q6:FI K "cells_of_step" cM)
(q7:FI K "cells_of" fU)
(q8:FI K "number_of_steps" cu)
(q9:FI K "is_whole" gr)
(q10:FI K "is_row" jx)
(q11:FI K "is_order" gK)
(q12:FI K "refuse_no_order" b7)
(q13:FI K "far_apart" eY)
(q14:FI K "reach" kI)
(q15:FI K "_law_cell" n8)
(q16:FI K "_law_pen" rO)
(q17:FI K "is_tuple_of" cZ)
(q18:FI K "is_widths" fc)
(q19:FI K "is_form" il)
(q20:FI K "is_bound" gC)
(q21:FI K "is_loop" iM)
(q22:FI K "is_loops" gj)
(q23:FI K "has_few_figures" bY)
(q24:FI K "is_start" gG)
(q25:FI K "is_place_form" cJ)
(q26:FI K "is_table_with_place" bG)
(q27:FI K "is_read" iu)
(q28:FI K "is_reads" fM)
(q29:FI K "is_deed" ir)
(q30:FI K "is_nest" iy)
(q31:FI K "is_nests" gM)
(q32:FI K "program_of" dR)
(q33:FI K "_law_next" oN)
(q34:FI K "_law_loops" lr)
(q35:FI K "_law_value" kE)
(q36:FI K "_law_count" lG)
(q37:FI K "_law_place" lL)
(q38:FI K "_law_deed" pF)
(q39:FI K "_law_program" iG)
(q40:FI K "_law_shuffled" fW)
(q41:FI K "_law_reach" lO)
(q42:FI K "_law_refused" iK)
(q43:FI K "_law_no_orders" fj)
(q44:FI K "each_longer" dm)
(q45:FI K "tuples_of" fu)
(q46:FI K "loops_of" gH)
(q47:FI K "turnings" gJ)
(q48:FI K "number_form" cW)
(q49:FI K "count_form" dH)
(q50:FI K "plain_lines" dg)
(q51:FI K "plain_nest_plan" b8)
(q52:FI K "plain_plan" dX)
(q53:FI K "replaced" fP)
(q54:FI K "count_line" dJ)
(q55:FI K "turned_by" eZ)
(q56:FI K "_law_turnings" gk)
(q57:FI K "_law_plan" pB)
(q58:FI K "_law_nest_right" dD)
 {t_BETWEEN_TABLES:Tok}(z_BETWEEN_TABLES:PySem.W.nsIn K mainGlobals "BETWEEN_TABLES"=some (some (.int 100 t_BETWEEN_TABLES)))
 {t_MOST_LOOPS:Tok}(z_MOST_LOOPS:PySem.W.nsIn K mainGlobals "MOST_LOOPS"=some (some (.int 3 t_MOST_LOOPS)))
 {t_MOST_STEPS:Tok}(z_MOST_STEPS:PySem.W.nsIn K mainGlobals "MOST_STEPS"=some (some (.int 60 t_MOST_STEPS)))
 (z_abs:PySem.W.nsIn K mainGlobals "abs"=some none)
 (z_all:PySem.W.nsIn K mainGlobals "all"=some none)
 (z_bool:PySem.W.nsIn K mainGlobals "bool"=some none)
 (z_enumerate:PySem.W.nsIn K mainGlobals "enumerate"=some none)
 (z_int:PySem.W.nsIn K mainGlobals "int"=some none)
 (z_isinstance:PySem.W.nsIn K mainGlobals "isinstance"=some none)
 (z_len:PySem.W.nsIn K mainGlobals "len"=some none)
 (z_list:PySem.W.nsIn K mainGlobals "list"=some none)
 (z_max:PySem.W.nsIn K mainGlobals "max"=some none)
 (z_min:PySem.W.nsIn K mainGlobals "min"=some none)
 (z_range:PySem.W.nsIn K mainGlobals "range"=some none)
 (z_set:PySem.W.nsIn K mainGlobals "set"=some none)
 (z_sum:PySem.W.nsIn K mainGlobals "sum"=some none)
 (z_tuple:PySem.W.nsIn K mainGlobals "tuple"=some none)
 (z_zip:PySem.W.nsIn K mainGlobals "zip"=some none)
 (z_ex:XL.all (Ky K XT)=true)
 :∃fd:FuncData,(∀(s:Shared)(v:Value),BindsTo s fd ⟨[v],[]⟩ [("_law_script",v)])/\∀base:Heap,K.In base->base.Ns mainGlobals mg->FnOk l.prog w K mg base CX0 12 fa fd ["_law_script"] (spC K 1 mC):=by
 obtain⟨f,oc,od,kV,dc,pm,an,cd,ct,sl,a,l',c,k⟩:=q
 have e:=hfa.symm.trans (PySem.W.mg_of X G a)
 cases e
 refine⟨PySem.W.fnOf "law" "law" (eE jC) (bw jC) (aq jC) .none kV dc pm an cd ct,λ s v=>.of_eq rfl,λ base _ _=>?_⟩
 have B:Bi mg:=⟨⟨_,PySem.W.mg_of X G z_BETWEEN_TABLES⟩,⟨_,PySem.W.mg_of X G z_MOST_LOOPS⟩,⟨_,PySem.W.mg_of X G z_MOST_STEPS⟩,PySem.W.mg_none_of X G z_abs,PySem.W.mg_none_of X G z_all,PySem.W.mg_none_of X G z_bool,PySem.W.mg_none_of X G z_enumerate,PySem.W.mg_none_of X G z_int,PySem.W.mg_none_of X G z_isinstance,PySem.W.mg_none_of X G z_len,PySem.W.mg_none_of X G z_list,PySem.W.mg_none_of X G z_max,PySem.W.mg_none_of X G z_min,PySem.W.mg_none_of X G z_range,PySem.W.mg_none_of X G z_set,PySem.W.mg_none_of X G z_sum,PySem.W.mg_none_of X G z_tuple,PySem.W.mg_none_of X G z_zip⟩
 have E:ExF mg K XL XT:=PP X G z_ex
 exact Qh (Ω:=⟨_,w,K,mg,base,none⟩) B E (q0.use X G) (q1.use X G) (q2.use X G) (q3.use X G) (q4.use X G) (q5.use X G) (q6.use X G) (q7.use X G) (q8.use X G) (q9.use X G) (q10.use X G) (q11.use X G) (q12.use X G) (q13.use X G) (q14.use X G) (q15.use X G) (q16.use X G) (q17.use X G) (q18.use X G) (q19.use X G) (q20.use X G) (q21.use X G) (q22.use X G) (q23.use X G) (q24.use X G) (q25.use X G) (q26.use X G) (q27.use X G) (q28.use X G) (q29.use X G) (q30.use X G) (q31.use X G) (q32.use X G) (q33.use X G) (q34.use X G) (q35.use X G) (q36.use X G) (q37.use X G) (q38.use X G) (q39.use X G) (q40.use X G) (q41.use X G) (q42.use X G) (q43.use X G) (q44.use X G) (q45.use X G) (q46.use X G) (q47.use X G) (q48.use X G) (q49.use X G) (q50.use X G) (q51.use X G) (q52.use X G) (q53.use X G) (q54.use X G) (q55.use X G) (q56.use X G) (q57.use X G) (q58.use X G) (Im (st:=jC) l' c k) rfl
end K49
namespace PySem.W.Fast
def tw26420266179119128:=()
def tw9036761835049312641:=()
def tw18292875280637262226:=()
def tw6150485628679947300:=()
def tw15906514559688024367:=()
def tw12747409824134007774:=()
def tw16910982009505252923:=()
def tw5515643354122266180:=()
def tw4006924578020911671:=()
def tw2291541548381813716:=()
def tw1470189385767157777:=()
def tw11275733543936923409:=()
def tw6041725357599180848:=()
def tw15056481802707185495:=()
def tw4277222317059397269:=()
def tw1363564383438453234:=()
def tw14426558551481936266:=()
def tw5265441293770149122:=()
def tw3853822632585540172:=()
def tw5837327901443104023:=()
def tw4781085129257859096:=()
def tw4188206899968321643:=()
def tw8285790535231916017:=()
def tw784230061194021063:=()
def tw6734621660935010466:=()
def tw15968768262236052050:=()
def tw3198430824372484078:=()
def tw11940643790609936429:=()
def tw18155480047412943213:=()
def tw6859439443008571391:=()
def tw7650150705914926358:=()
def tw1012955891559536517:=()
def tw10055081603910767174:=()
def tw11362869780806395922:=()
def tw15905367726375796799:=()
def tw10124113548357422450:=()
def tw990503452560564326:=()
def tw8635787209272666169:=()
def tw17327805403524508279:=()
def tw5385008414580893171:=()
def tw8365326984565531930:=()
def tw6026668660407769578:=()
def tw12125051019670113030:=()
def tw17915111457331978710:=()
def tw4084776341892843394:=()
def tw7896078593926627378:=()
def tw4673056944500756295:=()
def tw6203702543251294038:=()
def tw7387126217823877989:=()
def tw10827783502579040697:=()
def tw4170413387117800785:=()
def tw6952471719911896626:=()
def tw5836969898622922866:=()
def tw13117276290179855786:=()
def tw15876611441176558123:=()
def tw1198139891465108310:=()
def tw15791000918484180934:=()
def tw5291251474770341620:=()
def tw7718404512734362314:=()
def tw14916763488932865652:=()
def tw6150791923961740650:=()
def tw16964662689431897182:=()
def tw14513446596311519779:=()
def tw8114887272968825244:=()
def tw121713474786050721:=()
def tw9422212972990121568:=()
def tw3185366693124210303:=()
def tw12346217533402668717:=()
def tw14700869471246281158:=()
def tw1490928907388667052:=()
def tw12900868033581740067:=()
def tw300411743760958127:=()
def tw6479924122761030246:=()
def tw9775110823484245370:=()
def tw14765475903891899412:=()
def tw1937543422350683953:=()
def tw14372302935606020924:=()
def tw13199268938201284716:=()
def tw2168956243749443408:=()
def tw4553215265189031345:=()
def tw5878631276779948591:=()
def tw11066247884865308298:=()
def tw13628785496408967385:=()
def tw17884698296516554418:=()
def tw12585933660133431388:=()
def tw18172642563051291527:=()
def tw16611323021992636145:=()
def tw12521555923733535615:=()
def tw9638503790075193343:=()
def tw7682374867065439846:=()
def tw1240970218051535857:=()
def tw12332623541518253349:=()
def tw17307893591955675786:=()
def tw17877800974287519163:=()
def tw10240560018887431122:=()
def tw1896945067731304709:=()
def tw4200074354954171260:=()
def tw7761492626395528940:=()
def tw3626942787722239377:=()
def tw6897655736509282310:=()
def tw18193648830289306972:=()
def tw8829682328220558022:=()
def tw15532488130773146860:=()
def tw11906020347545457008:=()
def tw4847316043966978804:=()
def tw11151206142685881287:=()
def tw5413195834490982307:=()
def tw13088766571980625139:=()
def tw10017457545547984435:=()
def tw15399189931283142168:=()
def tw17756583170874549566:=()
def tw9778491167606310981:=()
def tw9147735928504790010:=()
def tw2426972938906183624:=()
def tw2826537220763916722:=()
def tw424587827111613545:=()
def tw10448243795540881788:=()
def tw21786408618736973:=()
def tw14676639980663875752:=()
def tw15427159904883745529:=()
def tw15913557684685267741:=()
def tw15786945739330098007:=()
def tw18345041031258250963:=()
def tw8553775267898217447:=()
def tw1610631435040836576:=()
def tw4906616018281347114:=()
def tw4725222049370121263:=()
def tw3630676953422729374:=()
def tw14936051081940099546:=()
def tw16779738144087583115:=()
def tw4668258516519036639:=()
def tw2098984118557251095:=()
def tw14952941383486361291:=()
def tw3723555757422277474:=()
def tw11269031094466704997:=()
def tw7577779761026833771:=()
def tw3613889504390718452:=()
def tw1767640847579303410:=()
def tw12693145075673423674:=()
def tw9302001538405739299:=()
def tw3983441879613436263:=()
def tw2859456340717188731:=()
def tw6811622329376422371:=()
def tw18186766790235286729:=()
def tw8027001145695379880:=()
def tw11622913459161441296:=()
def tw12463503304576090728:=()
def tw18110599144893046565:=()
def tw1943719390926111269:=()
def tw1505444225564362478:=()
def tw18110463147132828513:=()
def tw16678134177010985847:=()
def tw10749245893183662465:=()
def tw4369600909682285868:=()
def tw16291191432018638333:=()
def tw7402156265090831816:=()
def tw2719198987935255473:=()
def tw3822450296497585079:=()
def tw16220156430527321530:=()
def tw7601564558487676513:=()
def tw498522182198394266:=()
def tw5559682658433865400:=()
def tw14992055850228913313:=()
def tw16727381923804836768:=()
def tw2277678386053821036:=()
def tw2859700604047317264:=()
def tw17280417473507912085:=()
def tw6956591735998724935:=()
def tw2072012651553107297:=()
def tw2163533281227582989:=()
def tw10618522380050521670:=()
def tw15513822886692553404:=()
def tw6261132695841117584:=()
def tw12925719511863010368:=()
def tw17595749183673745351:=()
def tw6630012676345070682:=()
def tw5133457838503349007:=()
def tw17892615337737751381:=()
def tw4516926841500341830:=()
def tw7016191179886441050:=()
def tw16480620169275186118:=()
def tw15486622955127651595:=()
def tw7686877385098699377:=()
def tw12191792111353535697:=()
def tw3272039143341663448:=()
def tw6670286381602343727:=()
def tw3977245325601142165:=()
def tw14532451926457213323:=()
def tw3316767205974223148:=()
def tw14050321218236567393:=()
def tw9946805094850049822:=()
def tw989522917275855215:=()
def tw55343992864428905:=()
def tw16071769937525787178:=()
def tw5706803308952950444:=()
def tw7524004988249564949:=()
def tw769037910688982318:=()
def tw3836558587864028664:=()
def tw3228982202146255190:=()
def tw18081205900224094572:=()
def tw11953852201954037160:=()
def tw16362520013986772837:=()
def tw17702027378586415837:=()
def tw6629416055051703995:=()
def tw2417827789039887249:=()
def tw11819482808767627923:=()
def tw16280947117985516780:=()
def tw10485932559115613538:=()
def tw16874144953947962281:=()
def tw191670006880408687:=()
def tw17145918814432789158:=()
def tw11212494317728914051:=()
def tw11984319416568113979:=()
def tw9796595486909282521:=()
def tw1461046770385901971:=()
def tw2912493078688651427:=()
def tw7978801531290531184:=()
def tw5280745755264004304:=()
def tw18259160053364745013:=()
def tw3376397886406140795:=()
def tw3858744882487348448:=()
def tw14311353579108424621:=()
def tw504079487820441115:=()
def tw17576906628686868290:=()
def tw7248487296733090296:=()
def tw15127249218176173490:=()
def tw1682567677112124919:=()
def tw6110383882102676477:=()
def tw16898593817486224711:=()
def tw14267563962391087558:=()
def tw9642073527118912359:=()
def tw259374639123132971:=()
def tw16968121071062759334:=()
def tw12140901795096321951:=()
def tw9950653997881291319:=()
def tw10810080937495993164:=()
def tw4466603498213177395:=()
def tw13259302836784011362:=()
def tw5580840751354605481:=()
def tw17095800888054567346:=()
def tw11913370339902026716:=()
def tw12809469448364005685:=()
def tw11860063833699069547:=()
def tw11947904595480169879:=()
def tw2578676279895899264:=()
def tw12243865094027224466:=()
def tw16323076879462392380:=()
def tw17434276849618680162:=()
def tw10010392309315739247:=()
def tw16488838846242116880:=()
def tw7770732235231441404:=()
def tw6171669512525867946:=()
def tw8192791457484476693:=()
def tw4482678523601977299:=()
def tw11098573657596748295:=()
def tw5566210236473040028:=()
def tw14717598991204788345:=()
def tw7797817036624204242:=()
def tw11058033123313191788:=()
def tw13145987557815674054:=()
def tw13629172490434929550:=()
def tw6968151598737337017:=()
def tw6900293516829593567:=()
def tw18152414271493465114:=()
def tw15311025701327730890:=()
def tw15408323442335064421:=()
def tw16667219163752778335:=()
def tw932623092731748131:=()
def tw13431568220084401272:=()
def tw16517210033240573234:=()
def tw16287309559018634284:=()
def tw14475941950126003361:=()
def tw7182675738344085400:=()
def tw3636524363860796764:=()
def tw939805175940697806:=()
def tw8814057255257538134:=()
def tw5026145392374370597:=()
def tw15367748982649978533:=()
def tw17447438895228067611:=()
def tw16533098733520827797:=()
def tw9205233564755564119:=()
def tw14221113973704419049:=()
def tw9186915587700894732:=()
def tw15580507900254176508:=()
def tw14448637272200137096:=()
def tw13893695005566177791:=()
def tw11062187602834488435:=()
def tw12223999323399056532:=()
def tw13203429828896703533:=()
def tw16712773530376175434:=()
def tw7639526960402827453:=()
def tw11390472968991269728:=()
def tw130044980648221094:=()
def tw3232927830461155363:=()
def tw3520123059431722192:=()
def tw8768701446707979571:=()
def tw4199816639994770525:=()
def tw6645150505471283655:=()
def tw13245045791219608282:=()
def tw3329304493682777140:=()
def tw4860017821773285732:=()
def tw12155790839863648416:=()
def tw2712279620899095386:=()
def tw10595454978005576410:=()
def tw6843428010381960122:=()
def tw11759641125420575659:=()
def tw15399193445900160204:=()
def tw3422880366228439166:=()
def tw8639813741418788691:=()
def tw3596049205932569546:=()
def tw4883898123843004758:=()
def tw16874712686716040754:=()
def tw7464642794685875911:=()
def tw5395431165573475209:=()
def tw15997625834247982630:=()
def tw14065347764205421318:=()
def tw12965043422221704590:=()
def tw13983881308297689442:=()
def tw17572181171602440603:=()
def tw18428082530878677527:=()
def tw12856881326480271983:=()
def tw14685800235829342287:=()
def tw18172763538657804803:=()
def tw6977974867674429061:=()
def tw5373480548017576011:=()
def tw16283106959532512459:=()
def tw7730557718105866471:=()
def tw296379273477254572:=()
def tw9057767566586730628:=()
def tw7815968635520563846:=()
def tw9265676812585092217:=()
def tw5200594640590492197:=()
def tw8789564668306662209:=()
def tw9395616280992712468:=()
def tw11666866527428771248:=()
def tw12937064480329381947:=()
def tw17678563435017307620:=()
def tw17063134962095531788:=()
def tw5567676909260211210:=()
def tw10195697494334053251:=()
def tw2734689073688049666:=()
def tw17950705520857238957:=()
def tw7771690821308461778:=()
def tw14223154627833969445:=()
def tw13591856612565792053:=()
def tw14011574908156094406:=()
def tw3718349587369022087:=()
def tw13253025972729885237:=()
def tw4389246009337195089:=()
def tw6531755004562827108:=()
def tw1313362710868227599:=()
def tw10638262160516196041:=()
def tw9522182018989904295:=()
def tw7065034727623181614:=()
def tw9360228859522640292:=()
def tw11130534341359811166:=()
def tw1222175494678074881:=()
def tw1958222330287415337:=()
def tw6236090793170201155:=()
def tw3741444685723248365:=()
def tw10886170178474145668:=()
def tw12288801462154463091:=()
def tw6178234964457741536:=()
def tw10679289606398581196:=()
def tw219140618085797446:=()
def tw16399449906664147214:=()
def tw1866478157573744768:=()
def tw396318014505406827:=()
def tw10355524927859469810:=()
def tw4039805662320143207:=()
def tw7538653237854843415:=()
def tw1202382215309321862:=()
def tw12800822409934456144:=()
def tw5845116670813012778:=()
def tw12759110777970610116:=()
def tw6667131024412861593:=()
def tw5282197186212899420:=()
def tw12736234006207854074:=()
def tw6785643964422548474:=()
def tw9242511918902634361:=()
def tw1045077991065427828:=()
def tw6144497586608330457:=()
def tw6419702950555822932:=()
def tw7815652191649782226:=()
def tw18227360543969038340:=()
def tw5803643578188171775:=()
def tw4030089745892983578:=()
def tw4458646375484893060:=()
def tw11685334262511232877:=()
def tw9971340308226678525:=()
def tw13692583820002868740:=()
def tw467976528506884320:=()
def tw880440981755980978:=()
def tw4993680498006205011:=()
def tw9642590935918492434:=()
def tw18323587479991225709:=()
def tw17774051858972268784:=()
def tw11836100242148359746:=()
def tw13719232039434300264:=()
def tw1116582936449161884:=()
def tw13166534954141453146:=()
def tw10771300782619244650:=()
def tw2363356079728139026:=()
def tw13375721418854907268:=()
def tw17029013896822022466:=()
def tw7736457991887332819:=()
def tw4991764355982029385:=()
def tw5551892219583855596:=()
def tw17829991249849694186:=()
def tw18190256015360287373:=()
def tw8302957964078308014:=()
def tw5389676601811524215:=()
def tw7142853175345713681:=()
def tw49244746463757012:=()
def tw5735349794348872412:=()
def tw5262477549361235274:=()
def tw9699179497305791125:=()
def tw18185139420425103530:=()
def tw17975103823368818798:=()
def tw7306062405234467378:=()
def tw10020578070525101645:=()
def tw2720996039123757154:=()
def tw18276130500107331896:=()
def tw11472319181016855005:=()
def tw5854969160692509809:=()
def tw4252621370396002995:=()
def tw10055804087479902147:=()
def tw5738003085258146622:=()
def tw10586534698812658993:=()
def tw8540392854088219164:=()
def tw7871688501906892197:=()
def tw17372053323005243675:=()
def tw9444330246647926955:=()
def tw13525022056397799641:=()
def tw9739737675495501924:=()
def tw8563288677418468401:=()
def tw9428573880849266169:=()
def tw5409043386367912995:=()
def tw9052515477497246812:=()
def tw11440960539636246509:=()
def tw11303043907231674480:=()
def tw4440884341238243346:=()
def tw5942112063819712550:=()
def tw12028226716400571103:=()
def tw15953609130329207849:=()
def tw9116820543072476877:=()
def tw7821711134207404612:=()
def tw1876144532931080030:=()
def tw1181596269441815546:=()
def tw14623585958910319419:=()
def tw8894588323585340498:=()
def tw11716944354402252057:=()
def tw17707345777987743186:=()
def tw10527212478817765865:=()
def tw11722759885665947003:=()
def tw13239685276909918344:=()
def tw9842013653829646242:=()
end PySem.W.Fast
open PySem PySem.W PyProof.Rows
set_option maxRecDepth 100000 in
set_option maxHeartbeats 0 in
theorem PySem.Challenge.cw_nestturn_k49_reach_and_turnings_holds : PySem.Challenge.rw_nestturn_k49_reach_and_turnings.Holds := by
 w_on; o_law; k_head; (case hw => w_witness2)
 k_fill
 refine RF.walk (l := PySem.Challenge.rw_nestturn_k49_reach_and_turnings) (lev := 12) (x := "_law_script") rfl rfl ⟨rfl, by decide, by decide⟩ (λ w h Y => by first | exact PySem.W.kIn_of Y | exact PySem.W.km_in_of Y) ?F
 case F =>
  intro w mg fa h KX G hmg
  refine' K49.all_mk KX G hmg ?_ ?_ ?_ ?_ ?_ ?_ ?_ ?_ ?_ ?_ ?_ ?_ ?_ ?_ ?_ ?_ ?_ ?_ ?_ ?_ ?_ ?_ ?_ ?_ ?_ ?_ ?_ ?_ ?_ ?_ ?_ ?_ ?_ ?_ ?_ ?_ ?_ ?_ ?_ ?_ ?_ ?_ ?_ ?_ ?_ ?_ ?_ ?_ ?_ ?_ ?_ ?_ ?_ ?_ ?_ ?_ ?_ ?_ ?_ ?_ ?_ ?_ ?_ ?_ ?_ ?_ ?_ ?_ ?_ ?_ ?_ ?_ ?_ ?_ ?_ ?_ ?_ ?_ ?z
  (case z => kernel_rfl!)
  all_goals try first | (refine' K49.FI.mk ?a ?l ?c ?k; (case a => k_is); (case l => k_is); (case c => k_is); (case k => k_is)) | (show _ = _; k_is)
