import PyProof.Rows.All
import Wide.All
import OpenK.AllK
import Wide.FinOn
import Lean
import PyProof.EqAt
import PyProof.EqKinds
import PyProof.TupleCall
import KE.KEqDict
import PyProof.ZipIter
import PyProof.ListMulAny
import KE.KTryMore
import PyProof.NsDelKeeps
import KE.KUnpack
import KE.KRevIter
import PyProof.DictUpdate
import PyProof.ListRange
import PyProof.Rows.CallKwBuiltin
import PyProof.WalkInts
import KE.KSortTup
import KE.KLam
import KE.KNestM
import PyProof.CollectIter
import OpenK.KMake
import KE.KDictList
import PyProof.SetScanFacts
import PySem.Challenge.RW_nestturn_k17_spans_of_steps
set_option bootstrap.genMatcherCode false
set_option compiler.extract_closed false
set_option genSizeOfSpec false
set_option genSizeOf false
theorem fE{α:Prop}(h:false=true):α:=(Bool.false_ne_true h).elim
noncomputable section
set_option Elab.async false
set_option linter.all false
def z0:=@List.getElem?_eq_some_iff
def y3:=@List.getElem?_eq_getElem
def y4:=@List.mem_of_getElem?
def y6:=@Bool.false_ne_true
def y7:=@List.length_map
def y8:=@List.getElem?_map
def y9:=@Nat.le_refl
def x4:=@List.mem_cons_of_mem
def x5:=@List.size_toArray
def x6:=@List.mem_cons_self
def x8:=@List.length_append
def x9:=@List.getElem?_append_left
def w9:=@Nat.lt_of_lt_of_le
def v3:=@Nat.ne_of_lt
set_option bootstrap.genMatcherCode false
set_option maxRecDepth 100000
local macro_rules | `(tactic| omega) => `(tactic| first | with_reducible assumption | with_reducible exact Int.natCast_nonneg _ | with_reducible exact Nat.le_trans (by assumption) (by decide) | with_reducible exact Int.le_trans (by decide) (Int.natCast_nonneg _) | with_reducible exact Int.lt_of_le_of_lt (Int.ofNat_le.mpr (by assumption)) (by decide) | lia)
local macro_rules|`(def $i:declId $s:optDeclSig $v:declVal)=>`(noncomputable def $i:declId $s:optDeclSig $v:declVal)
local macro_rules|`(abbrev $i:declId $s:optDeclSig $v:declVal)=>`(noncomputable abbrev $i:declId $s:optDeclSig $v:declVal)
namespace L2
open PySem PySem.Spec PyProof.Rows
abbrev Key:=Sum Int Str
def Mq:Key->Value->Bool
 | .inl k,v=>Value.isInt k v
 | .inr x,v=>Value.isStrOf x v
def Va(w:World):Key->Int
 | .inl k=>hashInt k
 | .inr x=>hashStr w x
theorem bN:∀{k:Key}{v:Value},Mq k v=true->(∃i t,k=Sum.inl i/\v=Value.int i t)∨(∃x t,k=Sum.inr x/\v=Value.str x t)
 | .inl i,v,h=>by
   obtain⟨t,e⟩:=Value.isInt_shape (k:=i) (v:=v) h
   exact .inl ⟨i,t,rfl,e⟩
 | .inr x,v,h=>by
   obtain⟨t,e⟩:=Value.isStrOf_shape (x:=x) (v:=v) h
   exact .inr ⟨x,t,rfl,e⟩
theorem Q9(a b:Int):decide ((Sum.inl a:Key)=Sum.inl b)=(a==b):=by
 by_cases e:a=b
 . subst e;simp
 . have h:¬(Sum.inl a:Key)=Sum.inl b:=λ q=>e (Sum.inl.inj q)
   rw[decide_eq_false h]
   exact(beq_eq_false_iff_ne.mpr e).symm
theorem R0(a b:Str):decide ((Sum.inr a:Key)=Sum.inr b)=decide (a=b):=by
 by_cases e:a=b
 . subst e;simp
 . have h:¬(Sum.inr a:Key)=Sum.inr b:=λ q=>e (Sum.inr.inj q)
   rw[decide_eq_false h,decide_eq_false e]
theorem Rc(a:Int)(b:Str):decide ((Sum.inl a:Key)=Sum.inr b)=false:=decide_eq_false (λ q=>nomatch q)
theorem QB(a:Str)(b:Int):decide ((Sum.inr a:Key)=Sum.inl b)=false:=decide_eq_false (λ q=>nomatch q)
def dM(prog:Program)(w:World):PySem.KeyKind prog w Key where
 is:=Mq
 hash:=Va w
 inj:=λ v a b ha hb=>by
  rcases bN ha with⟨i,t,rfl,rfl⟩ | ⟨x,t,rfl,rfl⟩
  . rcases bN hb with⟨j,u,rfl,e⟩ | ⟨y,u,rfl,e⟩
    . injection e with e1 _;rw[e1]
    . exact nomatch e
  . rcases bN hb with⟨j,u,rfl,e⟩ | ⟨y,u,rfl,e⟩
    . exact nomatch e
    . injection e with e1 _;rw[e1]
 byValue:=λ k v h=>by
  rcases bN h with⟨i,t,rfl,rfl⟩ | ⟨x,t,rfl,rfl⟩<;>rfl
 pyHash:=λ hv h=>by
  rcases bN hv with⟨i,t,rfl,rfl⟩ | ⟨x,t,rfl,rfl⟩
  . exact wpAny_pyHash_int h
  . exact wpAny_pyHash_str h
 eqBool:=λ hu hv h=>by
  rcases bN hu with⟨i,t,rfl,rfl⟩ | ⟨x,t,rfl,rfl⟩
  . rcases bN hv with⟨j,u,rfl,rfl⟩ | ⟨y,u,rfl,rfl⟩
    . rw[Q9]at h;exact wpAny_eqBool_int h
    . rw[Rc]at h;exact SeqAt.EqAt.int_str i t y u _ _ _ _ h
  . rcases bN hv with⟨j,u,rfl,rfl⟩ | ⟨y,u,rfl,rfl⟩
    . rw[QB]at h;exact SeqAt.EqAt.str_int x t j u _ _ _ _ h
    . rw[R0]at h;exact wpAny_eqBool_str h
 «strs»:=λ k x t v h=>by
  rcases bN h with⟨i,u,rfl,e⟩ | ⟨y,u,rfl,e⟩
  . exact nomatch e
  . injection e with e1 _
    subst e1
    cases v<;>rfl
variable {b : Addr}
inductive V where
 | non | bl(b:Bool) | int(i:Int) | str(x:Str) | byt(b:Array UInt8) | flt(b:UInt64) | ref(a:Addr) | ty(n:String)
 deriving DecidableEq
def RelV:V->Value->Prop
 | .non,u=>u=Value.none
 | .bl b,u=>u=Value.bool b
 | .int i,u=>∃t,u=Value.int i t
 | .str x,u=>∃t,u=Value.str x t
 | .byt b,u=>∃t,u=Value.bytes b t
 | .flt b,u=>∃t,u=Value.float b t
 | .ref a,u=>u=Value.ref a
 | .ty n,u=>u=Value.type n
abbrev Vals:List V->List Value->Prop:=Paired RelV
theorem Vals.length{xs:List V}{us:List Value}(r:Vals xs us):xs.length=us.length:=Paired.length r
theorem Vals.get:∀{xs:List V}{us:List Value}{i:Nat}{x:V},Vals xs us->xs[i]? =some x->∃u,us[i]? =some u/\RelV x u
 | _,_,_,_,.nil,e=>by simp at e
 | _,_,0,_,.cons r _,e=>by simp at e;subst e;exact⟨_,rfl,r⟩
 | _,_,i+1,x,.cons _ t,e=>by
   obtain⟨u,h1,h2⟩:=Vals.get (i:=i) (x:=x) t (by simpa using e)
   exact⟨u,by simpa using h1,h2⟩
theorem Vals.set{x:V}{u:Value}(r:RelV x u):∀{xs:List V}{us:List Value}(i:Nat),Vals xs us->Vals (xs.set i x) (us.set i u)
 | _,_,_,.nil=>.nil
 | _,_,0,.cons _ t=>.cons r t
 | _,_,i+1,.cons q t=>.cons q (Vals.set r i t)
theorem Vals.append:∀{xs ys:List V}{us ws:List Value},Vals xs us->Vals ys ws->Vals (xs++ys) (us++ws)
 | _,_,_,_,.nil,s=>s
 | _,_,_,_,.cons r t,s=>.cons r (Vals.append t s)
theorem Vals.take:∀{xs:List V}{us:List Value}(n:Nat),Vals xs us->Vals (xs.take n) (us.take n)
 | _,_,0,_=>.nil
 | _,_,_+1,.nil=>.nil
 | _,_,n+1,.cons r t=>.cons r (Vals.take n t)
theorem Vals.drop:∀{xs:List V}{us:List Value}(n:Nat),Vals xs us->Vals (xs.drop n) (us.drop n)
 | _,_,0,r=>r
 | _,_,_+1,.nil=>.nil
 | _,_,n+1,.cons _ t=>Vals.drop n t
def Qg:Option V->Option Value->Prop
 | some v,some u=>RelV v u
 | none,none=>True
 | _,_=>False
def KV{κ:Type}:List (κ×V)->List (κ×Value)->Prop:=Paired λ(p:κ×V) (q:κ×Value)=>p.1=q.1/\RelV p.2 q.2
def kV:Key->V
 | .inl i=>.int i
 | .inr x=>.str x
inductive HO where
 /-- a list -/
 | lst(xs:List V)
 /-- a tuple (never changes) -/
 | tup(xs:List V)
 /-- a dict whose keys are ints and texts; one whose keys are tuples of ints and texts (the empty one is both) -/
 | dK(kvs:List (Key×V)) | dT(kvs:List (List Key×V))
 /-- a set of ints: its members, its size -/
 | set(S:Int->Bool)(n:Nat)
 /-- an instance of the class at C, its dict at dx, its attributes -/
 | ins(C dx:Addr)(fs:List (Str×V))
 /-- the dict of the instance at x -/
 | own(x:Addr)
 /-- the dict of an exception -/
 | xd(fs:List (Str×V))
 /-- a bound method, f of x -/
 | met(f x:Addr)
 /-- a range object lo, lo + 1, .. below hi -/
 | rng(lo hi:Int)
 /-- a thing that is known to the object (the script; a dict while a loop walks it): read, never written while it is so -/
 | frz(o:Obj)(u:HO)
 /-- a code object's table -/
 | tbl(ps:Array Value)
 /-- any other thing, by what is true of its one object (a def of one's own: SetO a S n := HO.ext λ h => ..) -/
 | ext(φ:Heap->Prop)
abbrev Hp:=Addr->Option HO
def upd(H:Hp)(a:Addr)(o:HO):Hp:=λ b=>if b=a then some o else H b
theorem bh{H:Hp}{a:Addr}{o:HO}:upd H a o a=some o:=by unfold upd;rw[if_pos rfl]
theorem aA{H:Hp}{a:Addr}{o:HO}(h:b≠a):upd H a o b=H b:=by unfold upd;rw[if_neg h]
theorem aK{H:Hp}{a:Addr}{o:HO}(h:H a=some o)(h':H b=none):a≠b:=by
 intro e;subst e;rw[h]at h';cases h'
section
variable (P : Program) (w : World)
def bH(H:Hp)(h:Heap)(a:Addr):HO->Prop
 | .lst xs=>xs.length≤sizeLine/\∃(its:List Value) (n:Nat),Vals xs its/\h.get? a=some {cls:=.type "list",data:=.seq its.toArray n}
 | .tup xs=>xs.length≤sizeLine/\∃its:List Value,Vals xs its/\IsTup h a its.toArray
 | .dK kvs=>kvs.length≤sizeLine/\(a==sysModules)=false/\∃vs,KV kvs vs/\h.DictOf (dM P w) a vs
 | .dT kvs=>kvs.length≤sizeLine/\(a==sysModules)=false/\∃xs:List (List Key×Addr×Value),
  Paired (λ(p:List Key×V) (q:List Key×Addr×Value)=>p.1=q.1/\H q.2.1=some (.tup (p.1.map kV))/\RelV p.2 q.2.2) kvs xs/\
  ∃o es ep,h.get? a=some o/\o.ExactDict/\o.data=.dict es ep/\es.toList=xs.map (entryOfKey (tupleKind (dM P w)))/\(xs.map (·.1)).Nodup
 | .set S n=>h.SetOf (intKind P w) a S n
 | .ins C dx fs=>H dx=some (.own a)/\fs.length≤1000/\dx≠a/\h.get? a=some (PySem.W.instObj C dx)/\
  ∃mA,h.Ns1 dx mA/\(∀f,Qg (fs.lookup f) (mA f))/\PySem.Within mA (fs.map (·.1))
 | .own _=>∃o,h.get? a=some o
 | .xd fs=>∃mA,h.Ns1 a mA/\∀f,Qg (fs.lookup f) (mA f)
 | .rng lo hi=>∃t u v,h.get? a=some {cls:=.type "range",data:=.fields #[.int lo t,.int hi u,.int 1 v]}
 | .frz o u=>h.get? a=some o/\bH H h a u
 | .tbl ps=>h.get? a=some {cls:=.none,data:=.fields ps}
 | .met f x=>h.get? a=some (PySem.W.methodObj (.ref f) (.ref x))
 | .ext φ=>φ h/\(∃o,h.get? a=some o)/\∀h1 h2:Heap,φ h1->(∀o,h1.get? a=some o->h2.get? a=some o)->φ h2
def HOk(H:Hp)(h:Heap):Prop:=∀a o,H a=some o->bH P w H h a o
end
section
variable {P : Program} {w : World} {H H' : Hp} {h h' : Heap} {a : Addr} {o : HO}
theorem bH.lt(x:bH P w H h a o):a<h.objs.size:=by
 cases o with
 | lst xs=>obtain⟨_,_,_,_,e⟩:=x;exact Heap.lt_size e
 | tup xs=>obtain⟨_,_,_,p⟩:=x;exact p.lt
 | dK kvs=>obtain⟨_,_,_,_,o,_,_,e,_⟩:=x;exact Heap.lt_size e
 | dT kvs=>obtain⟨_,_,_,_,o,_,_,e,_⟩:=x;exact Heap.lt_size e
 | set S n=>obtain⟨o,_,_,_,e,_⟩:=x;exact Heap.lt_size e
 | ins C dx fs=>obtain⟨_,_,_,e,_⟩:=x;exact Heap.lt_size e
 | own y=>obtain⟨_,e⟩:=x;exact Heap.lt_size e
 | xd fs=>obtain⟨_,⟨_,_,_,e,_⟩,_⟩:=x;exact Heap.lt_size e
 | rng lo hi=>obtain⟨_,_,_,e⟩:=x;exact Heap.lt_size e
 | frz ob u=>obtain⟨e,_⟩:=x;exact Heap.lt_size e
 | tbl ps=>exact Heap.lt_size (show h.get? a=some _ from x)
 | met f y=>exact Heap.lt_size (show h.get? a=some _ from x)
 | ext φ=>obtain⟨_,⟨_,e⟩,_⟩:=x;exact Heap.lt_size e
theorem Paired.mapP{α β:Type}{F G:α->β->Prop}:∀{l₁:List α}{l₂:List β},Paired F l₁ l₂->(∀a b,F a b->G a b)->Paired G l₁ l₂
 | _,_,.nil,_=>.nil
 | _,_,.cons r t,f=>.cons (f _ _ r) (Paired.mapP t f)
theorem bH.stay(x:bH P w H h a o)(k:∀b u,(b=a∨H b=some (.own a))->h.get? b=some u->h'.get? b=some u)
 (ho:∀b,H b=some (.own a)->H' b=some (.own a))(ht:∀b xs,H b=some (.tup xs)->H' b=some (.tup xs)):bH P w H' h' a o:=by
 induction o with
 | lst xs=>obtain⟨z,its,n,r,e⟩:=x;exact⟨z,its,n,r,k _ _ (.inl rfl) e⟩
 | tup xs=>obtain⟨z,its,r,ob,e,c⟩:=x;exact⟨z,its,r,ob,k _ _ (.inl rfl) e,c⟩
 | dK kvs=>obtain⟨z,y,vs,r,ob,es,ep,e,c⟩:=x;exact⟨z,y,vs,r,ob,es,ep,k _ _ (.inl rfl) e,c⟩
 | dT kvs=>
   obtain⟨z,y,xs,r,ob,es,ep,e,c⟩:=x
   exact⟨z,y,xs,Paired.mapP r λ p q z=>⟨z.1,ht _ _ z.2.1,z.2.2⟩,ob,es,ep,k _ _ (.inl rfl) e,c⟩
 | set S n=>obtain⟨ob,es,ep,t,e,c⟩:=x;exact⟨ob,es,ep,t,k _ _ (.inl rfl) e,c⟩
 | ins C dx fs=>
   obtain⟨d,z,ne,e,mA,⟨od,es,ep,e2,c⟩,r⟩:=x
   exact⟨ho _ d,z,ne,k _ _ (.inl rfl) e,mA,⟨od,es,ep,k _ _ (.inr d) e2,c⟩,r⟩
 | own y=>obtain⟨ob,e⟩:=x;exact⟨ob,k _ _ (.inl rfl) e⟩
 | xd fs=>obtain⟨mA,⟨od,es,ep,e,c⟩,r⟩:=x;exact⟨mA,⟨od,es,ep,k _ _ (.inl rfl) e,c⟩,r⟩
 | rng lo hi=>obtain⟨t,u,v,e⟩:=x;exact⟨t,u,v,k _ _ (.inl rfl) e⟩
 | frz ob u ih=>obtain⟨e,q⟩:=x;exact⟨k _ _ (.inl rfl) e,ih q⟩
 | tbl ps=>
   have e:h.get? a=some {cls:=.none,data:=.fields ps}:=x
   show h'.get? a=some {cls:=.none,data:=.fields ps}
   exact k a _ (.inl rfl) e
 | met f y=>
   have e:h.get? a=some (PySem.W.methodObj (.ref f) (.ref y)):=x
   show h'.get? a=some (PySem.W.methodObj (.ref f) (.ref y))
   exact k a _ (.inl rfl) e
 | ext φ=>obtain⟨p,⟨o,e⟩,st⟩:=x;exact⟨st _ _ p λ o q=>k _ _ (.inl rfl) q,⟨o,k _ _ (.inl rfl) e⟩,st⟩
theorem HOk.lt(x:HOk P w H h)(e:H a=some o):a<h.objs.size:=(x a o e).lt
theorem HOk.fresh(x:HOk P w H h)(e:h.objs.size≤a):H a=none:=by
 cases q:H a with
 | none=>rfl
 | some u=>exact absurd (w9 (x.lt q) e) (Nat.lt_irrefl _)
theorem HOk.kept(x:HOk P w H h)(k:∀b u,h.get? b=some u->h'.get? b=some u):HOk P w H h':=λ a o e=>
 (x a o e).stay (λ b u _ q=>k b u q) (λ _ q=>q) λ _ _ q=>q
theorem HOk.laid(x:HOk P w H h)(k:∀b u,h.get? b=some u->h'.get? b=some u)(hp:h.objs.size≤a)(new:bH P w (upd H a o) h' a o):HOk P w (upd H a o) h':=λ b u e=>by
 have hn:=x.fresh hp
 by_cases hb:b=a
 . subst hb;rw[bh]at e;cases e;exact new
 . rw[aA hb]at e
   exact(x b u e).stay (λ c v _ q=>k c v q) (λ c q=>by rw[aA (aK q hn)];exact q) λ c xs q=>by rw[aA (aK q hn)];exact q
end
def Rd(H:Hp)(a:Addr)(u:HO):Prop:=H a=some u∨∃o,H a=some (.frz o u)
theorem Rd.ok{P:Program}{w:World}{H:Hp}{h:Heap}{a:Addr}{u:HO}(r:Rd H a u)(x:HOk P w H h):bH P w H h a u:=by
 rcases r with r | ⟨o,r⟩
 . exact x a u r
 . obtain⟨_,q⟩:=x a _ r
   exact q
def Mut:Option HO->Prop
 | some (.lst _)=>True
 | some (.dK _)=>True
 | some (.dT _)=>True
 | some (.set _ _)=>True
 | some (.ins _ _ _)=>True
 | some (.ext _)=>True
 | _=>False
section
variable {P : Program} {w : World} {H : Hp} {h h' : Heap} {x e : Addr} {o' : HO}
theorem HOk.write(ok:HOk P w H h)(mu:Mut (H x))(he:e=x∨H e=some (.own x))(k:∀b u,b≠e->h.get? b=some u->h'.get? b=some u)(heo:∃u,h'.get? e=some u)
 (new:bH P w (upd H x o') h' x o'):HOk P w (upd H x o') h':=λ b u q=>by
 have nown:∀c y,H c=some (.own y)->c≠x:=λ c y r z=>by subst z;rw[r]at mu;exact mu
 have ntup:∀c xs,H c=some (.tup xs)->c≠x:=λ c xs r z=>by subst z;rw[r]at mu;exact mu
 by_cases hb:b=x
 . subst hb;rw[bh]at q;cases q;exact new
 . rw [aA hb]at q
   by_cases hbe:b=e
   . have q':H b=some (.own x):=by
      rcases he with z | z
      . exact absurd (hbe.trans z) hb
      . rw[hbe];exact z
     rw[q]at q';cases q'
     obtain⟨v,hv⟩:=heo
     exact⟨v,by rw[hbe];exact hv⟩
   . refine(ok b u q).stay (λ c v hc r=>k c v ?_ r) (λ c r=>by rw[aA (nown c b r)];exact r) λ c xs r=>by rw[aA (ntup c xs r)];exact r
     rcases hc with rfl | hc
     . exact hbe
     . rintro rfl
       rcases he with z | z
       . exact nown c b hc z
       . rw[hc]at z;cases z;exact hb rfl
end
structure Un(fs ex:List Addr)(H H':Hp)(h h':Heap):Prop where
 keep:∀b o,h.get? b=some o->H b=none->b∉fs->b∉ex->h'.get? b=some o
 slot:∀b o,h.get? b=some o->H b=none->b∈fs->b∉ex->∃sl,h'.get? b=some {o with slots:=sl}
 free:∀b o,h.get? b=some o->H b=none->b∉ex->H' b=none
 there:∀b o,h.get? b=some o->b∉ex->∃o',h'.get? b=some o'
 tups:∀b xs,H b=some (.tup xs)->H' b=some (.tup xs)
 frzs:∀b o u,H b=some (.frz o u)->H' b=some (.frz o u)
 tbls:∀b ps,H b=some (.tbl ps)->∃more,H' b=some (.tbl (ps++more))
section
variable {fs fs' ex ex' : List Addr} {H H1 H2 : Hp} {h h1 h2 h' : Heap} {a x e : Addr} {o : HO}
theorem Un.any(u:Un fs ex H H1 h h1){b:Addr}{ob:Obj}(q:h.get? b=some ob)(n:H b=none)(hx:b∉ex):∃sl,h1.get? b=some {ob with slots:=sl}:=by
 by_cases hb:b∈fs
 . exact u.slot b ob q n hb hx
 . exact⟨ob.slots,u.keep b ob q n hb hx⟩
theorem Un.kept(k:∀b u,h.get? b=some u->h'.get? b=some u):Un fs ex H H h h':=
 ⟨λ b ob q _ _ _=>k b ob q,λ b ob q _ _ _=>⟨ob.slots,k b ob q⟩,λ _ _ _ n _=>n,λ b ob q _=>⟨ob,k b ob q⟩,λ _ _ q=>q,λ _ _ _ q=>q,λ _ ps q=>⟨#[],by rw[q];simp⟩⟩
theorem Un.refl:Un fs ex H H h h:=Un.kept λ _ _ q=>q
theorem Un.laid(k:∀b u,h.get? b=some u->h'.get? b=some u)(hp:h.objs.size≤a)(hn:H a=none):Un fs ex H (upd H a o) h h' where
 keep:=λ b u q _ _ _=>k b u q
 slot:=λ b u q _ _ _=>⟨u.slots,k b u q⟩
 free:=λ b u q n _=>by rw[aA (v3 (w9 (Heap.lt_size q) hp))];exact n
 there:=λ b u q _=>⟨u,k b u q⟩
 tups:=λ b xs q=>by rw[aA (aK q hn)];exact q
 frzs:=λ b u xs q=>by rw[aA (aK q hn)];exact q
 tbls:=λ b ps q=>⟨#[],by rw[aA (aK q hn),q];simp⟩
theorem Un.write(mu:Mut (H x))(he:e=x∨H e=some (.own x))(k:∀b u,b≠e->h.get? b=some u->h'.get? b=some u)(heo:∃u,h'.get? e=some u):Un fs ex H (upd H x o) h h':=by
 have hx:∀b,H b=none->b≠x:=λ b n z=>by subst z;rw[n]at mu;exact mu
 have hb:∀b,H b=none->b≠e:=λ b n z=>by
  subst z
  rcases he with r | r
  . exact hx b n r
  . rw[n]at r;cases r
 have hm:∀b u,H b=some u->¬Mut (some u)->b≠x:=λ b u q nm z=>by subst z;rw[q]at mu;exact nm mu
 refine⟨λ b u q n _ _=>k b u (hb b n) q,λ b u q n _ _=>⟨u.slots,k b u (hb b n) q⟩,λ b u q n _=>by rw[aA (hx b n)];exact n,λ b u q _=>?_,
  λ b xs q=>by rw[aA (hm b _ q λ z=>z)];exact q,λ b u xs q=>by rw[aA (hm b _ q λ z=>z)];exact q,λ b ps q=>⟨#[],by rw[aA (hm b _ q λ z=>z),q];simp⟩⟩
 by_cases hbe:b=e
 . subst hbe;exact heo
 . exact⟨u,k b u hbe q⟩
end
def trk(h:Heap)(H:Hp):List Addr:=(List.range h.objs.size).filter λ a=>(H a).isSome
def jC(h:Heap)(H:Hp):Heap:=PySem.W.hideAll h (trk h H)
theorem G5(h:Heap)(H:Hp):(jC h H).objs.size=h.objs.size:=PySem.W.hideAll_size _ _
theorem Jx{h:Heap}{H:Hp}{o:Obj}(e:h.get? b=some o)(n:H b=none):(jC h H).get? b=some o:=
 PySem.W.hideAll_get _ e λ hm=>by
  have q:(H b).isSome=true:=(List.mem_filter.mp hm).2
  rw[n]at q;simp at q
theorem PK{h:Heap}{H:Hp}{o:Obj}(e:(jC h H).get? b=some o):h.get? b=some o/\H b=none:=by
 have e':h.get? b=some o:=PySem.W.of_hideAll (trk h H) e
 refine⟨e',?_⟩
 cases q:H b with
 | none=>rfl
 | some x=>
   have hm:b∈trk h H:=List.mem_filter.mpr ⟨List.mem_range.mpr (Heap.lt_size e'),by simp[q]⟩
   have z:(jC h H).get? b=none:=PySem.W.hideAll_none (trk h H) hm
   rw[z]at e;cases e
end L2
namespace L2
open PySem PySem.Spec PyProof.Rows
variable {t' : Nat}
structure Mod(K:PySem.W.Frag)(mg:Str->Option Value)(base:Heap):Prop where
 kin:K.In base
 glob:base.Ns mainGlobals mg
 blt:∃mb,base.Ns builtinsNs mb/\∀x:Str,x≠"__name__"->mb x=bootBuiltins x
 nolimit:base.NoLimit
set_option genInjectivity false in
structure Cx where
 prog:Program
 w:World
 K:PySem.W.Frag
 mg:Str->Option Value
 base:Heap
 A:Around
 N:List Str
 s₀:Shared
 H₀:Hp
 env:Env
 outer:List Env
 stack:List Env
 ex:List Addr
 fn:Str->Bool
 calm:Bool
 pn:List (Addr×Obj)
 xe:Value->Shared->Prop
def frs(l:List Env):List Addr:=l.filterMap (·.frame)
abbrev Cx.fs(X:Cx):List Addr:=frs X.outer
def Vis(sc:Scope)(x:Str):Prop:=sc.names.lookup x=some .local∨sc.names.lookup x=some .cell∨sc.names.lookup x=some .free
def Loc(sc:Scope)(x:Str):Prop:=sc.names.lookup x=some .local∨sc.names.lookup x=some .cell
def Look(env:Env)(h:Heap)(m:Str->Option Value)(x:Str)(u:Value):Prop:=
 (env.kindOf x=some .local/\m x=some u)∨((env.kindOf x=some .cell∨env.kindOf x=some .free)/\∃c,env.cells.lookup x=some c/\h.IsCell c (some u))
structure Cx.Ok(X:Cx):Prop where
 mod:Mod X.K X.mg X.base
 kind:X.env.scope.kind=.function
 glob:X.env.globals=mainGlobals
 blt:X.env.builtins=builtinsNs
 above:X.s₀.heap.objs.size≤X.env.locals
 inj:∀x y c,X.env.cells.lookup x=some c->X.env.cells.lookup y=some c->x=y
 has:∀x,(X.env.kindOf x=some .cell∨X.env.kindOf x=some .free)->∃c,X.env.cells.lookup x=some c
 cab:∀x c,X.fn x=true->X.env.cells.lookup x=some c->X.s₀.heap.objs.size≤c
 hd:X.calm=true->X.A.handled=none
 frames:X.A.frames=some X.stack
 stk:X.stack=X.outer∨(X.stack=X.env::X.outer/\X.env.frame=some X.env.locals)
 exf:∀b∈X.ex,b≠X.env.locals/\∀x c,X.env.cells.lookup x=some c->c≠b
 bs:∀b o,X.base.get? b=some o->X.s₀.heap.get? b=some o/\X.H₀ b=none
 bsz:X.base.objs.size≤X.s₀.heap.objs.size
 noex:∀b o,X.base.get? b=some o->b∉X.ex
 exfs:∀b∈X.ex,b∉X.fs
 funs:X.s₀.heap.FunFrames X.base X.outer
 frf:∀b∈X.fs,X.H₀ b=none
structure Inv(X:Cx)(pins:List (Addr×Obj))(σ:List (Option V))(H:Hp)(s:Shared):Prop where
 ok:X.Ok
 os:s.os=X.s₀.os
 bare:AllBare s.gens
 base:Un X.fs X.ex X.H₀ H X.s₀.heap s.heap
 loc:∃m,s.heap.Ns X.env.locals m/\∀(i:Nat)(x:Str)(v:V),X.N[i]? =some x->σ[i]? =some (some v)->Vis X.env.scope x->∃u,RelV v u/\Look X.env s.heap m x u
 cell:∀x c,X.env.cells.lookup x=some c->∃v,s.heap.IsCell c v
 free:H X.env.locals=none
 freeC:∀x c,X.env.cells.lookup x=some c->H c=none
 pin:∀p∈X.pn++pins,s.heap.get? p.1=some p.2/\H p.1=none/\p.1≠X.env.locals/\p.1∉X.fs/\∀v,p.2.data≠.cell v
 hok:HOk X.prog X.w H s.heap
 len:σ.length=X.N.length
section
variable {X : Cx} {pins : List (Addr × Obj)} {σ : List (Option V)} {H H' : Hp} {s : Shared} {h' : Heap}
theorem Cx.Ok.nofr(ok:X.Ok){b:Addr}{o:Obj}(e:X.base.get? b=some o):b∉X.fs:=λ hb=>by
 have:=(ok.funs.mem hb).1
 rw[e]at this;cases this
theorem Inv.bs(I:Inv X pins σ H s):∀b o,X.base.get? b=some o->s.heap.get? b=some o/\H b=none:=λ b o e=>
 ⟨I.base.keep b o (I.ok.bs b o e).1 (I.ok.bs b o e).2 (I.ok.nofr e) (I.ok.noex b o e),I.base.free b o (I.ok.bs b o e).1 (I.ok.bs b o e).2 (I.ok.noex b o e)⟩
theorem Inv.bk(I:Inv X pins σ H s):∀b o,X.base.get? b=some o->s.heap.get? b=some o:=λ b o e=>(I.bs b o e).1
theorem Inv.mod(I:Inv X pins σ H s):Mod X.K X.mg X.base:=I.ok.mod
theorem Inv.kIn(I:Inv X pins σ H s):X.K.In s.heap:=I.ok.mod.kin.keeps I.bk
theorem Inv.lt(I:Inv X pins σ H s):X.env.locals<s.heap.objs.size:=let ⟨_,hn,_⟩:=I.loc;hn.lt
theorem Inv.sz(I:Inv X pins σ H s):X.s₀.heap.objs.size≤s.heap.objs.size:=Nat.le_trans I.ok.above (Nat.le_of_lt I.lt)
theorem Inv.nofs(I:Inv X pins σ H s){a:Addr}(h:s.heap.objs.size≤a):a∉X.fs:=λ hb=>by
 obtain⟨_,o,ho,_⟩:=I.ok.funs.mem hb
 exact absurd (w9 (Heap.lt_size ho) (Nat.le_trans I.sz h)) (Nat.lt_irrefl _)
theorem Inv.cne(I:Inv X pins σ H s):∀x c,X.env.cells.lookup x=some c->c≠X.env.locals:=λ x c e z=>by
 obtain⟨v,o,ho,hd⟩:=I.cell x c e
 obtain⟨m,⟨o',es,ep,ho',hd',_⟩,_⟩:=I.loc
 rw[z,ho']at ho;cases ho;rw[hd']at hd;cases hd
theorem Inv.funs(I:Inv X pins σ H s):s.heap.FunFrames X.base X.outer:=by
 have all:∀(l:List Env),(∀b∈frs l,b∈X.fs)->X.s₀.heap.FunFrames X.base l->s.heap.FunFrames X.base l:=by
  intro l
  induction l with
  | nil=>intro _ _;trivial
  | cons env r ih=>
    intro hs hl
    obtain⟨hk,⟨L,o,hf,hn,ho,hd⟩,hr⟩:=hl
    have hL:L∈X.fs:=hs L (by unfold frs;rw[List.filterMap_cons,hf];exact x6)
    obtain⟨sl,e⟩:=I.base.slot L o ho (I.ok.frf L hL) hL λ z=>I.ok.exfs L z hL
    exact⟨hk,⟨L,_,hf,hn,e,hd⟩,ih (λ b hb=>hs b (by unfold frs;rw[List.filterMap_cons,hf];exact x4 _ hb)) hr⟩
 exact all X.outer (λ _ hb=>hb) I.ok.funs
theorem Inv.stack(I:Inv X pins σ H s):s.heap.FunFrames X.base X.stack:=by
 rcases I.ok.stk with e | ⟨e,hf⟩
 . rw[e];exact I.funs
 . rw[e]
   obtain⟨m,hn,_⟩:=I.loc
   refine .cons (by rw[I.ok.kind];decide) hf hn ?_ I.funs
   exact Heap.get?_none_of_le (Nat.le_trans I.ok.bsz I.ok.above)
theorem Inv.stkSub(I:Inv X pins σ H s):∀b∈frs X.stack,b∈X.env.locals::X.fs:=λ b hb=>by
 rcases I.ok.stk with e | ⟨e,hf⟩
 . rw[e]at hb;exact x4 _ hb
 . rw[e]at hb
   unfold frs at hb
   rw[List.filterMap_cons,hf]at hb
   exact hb
theorem Inv.stkFree(I:Inv X pins σ H s):∀b∈frs X.stack,H b=none:=λ b hb=>by
 rcases List.mem_cons.mp (I.stkSub b hb)with e | hb
 . rw[e];exact I.free
 . obtain⟨_,o,ho,_⟩:=I.ok.funs.mem hb
   exact I.base.free b o ho (I.ok.frf b hb) λ z=>I.ok.exfs b z hb
theorem Inv.step{g':Array GenState}{d':Drawn}{ch:List Addr}(I:Inv X pins σ H s)
 (hch:∀b∈ch,(b∈X.ex∨X.s₀.heap.objs.size≤b)/\b≠X.env.locals/\(∀x c,X.env.cells.lookup x=some c->c≠b)/\∀p∈X.pn++pins,p.1≠b)
 (keep:∀b o,b≠X.env.locals->b∉X.fs->b∉ch->s.heap.get? b=some o->H b=none->h'.get? b=some o)
 (slot:∀b o,b≠X.env.locals->b∈X.fs->b∉ch->s.heap.get? b=some o->H b=none->∃sl,h'.get? b=some {o with slots:=sl})(free:∀b o,b∉ch->s.heap.get? b=some o->H b=none->H' b=none)
 (there:∀b o,b∉ch->s.heap.get? b=some o->∃o',h'.get? b=some o')
 (tups:∀b xs,H b=some (.tup xs)->H' b=some (.tup xs))(frzs:∀b o u,H b=some (.frz o u)->H' b=some (.frz o u))(tbls:∀b ps,H b=some (.tbl ps)->∃more,H' b=some (.tbl (ps++more)))
 (ns:∀m,s.heap.Ns X.env.locals m->h'.Ns X.env.locals m)(hok:HOk X.prog X.w H' h')(hg:AllBare g'):
 Inv X pins σ H' {s with heap:=h',gens:=g',drawn:=d',toks:=t'}:=by
 have neL:∀b o,X.s₀.heap.get? b=some o->b≠X.env.locals:=λ b o e=>v3 (w9 (Heap.lt_size e) I.ok.above)
 have neC:∀b o,X.s₀.heap.get? b=some o->b∉X.ex->b∉ch:=λ b o e hx hb=>by
  rcases(hch b hb).1 with z | z
  . exact hx z
  . exact absurd (w9 (Heap.lt_size e) z) (Nat.lt_irrefl _)
 have cellK:∀x c,X.env.cells.lookup x=some c->∀v,s.heap.IsCell c v->h'.IsCell c v:=λ x c e v ⟨o,ho,hd⟩=>by
  have nch:c∉ch:=λ z=>(hch c z).2.2.1 x c e rfl
  by_cases hc:c∈X.fs
  . obtain⟨sl,q⟩:=slot c o (I.cne x c e) hc nch ho (I.freeC x c e)
    exact⟨_,q,hd⟩
  . exact⟨o,keep c o (I.cne x c e) hc nch ho (I.freeC x c e),hd⟩
 refine⟨I.ok,I.os,hg,⟨λ b o e n hb hx=>?_,λ b o e n hb hx=>?_,λ b o e n hx=>?_,λ b o e hx=>?_,λ b xs e=>tups b xs (I.base.tups b xs e),λ b o xs e=>frzs b o xs (I.base.frzs b o xs e),λ b ps e=>?_⟩,?_,λ x c e=>?_,?_,λ x c e=>?_,λ p hp=>?_,hok,I.len⟩
 . exact keep b o (neL b o e) hb (neC b o e hx) (I.base.keep b o e n hb hx) (I.base.free b o e n hx)
 . obtain⟨sl,e1⟩:=I.base.slot b o e n hb hx
   obtain⟨sl',e2⟩:=slot b _ (neL b o e) hb (neC b o e hx) e1 (I.base.free b o e n hx)
   exact⟨sl',e2⟩
 . obtain⟨o',e1⟩:=I.base.there b o e hx
   exact free b o' (neC b o e hx) e1 (I.base.free b o e n hx)
 . obtain⟨o',e1⟩:=I.base.there b o e hx
   exact there b o' (neC b o e hx) e1
 . obtain⟨m1,e1⟩:=I.base.tbls b ps e
   obtain⟨m2,e2⟩:=tbls b _ e1
   exact⟨m1++m2,by rw[e2,Array.append_assoc]⟩
 . obtain⟨m,hn,hl⟩:=I.loc
   refine⟨m,ns m hn,λ i x v e1 e2 e3=>?_⟩
   obtain⟨u,r,l⟩:=hl i x v e1 e2 e3
   refine⟨u,r,?_⟩
   rcases l with l | ⟨k,c,e,z⟩
   . exact .inl l
   . exact .inr ⟨k,c,e,cellK x c e _ z⟩
 . obtain⟨v,z⟩:=I.cell x c e
   exact⟨v,cellK x c e v z⟩
 . obtain⟨m,⟨o,_,_,ho,_⟩,_⟩:=I.loc
   exact free _ o (λ z=>(hch _ z).2.1 rfl) ho I.free
 . obtain⟨v,o,ho,hd⟩:=I.cell x c e
   exact free c o (λ z=>(hch c z).2.2.1 x c e rfl) ho (I.freeC x c e)
 . obtain⟨e,n,ne,nf,d⟩:=I.pin p hp
   have nch:p.1∉ch:=λ z=>(hch p.1 z).2.2.2 p hp rfl
   exact⟨keep p.1 p.2 ne nf nch e n,free p.1 p.2 nch e n,ne,nf,d⟩
theorem Inv.un(I:Inv X pins σ H s)(u:Un X.fs [] H H' s.heap h')(hok:HOk X.prog X.w H' h'):Inv X pins σ H' {s with heap:=h',toks:=t'}:=by
 obtain⟨m,⟨o,es,ep,ho,r⟩,_⟩:=id I.loc
 obtain⟨sl,hL⟩:=u.any ho I.free (by simp)
 exact I.step (g':=s.gens) (d':=s.drawn) (ch:=[]) (λ _ z=>nomatch z) (λ b o _ hb _ e n=>u.keep b o e n hb (by simp)) (λ b o _ hb _ e n=>u.slot b o e n hb (by simp)) (λ b o _ e n=>u.free b o e n (by simp)) (λ b o _ e=>u.there b o e (by simp)) u.tups u.frzs u.tbls (λ m' hm=>by
  obtain⟨o',es',ep',ho',r'⟩:=hm
  rw[ho]at ho';cases ho'
  exact⟨_,es',ep',hL,r'⟩) hok I.bare
theorem Inv.call{g':Array GenState}{d':Drawn}{ch:List Addr}(I:Inv X pins σ H s)(u:Un (frs X.stack) ch H H' s.heap h')(hok:HOk X.prog X.w H' h')(hg:AllBare g')
 (hch:∀b∈ch,(b∈X.ex∨X.s₀.heap.objs.size≤b)/\b≠X.env.locals/\(∀x c,X.env.cells.lookup x=some c->c≠b)/\∀p∈X.pn++pins,p.1≠b):
 Inv X pins σ H' {s with heap:=h',gens:=g',drawn:=d',toks:=t'}:=by
 obtain⟨m,⟨o,es,ep,ho,r⟩,_⟩:=id I.loc
 obtain⟨sl,hL⟩:=u.any ho I.free λ z=>(hch _ z).2.1 rfl
 exact I.step (ch:=ch) hch (λ b o hL hb hc e n=>u.keep b o e n (λ z=>(List.mem_cons.mp (I.stkSub b z)).elim hL hb) hc) (λ b o _ _ hc e n=>u.any e n hc) (λ b o hc e n=>u.free b o e n hc) (λ b o hc e=>u.there b o e hc) u.tups u.frzs u.tbls (λ m' hm=>by
  obtain⟨o',es',ep',ho',r'⟩:=hm
  rw[ho]at ho';cases ho'
  exact⟨_,es',ep',hL,r'⟩) hok hg
theorem Inv.turned{it:Addr}(I:Inv X pins σ H s)(k:∀b o,b≠it->s.heap.get? b=some o->h'.get? b=some o)(hn:H it=none)(hL:it≠X.env.locals)
 (h1:it∈X.ex∨X.s₀.heap.objs.size≤it)(h2:∀x c,X.env.cells.lookup x=some c->c≠it)(h3:∀p∈X.pn++pins,p.1≠it):Inv X pins σ H {s with heap:=h',toks:=t'}:=by
 have nit:∀b u,H b=some u->b≠it:=λ b u e z=>by rw[z,hn]at e;cases e
 refine I.step (g':=s.gens) (d':=s.drawn) (ch:=[it]) (λ b hb=>?_) (λ b o _ _ hc e _=>k b o (λ z=>hc (by simp[z])) e) (λ b o _ _ hc e _=>⟨o.slots,k b o (λ z=>hc (by simp[z])) e⟩) (λ _ _ _ _ n=>n)
  (λ b o hc e=>⟨o,k b o (λ z=>hc (by simp[z])) e⟩) (λ _ _ e=>e) (λ _ _ _ e=>e) (λ b ps e=>⟨#[],by rw[e];simp⟩) (λ m hm=>?_) (λ b u e=>?_) I.bare
 . have e:b=it:=by simpa using hb
   subst e
   exact⟨h1,hL,h2,h3⟩
 . obtain⟨o,es,ep,ho,r⟩:=hm
   exact⟨o,es,ep,k _ o (Ne.symm hL) ho,r⟩
 . refine(I.hok b u e).stay (λ c v hc q=>k c v ?_ q) (λ _ q=>q) λ _ _ q=>q
   rcases hc with z | z
   . rw[z];exact nit b u e
   . exact nit c _ z
theorem Inv.tok(I:Inv X pins σ H s)(t:Nat):Inv X pins σ H {s with toks:=t}:=I.un (h':=s.heap) (t':=t) Un.refl I.hok
theorem Inv.kept(I:Inv X pins σ H s)(k:∀b u,s.heap.get? b=some u->h'.get? b=some u):Inv X pins σ H {s with heap:=h',toks:=t'}:=I.un (Un.kept k) (I.hok.kept k)
theorem Inv.laid{a:Addr}{o:HO}(I:Inv X pins σ H s)(k:∀b u,s.heap.get? b=some u->h'.get? b=some u)(hp:s.heap.objs.size≤a)(new:bH X.prog X.w (upd H a o) h' a o):
 Inv X pins σ (upd H a o) {s with heap:=h',toks:=t'}:=I.un (Un.laid k hp (I.hok.fresh hp)) (I.hok.laid k hp new)
theorem Inv.write{x e:Addr}{o:HO}(I:Inv X pins σ H s)(mu:Mut (H x))(he:e=x∨H e=some (.own x))(k:∀b u,b≠e->s.heap.get? b=some u->h'.get? b=some u)(heo:∃u,h'.get? e=some u)
 (new:bH X.prog X.w (upd H x o) h' x o):Inv X pins σ (upd H x o) {s with heap:=h',toks:=t'}:=I.un (Un.write mu he k heo) (I.hok.write mu he k heo new)
theorem Inv.pins_of{pins':List (Addr×Obj)}(I:Inv X pins σ H s)(h:∀p∈pins',s.heap.get? p.1=some p.2/\H p.1=none/\p.1≠X.env.locals/\p.1∉X.fs/\∀v,p.2.data≠.cell v):Inv X pins' σ H s:=
 ⟨I.ok,I.os,I.bare,I.base,I.loc,I.cell,I.free,I.freeC,λ p hp=>(List.mem_append.mp hp).elim (λ z=>I.pin p (List.mem_append_left _ z)) (h p),I.hok,I.len⟩
theorem zf{N:List Str}(hN:N.Nodup){i j:Nat}{x:Str}(a:N[i]? =some x)(b:N[j]? =some x):i=j:=by
 obtain⟨h1,e1⟩:=z0.mp a
 obtain⟨h2,e2⟩:=z0.mp b
 exact(List.getElem_inj hN).mp (e1.trans e2.symm)
theorem uf{M:Model}{A:Around}{E:Value->Shared->Prop}{i:Nat}{x:Str}{v:V}{u:Value}{Q:Unit->Shared->Prop}(I:Inv X pins σ H s)(hN:X.N.Nodup)(hi:X.N[i]? =some x)(hx:Loc X.env.scope x)(r:RelV v u)
 (h:∀s',Inv X pins (σ.set i (some v)) H s'->(∃a,Heap.SameBut a s.heap s'.heap/\(a=X.env.locals∨X.env.cells.lookup x=some a))->Q () s')(hf:X.fn x=true∨X.env.scope.names.lookup x=some .local:=by first | exact .inl rfl | exact .inr rfl | assumption):wpAny M A (storeName X.env x u) Q E s:=by
 obtain⟨m,hn,hl⟩:=id I.loc
 have hcls:(X.env.scope.kind==.class||(X.env.scope.kind==.module&&X.env.locals !=X.env.globals))=false:=by rw[I.ok.kind];rfl
 have hiσ:i<σ.length:=by rw[I.len];exact(z0.mp hi).1
 have cne:=I.cne
 have tracked:∀{a:Addr}{h':Heap},(∃o,s.heap.get? a=some o/\H a=none)->Heap.SameBut a s.heap h'->HOk X.prog X.w H h':=λ{a h'} ha hs b ob e=>by
  obtain⟨_,_,hfree⟩:=ha
  refine(I.hok b ob e).stay (λ c w' hc q=>(hs.2 c ?_).trans q) (λ _ q=>q) λ _ _ q=>q
  rintro rfl
  rcases hc with rfl | hc
  . rw[hfree]at e;cases e
  . rw[hfree]at hc;cases hc
 rcases hx with hk | hk
 . refine wpAny_storeName_local hk hn (λ h' hn' hs=>?_) hcls
   obtain⟨oL,_,_,hoL,_⟩:=id hn
   refine h _ ⟨I.ok,I.os,I.bare,⟨λ b o e n hb hx=>?_,λ b o e n hb hx=>?_,I.base.free,λ b o e hx=>?_,I.base.tups,I.base.frzs,I.base.tbls⟩,⟨_,hn',λ j y v' e1 e2 e3=>?_⟩,λ y c e=>?_,I.free,I.freeC,λ p hp=>?_,tracked ⟨oL,hoL,I.free⟩ hs,by simpa using I.len⟩ ⟨_,hs,.inl rfl⟩
   . exact(hs.2 b (v3 (w9 (Heap.lt_size e) I.ok.above))).trans (I.base.keep b o e n hb hx)
   . obtain⟨sl,e1⟩:=I.base.slot b o e n hb hx
     exact⟨sl,(hs.2 b (v3 (w9 (Heap.lt_size e) I.ok.above))).trans e1⟩
   . obtain⟨o',e1⟩:=I.base.there b o e hx
     exact⟨o',(hs.2 b (v3 (w9 (Heap.lt_size e) I.ok.above))).trans e1⟩
   . by_cases hj:j=i
     . subst hj
       rw[hi]at e1;cases e1
       rw[List.getElem?_set_self hiσ]at e2
       cases e2
       exact⟨u,r,.inl ⟨hk,by simp⟩⟩
     . rw[List.getElem?_set_ne (Ne.symm hj)]at e2
       obtain⟨u',r',q⟩:=hl j y v' e1 e2 e3
       refine⟨u',r',?_⟩
       rcases q with⟨k,e⟩ | ⟨k,c,e,z⟩
       . refine .inl ⟨k,?_⟩
         have:y≠x:=λ e=>hj (zf hN e1 (e▸hi))
         simp[this,e]
       . exact .inr ⟨k,c,e,z.sameBut hs (cne y c e)⟩
   . obtain⟨w',z⟩:=I.cell y c e
     exact⟨w',z.sameBut hs (cne y c e)⟩
   . obtain⟨e,n,ne,nf,d⟩:=I.pin p hp
     exact⟨(hs.2 p.1 ne).trans e,n,ne,nf,d⟩
 . have hfn:X.fn x=true:=by
    rcases hf with z | z
    . exact z
    . rw[z]at hk;cases hk
   obtain⟨c,hc⟩:=I.ok.has x (.inl hk)
   obtain⟨w',z⟩:=I.cell x c hc
   refine wpAny_storeName_cell I.ok.kind hk hc z (λ h' hc' hs=>?_)
   obtain⟨oc,hoc,hocd⟩:=id z
   refine h {s with heap:=h'} ⟨I.ok,I.os,I.bare,⟨λ b o e n hb hx=>?_,λ b o e n hb hx=>?_,I.base.free,λ b o e hx=>?_,I.base.tups,I.base.frzs,I.base.tbls⟩,⟨m,hn.sameBut hs (Ne.symm (cne x c hc)),λ j y v' e1 e2 e3=>?_⟩,λ y c' e=>?_,I.free,I.freeC,λ p hp=>?_,tracked ⟨oc,hoc,I.freeC x c hc⟩ hs,by simpa using I.len⟩ ⟨c,hs,.inr hc⟩
   . exact(hs.2 b (v3 (w9 (Heap.lt_size e) (I.ok.cab x c hfn hc)))).trans (I.base.keep b o e n hb hx)
   . obtain⟨sl,e1⟩:=I.base.slot b o e n hb hx
     exact⟨sl,(hs.2 b (v3 (w9 (Heap.lt_size e) (I.ok.cab x c hfn hc)))).trans e1⟩
   . obtain⟨o',e1⟩:=I.base.there b o e hx
     exact⟨o',(hs.2 b (v3 (w9 (Heap.lt_size e) (I.ok.cab x c hfn hc)))).trans e1⟩
   . by_cases hj:j=i
     . subst hj
       rw[hi]at e1;cases e1
       rw[List.getElem?_set_self hiσ]at e2
       cases e2
       exact⟨u,r,.inr ⟨.inl hk,c,hc,hc'⟩⟩
     . rw[List.getElem?_set_ne (Ne.symm hj)]at e2
       obtain⟨u',r',q⟩:=hl j y v' e1 e2 e3
       refine⟨u',r',?_⟩
       rcases q with q | ⟨k,c',e,z'⟩
       . exact .inl q
       . refine .inr ⟨k,c',e,z'.sameBut hs ?_⟩
         rintro rfl
         exact hj (zf hN e1 (I.ok.inj _ _ _ e hc▸hi))
   . by_cases hcc:c'=c
     . subst hcc;exact⟨_,hc'⟩
     . obtain⟨w2,z2⟩:=I.cell y c' e
       exact⟨w2,z2.sameBut hs hcc⟩
   . obtain⟨e,n,ne,nf,d⟩:=I.pin p hp
     refine⟨(hs.2 p.1 ?_).trans e,n,ne,nf,d⟩
     intro q
     rw[q,hoc]at e
     have q':oc=p.2:=Option.some.inj e
     exact d w' (by rw[←q'];exact hocd)
theorem yJ{M:Model}{A:Around}{E:Value->Shared->Prop}{i:Nat}{x:Str}{v:V}{u:Value}{Q:Unit->Shared->Prop}(I:Inv X pins σ H s)(hN:X.N.Nodup)(hi:X.N[i]? =some x)(hx:Loc X.env.scope x)(r:RelV v u)
 (h:∀s',Inv X pins (σ.set i (some v)) H s'->Q () s')(hf:X.fn x=true∨X.env.scope.names.lookup x=some .local:=by first | exact .inl rfl | exact .inr rfl | assumption):wpAny M A (storeName X.env x u) Q E s:=
 uf I hN hi hx r (λ s' I' _=>h s' I') hf
theorem Inv.call'{s':Shared}{ch:List Addr}(I:Inv X pins σ H s)(ho:s'.os=s.os)(u:Un (frs X.stack) ch H H' s.heap s'.heap)(hok:HOk X.prog X.w H' s'.heap)(hg:AllBare s'.gens)
 (hch:∀b∈ch,(b∈X.ex∨X.s₀.heap.objs.size≤b)/\b≠X.env.locals/\(∀x c,X.env.cells.lookup x=some c->c≠b)/\∀p∈X.pn++pins,p.1≠b):Inv X pins σ H' s':=by
 obtain⟨h',g',d',t',o'⟩:=s'
 have e:o'=s.os:=ho
 subst e
 exact I.call (g':=g') (t':=t') (d':=d') u hok hg hch
end
abbrev XK:=Value->Option Addr->Hp->Prop
abbrev St:=List (Option V)
abbrev VK:=V->Hp->Prop
abbrev TE:=St->Hp->VK->Prop
abbrev TT:=St->Hp->(Bool->Hp->Prop)->Prop
abbrev TA:=St->Hp->(List V->Hp->Prop)->Prop
structure Ends where
 nx:St->Hp->Prop
 rt:VK
 bk:St->Hp->Prop:=λ _ _=>False
 ct:St->Hp->Prop:=λ _ _=>False
abbrev TS:=Ends->St->Hp->Prop
def EP(X:Cx)(pins:List (Addr×Obj))(σ:St)(Q:VK)(u:Value)(s':Shared):Prop:=∃v H',Inv X pins σ H' s'/\RelV v u/\Q v H'
def TP(X:Cx)(pins:List (Addr×Obj))(σ:St)(Q:Bool->Hp->Prop)(b:Bool)(s':Shared):Prop:=∃H',Inv X pins σ H' s'/\Q b H'
def AP(X:Cx)(pins:List (Addr×Obj))(σ:St)(Q:List V->Hp->Prop)(us:List Value)(s':Shared):Prop:=∃vs H',Inv X pins σ H' s'/\Vals vs us/\Q vs H'
def SP(X:Cx)(pins:List (Addr×Obj))(D:Ends)(f:Flow)(s':Shared):Prop:=
 match f with
 | .next=>∃σ' H',Inv X pins σ' H' s'/\D.nx σ' H'
 | .brk=>∃σ' H',Inv X pins σ' H' s'/\D.bk σ' H'
 | .cont=>∃σ' H',Inv X pins σ' H' s'/\D.ct σ' H'
 | .ret u=>∃v σ' H',Inv X pins σ' H' s'/\RelV v u/\D.rt v H'
def PE(X:Cx)(e:Expr)(t:TE):Prop:=
 ∀(pins:List (Addr×Obj))(s:Shared)(σ:St)(H:Hp)(Q:VK),Inv X pins σ H s->t σ H Q->wpAny (model X.prog X.w) X.A (eval e X.env) (EP X pins σ Q) X.xe s
def PA(X:Cx)(es:List Expr)(t:TA):Prop:=
 ∀(pos:Pos)(pins:List (Addr×Obj))(s:Shared)(σ:St)(H:Hp)(Q:List V->Hp->Prop),Inv X pins σ H s->t σ H Q->wpAny (model X.prog X.w) X.A (spliced (backTo pos (starEach es X.env))) (AP X pins σ Q) X.xe s
def PS(X:Cx)(st:Stmt)(t:TS):Prop:=
 ∀(pins:List (Addr×Obj))(s:Shared)(σ:St)(H:Hp)(D:Ends),Inv X pins σ H s->t D σ H->wpAny (model X.prog X.w) X.A (exec st X.env) (SP X pins D) X.xe s
def PSs(X:Cx)(st:List Stmt)(t:TS):Prop:=
 ∀(pins:List (Addr×Obj))(s:Shared)(σ:St)(H:Hp)(D:Ends),Inv X pins σ H s->t D σ H->wpAny (model X.prog X.w) X.A (execs st X.env) (SP X pins D) X.xe s
theorem thn{α:Type}{t:Sem α}{Q Q':α->Shared->Prop}{M:Model}{A:Around}{E:Value->Shared->Prop}{s:Shared}(h:wpAny M A t Q E s)(hQ:∀a s,Q a s->Q' a s):wpAny M A t Q' E s:=wpAny_mono h hQ λ _ _ x=>x
end L2
namespace L2
open PySem PySem.Spec PyProof.Rows
variable {x : Str} {u : Value}
section
variable {X : Cx}
def UJ(i:Nat):TE:=λ σ H Q=>∃v,σ[i]? =some (some v)/\Q v H
def tC(v:V):TE:=λ _ H Q=>Q v H
theorem Q8{i:Nat}{pos:Pos}(hN:X.N[i]? =some x)(hv:Vis X.env.scope x)(hd:(x==("__debug__":Str))=false:=by decide)(hcd:(x==("__classdict__":Str))=false:=by decide):PE X (.Name x pos) (UJ i):=by
 intro pins s σ H Q I h
 obtain⟨v,e,h⟩:=h
 obtain⟨m,hn,hl⟩:=I.loc
 obtain⟨u,r,l⟩:=hl i x v hN e hv
 have fin:EP X pins σ Q u s:=⟨v,H,I,r,h⟩
 rcases l with⟨hk,hm⟩ | ⟨hk,c,hc,hcell⟩
 . exact wpAny_Name (wpAny_loadName_local I.ok.kind hk hn hm fin) hd
 . rcases hk with hk | hk
   . exact wpAny_Name (wpAny_loadName_cell I.ok.kind hk hc hcell fin) hd
   . exact wpAny_Name (wpAny_loadName_free I.ok.kind hk hc hcell fin hcd) hd
theorem Rq{i j pos}:PE X (.Constant (.int i) j pos) (tC (.int i)):=λ _ _ _ H _ I h=>wpAny_Constant_int ⟨.int i,H,I.tok _,⟨_,rfl⟩,h⟩
theorem Ux{b j pos}:PE X (.Constant (.bool b) j pos) (tC (.bl b)):=λ _ _ _ H _ I h=>Constant_bool ⟨.bl b,H,I,rfl,h⟩
theorem QQ{j pos}:PE X (.Constant .none j pos) (tC .non):=λ _ _ _ H _ I h=>Constant_none ⟨.non,H,I,rfl,h⟩
def Gl(X:Cx)(x:Str):Prop:=X.env.kindOf x=some .globalImplicit
theorem By{E:Value->Shared->Prop}{pins:List (Addr×Obj)}{s:Shared}{σ:St}{H:Hp}{pos:Pos}{Q:Value->Shared->Prop}(I:Inv X pins σ H s)(hg:Gl X x)(hm:X.mg x=some u)(h:Q u s)
 (hd:(x==("__debug__":Str))=false:=by decide):wpAny (model X.prog X.w) X.A (eval (.Name x pos) X.env) Q E s:=
 Calls.Name_function_global I.ok.kind hg (Calls.loadGlobal_global (by rw[I.ok.glob];exact I.mod.glob.keeps I.bk) hm h) hd
theorem cO{E:Value->Shared->Prop}{pins:List (Addr×Obj)}{s:Shared}{σ:St}{H:Hp}{pos:Pos}{Q:Value->Shared->Prop}(I:Inv X pins σ H s)(hg:Gl X x)(hm:X.mg x=none)(hv:bootBuiltins x=some u)(h:Q u s)
 (hn:x≠"__name__":=by decide)(hd:(x==("__debug__":Str))=false:=by decide):wpAny (model X.prog X.w) X.A (eval (.Name x pos) X.env) Q E s:=by
 obtain⟨mb,h1,h2⟩:=I.mod.blt
 exact Calls.Name_function_global I.ok.kind hg (Calls.loadGlobal_builtin (by rw[I.ok.glob];exact I.mod.glob.keeps I.bk) hm (by rw[I.ok.blt];exact h1.keeps I.bk) ((h2 x hn).trans hv) h) hd
theorem N5{v:V}{pos:Pos}(hg:Gl X x)(hm:X.mg x=some u)(r:RelV v u)(hd:(x==("__debug__":Str))=false:=by decide):PE X (.Name x pos) (tC v):=
 λ _ _ _ H _ I h=>By I hg hm ⟨v,H,I,r,h⟩ hd
theorem NP{v:V}{pos:Pos}(hg:Gl X x)(hm:X.mg x=none)(hv:bootBuiltins x=some u)(r:RelV v u)(hn:x≠"__name__":=by decide)(hd:(x==("__debug__":Str))=false:=by decide):PE X (.Name x pos) (tC v):=
 λ _ _ _ H _ I h=>cO I hg hm hv ⟨v,H,I,r,h⟩ hn hd
variable {a b : Expr} {ta tb : TE} {pos : Pos}
variable {tA tB' : TT} {rest : List Expr}
end
end L2
namespace L2
open PySem PySem.Spec PyProof.Rows
variable {K : PySem.W.Frag} {tg : Expr}
def SqL(K:PySem.W.Frag)(H:Hp)(a:Addr)(xs:List V):Prop:=
 Rd H a (.lst xs)∨
  ∃(o:Obj) (its:Array Value) (n:Nat),K.lookup a=some o/\o.cls=.type "list"/\o.dict=none/\o.data=.seq its n/\its.size≤sizeLine/\Vals xs its.toList
def SqT(K:PySem.W.Frag)(H:Hp)(a:Addr)(xs:List V):Prop:=
 Rd H a (.tup xs)∨
  ∃(o:Obj) (its:Array Value) (n:Nat),K.lookup a=some o/\o.cls=.type "tuple"/\o.data=.seq its n/\its.size≤sizeLine/\Vals xs its.toList
def UV:Value->Option V
 | .none=>some .non
 | .bool b=>some (.bl b)
 | .int i _=>some (.int i)
 | .str x _=>some (.str x)
 | .bytes b _=>some (.byt b)
 | .float b _=>some (.flt b)
 | .ref a=>some (.ref a)
 | .type n=>some (.ty n)
 | _=>none
theorem RelV.abs{x:V}{u:Value}(r:RelV x u):UV u=some x:=by
 cases x with
 | non=>cases r;rfl
 | bl _=>cases r;rfl
 | int _=>obtain⟨t,rfl⟩:=r;rfl
 | str _=>obtain⟨t,rfl⟩:=r;rfl
 | byt _=>obtain⟨t,rfl⟩:=r;rfl
 | flt _=>obtain⟨t,rfl⟩:=r;rfl
 | ref _=>cases r;rfl
 | ty _=>cases r;rfl
theorem RelV.inj{x y:V}{u:Value}(r:RelV x u)(q:RelV y u):x=y:=Option.some.inj (r.abs.symm.trans q.abs)
theorem Vals.inj:∀{xs ys:List V}{us:List Value},Vals xs us->Vals ys us->xs=ys
 | _,_,_,.nil,.nil=>rfl
 | _,_,_,.cons r t,.cons r' t'=>by rw[r.inj r',Vals.inj t t']
section
variable {X : Cx} {pins : List (Addr × Obj)} {σ : St} {H : Hp} {s : Shared} {a : Addr} {xs ys : List V}
theorem SqL.of(h:H a=some (.lst xs)):SqL K H a xs:=.inl (.inl h)
theorem Inv.list(I:Inv X pins σ H s)(h:SqL X.K H a xs):∃its:List Value,Vals xs its/\PlainL s.heap a its.toArray/\xs.length≤sizeLine:=by
 rcases h with h | ⟨o,its,n,hk,hc,hd,hs,hz,r⟩
 . obtain⟨z,its,n,r,e⟩:=h.ok I.hok
   exact⟨its,r,⟨_,n,e,rfl,rfl,rfl⟩,z⟩
 . refine⟨its.toList,r,⟨o,n,I.kIn a o hk,hc,hd,by simpa using hs⟩,?_⟩
   have e:=r.length
   simp only[Array.length_toList]at e
   omega
theorem Inv.tuple(I:Inv X pins σ H s)(h:SqT X.K H a xs):∃its:List Value,Vals xs its/\IsTup s.heap a its.toArray/\xs.length≤sizeLine:=by
 rcases h with h | ⟨o,its,n,hk,hc,hs,hz,r⟩
 . obtain⟨z,its,r,p⟩:=h.ok I.hok
   exact⟨its,r,p,z⟩
 . refine⟨its.toList,r,⟨o,I.kIn a o hk,hc,n,by simpa using hs⟩,?_⟩
   have e:=r.length
   simp only[Array.length_toList]at e
   omega
theorem Inv.list_inj(I:Inv X pins σ H s)(h:SqL X.K H a xs)(h':SqL X.K H a ys):xs=ys:=by
 obtain⟨its,r,⟨o,n,e,_,_,d⟩,_⟩:=I.list h
 obtain⟨its',r',⟨o',n',e',_,_,d'⟩,_⟩:=I.list h'
 rw[e]at e';cases e'
 rw[d]at d'
 injection d' with d1 _
 have:its=its':=by simpa using congrArg Array.toList d1
 subst this
 exact r.inj r'
theorem Inv.tuple_inj(I:Inv X pins σ H s)(h:SqT X.K H a xs)(h':SqT X.K H a ys):xs=ys:=by
 obtain⟨its,r,⟨o,e,_,n,d⟩,_⟩:=I.tuple h
 obtain⟨its',r',⟨o',e',_,n',d'⟩,_⟩:=I.tuple h'
 rw[e]at e';cases e'
 rw[d]at d'
 injection d' with d1 _
 have:its=its':=by simpa using congrArg Array.toList d1
 subst this
 exact r.inj r'
end
abbrev Cx.wish(X:Cx)(E:Value->Shared->Prop):Cx:={X with xe:=E}
abbrev Cx.nox(X:Cx):Cx:=X.wish λ _ _=>False
theorem Cx.Ok.wish{X:Cx}(ok:X.Ok)(E:Value->Shared->Prop):(X.wish E).Ok:=
 ⟨ok.mod,ok.kind,ok.glob,ok.blt,ok.above,ok.inj,ok.has,ok.cab,ok.hd,ok.frames,ok.stk,ok.exf,ok.bs,ok.bsz,ok.noex,ok.exfs,ok.funs,ok.frf⟩
theorem Cx.Ok.unwish{X:Cx}{E:Value->Shared->Prop}(ok:(X.wish E).Ok):X.Ok:=
 ⟨ok.mod,ok.kind,ok.glob,ok.blt,ok.above,ok.inj,ok.has,ok.cab,ok.hd,ok.frames,ok.stk,ok.exf,ok.bs,ok.bsz,ok.noex,ok.exfs,ok.funs,ok.frf⟩
section
variable {X : Cx} {pins : List (Addr × Obj)} {σ : St} {H : Hp} {s : Shared} {E : Value -> Shared -> Prop}
theorem Inv.wish(I:Inv X pins σ H s)(E:Value->Shared->Prop):Inv (X.wish E) pins σ H s:=⟨I.ok.wish E,I.os,I.bare,I.base,I.loc,I.cell,I.free,I.freeC,I.pin,I.hok,I.len⟩
theorem Inv.unwish(I:Inv (X.wish E) pins σ H s):Inv X pins σ H s:=⟨I.ok.unwish,I.os,I.bare,I.base,I.loc,I.cell,I.free,I.freeC,I.pin,I.hok,I.len⟩
theorem SP.unwish{D:Ends}{f:Flow}{s':Shared}(h:SP (X.wish E) pins D f s'):SP X pins D f s':=by
 cases f with
 | next=>obtain⟨σ',H',I,q⟩:=h;exact⟨σ',H',I.unwish,q⟩
 | brk=>obtain⟨σ',H',I,q⟩:=h;exact⟨σ',H',I.unwish,q⟩
 | cont=>obtain⟨σ',H',I,q⟩:=h;exact⟨σ',H',I.unwish,q⟩
 | ret u=>obtain⟨v,σ',H',I,r,q⟩:=h;exact⟨v,σ',H',I.unwish,r,q⟩
theorem PSs.nox{st:List Stmt}{t:TS}(h:PSs X.nox st t):PSs X st t:=λ pins s σ H D I hw=>
 wpAny_mono (h pins s σ H D (I.wish _) hw) (λ _ _ q=>q.unwish) λ _ _ z=>False.elim z
end
section
variable {X : Cx} {st : Stmt} {rest : List Stmt} {t u : TS} {e : Expr} {te : TE} {pos : Pos}
theorem Inv.quiet{pins:List (Addr×Obj)}{σ:St}{H:Hp}{s:Shared}(I:Inv X pins σ H s):interactive X.env=false:=by simp[interactive,I.ok.kind]
end
abbrev TG:=V->St->Hp->(St->Hp->Prop)->Prop
def PG(X:Cx)(target:Expr)(t:TG):Prop:=
 ∀ (pins:List (Addr×Obj))(s:Shared)(σ:St)(H:Hp)(v:V)(u:Value)(Q:St->Hp->Prop),Inv X pins σ H s->RelV v u->t v σ H Q->
   wpAny (model X.prog X.w) X.A (assign target X.env u) (λ _ s'=>∃σ' H',Inv X pins σ' H' s'/\Q σ' H') X.xe s
abbrev Vh:=V->V->V->Hp->(Hp->Prop)->Prop
def U3(X:Cx)(t:Vh):Prop:=
 ∀ (pins:List (Addr×Obj))(s:Shared)(σ:St)(H:Hp)(o i v:V)(ov iv u:Value)(Q:Hp->Prop),Inv X pins σ H s->RelV o ov->RelV i iv->RelV v u->t o i v H Q->
   wpAny (model X.prog X.w) X.A (setItem ov iv u) (λ _ s'=>∃H',Inv X pins σ H' s'/\Q H') X.xe s
structure It where
 go:Nat->Hp->Prop
 yld:Nat->Hp->V->Hp->Prop
 stop:Nat->Hp->Prop
def eQ(X:Cx)(pins:List (Addr×Obj))(H:Hp)(b:Addr):Prop:=
 H b=none/\b≠X.env.locals/\b∉X.fs/\(b∈X.ex∨X.s₀.heap.objs.size≤b)/\(∀x c,X.env.cells.lookup x=some c->c≠b)/\∀p∈X.pn++pins,p.1≠b
theorem Inv.fpOk{X:Cx}{pins:List (Addr×Obj)}{σ:St}{H H':Hp}{s:Shared}{b:Addr}(I:Inv X pins σ H s)(hb:s.heap.objs.size≤b)(hn:H' b=none):eQ X pins H' b:=by
 refine⟨hn,Nat.ne_of_gt (w9 I.lt hb),I.nofs hb,.inr (Nat.le_trans I.sz hb),λ x c e z=>?_,λ p hp z=>?_⟩
 . obtain⟨v,q⟩:=I.cell x c e
   exact absurd (w9 q.lt (by rw[z];exact hb)) (Nat.lt_irrefl _)
 . exact absurd (w9 (Heap.lt_size (I.pin p hp).1) (by rw[z];exact hb)) (Nat.lt_irrefl _)
structure Turn(P:Program)(w:World)(K:PySem.W.Frag)(tg:Expr)(J:It)(fp:List Addr)(it:Addr)(tn:Nat->Heap->Prop):Prop where
 mem:it∈fp
 obj:∀i h,tn i h->∀b∈fp,∃o,h.get? b=some o/\∀v,o.data≠.cell v
 keep:∀i h h',tn i h->(∀b∈fp,∀o,h.get? b=some o->h'.get? b=some o)->tn i h'
 item:∀(X:Cx),X.prog=P->X.w=w->X.K=K->X.calm=true->∀(i:Nat)(pins:List (Addr×Obj))(s:Shared)(σ:St)(H:Hp)(E:Value->Shared->Prop),Inv X pins σ H s->(∀b∈fp,eQ X pins H b)->tn i s.heap->J.go i H->
  wpAny (model P w) X.A (pyNext (.ref it)) (λ r s1=>∃u,r=some u/\
   wpAny (model P w) X.A (letOwnedTupleGo tg (.ref it) u) (λ _ s2=>∃x H',Inv X pins σ H' s2/\RelV x u/\J.yld i H x H'/\tn (i+1) s2.heap/\∀b∈fp,H' b=none) E s1) E s
 done:∀(X:Cx),X.prog=P->X.w=w->X.K=K->X.calm=true->∀(i:Nat)(pins:List (Addr×Obj))(s:Shared)(σ:St)(H:Hp)(E:Value->Shared->Prop),Inv X pins σ H s->(∀b∈fp,eQ X pins H b)->tn i s.heap->J.stop i H->
  wpAny (model P w) X.A (pyNext (.ref it)) (λ r s1=>r=none/\Inv X pins σ H s1) E s
 self:∀(A:Around)(i:Nat)(s:Shared)(Q:Value->Shared->Prop)(E:Value->Shared->Prop),tn i s.heap->Q (.ref it) s->wpAny (model P w) A (pyIter (.ref it)) Q E s
abbrev TI:=St->Hp->(It->Hp->Prop)->Prop
def PIE(X:Cx)(pins:List (Addr×Obj))(σ:St)(tg:Expr)(R:It->Hp->Prop)(itv:Value)(s2:Shared):Prop:=
 ∃(it:Addr) (fp:List Addr) (tn:Nat->Heap->Prop) (J:It) (H':Hp),itv=.ref it/\Inv X pins σ H' s2/\Turn X.prog X.w X.K tg J fp it tn/\tn 0 s2.heap/\(∀b∈fp,eQ X pins H' b)/\R J H'
def PI(X:Cx)(tg iter:Expr)(wi:TI):Prop:=
 ∀ (pins:List (Addr×Obj))(s:Shared)(σ:St)(H:Hp)(R:It->Hp->Prop),Inv X pins σ H s->wi σ H R->
   wpAny (model X.prog X.w) X.A (eval iter X.env) (λ v s1=>wpAny (model X.prog X.w) X.A (pyIter v) (PIE X pins σ tg R) X.xe s1) X.xe s
theorem DG{M:Model}{A:Around}{E:Value->Shared->Prop}{s:Shared}{it:Addr}{u:Value}{o:Obj}{n:String}{vs:Array Value}{Q:Unit->Shared->Prop}(ho:s.heap.get? it=some o)(hc:o.cls=.type n)(hd:o.data=.fields vs)
 (hn:["enumerate","zip","dict_itemiterator","dict_reverseitemiterator","odict_iterator","itertools.zip_longest","itertools.pairwise"].contains n=false)(hQ:Q () s):wpAny M A (letOwnedTupleGo tg (.ref it) u) Q E s:=by
 unfold letOwnedTupleGo
 cases tg<;>first
  | exact wpAny_pure hQ
  | (cases u<;>first
   | exact wpAny_pure hQ
   | (refine wpAny_bind (wpAny_load ho ?_)
      rw[hc,hd]
      show wpAny M A (if(["enumerate","zip","dict_itemiterator","dict_reverseitemiterator","odict_iterator","itertools.zip_longest","itertools.pairwise"].contains n&&vs[0]? ==some (rawInt _))=true then _ else _) Q E s
      rw[if_neg (by intro h;rw[hn,Bool.false_and]at h;cases h)]
      exact wpAny_pure hQ))
def Itl(K:PySem.W.Frag)(a:Addr):It:=
 ⟨λ i H=>∃xs x,SqL K H a xs/\xs[i]? =some x,λ i H x H'=>H'=H/\∀xs,SqL K H a xs->xs[i]? =some x,λ i H=>∃xs,SqL K H a xs/\xs.length≤i⟩
def Itt(K:PySem.W.Frag)(a:Addr):It:=
 ⟨λ i H=>∃xs x,SqT K H a xs/\xs[i]? =some x,λ i H x H'=>H'=H/\∀xs,SqT K H a xs->xs[i]? =some x,λ i H=>∃xs,SqT K H a xs/\xs.length≤i⟩
def Itr(lo:Int)(n:Nat):It:=⟨λ i _=>i<n,λ i H x H'=>H'=H/\x=.int (lo+i),λ i _=>n≤i⟩
theorem mW{P:Program}{w:World}(a it:Addr):Turn P w K tg (Itl K a) [it] it (λ i h=>h.IsListIter it a i) where
 mem:=by simp
 obj:=λ i h st b hb=>by
  have e:b=it:=by simpa using hb
  subst e
  obtain⟨o,e,c,d⟩:=st
  exact⟨o,e,λ v z=>by rw[d]at z;cases z⟩
 keep:=λ i h h' st k=>st.at λ o e=>k it (by simp) o e
 item:=by
  intro X hP hw hK hc i pins s σ H E I hf st hg
  subst hP hw hK
  obtain⟨xs,x,hq,hx⟩:=hg
  obtain⟨its,rv,p,hz⟩:=I.list hq
  obtain⟨u,hu,ru⟩:=rv.get hx
  obtain⟨f0,f1,f2,f3,f4,f5⟩:=hf it (by simp)
  refine wpAny_pyNext_list_item st p.isList (x:=u) (by simpa using hu) λ h' st' sb=>?_
  have I1:Inv X pins σ H {s with heap:=h'}:=I.turned (t':=s.toks) (λ b o hb e=>(sb.2 b hb).trans e) f0 f1 f3 f4 f5
  obtain⟨o,e,c,d⟩:=id st'
  exact⟨u,rfl,DG (s:={s with heap:=h'}) e c d (by decide) ⟨x,H,I1,ru,⟨rfl,λ ys hy=>by rw[I.list_inj hy hq];exact hx⟩,st',λ b hb=>(hf b hb).1⟩⟩
 done:=by
  intro X hP hw hK hc i pins s σ H E I hf st hg
  subst hP hw hK
  obtain⟨xs,hq,hx⟩:=hg
  obtain⟨its,rv,p,hz⟩:=I.list hq
  obtain⟨f0,f1,f2,f3,f4,f5⟩:=hf it (by simp)
  have hl:=rv.length
  exact wpAny_pyNext_list_end (I.ok.hd hc) st p.isList (by simp;omega) λ h' eb=>⟨rfl,I.turned (t':=s.toks) (λ b o hb e=>eb b o hb e) f0 f1 f3 f4 f5⟩
 self:=λ _ _ _ _ _ st h=>wpAny_pyIter_listiter st h
theorem qD{P:Program}{w:World}(a it:Addr):Turn P w K tg (Itt K a) [it] it (λ i h=>h.IsTupleIter it a i) where
 mem:=by simp
 obj:=λ i h st b hb=>by
  have e:b=it:=by simpa using hb
  subst e
  obtain⟨o,e,c,d⟩:=st
  exact⟨o,e,λ v z=>by rw[d]at z;cases z⟩
 keep:=λ i h h' st k=>st.at λ o e=>k it (by simp) o e
 item:=by
  intro X hP hw hK hc i pins s σ H E I hf st hg
  subst hP hw hK
  obtain⟨xs,x,hq,hx⟩:=hg
  obtain⟨its,rv,p,hz⟩:=I.tuple hq
  obtain⟨u,hu,ru⟩:=rv.get hx
  obtain⟨f0,f1,f2,f3,f4,f5⟩:=hf it (by simp)
  refine wpAny_pyNext_tuple_item st (show s.heap.IsTuple a its.toArray from p) (x:=u) (by simpa using hu) λ h' st' sb=>?_
  have I1:Inv X pins σ H {s with heap:=h'}:=I.turned (t':=s.toks) (λ b o hb e=>(sb.2 b hb).trans e) f0 f1 f3 f4 f5
  obtain⟨o,e,c,d⟩:=id st'
  exact⟨u,rfl,DG (s:={s with heap:=h'}) e c d (by decide) ⟨x,H,I1,ru,⟨rfl,λ ys hy=>by rw[I.tuple_inj hy hq];exact hx⟩,st',λ b hb=>(hf b hb).1⟩⟩
 done:=by
  intro X hP hw hK hc i pins s σ H E I hf st hg
  subst hP hw hK
  obtain⟨xs,hq,hx⟩:=hg
  obtain⟨its,rv,p,hz⟩:=I.tuple hq
  obtain⟨f0,f1,f2,f3,f4,f5⟩:=hf it (by simp)
  have hl:=rv.length
  exact wpAny_pyNext_tuple_end (I.ok.hd hc) st (show s.heap.IsTuple a its.toArray from p) (by simp;omega) λ h' eb=>⟨rfl,I.turned (t':=s.toks) (λ b o hb e=>eb b o hb e) f0 f1 f3 f4 f5⟩
 self:=λ _ _ _ _ _ st h=>wpAny_pyIter_tupleiter st h
theorem DW{P:Program}{w:World}(it:Addr)(lo:Int)(n:Nat):Turn P w K tg (Itr lo n) [it] it (λ i h=>IsRangeIter h it (lo+(i:Nat)*1) ((n:Int)-(i:Nat)) 1) where
 mem:=by simp
 obj:=λ i h st b hb=>by
  have e:b=it:=by simpa using hb
  subst e
  exact⟨_,st,λ v z=>by
   have z':Data.fields _=Data.cell v:=z
   cases z'⟩
 keep:=λ i h h' st k=>k it (by simp) _ st
 item:=by
  intro X hP hw hK hc i pins s σ H E I hf st hg
  subst hP hw hK
  obtain⟨f0,f1,f2,f3,f4,f5⟩:=hf it (by simp)
  have W:=Walks.range (prog:=X.prog) (w:=X.w) (I.ok.hd hc) it lo 1 n
  refine W.item i s _ _ hg st λ v h' tk hv st' kk=>?_
  obtain⟨t,rfl⟩:=hv
  have I1:Inv X pins σ H {s with heap:=h',toks:=tk}:=I.turned (λ b o hb e=>kk b o (by simpa using hb) e) f0 f1 f3 f4 f5
  refine⟨_,rfl,DG (s:={s with heap:=h',toks:=tk}) (n:="range_iterator") st' rfl rfl (by decide) ⟨.int (lo+i),H,I1,⟨t,?_⟩,⟨rfl,rfl⟩,st',λ b hb=>(hf b hb).1⟩⟩
  rw[Int.mul_one]
 done:=by
  intro X hP hw hK hc i pins s σ H E I hf st hg
  subst hP hw hK
  obtain⟨f0,f1,f2,f3,f4,f5⟩:=hf it (by simp)
  exact wpAny_pyNext_range_end (I.ok.hd hc) st (by have:n≤i:=hg;omega) λ h' eb=>⟨rfl,I.turned (t':=s.toks) (λ b o hb e=>eb b o hb e) f0 f1 f3 f4 f5⟩
 self:=λ _ _ _ _ _ st h=>wpAny_pyIter_rangeiter st h
end L2
namespace L2
open PySem PySem.Spec PyProof.Rows
section
variable {X : Cx} {tg : Expr}
theorem xJ{pins:List (Addr×Obj)}{σ:St}{H:Hp}{s:Shared}{R:It->Hp->Prop}{E:Value->Shared->Prop}{lo hi:Int}{t u v:Tok}{tk:Nat}(I:Inv X pins σ H s)(h1: -(2 ^ 62)≤lo)(h2:lo<2 ^ 62)(h3: -(2 ^ 62)≤hi)(h4:hi<2 ^ 62)
 (q:R (Itr lo (hi-lo).toNat) H):wpAny (model X.prog X.w) X.A (pyIter (.ref s.heap.objs.size)) (PIE X pins σ tg R) E {s with heap:=s.heap.push {cls:=.type "range",data:=.fields #[.int lo t,.int hi u,.int 1 v]},toks:=tk}:=by
 refine wpAny_pyIter_range (IsRange.new ..) (small_one h1 h2 h3 h4) ?_
 have I1:Inv X pins σ H {s with heap:=s.heap.push {cls:=.type "range",data:=.fields #[.int lo t,.int hi u,.int 1 v]},toks:=tk}:=I.kept λ b o e=>Heap.get?_push_of_some _ e
 refine⟨(s.heap.push {cls:=.type "range",data:=.fields #[.int lo t,.int hi u,.int 1 v]}).objs.size,[(s.heap.push {cls:=.type "range",data:=.fields #[.int lo t,.int hi u,.int 1 v]}).objs.size],_,_,H,rfl,
  I1.kept (t':=tk) λ b o e=>Heap.get?_push_of_some _ e,DW _ lo (hi-lo).toNat,?_,λ b hb=>?_,q⟩
 . have e1:lo+((0:Nat):Int)*1=lo:=by simp
   have e2:(((hi-lo).toNat:Nat):Int)-((0:Nat):Int)=Builtin.Range.rangeSize lo hi 1:=by rw[rangeSize_one];split<;>omega
   show IsRangeIter _ _ (lo+((0:Nat):Int)*1) ((((hi-lo).toNat:Nat):Int)-((0:Nat):Int)) 1
   rw[e1,e2]
   exact Heap.get?_push_size _ rfl
 . have e:b=(s.heap.push {cls:=.type "range",data:=.fields #[.int lo t,.int hi u,.int 1 v]}).objs.size:=by simpa using hb
   subst e
   exact I1.fpOk (y9 _) (I1.hok.fresh (y9 _))
def Ul(ta:TA):TI:=λ σ H R=>ta σ H λ vs H1=>∃j:Int,vs=[.int j]/\ -(2 ^ 62)≤j/\j<2 ^ 62/\R (Itr 0 j.toNat) H1
def Uc(ta:TA):TI:=λ σ H R=>ta σ H λ vs H1=>∃i j:Int,vs=[.int i,.int j]/\(-(2 ^ 62)≤i/\i<2 ^ 62/\ -(2 ^ 62)≤j/\j<2 ^ 62)/\R (Itr i (j-i).toNat) H1
theorem Gi{a:Expr}{ta:TA}{p pos:Pos}(hg:Gl X "range")(hm:X.mg "range"=none)(ha:PA X [a] ta)(hs:starEach [a] X.env=[(false,eval a X.env)]:=by rfl):PI X tg (.Call (.Name "range" p) [a] [] pos) (Ul ta):=by
 intro pins s σ H R I h
 refine Call_ (cO I hg hm boot_range (PyProof.Rows.callWith_type1 (thn (ha pos pins s σ H _ I h) λ us s1 ⟨vs,H1,I1,r1,q1⟩=>?_) hs rfl))
 obtain⟨j,e,q1,q2,q⟩:=q1
 subst e
 cases r1 with
 | cons r rr=>
   cases rr
   obtain⟨t,rfl⟩:=r
   exact call_range_1 (xJ I1 (by omega) (by omega) q1 q2 (by simpa using q))
theorem Gk{a b:Expr}{ta:TA}{p pos:Pos}(hg:Gl X "range")(hm:X.mg "range"=none)(ha:PA X [a,b] ta)(hs:starEach [a,b] X.env=[(false,eval a X.env),(false,eval b X.env)]:=by rfl)(hs2:starEach [b] X.env=[(false,eval b X.env)]:=by rfl):
 PI X tg (.Call (.Name "range" p) [a,b] [] pos) (Uc ta):=by
 intro pins s σ H R I h
 refine Call_ (cO I hg hm boot_range (PyProof.Rows.callWith_type1 (thn (ha pos pins s σ H _ I h) λ us s1 ⟨vs,H1,I1,r1,q1⟩=>?_) (by rw[hs,hs2]) (by rw[hs2];rfl)))
 obtain⟨i,j,e,⟨q1,q2,q3,q4⟩,q⟩:=q1
 subst e
 cases r1 with
 | cons r rr=>
   cases rr with
   | cons r' rr=>
     cases rr
     obtain⟨t,rfl⟩:=r
     obtain⟨t',rfl⟩:=r'
     exact call_range_2 (xJ I1 q1 q2 q3 q4 q)
def UG(wi:TI)(g:TG)(tb:TS):TS:=λ D σ H=>wi σ H λ J H1=>∃W:Nat->Nat->St->Hp->Prop,(∃m,W 0 m σ H1)/\∀i m σ H,W i m σ H->
 (J.stop i H/\D.nx σ H)∨(J.go i H/\∃N:St->Hp->Prop,(∀σ' H',N σ' H'->∃m',m'<m/\W (i+1) m' σ' H')/\∀x H',J.yld i H x H'->g x σ H' λ σ2 H2=>tb {D with nx:=N,ct:=N,bk:=D.nx} σ2 H2)
def mC(fp:List Addr)(h:Heap):List (Addr×Obj):=fp.filterMap λ b=>(h.get? b).map λ o=>(b,o)
theorem fU{fp:List Addr}{h:Heap}{b:Addr}{o:Obj}(hb:b∈fp)(e:h.get? b=some o):(b,o)∈mC fp h:=List.mem_filterMap.mpr ⟨b,hb,by rw[e];rfl⟩
theorem HR{fp:List Addr}{h:Heap}{p:Addr×Obj}(hp:p∈mC fp h):p.1∈fp/\h.get? p.1=some p.2:=by
 obtain⟨b,hb,e⟩:=List.mem_filterMap.mp hp
 cases q:h.get? b with
 | none=>rw[q]at e;cases e
 | some o=>
   rw[q]at e
   have e':(b,o)=p:=Option.some.inj e
   subst e'
   exact⟨hb,q⟩
theorem Inv.pinned{pins:List (Addr×Obj)}{σ:St}{H:Hp}{s:Shared}{fp:List Addr}(I:Inv X pins σ H s)(hf:∀b∈fp,eQ X pins H b)(ho:∀b∈fp,∃o,s.heap.get? b=some o/\∀v,o.data≠.cell v):Inv X (pins++mC fp s.heap) σ H s:=
 I.pins_of λ p hp=>(List.mem_append.mp hp).elim (λ z=>I.pin p (List.mem_append_right _ z)) λ z=>by
  obtain⟨hb,e⟩:=HR z
  obtain⟨f0,f1,f2,_⟩:=hf p.1 hb
  obtain⟨o,e',d⟩:=ho p.1 hb
  rw[e]at e';cases e'
  exact⟨e,f0,f1,f2,d⟩
theorem Inv.unpinned{pins pl:List (Addr×Obj)}{σ:St}{H:Hp}{s:Shared}(I:Inv X (pins++pl) σ H s):Inv X pins σ H s:=I.pins_of λ p hp=>I.pin p (List.mem_append_right _ (List.mem_append_left _ hp))
theorem Ib{iter:Expr}{body:List Stmt}{wi:TI}{g:TG}{tb:TS}{pos:Pos}(hp:PassesOwn (model X.prog X.w) X.A X.env X.xe)(hc:X.calm=true)(hi:PI X tg iter wi)(hg:PG X tg g)(hb:PSs X body tb)
 (hs:∀x,foldedSetIterable iter X.env x=pure x:=by intro _;rfl):PS X (.For tg iter body [] pos) (UG wi g tb):=by
 intro pins s σ H D I h
 refine wpAny_For (thn (hi pins s σ H _ I h) λ v s1 h1=>thn h1 λ itv s2 h2=>?_) hs
 obtain⟨it,fp,tn,J,H2,e,I2,T,st2,f2,W,⟨m0,w0⟩,turn⟩:=h2
 subst e
 have stat:∀{H':Hp},(∀b∈fp,H' b=none)->∀b∈fp,eQ X pins H' b:=λ hn b hb=>⟨hn b hb,(f2 b hb).2⟩
 refine codeAny_forLoop_any (λ n s'=>∃i σ' H',Inv X pins σ' H' s'/\tn i s'.heap/\(∀b∈fp,H' b=none)/\W i n σ' H') ?_ m0 ⟨0,σ,H2,I2,st2,λ b hb=>(f2 b hb).1,w0⟩
 rintro n s3 ⟨i,σ3,H3,I3,st3,fr3,w3⟩
 rcases turn i n σ3 H3 w3 with⟨stop,qn⟩ | ⟨go,N,hN,step⟩
 . refine wpAny_passesOwn hp (thn (T.done X rfl rfl rfl hc i pins s3 σ3 H3 X.xe I3 (stat fr3) st3 stop) λ r s4 ⟨hr,I4⟩=>?_)
   subst hr
   exact wpAny_execs_nil ⟨σ3,H3,I4,qn⟩
 . refine wpAny_passesOwn hp (thn (T.item X rfl rfl rfl hc i pins s3 σ3 H3 X.xe I3 (stat fr3) st3 go) λ r s4 ⟨u,hr,h4⟩=>?_)
   subst hr
   refine wpAny_passesOwn hp (thn h4 λ _ s5 ⟨x,H5,I5,r5,y5,st5,fr5⟩=>?_)
   have I5':=I5.pinned (stat fr5) (T.obj _ _ st5)
   refine wpAny_passesOwn hp (thn (hg _ s5 σ3 H5 x u _ I5' r5 (step x H5 y5)) λ _ s6 ⟨σ6,H6,I6,q6⟩=>?_)
   refine wpAny_passesOwn hp (thn (hb _ s6 σ6 H6 _ I6 q6) λ f s7 q7=>?_)
   have again:∀{σ7:St}{H7:Hp},Inv X (pins++mC fp s5.heap) σ7 H7 s7->N σ7 H7->∃m,m<n/\∃i σ' H',Inv X pins σ' H' s7/\tn i s7.heap/\(∀b∈fp,H' b=none)/\W i m σ' H':=λ{σ7 H7} I7 n7=>by
    obtain⟨m',hm,w7⟩:=hN σ7 H7 n7
    refine⟨m',hm,i+1,σ7,H7,I7.unpinned,T.keep _ _ _ st5 λ b hb o e=>(I7.pin (b,o) (List.mem_append_right _ (List.mem_append_right _ (fU hb e)))).1,λ b hb=>?_,w7⟩
    obtain⟨o,e,d⟩:=T.obj _ _ st5 b hb
    exact(I7.pin (b,o) (List.mem_append_right _ (List.mem_append_right _ (fU hb e)))).2.1
   cases f with
   | next=>obtain⟨σ7,H7,I7,n7⟩:=q7;exact again I7 n7
   | cont=>obtain⟨σ7,H7,I7,n7⟩:=q7;exact again I7 n7
   | brk=>obtain⟨σ7,H7,I7,q7⟩:=q7;exact⟨σ7,H7,I7.unpinned,q7⟩
   | ret v=>obtain⟨x7,σ7,H7,I7,r7,q7⟩:=q7;exact⟨x7,σ7,H7,I7.unpinned,r7,q7⟩
end
abbrev R2:=V->V->Hp->VK->Prop
def OpR(X:Cx)(f:Value->Value->Sem Value)(r:R2):Prop:=
 ∀ (pins:List (Addr×Obj))(s:Shared)(σ:St)(H:Hp)(x y:V)(v u:Value)(Q:VK),Inv X pins σ H s->RelV x v->RelV y u->r x y H Q->
   wpAny (model X.prog X.w) X.A (f v u) (EP X pins σ Q) X.xe s
def UnR(X:Cx)(f:Value->Sem Value)(r:V->Hp->VK->Prop):Prop:=
 ∀ (pins:List (Addr×Obj))(s:Shared)(σ:St)(H:Hp)(x:V)(v:Value)(Q:VK),Inv X pins σ H s->RelV x v->r x H Q->
   wpAny (model X.prog X.w) X.A (f v) (EP X pins σ Q) X.xe s
def fV(X:Cx)(f:Value)(r:List V->Hp->VK->Prop):Prop:=
 ∀ (pins:List (Addr×Obj))(s:Shared)(σ:St)(H:Hp)(xs:List V)(us:List Value)(Q:VK),Inv X pins σ H s->Vals xs us->r xs H Q->
   wpAny (model X.prog X.w) X.A (call f us) (EP X pins σ Q) X.xe s
def rI(C:Int->Int->Prop)(g:Int->Int->V):R2:=λ x y H Q=>∃i j,x=.int i/\y=.int j/\C i j/\Q (g i j) H
def rI0(g:Int->Int->V):R2:=λ x y H Q=>∃i j,x=.int i/\y=.int j/\Q (g i j) H
def rU(g:Int->V):V->Hp->VK->Prop:=λ x H Q=>∃i,x=.int i/\Q (g i) H
section
variable {X : Cx} {a b c : Expr} {ta tb tc : TE} {pos : Pos}
theorem opI{f:Value->Value->Sem Value}{C:Int->Int->Prop}{g:Int->Int->Int}
 (rule:∀(i j:Int)(t u:Tok)(s:Shared)(Q:Value->Shared->Prop)(E:Value->Shared->Prop),C i j->Q (.int (g i j) s.toks) {s with toks:=s.toks+1}->wpAny (model X.prog X.w) X.A (f (.int i t) (.int j u)) Q E s):
 OpR X f (rI C λ i j=>.int (g i j)):=by
 intro pins s σ H x y v u Q I rx ry h
 obtain⟨i,j,rfl,rfl,hc,q⟩:=h
 obtain⟨t,rfl⟩:=rx
 obtain⟨t',rfl⟩:=ry
 exact rule i j t t' s _ _ hc ⟨.int (g i j),H,I.tok _,⟨_,rfl⟩,q⟩
theorem Qf{f:Value->Value->Sem Value}{g:Int->Int->Int}
 (rule:∀(i j:Int)(t u:Tok)(s:Shared)(Q:Value->Shared->Prop)(E:Value->Shared->Prop),Q (.int (g i j) s.toks) {s with toks:=s.toks+1}->wpAny (model X.prog X.w) X.A (f (.int i t) (.int j u)) Q E s):
 OpR X f (rI0 λ i j=>.int (g i j)):=by
 intro pins s σ H x y v u Q I rx ry h
 obtain⟨i,j,rfl,rfl,q⟩:=h
 obtain⟨t,rfl⟩:=rx
 obtain⟨t',rfl⟩:=ry
 exact rule i j t t' s _ _ ⟨.int (g i j),H,I.tok _,⟨_,rfl⟩,q⟩
theorem DY{f:Value->Value->Sem Value}{g:Int->Int->Bool}
 (rule:∀(i j:Int)(t u:Tok)(s:Shared)(Q:Value->Shared->Prop)(E:Value->Shared->Prop),Q (.bool (g i j)) s->wpAny (model X.prog X.w) X.A (f (.int i t) (.int j u)) Q E s):
 OpR X f (rI0 λ i j=>.bl (g i j)):=by
 intro pins s σ H x y v u Q I rx ry h
 obtain⟨i,j,rfl,rfl,q⟩:=h
 obtain⟨t,rfl⟩:=rx
 obtain⟨t',rfl⟩:=ry
 exact rule i j t t' s _ _ ⟨.bl (g i j),H,I,rfl,q⟩
def U8(i j:Int):Prop:=0<j/\j<1073741824
def CPow(i j:Int):Prop:=0≤j/\j≤1000000/\i.natAbs<2 ^ 64
def CMul(i j:Int):Prop:=(-(2 ^ 64)<i/\i<2 ^ 64)∨(-(2 ^ 64)<j/\j<2 ^ 64)
theorem CMul.ok{i j:Int}(h:CMul i j):IntMulOk i j:=by
 rcases h with⟨h1,h2⟩ | ⟨h1,h2⟩
 . exact .of_left (intBits_le_64 h1 h2)
 . exact .of_right (intBits_le_64 h1 h2)
theorem RT:OpR X (binaryOp .Add) (rI0 λ i j=>.int (i+j)):=Qf λ _ _ _ _ _ _ _ q=>add_int q
theorem R6:OpR X (binaryOp .Sub) (rI0 λ i j=>.int (i-j)):=Qf λ _ _ _ _ _ _ _ q=>sub_int q
theorem Q4:OpR X (binaryOp .Mult) (rI CMul λ i j=>.int (i*j)):=opI λ _ _ _ _ _ _ _ hc q=>mul_int q hc.ok
theorem Oi:OpR X (binaryOp .FloorDiv) (rI U8 λ i j=>.int (i/j)):=opI λ i j _ _ _ _ _ hc q=>by
 have h1:(0:Int)<j:=hc.1
 have h2:j<1073741824:=hc.2
 exact floordiv_int (by omega) (by rw[Int.fdiv_eq_ediv_of_nonneg i (by omega)];exact q) (.inl (PyProof.noPylong_small (by omega)))
theorem Rp:OpR X (binaryOp .Mod) (rI (λ _ j=>0<j) λ i j=>.int (i % j)):=opI λ i j _ _ _ _ _ hc q=>by
 have h1:(0:Int)<j:=hc
 exact mod_int' (by omega) (by rw[Int.fmod_eq_emod_of_nonneg i (by omega)];exact q)
theorem Ry:OpR X (binaryOp .Pow) (rI CPow λ i j=>.int (i ^ j.toNat)):=opI λ _ _ _ _ _ _ _ hc q=>pow_int_small hc.1 hc.2.1 hc.2.2 q
theorem unI{f:Value->Sem Value}{g:Int->Int}
 (rule:∀(i:Int)(t:Tok)(s:Shared)(Q:Value->Shared->Prop)(E:Value->Shared->Prop),Q (.int (g i) s.toks) {s with toks:=s.toks+1}->wpAny (model X.prog X.w) X.A (f (.int i t)) Q E s):
 UnR X f (rU λ i=>.int (g i)):=by
 intro pins s σ H x v Q I rx h
 obtain⟨i,rfl,q⟩:=h
 obtain⟨t,rfl⟩:=rx
 exact rule i t s _ _ ⟨.int (g i),H,I.tok _,⟨_,rfl⟩,q⟩
theorem Ss:UnR X (unaryOp .USub) (rU λ i=>.int (-i)):=unI λ _ _ _ _ _ q=>neg_int q
end
def RK:V->V->Bool
 | .non,.non=>true | .non,.int _=>true | .int _,.non=>true | .non,.bl _=>true | .bl _,.non=>true | .non,.str _=>true | .str _,.non=>true
 | .int _,.int _=>true | .bl _,.bl _=>true | .str _,.str _=>true | .byt _,.byt _=>true
 | .int _,.str _=>true | .str _,.int _=>true | .bl _,.str _=>true | .str _,.bl _=>true
 | _,_=>false
def rEq:R2:=λ x y H Q=>RK x y=true/\Q (.bl (decide (x=y))) H
def rNe:R2:=λ x y H Q=>RK x y=true/\Q (.bl (!decide (x=y))) H
theorem nA{i j:Int}:decide (V.int i=V.int j)=(i==j):=by
 rw[Bool.eq_iff_iff]
 simp
theorem qH{i j:Bool}:decide (V.bl i=V.bl j)=(i==j):=by
 rw[Bool.eq_iff_iff]
 simp
theorem Dc{i j:Str}:decide (V.str i=V.str j)=(i==j):=by
 rw[Bool.eq_iff_iff]
 simp
theorem Be{i j:Array UInt8}:decide (V.byt i=V.byt j)=(i.toList==j.toList):=by
 rw[Bool.eq_iff_iff]
 cases i
 cases j
 simp
section
variable {X : Cx} {a b c : Expr} {ta tb tc : TE} {pos : Pos}
theorem aJ{pins:List (Addr×Obj)}{σ:St}{H:Hp}{s:Shared}{Q:VK}{k k':Bool}(I:Inv X pins σ H s)(q:Q (.bl k) H)(e:k=k'):EP X pins σ Q (.bool k') s:=by
 subst e
 exact⟨.bl k,H,I,rfl,q⟩
theorem Mx:OpR X (compareOp .Eq) rEq:=by
 intro pins s σ H x y v u Q I rx ry h
 obtain⟨hs,q⟩:=h
 cases x with
 | non=>
   cases rx
   cases y with
   | non=>cases ry;exact PySem.EqNone.eq_none_none (aJ I q (by simp))
   | bl j=>cases ry;exact PySem.EqNone.eq_none_bool (aJ I q (by simp))
   | int j=>obtain⟨t',rfl⟩:=ry;exact PySem.EqNone.eq_none_int (aJ I q (by simp))
   | str j=>obtain⟨t',rfl⟩:=ry;exact PySem.EqNone.eq_none_str (aJ I q (by simp))
   | _=>exact absurd (show false=true from hs) y6
 | bl i=>
   cases rx
   cases y with
   | non=>cases ry;exact PySem.EqNone.eq_bool_none (aJ I q (by simp))
   | bl j=>cases ry;exact eq_bool (aJ I q qH)
   | str j=>obtain⟨t',rfl⟩:=ry;exact PySem.EqMixed.eq_bool_str (aJ I q (by simp))
   | _=>exact absurd (show false=true from hs) y6
 | int i=>
   obtain⟨t,rfl⟩:=rx
   cases y with
   | non=>cases ry;exact PySem.EqNone.eq_int_none (aJ I q (by simp))
   | int j=>obtain⟨t',rfl⟩:=ry;exact eq_int (aJ I q nA)
   | str j=>obtain⟨t',rfl⟩:=ry;exact PySem.EqMixed.eq_int_str (aJ I q (by simp))
   | _=>exact absurd (show false=true from hs) y6
 | str i=>
   obtain⟨t,rfl⟩:=rx
   cases y with
   | non=>cases ry;exact PySem.EqNone.eq_str_none (aJ I q (by simp))
   | bl j=>cases ry;exact PySem.EqMixed.eq_str_bool (aJ I q (by simp))
   | int j=>obtain⟨t',rfl⟩:=ry;exact PySem.EqMixed.eq_str_int (aJ I q (by simp))
   | str j=>obtain⟨t',rfl⟩:=ry;exact eq_str (aJ I q Dc)
   | _=>exact absurd (show false=true from hs) y6
 | byt i=>
   obtain⟨t,rfl⟩:=rx
   cases y with
   | byt j=>obtain⟨t',rfl⟩:=ry;exact PySem.W.eq_bytes (aJ I q Be)
   | _=>exact absurd (show false=true from hs) y6
 | _=>cases y<;>exact absurd (show false=true from hs) y6
theorem Mm:OpR X (compareOp .NotEq) rNe:=by
 intro pins s σ H x y v u Q I rx ry h
 obtain⟨hs,q⟩:=h
 cases x with
 | non=>
   cases rx
   cases y with
   | non=>cases ry;exact PySem.EqNone.ne_none_none (aJ I q (by simp))
   | bl j=>cases ry;exact PySem.EqNone.ne_none_bool (aJ I q (by simp))
   | int j=>obtain⟨t',rfl⟩:=ry;exact PySem.EqNone.ne_none_int (aJ I q (by simp))
   | str j=>obtain⟨t',rfl⟩:=ry;exact PySem.EqNone.ne_none_str (aJ I q (by simp))
   | _=>exact absurd (show false=true from hs) y6
 | bl i=>
   cases rx
   cases y with
   | non=>cases ry;exact PySem.EqNone.ne_bool_none (aJ I q (by simp))
   | bl j=>cases ry;exact ne_bool (aJ I q (congrArg not qH))
   | str j=>obtain⟨t',rfl⟩:=ry;exact PySem.EqMixed.ne_bool_str (aJ I q (by simp))
   | _=>exact absurd (show false=true from hs) y6
 | int i=>
   obtain⟨t,rfl⟩:=rx
   cases y with
   | non=>cases ry;exact PySem.EqNone.ne_int_none (aJ I q (by simp))
   | int j=>obtain⟨t',rfl⟩:=ry;exact ne_int (aJ I q (congrArg not nA))
   | str j=>obtain⟨t',rfl⟩:=ry;exact PySem.EqMixed.ne_int_str (aJ I q (by simp))
   | _=>exact absurd (show false=true from hs) y6
 | str i=>
   obtain⟨t,rfl⟩:=rx
   cases y with
   | non=>cases ry;exact PySem.EqNone.ne_str_none (aJ I q (by simp))
   | bl j=>cases ry;exact PySem.EqMixed.ne_str_bool (aJ I q (by simp))
   | int j=>obtain⟨t',rfl⟩:=ry;exact PySem.EqMixed.ne_str_int (aJ I q (by simp))
   | str j=>obtain⟨t',rfl⟩:=ry;exact ne_str (aJ I q (congrArg not Dc))
   | _=>exact absurd (show false=true from hs) y6
 | byt i=>
   obtain⟨t,rfl⟩:=rx
   cases y with
   | byt j=>obtain⟨t',rfl⟩:=ry;exact PySem.W.ne_bytes (aJ I q (congrArg not Be))
   | _=>exact absurd (show false=true from hs) y6
 | _=>cases y<;>exact absurd (show false=true from hs) y6
theorem Tc:OpR X (compareOp .Lt) (rI0 λ i j=>.bl (decide (i<j))):=DY λ _ _ _ _ _ _ _ q=>lt_int q
theorem Sy:OpR X (compareOp .LtE) (rI0 λ i j=>.bl (decide (i≤j))):=DY λ _ _ _ _ _ _ _ q=>le_int q
theorem Tf:OpR X (compareOp .Gt) (rI0 λ i j=>.bl (decide (j<i))):=DY λ _ _ _ _ _ _ _ q=>gt_int q
theorem Uw:OpR X (compareOp .GtE) (rI0 λ i j=>.bl (decide (j≤i))):=DY λ _ _ _ _ _ _ _ q=>ge_int q
theorem QK:OpR X (compareOp .Is) (λ x y H Q=>y=.non/\Q (.bl (decide (x=.non))) H):=by
 intro pins s σ H x y v u Q I rx ry h
 obtain⟨rfl,q⟩:=h
 cases ry
 refine is_none_gen (aJ I q ?_)
 cases x<;>first
  | (cases rx;rfl)
  | (obtain⟨t,rfl⟩:=rx;rfl)
theorem NB:OpR X (compareOp .IsNot) (λ x y H Q=>y=.non/\Q (.bl (!decide (x=.non))) H):=by
 intro pins s σ H x y v u Q I rx ry h
 obtain⟨rfl,q⟩:=h
 cases ry
 refine isnot_none_gen (aJ I q ?_)
 cases x<;>first
  | (cases rx;rfl)
  | (obtain⟨t,rfl⟩:=rx;rfl)
theorem qK:(sizeLine:Nat)<2 ^ 63:=by rw[sizeLine_eq];decide
theorem vals1{x:V}{us:List Value}(r:Vals [x] us):∃u,us=[u]/\RelV x u:=by
 cases r with
 | cons r1 r2=>cases r2;exact⟨_,rfl,r1⟩
theorem vals2{x y:V}{us:List Value}(r:Vals [x,y] us):∃u w',us=[u,w']/\RelV x u/\RelV y w':=by
 cases r with
 | cons r1 r2=>
   cases r2 with
   | cons r3 r4=>cases r4;exact⟨_,_,rfl,r1,r3⟩
theorem K8:fV X (.builtin "abs") (λ xs H Q=>∃i,xs=[.int i]/\Q (.int (if i<0 then-i else i)) H):=by
 intro pins s σ H xs us Q I r h
 obtain⟨i,rfl,q⟩:=h
 obtain⟨u,rfl,t,rfl⟩:=vals1 r
 exact call_abs_int λ u tk=>⟨.int (if i<0 then-i else i),H,I.tok _,⟨_,rfl⟩,q⟩
theorem Hn(hc:X.calm=true):fV X (.builtin "max") (λ xs H Q=>∃i j,xs=[.int i,.int j]/\Q (.int (if j>i then j else i)) H):=by
 intro pins s σ H xs us Q I r h
 obtain⟨i,j,rfl,q⟩:=h
 obtain⟨u,w',rfl,⟨t,rfl⟩,⟨t',rfl⟩⟩:=vals2 r
 refine max_two_ints (I.ok.hd hc) λ h' tk k=>⟨_,H,I.kept k,?_,q⟩
 by_cases hj:j>i
 . rw[if_pos hj,if_pos hj];exact⟨_,rfl⟩
 . rw[if_neg hj,if_neg hj];exact⟨_,rfl⟩
theorem G7(hc:X.calm=true):fV X (.builtin "min") (λ xs H Q=>∃i j,xs=[.int i,.int j]/\Q (.int (if j<i then j else i)) H):=by
 intro pins s σ H xs us Q I r h
 obtain⟨i,j,rfl,q⟩:=h
 obtain⟨u,w',rfl,⟨t,rfl⟩,⟨t',rfl⟩⟩:=vals2 r
 refine min_two_ints (I.ok.hd hc) λ h' tk k=>⟨_,H,I.kept k,?_,q⟩
 by_cases hj:j<i
 . rw[if_pos hj,if_pos hj];exact⟨_,rfl⟩
 . rw[if_neg hj,if_neg hj];exact⟨_,rfl⟩
theorem uJ:fV X (.type "int") (λ xs H Q=>(∃i,xs=[.int i]/\Q (.int i) H)∨∃k,xs=[.bl k]/\Q (.int (if k then 1 else 0)) H):=by
 intro pins s σ H xs us Q I r h
 rcases h with⟨i,rfl,q⟩ | ⟨k,rfl,q⟩
 . obtain⟨u,rfl,t,rfl⟩:=vals1 r
   exact call_int_int ⟨.int i,H,I,⟨_,rfl⟩,q⟩
 . obtain⟨u,rfl,r1⟩:=vals1 r
   cases r1
   exact call_int_bool ⟨.int (if k then 1 else 0),H,I.tok _,⟨_,rfl⟩,q⟩
end
structure Room(k:Nat)(A:Around):Prop where
 hd:A.handled=none
 dp:A.depth+3*k+5<recursionLimit
 un:A.units+16*k+200<cLine
theorem Room.mono{j k:Nat}{A:Around}(r:Room k A)(h:j≤k):Room j A:=⟨r.hd,by have:=r.dp;omega,by have:=r.un;omega⟩
theorem Room.deeper{k:Nat}{A:Around}(r:Room (k+1) A)(env:Env):Room k (A.deeper env):=
 ⟨r.hd,by have:=r.dp;show A.depth+1+3*k+5<_;omega,by have:=r.un;show A.units+3+16*k+200<_;omega⟩
theorem Room.depth{k:Nat}{A:Around}(r:Room k A):A.depth<recursionLimit:=by have:=r.dp;omega
def Uz:TA:=λ _ H Q=>Q [] H
def Tt(ta:TE)(tr:TA):TA:=λ σ H Q=>ta σ H λ x H1=>tr σ H1 λ xs H2=>Q (x::xs) H2
section
variable {X : Cx} {e : Expr} {es : List Expr} {te : TE} {t : TA} {pos : Pos}
theorem yq:PA X [] Uz:=λ _ _ _ _ H Q I h=>Calls.spliced_nil ⟨[],H,I,.nil,h⟩
theorem nu(ha:PE X e te)(hr:PA X es t)(hs:starEach (e::es) X.env=(false,eval e X.env)::starEach es X.env:=by rfl):PA X (e::es) (Tt te t):=by
 intro pos pins s σ H Q I h
 rw[hs]
 show wpAny _ _ (spliced ((false,eval e X.env)::backTo pos (starEach es X.env))) _ _ s
 refine Calls.spliced_cons (thn (ha pins s σ H _ I h) λ u s1 ⟨x,H1,I1,r1,q1⟩=>?_)
 exact thn (hr pos pins s1 σ H1 _ I1 q1) λ us s2 ⟨xs,H2,I2,r2,q2⟩=>⟨x::xs,H2,I2,.cons r1 r2,q2⟩
end
abbrev Sp:=List V->Hp->VK->XK->Prop
abbrev CXT:=List Env->Hp->Shared->XK->Value->Shared->Prop
structure Env0(P:Program)(w:World)(K:PySem.W.Frag)(mg:Str->Option Value)(base:Heap)(A:Around)(outer:List Env)(s:Shared)(H:Hp):Prop where
 frames:A.frames=some outer
 mod:Mod K mg base
 bs:∀b o,base.get? b=some o->s.heap.get? b=some o/\H b=none
 bsz:base.objs.size≤s.heap.objs.size
 funs:s.heap.FunFrames base outer
 frf:∀b∈frs outer,H b=none
 hok:HOk P w H s.heap
 bare:AllBare s.gens
def CE(outer:List Env)(P:Program)(w:World)(H:Hp)(s:Shared)(Q:VK)(u:Value)(s':Shared):Prop:=
 ∃v H',s'.os=s.os/\AllBare s'.gens/\Un (frs outer) [] H H' s.heap s'.heap/\HOk P w H' s'.heap/\RelV v u/\Q v H'
def CR(CX:CXT)(outer:List Env)(P:Program)(w:World)(H:Hp)(s:Shared)(Q:VK)(E:XK)(r:Result)(s':Shared):Prop:=
 match r with
 | .ok (.ret u)=>CE outer P w H s Q u s'
 | .ok _=>False
 | .error e=>CX outer H s E e s'
structure FnOk(P:Program)(w:World)(K:PySem.W.Frag)(mg:Str->Option Value)(base:Heap)(CX:CXT)(k:Nat)(f:Addr)(fd:FuncData)(ps:List Str)(sp:Sp):Prop where
 len:∀vs H Q E,sp vs H Q E->vs.length=ps.length
 run:∀(A:Around)(outer:List Env)(s:Shared)(H:Hp)(args:Args)(us:List Value)(vs:List V)(Q:VK)(E:XK),Room k A->Env0 P w K mg base A outer s H->BindsTo s fd args (ps.zip us)->Vals vs us->sp vs H Q E->
  codeAny (model P w) A (.call (.ref f) args) (CR CX outer P w H s Q E) s
section
variable {X : Cx} {pins : List (Addr × Obj)} {σ : St} {H : Hp} {s s' : Shared}
theorem Inv.env0(I:Inv X pins σ H s):Env0 X.prog X.w X.K X.mg X.base X.A X.stack s H:=
 ⟨I.ok.frames,I.ok.mod,I.bs,Nat.le_trans I.ok.bsz I.sz,I.stack,I.stkFree,I.hok,I.bare⟩
theorem Inv.after{Q:VK}{u:Value}(I:Inv X pins σ H s)(h:CE X.stack X.prog X.w H s Q u s'):EP X pins σ Q u s':=by
 obtain⟨v,H',os,bare,un,hok,r,q⟩:=h
 obtain⟨hh,g,d,t,os'⟩:=s'
 obtain rfl:os'=s.os:=os
 exact⟨v,H',I.call (h':=hh) (g':=g) (d':=d) (t':=t) (ch:=[]) un hok bare (λ b z=>absurd z (by simp)),r,q⟩
end
def Binds(K:PySem.W.Frag)(fd:FuncData)(ps:List Str)(ds:List Value):Prop:=
 ∀(s:Shared)(us:List Value),K.In s.heap->(us++ds).length=ps.length->BindsTo s fd ⟨us,[]⟩ (ps.zip (us++ds))
theorem Binds.all{K:PySem.W.Frag}{fd:FuncData}{ps:List Str}(h:∀us:List Value,us.length=ps.length->bindArgs fd ⟨us,[]⟩=pure (ps.zip us)):Binds K fd ps []:=λ s us _ hl=>by
 rw[List.append_nil]at hl ⊢
 exact .of_eq (h us hl)
def Gn(CX:CXT)(X:Cx)(E:XK):Prop:=∀(pins:List (Addr×Obj))(σ:St)(H:Hp)(s:Shared)(e:Value)(s':Shared),Inv X pins σ H s->CX X.stack H s E e s'->X.xe e s'
section
variable {X : Cx} {CX : CXT} {k : Nat} {f C : Addr} {fd : FuncData} {ps : List Str} {sp : Sp} {dvs : List V} {ds : List Value} {E : XK} {x m : Str} {p pos apos : Pos} {e o : Expr} {es : List Expr} {ta : TE} {t : TA}
theorem Ri{pins:List (Addr×Obj)}{σ:St}{H:Hp}{s:Shared}{Q:VK}{us:List Value}{vs:List V}(F:FnOk X.prog X.w X.K X.mg X.base CX k f fd ps sp)(hr:Room k X.A)(hb:Binds X.K fd ps ds)(hd:Vals dvs ds)(hx:Gn CX X E)
 (I:Inv X pins σ H s)(r:Vals vs us)(h:sp (vs++dvs) H Q E):wpAny (model X.prog X.w) X.A (call (.ref f) us) (EP X pins σ Q) X.xe s:=by
 have r2:Vals (vs++dvs) (us++ds):=r.append hd
 have hl:(us++ds).length=ps.length:=by rw[←r2.length];exact F.len _ _ _ _ h
 refine wpAny_call (codeAny_mono (F.run X.A X.stack s H ⟨us,[]⟩ (us++ds) (vs++dvs) Q E hr I.env0 (hb s us I.kIn hl) r2 h) λ r s' hq=>?_)
 cases r with
 | error e=>exact hx pins σ H s e s' I hq
 | ok fl=>
   cases fl with
   | ret u=>exact I.after hq
   | next=>exact False.elim hq
   | brk=>exact False.elim hq
   | cont=>exact False.elim hq
end
structure FnScope(N P:List Str)(sc:Scope):Prop where
 kind:sc.kind=.function
 co:sc.isCoroutine=false
 gen:sc.isGenerator=false
 nd:N.Nodup
 pre:N.take P.length=P
 par:∀x∈P,sc.names.lookup x=some .local∨sc.names.lookup x=some .cell
 nofree:∀y∈sc.names,y.2≠.free
theorem uF{kindOf:Str->Option NameKind}{x:Str}:∀{binds:List (Str×Value)}{m:Str->Option Value},(∀v,(x,v)∉binds)->bindL kindOf binds m x=m x
 | [],_,_=>rfl
 | (n,v)::r,m,h=>by
   unfold bindL
   rw[uF λ w hw=>h w (x4 _ hw)]
   split
   . have:x≠n:=by rintro rfl;exact h v x6
     simp[this]
   . rfl
theorem ut{kindOf:Str->Option NameKind}{x:Str}:∀{binds:List (Str×Value)}{m:Str->Option Value},(∀v,(x,v)∉binds)->bindC kindOf binds m x=m x
 | [],_,_=>rfl
 | (n,v)::r,m,h=>by
   unfold bindC
   rw[ut λ w hw=>h w (x4 _ hw)]
   split
   . rfl
   . have:x≠n:=by rintro rfl;exact h v x6
     simp[this]
theorem uG{kindOf:Str->Option NameKind}{x:Str}{v:Value}:∀{P:List Str}{vs:List Value}{i:Nat}{m:Str->Option Value},P.Nodup->P[i]? =some x->vs[i]? =some v->kindOf x=some .local->
 bindL kindOf (P.zip vs) m x=some v
 | [],_,_,_,_,h,_,_=>by simp at h
 | _::_,[],_,_,_,_,h,_=>by simp at h
 | p::P,w::vs,0,m,nd,h1,h2,hk=>by
   simp at h1 h2;subst h1;subst h2
   show bindL kindOf ((p,w)::P.zip vs) m p=_
   unfold bindL
   rw[uF λ v hv=>(List.nodup_cons.mp nd).1 (List.of_mem_zip hv).1,if_pos hk]
   simp
 | p::P,w::vs,i+1,m,nd,h1,h2,hk=>by
   show bindL kindOf ((p,w)::P.zip vs) m x=_
   unfold bindL
   exact uG (i:=i) (List.nodup_cons.mp nd).2 (by simpa using h1) (by simpa using h2) hk
theorem uA{kindOf:Str->Option NameKind}{x:Str}{v:Value}:∀{P:List Str}{vs:List Value}{i:Nat}{m:Str->Option Value},P.Nodup->P[i]? =some x->vs[i]? =some v->kindOf x≠some .local->
 bindC kindOf (P.zip vs) m x=some v
 | [],_,_,_,_,h,_,_=>by simp at h
 | _::_,[],_,_,_,_,h,_=>by simp at h
 | p::P,w::vs,0,m,nd,h1,h2,hk=>by
   simp at h1 h2;subst h1;subst h2
   show bindC kindOf ((p,w)::P.zip vs) m p=_
   unfold bindC
   rw[ut λ v hv=>(List.nodup_cons.mp nd).1 (List.of_mem_zip hv).1,if_neg hk]
   simp
 | p::P,w::vs,i+1,m,nd,h1,h2,hk=>by
   show bindC kindOf ((p,w)::P.zip vs) m x=_
   unfold bindC
   exact uA (i:=i) (List.nodup_cons.mp nd).2 (by simpa using h1) (by simpa using h2) hk
def start(N:List Str)(vs:List V):St:=vs.map some++List.replicate (N.length-vs.length) none
def mR(CX:CXT)(P:Program)(w:World)(K:PySem.W.Frag)(mg:Str->Option Value)(base:Heap)(N:List Str)(qual:Str)(scope:Scope)(f:Addr)(cd:Value)(A:Around)(outer:List Env)(s:Shared)(H:Hp)(E:XK):Cx where
 prog:=P
 w:=w
 K:=K
 mg:=mg
 base:=base
 A:=A.deeper (envOfC qual scope s.heap.objs.size f cd)
 N:=N
 s₀:=s
 H₀:=H
 env:=envOfC qual scope s.heap.objs.size f cd
 outer:=outer
 stack:=envOfC qual scope s.heap.objs.size f cd::outer
 ex:=[]
 calm:=true
 fn:=λ _=>true
 pn:=[]
 xe:=λ e s'=>wpAny (model P w) (A.deeper (envOfC qual scope s.heap.objs.size f cd)) (leaving (envOfC qual scope s.heap.objs.size f cd) e) (λ _ s''=>CX outer H s E e s'') (λ e' s''=>CX outer H s E e' s'') s'
theorem yt{sc:Scope}{n:Nat}{x:Str}(h:sc.names.lookup x=some .cell):∃c,(cellsFrom n sc.names []).lookup x=some c:=by
 have q:=PySem.W.cellsFrom_some sc.names n [] (.inl h)
 exact Option.isSome_iff_exists.mp q
theorem Hq{CX:CXT}{P:Program}{w:World}{K:PySem.W.Frag}{mg:Str->Option Value}{base:Heap}{N ps:List Str}{qual:Str}{scope:Scope}{f:Addr}{cd:Value}{A:Around}{outer:List Env}{s s1:Shared}{H:Hp}{E:XK}{us:List Value}{vs:List V}
 (S:FnScope N ps scope)(hd:A.handled=none)(e0:Env0 P w K mg base A outer s H)(hl:vs.length=ps.length)(r:Vals vs us)
 (x:InCallC s s.heap.objs.size (bindL (envOfC qual scope s.heap.objs.size f cd).kindOf (ps.zip us) λ _=>none) (cellsFrom (s.heap.objs.size+1) scope.names []) (bindC (envOfC qual scope s.heap.objs.size f cd).kindOf (ps.zip us) λ _=>none) s1):
 Inv (mR CX P w K mg base N qual scope f cd A outer s H E) [] (start N vs) H s1:=by
 have hpl:ps.length≤N.length:=by have:=congrArg List.length S.pre;rw[List.length_take]at this;omega
 obtain⟨h1,tk,rfl,hk⟩:=x.done
 have noA:∀b:Addr,b∉(mR CX P w K mg base N qual scope f cd A outer s H E).ex:=λ b z=>absurd (show b∈([]:List Addr)from z) (by simp)
 refine⟨⟨e0.mod,S.kind,rfl,rfl,y9 _,λ y z c h1 h2=>?_,λ y hy=>?_,λ y c _ h=>?_,λ _=>hd,Around.frames_deeper e0.frames,.inr ⟨rfl,rfl⟩,λ b z=>absurd z (noA b),e0.bs,e0.bsz,λ b _ _=>noA b,λ b z=>absurd z (noA b),e0.funs,e0.frf⟩,
  rfl,e0.bare,Un.kept hk,⟨_,x.toInCall.ns,λ i y v h1 h2 h3=>?_⟩,λ y c h=>⟨_,x.cell y c h⟩,e0.hok.fresh (y9 _),λ y c h=>?_,λ p hp=>absurd (show p∈([]:List (Addr×Obj))from hp) (by simp),e0.hok.kept hk,?_⟩
 . exact name_of_addr x.apart (PySem.mem_of_lookup h1) (PySem.mem_of_lookup h2)
 . have hy:scope.names.lookup y=some .cell∨scope.names.lookup y=some .free:=hy
   rcases hy with hy | hy
   . exact yt hy
   . exact absurd rfl (S.nofree _ (PySem.mem_of_lookup hy))
 . exact Nat.le_of_lt (x.above y c (PySem.mem_of_lookup h))
 . have hi:i<vs.length:=by
    unfold start at h2
    by_cases hi:i<vs.length
    . exact hi
    . rw[List.getElem?_append_right (by simpa using hi)]at h2
      rw[List.getElem?_replicate]at h2
      split at h2<;>cases h2
   have ha:vs[i]? =some v:=by
    unfold start at h2
    rw[x9 (by simpa using hi),y8]at h2
    cases e:vs[i]? with
    | none=>rw[e]at h2;cases h2
    | some a=>rw[e]at h2;cases h2;rfl
   obtain⟨u,hu,rv⟩:=r.get ha
   have hp:ps[i]? =some y:=by
    rw[←S.pre,List.getElem?_take_of_lt (by omega)];exact h1
   have ndP:ps.Nodup:=by rw[←S.pre];exact S.nd.sublist (List.take_sublist _ _)
   refine⟨u,rv,?_⟩
   rcases S.par y (y4 hp)with k | k
   . exact .inl ⟨k,uG ndP hp hu k⟩
   . obtain⟨c,e⟩:=yt (n:=s.heap.objs.size+1) k
     refine .inr ⟨.inl k,c,e,?_⟩
     have q:=x.cell y c e
     rw[uA ndP hp hu (by show scope.names.lookup y≠_;rw[k];decide)]at q
     exact q
 . exact e0.hok.fresh (Nat.le_of_lt (x.above y c (PySem.mem_of_lookup h)))
 . unfold start
   show _=N.length
   rw[x8,y7,List.length_replicate]
   omega
theorem Uq{CX:CXT}{P:Program}{w:World}{K:PySem.W.Frag}{mg:Str->Option Value}{base:Heap}{k:Nat}{f:Addr}{name qual:Str}{params:Arguments}{body:List Stmt}{scope:Scope}{dV kV doc pm cdv ct oc:Value}{an od:Option Addr}
 {osl:Array (Option Value)}{N ps:List Str}{sp:Sp}(lk:K.lookup f=some ⟨oc,od,.func (PySem.W.fnOf name qual params body scope dV kV doc pm an cdv ct),osl⟩)(hcd:PySem.W.codeIn K cdv qual=true)(S:FnScope N ps scope)
 (len:∀vs H Q E,sp vs H Q E->vs.length=ps.length)
 (hbody:∀(A:Around)(outer:List Env)(s:Shared)(H:Hp)(vs:List V)(Q:VK)(E:XK),Room k (A.deeper (envOfC qual scope s.heap.objs.size f cdv))->sp vs H Q E->
  ∃t,PSs (mR CX P w K mg base N qual scope f cdv A outer s H E) body t/\t {nx:=λ _ H'=>Q .non H',rt:=Q} (start N vs) H):
 FnOk P w K mg base CX (k+1) f (PySem.W.fnOf name qual params body scope dV kV doc pm an cdv ct) ps sp:=by
 refine⟨len,λ A outer s H args us vs Q E hr e0 hb r hsp=>?_⟩
 have hl:=len _ _ _ _ hsp
 have KX:K.In s.heap:=e0.mod.kin.keeps λ b o e=>(e0.bs b o e).1
 have lim:s.heap.NoLimit:=e0.mod.nolimit.keeps λ b o e=>(e0.bs b o e).1
 have hkind:∀y∈ps.zip us,scope.names.lookup y.1=some .local∨(scope.names.lookup y.1=some .cell/\((cellsFrom (s.heap.objs.size+1) scope.names []).lookup y.1).isSome=true):=λ⟨n,v⟩ hy=>by
  rcases S.par n (List.of_mem_zip hy).1 with q | q
  . exact .inl q
  . exact .inr ⟨q,PySem.W.cellsFrom_some _ _ _ (.inl q)⟩
 refine codeAny_call_function hr.depth (KX _ _ lk) rfl S.co S.gen rfl (PySem.W.codeRec_of KX hcd) (hb _ _ _ _ ?_)
 refine wpAny_newFunctionEnv_cells S.kind hkind λ env he s1 x=>?_
 subst he
 refine⟨lim.keeps x.toInCall.keep,codeAny_func ?_⟩
 obtain⟨t,ht,hq⟩:=hbody A outer s H vs Q E (hr.deeper _) hsp
 have I:Inv (mR CX P w K mg base N qual scope f cdv A outer s H E) [] (start N vs) H s1:=Hq S hr.hd e0 hl r x
 refine wpAny_mono (ht [] s1 (start N vs) H _ I hq) (λ fl s' hs=>?_) λ e s' hs=>hs
 have fin:∀{σ':St}{H':Hp}{v:V}{u:Value},Inv (mR CX P w K mg base N qual scope f cdv A outer s H E) [] σ' H' s'->RelV v u->Q v H'->CE outer P w H s Q u s':=
  λ{σ' H' v u} J rv q=>⟨v,H',J.os,J.bare,J.base,J.hok,rv,q⟩
 cases fl with
 | ret u=>
   obtain⟨v,σ',H',J,rv,q⟩:=hs
   exact fin J rv q
 | next=>
   obtain⟨σ',H',J,q⟩:=hs
   exact fin (v:=V.non) (u:=Value.none) J rfl q
 | brk=>
   obtain⟨_,_,_,q⟩:=hs
   exact False.elim q
 | cont=>
   obtain⟨_,_,_,q⟩:=hs
   exact False.elim q
section
variable {X : Cx} {x : Str} {p pos : Pos} {e : Expr} {es : List Expr} {t : TA} {id T : String} {r : List V -> Hp -> VK -> Prop}
def tCB(r:List V->Hp->VK->Prop)(t:TA):TE:=λ σ H Q=>t σ H λ vs H1=>r vs H1 Q
theorem LR(hc:fV X (.builtin id) r)(hg:Gl X x)(hm:X.mg x=none)(hv:bootBuiltins x=some (.builtin id))(ha:PA X (e::es) t)(hn:x≠"__name__":=by decide)(hdb:(x==("__debug__":Str))=false:=by decide)
 (he:starEach (e::es) X.env=(false,eval e X.env)::starEach es X.env:=by rfl)(hpl:(backTo pos (starEach es X.env)).any (·.1)=false:=by rfl):PE X (.Call (.Name x p) (e::es) [] pos) (tCB r t):=by
 intro pins s σ H Q I h
 refine wpAny_Call_Name_kw (cO I hg hm hv ?_ hn hdb)
 exact PyProof.Rows.callWith_builtin1 (thn (ha pos pins s σ H _ I h) λ us s1 ⟨vs,H1,I1,r1,q1⟩=>hc pins s1 σ H1 vs us Q I1 r1 q1) he hpl
end
end L2
namespace HT
open PySem PyProof.Rows
section
variable {prog : Program} {w : World} {A : Around} {E : Value -> Shared -> Prop} {s : Shared}
theorem cat_tup{t b:Addr}{vs ws:List Value}{Q:Value->Shared->Prop}(ht:IsTup s.heap t vs.toArray)(hb:IsTup s.heap b ws.toArray)(hv:vs≠[])
 (h1:ws=[]->Q (.ref t) s)(h2:ws≠[]->Q (.ref s.heap.objs.size) {s with heap:=s.heap.push {cls:=.type "tuple",data:=.seq (vs++ws).toArray}})
 (hsz:vs.length+ws.length≤sizeLine):wpAny (model prog w) A (binaryOp .Add (.ref t) (.ref b)) Q E s:=by
 obtain⟨⟨cls,dd,data,sl⟩,ho,hc,n,hd⟩:=id ht
 obtain⟨⟨cls2,dd2,data2,sl2⟩,ho2,hc2,n2,hd2⟩:=id hb
 simp only at hc hd hc2 hd2
 subst hc hd hc2 hd2
 have e:vs.toArray++ws.toArray=(vs++ws).toArray:=by simp
 by_cases hw:ws=[]
 . exact concat_meets ⟨_,ho,rfl⟩ ⟨_,ho2,rfl⟩ noFill_tuple_add seq_tuple_add PySem.F.slot_tuple_add PySem.F.entry_tuple_add (PySem.F.args_tuple_add_2 _ _)
    (tuple_addW1 t b vs.toArray ws.toArray n n2 dd dd2 sl sl2 (by simpa using hv) (by simp[hw])) ⟨ho,ho2,h1 hw⟩
 . refine concat_meets ⟨_,ho,rfl⟩ ⟨_,ho2,rfl⟩ noFill_tuple_add seq_tuple_add PySem.F.slot_tuple_add PySem.F.entry_tuple_add (PySem.F.args_tuple_add_2 _ _)
    (tuple_addW2 t b vs.toArray ws.toArray n n2 dd dd2 sl sl2 (by simpa using hv) (by simpa using hw) (by rw[x5,x5];exact hsz)) ⟨ho,ho2,?_⟩
   rw[e]
   exact h2 hw
def sIx(n d:Nat):Option Int->Nat
 | none=>d
 | some v=>if v<0 then(v+(n:Int)).toNat else min v.toNat n
theorem sIx_none(n d:Nat):sIx n d none=d:=rfl
theorem sIx_nat(n d k:Nat):sIx n d (some (k:Int))=min k n:=by
 show(if(k:Int)<0 then((k:Int)+(n:Int)).toNat else min (k:Int).toNat n)=min k n
 rw[if_neg (by omega),Int.toNat_natCast]
theorem Qs(n d:Nat)(hd:d≤n)(o:Option Int):sIx n d o≤n:=by
 cases o with
 | none=>exact hd
 | some v=>
   show(if v<0 then(v+(n:Int)).toNat else min v.toNat n)≤n
   by_cases hv:v<0
   . rw[if_pos hv];omega
   . rw[if_neg hv];exact Nat.min_le_right _ _
theorem Bx(v:Int)(n d:Nat):(if v<0 then max (v+(n:Int)) 0 else min v (n:Int))=((sIx n d (some v):Nat):Int):=by
 show(if v<0 then max (v+(n:Int)) 0 else min v (n:Int))=(((if v<0 then(v+(n:Int)).toNat else min v.toNat n):Nat):Int)
 by_cases hv:v<0
 . simp only[if_pos hv];omega
 . simp only[if_neg hv];omega
theorem Ew(lo hi:Option Int)(n:Nat):Builtin.Slice.sliceAdjust lo hi 1 (n:Int)=(((sIx n 0 lo:Nat):Int),((sIx n n hi:Nat):Int)):=by
 have h1:¬((1:Int)<0):=by omega
 unfold Builtin.Slice.sliceAdjust
 simp only[h1,if_false]
 refine Prod.ext ?_ ?_
 . cases lo with
   | none=>rfl
   | some v=>exact Bx v n 0
 . cases hi with
   | none=>rfl
   | some v=>exact Bx v n n
theorem En(i j:Nat):Builtin.Slice.slicePlaces (i:Int) (j:Int) 1=j-i:=by
 unfold Builtin.Slice.slicePlaces
 have h1:(1:Int)>0:=by omega
 simp only[h1,if_true,Int.ediv_one]
 split<;>omega
theorem qM{v:Value}{o:Option Int}{Q:Option Int->Shared->Prop}(p:IsPart v o)(h:Q o s):wpAny (model prog w) A (Builtin.Slice.slicePartIndex v) Q E s:=by
 cases p with
 | none=>exact slicePart_none h
 | int i t=>exact slicePart_int h
theorem sliceApplied_gen{sl:Addr}{vl vu:Value}{lo hi:Option Int}{n:Nat}{Q:Int×Int×Nat->Shared->Prop}(hs:s.heap.IsSliceOf sl vl vu .none)(pl:IsPart vl lo)(pu:IsPart vu hi)
 (h:Q (((sIx n 0 lo:Nat):Int),1,sIx n n hi-sIx n 0 lo) s):wpAny (model prog w) A (Builtin.Slice.sliceApplied (.ref sl) (pure (n:Int))) Q E s:=by
 obtain⟨os,hos,hcs,hds⟩:=id hs
 unfold Builtin.Slice.sliceApplied Builtin.Slice.sliceFields
 refine wpAny_bind (wpAny_bind (wpAny_field hos hds (x:=vl) rfl (wpAny_bind (wpAny_field hos hds (x:=vu) rfl (wpAny_bind (wpAny_field hos hds (x:=.none) rfl (wpAny_pure ?_)))))))
 refine wpAny_bind (slicePart_none ?_)
 show wpAny _ _ (if((1:Int)==0)=true then _ else _) _ _ s
 rw[if_neg (by decide)]
 refine wpAny_bind (qM pl (wpAny_bind (qM pu (wpAny_bind (wpAny_pure ?_)))))
 show wpAny _ _ (match Builtin.Slice.sliceAdjust lo hi 1 (n:Int)with | (lo,hi)=>pure (lo,(1:Int),Builtin.Slice.slicePlaces lo hi 1)) _ _ s
 rw[Ew lo hi n]
 show wpAny _ _ (pure (((sIx n 0 lo:Nat):Int),(1:Int),Builtin.Slice.slicePlaces ((sIx n 0 lo:Nat):Int) ((sIx n n hi:Nat):Int) 1)) _ _ s
 rw[En]
 exact wpAny_pure h
theorem Lw(xs:Array Value)(i k:Nat):((List.range k).filterMap λ(m:Nat)=>xs[((i:Int)+(m:Int)*1).toNat]?).toArray=((xs.toList.drop i).take k).toArray:=by
 have e:(λ(m:Nat)=>xs[((i:Int)+(m:Int)*1).toNat]?)=λ m=>xs[i+m]?:=by
  funext m
  have:((i:Int)+(m:Int)*1).toNat=i+m:=by omega
  rw[this]
 rw[e]
 have:=pick_run xs i k
 rw[List.filterMap_map]at this
 have e2:((λ x=>xs[x]?) ∘ λ x=>i+x)=λ m=>xs[i+m]?:=rfl
 rw[e2]at this
 rw[this]
theorem getItem_tuple_cut{t sl:Addr}{items:Array Value}{vl vu:Value}{lo hi:Option Int}{Q:Value->Shared->Prop}(ht:IsTup s.heap t items)(hs:s.heap.IsSliceOf sl vl vu .none)(pl:IsPart vl lo)(pu:IsPart vu hi)
 (hw:¬(sIx items.size 0 lo=0/\sIx items.size items.size hi=items.size))
 (h:Q (.ref s.heap.objs.size) {s with heap:=s.heap.push {cls:=.type "tuple",data:=.seq ((items.toList.drop (sIx items.size 0 lo)).take (sIx items.size items.size hi-sIx items.size 0 lo)).toArray}})
 (hsz:items.size≤sizeLine):wpAny (model prog w) A (getItem (.ref t) (.ref sl)) Q E s:=by
 have htake:sizeOk (.seq ((items.toList.drop (sIx items.size 0 lo)).take (sIx items.size items.size hi-sIx items.size 0 lo)).toArray):=by
  show((items.toList.drop (sIx items.size 0 lo)).take (sIx items.size items.size hi-sIx items.size 0 lo)).toArray.size≤sizeLine
  rw[x5,List.length_take,List.length_drop,Array.length_toList]
  omega
 have hj:sIx items.size items.size hi≤items.size:=Qs _ _ (y9 _) hi
 obtain⟨os,hos,hcs,hds⟩:=id hs
 have hTs:s.TypeIs (.ref sl) "slice":=⟨os,hos,hcs⟩
 unfold getItem
 try with_reducible refine wpAny_holding ?_
 first | refine wpAny_bind (wpAny_pure ?_) | skip
 refine wpAny_bind (wpAny_sequenceKey ht.typeIs (by decide) ?_)
 refine wpAny_bind (wpAny_callSpecial?_slot (name:=Str.ofString "__getitem__") ht.typeIs PyProof.Rows.slot_tuple_getitem
  (wpAny_call_entry PyProof.Rows.slot_tuple_getitem ht.typeIs entry_tuple_getitem ?_ (args_tuple_getitem _ _)))
 show wpAny _ _ (Builtin.Tuple.tupleItemsOf (.ref t)>>=_) _ _ s
 refine wpAny_bind (tupleItemsOf_ ht ?_)
 refine wpAny_bind (wpAny_typeOf hTs ?_)
 rw[if_pos (by decide)]
 refine wpAny_bind (sliceApplied_gen hs pl pu ?_)
 have hno:¬((((sIx items.size 0 lo:Nat):Int)==0&&(1:Int)==1&&(sIx items.size items.size hi-sIx items.size 0 lo)==items.size)=true):=by
  intro q
  rw[Bool.and_eq_true,Bool.and_eq_true]at q
  have q1:((sIx items.size 0 lo:Nat):Int)=0:=eq_of_beq q.1.1
  have q2:sIx items.size items.size hi-sIx items.size 0 lo=items.size:=eq_of_beq q.2
  exact hw ⟨by omega,by omega⟩
 show wpAny _ _ (if(((sIx items.size 0 lo:Nat):Int)==0&&(1:Int)==1&&(sIx items.size items.size hi-sIx items.size 0 lo)==items.size)=true then _ else _) _ _ s
 rw[if_neg hno,Lw]
 first
  | exact wpAny_bind (m:=Builtin.Tuple.tupleExact _) (wpAny_newObj_type (wpAny_pure ⟨_,rfl,wpAny_pure h⟩) htake)
  | exact wpAny_bind (m:=Builtin.Tuple.tupleExact _) (wpAny_newObj_type (wpAny_bind (wpAny_pure (wpAny_pure ⟨_,rfl,wpAny_pure h⟩))) htake)
  | exact wpAny_bind (wpAny_bind (m:=Builtin.Tuple.tupleExact _) (wpAny_newObj_type (wpAny_pure (wpAny_pure ⟨_,rfl,wpAny_pure h⟩)) htake))
  | exact wpAny_bind (wpAny_bind (m:=Builtin.Tuple.tupleExact _) (wpAny_newObj_type (wpAny_pure ⟨_,rfl,wpAny_pure h⟩) htake))
end
end HT
namespace L2
open PySem PySem.Spec PyProof.Rows
abbrev TO:=St->Hp->(Option Int->Hp->Prop)->Prop
theorem intsAre_of{ns:List Int}:∀{us:List Value},Vals (ns.map V.int) us->IntsAre us ns:=by
 induction ns with
 | nil=>intro us r;rw[List.map_nil]at r;cases r;exact .nil
 | cons n ns ih=>
   intro us r
   rw[List.map_cons]at r
   cases r with
   | cons r1 r2=>
     obtain⟨t,e⟩:=r1
     subst e
     exact .cons n t (ih r2)
section
variable {X : Cx} {e : Expr} {te : TE} {lo hi : Option Expr} {tl th : TO} {pos p2 : Pos}
def SlR(X:Cx)(r:V->Option Int->Option Int->Hp->VK->Prop):Prop:=
 ∀ (pins:List (Addr×Obj))(s:Shared)(σ:St)(H:Hp)(x:V)(v vl vu:Value)(lo hi:Option Int)(sl:Addr)(Q:VK),Inv X pins σ H s->RelV x v->s.heap.IsSliceOf sl vl vu .none->IsPart vl lo->IsPart vu hi->r x lo hi H Q->
   ∃T id,typeLookup (.type T) "__getitem__"=pure (some (.builtin id))/\s.TypeIs v T/\wpAny (model X.prog X.w) X.A (getItem v (.ref sl)) (EP X pins σ Q) X.xe s
def lB(xs:List V)(lo hi:Option Int):List V:=(xs.drop (HT.sIx xs.length 0 lo)).take (HT.sIx xs.length xs.length hi-HT.sIx xs.length 0 lo)
theorem oE(xs:List V)(lo hi:Option Int):(lB xs lo hi).length≤xs.length:=by
 unfold lB
 rw[List.length_take,List.length_drop]
 omega
def U0(K:PySem.W.Frag):V->Option Int->Option Int->Hp->VK->Prop:=λ x lo hi H Q=>∃a xs,x=.ref a/\SqT K H a xs/\
 ¬(HT.sIx xs.length 0 lo=0/\HT.sIx xs.length xs.length hi=xs.length)/\∀p,H p=none->Q (.ref p) (upd H p (.tup (lB xs lo hi)))
theorem Rr:SlR X (U0 X.K):=by
 intro pins s σ H x v vl vu lo hi sl Q I rx hs pl pu h
 obtain⟨a,xs,rfl,hx,hw,q⟩:=h
 cases rx
 obtain⟨its,r,ht,hz⟩:=I.tuple hx
 have hlen:its.toArray.size=xs.length:=by rw[x5];exact r.length.symm
 refine⟨"tuple",_,PyProof.Rows.slot_tuple_getitem.lookup,ht.typeIs,?_⟩
 refine HT.getItem_tuple_cut ht hs pl pu (by rw[hlen];exact hw) ?_ (by rw[hlen];exact hz)
 rw[hlen]
 refine⟨.ref s.heap.objs.size,_,I.laid (t':=s.toks) (o:=.tup (lB xs lo hi)) (λ b ob q=>Heap.get?_push_of_some _ q) (y9 _) ?_,rfl,q _ (I.hok.fresh (y9 _))⟩
 exact⟨Nat.le_trans (oE xs lo hi) hz,_,(r.drop (HT.sIx xs.length 0 lo)).take (HT.sIx xs.length xs.length hi-HT.sIx xs.length 0 lo),IsTup.new _ _⟩
def Uv(K:PySem.W.Frag):R2:=λ x y H Q=>∃a b xs ys,x=.ref a/\y=.ref b/\SqT K H a xs/\SqT K H b ys/\xs≠[]/\xs.length+ys.length≤sizeLine/\
 (ys=[]->Q (.ref a) H)/\(ys≠[]->∀p,H p=none->Q (.ref p) (upd H p (.tup (xs++ys))))
theorem Vals.nil_iff{xs:List V}{us:List Value}(r:Vals xs us):us=[]↔xs=[]:=by
 cases r with
 | nil=>simp
 | cons _ _=>simp
theorem Nt:OpR X (binaryOp .Add) (Uv X.K):=by
 intro pins s σ H x y v u Q I rx ry h
 obtain⟨a,b,xs,ys,rfl,rfl,ha,hb,hx,hz,q1,q2⟩:=h
 cases rx
 cases ry
 obtain⟨its,r1,p1,_⟩:=I.tuple ha
 obtain⟨its2,r2,p2,_⟩:=I.tuple hb
 refine HT.cat_tup p1 p2 (λ z=>hx (r1.nil_iff.mp z)) (λ z=>⟨.ref a,H,I,rfl,q1 (r2.nil_iff.mp z)⟩) (λ z=>?_) (by rw[←r1.length,←r2.length];exact hz)
 refine⟨.ref s.heap.objs.size,_,I.laid (t':=s.toks) (o:=.tup (xs++ys)) (λ b ob q=>Heap.get?_push_of_some _ q) (y9 _) ?_,rfl,q2 (λ w=>z (r2.nil_iff.mpr w)) _ (I.hok.fresh (y9 _))⟩
 exact⟨by rw[x8];exact hz,_,r1.append r2,IsTup.new _ _⟩
end
def ixN(n:Nat)(i:Int):Option Nat:=if 0≤i then(if i<n then some i.toNat else none)else if-(n:Int)≤i then some (i+n).toNat else none
def atI{α:Type}(xs:List α)(i:Int):Option α:=(ixN xs.length i).bind λ j=>xs[j]?
theorem Ci{n:Nat}{i:Int}{j:Nat}(h:ixN n i=some j):seqIndex? i n=some j/\j<n/\ -(n:Int)≤i/\i<n:=by
 unfold ixN at h
 by_cases h0:0≤i
 . rw[if_pos h0]at h
   by_cases h1:i<n
   . rw[if_pos h1]at h
     have e:i.toNat=j:=Option.some.inj h
     exact⟨by rw[seqIndex_of h0 h1,e],by omega,by omega,h1⟩
   . rw[if_neg h1]at h;cases h
 . rw[if_neg h0]at h
   by_cases h1: -(n:Int)≤i
   . rw[if_pos h1]at h
     have e:(i+n).toNat=j:=Option.some.inj h
     exact⟨by rw[seqIndex_neg (by omega) h1,e],by omega,h1,by omega⟩
   . rw[if_neg h1]at h;cases h
theorem Ca{α:Type}{xs:List α}{i:Int}{v:α}(h:atI xs i=some v):∃j,seqIndex? i xs.length=some j/\xs[j]? =some v/\j<xs.length/\ -(xs.length:Int)≤i/\i<xs.length:=by
 unfold atI at h
 cases e:ixN xs.length i with
 | none=>rw[e]at h;cases h
 | some j=>
   rw[e]at h
   obtain⟨h1,h2,h3,h4⟩:=Ci e
   exact⟨j,h1,h,h2,h3,h4⟩
theorem aU{α:Type}{xs:List α}{j:Nat}{v:α}(h:xs[j]? =some v):atI xs (j:Int)=some v:=by
 have hj:j<xs.length:=(z0.mp h).1
 have e:ixN xs.length (j:Int)=some j:=by
  unfold ixN
  rw[if_pos (by omega),if_pos (by omega)];simp
 unfold atI;rw[e];exact h
def BL(b:Expr):Prop:=∀o i,subscripted b false o i=operate [o,i] (getItem o i)
def IxR(X:Cx)(r:R2):Prop:=
 ∀ (value slice:Expr)(pins:List (Addr×Obj))(s:Shared)(σ:St)(H:Hp)(x y:V)(v u:Value)(Q:VK),Inv X pins σ H s->RelV x v->RelV y u->r x y H Q->
   subscripted slice false v u=operate [v,u] (getItem v u)->wpAny (model X.prog X.w) X.A (subscriptTail value slice v u) (EP X pins σ Q) X.xe s
def MtR(X:Cx)(id:String)(r:V->List V->Hp->VK->Prop):Prop:=
 ∀ (pins:List (Addr×Obj))(s:Shared)(σ:St)(H:Hp)(x:V)(xs:List V)(v:Value)(us:List Value)(Q:VK),Inv X pins σ H s->RelV x v->Vals xs us->r x xs H Q->
   wpAny (model X.prog X.w) X.A (call (.builtin id) (v::us)) (EP X pins σ Q) X.xe s
section
variable {X : Cx} {a b : Expr} {ta tb : TE} {pos : Pos}
def U7(K:PySem.W.Frag):R2:=λ x y H Q=>∃p xs i v,x=.ref p/\y=.int i/\SqL K H p xs/\atI xs i=some v/\Q v H
def U5(K:PySem.W.Frag):R2:=λ x y H Q=>∃p xs i v,x=.ref p/\y=.int i/\SqT K H p xs/\atI xs i=some v/\Q v H
theorem Bm:IxR X (U7 X.K):=by
 intro value slice pins s σ H x y v u Q I rx ry h hs
 obtain⟨p,xs,i,z,rfl,rfl,hq,he,q⟩:=h
 cases rx
 obtain⟨t,rfl⟩:=ry
 obtain⟨its,r,pl,hz⟩:=I.list hq
 obtain⟨j,h1,h2,h3,h4,h5⟩:=Ca he
 obtain⟨w,ew,rw'⟩:=r.get h2
 have hl:=r.length
 have hn:=qK
 have fin:EP X pins σ Q w s:=⟨z,H,I,rw',q⟩
 by_cases h0:0≤i
 . have hj:i.toNat=j:=by
    rw[seqIndex_of h0 h5]at h1
    exact Option.some.inj h1
   exact item_listR pl.isList h0 (by omega) (by rw[hj];simpa using ew) fin hs
 . have hj:(i+(its.toArray.size:Int)).toNat=j:=by
    rw[seqIndex_neg (by omega) h4]at h1
    rw[x5,←hl]
    exact Option.some.inj h1
   exact subscriptTail_builtinR (x:=w) pl.isList.typeIs slot_list_getitem.lookup
    (wpAny_getItem_list_neg (Q:=λ r s'=>r=w/\EP X pins σ Q r s') pl.isList (by omega) (by rw[x5]<;>omega) (by omega) (by rw[hj];simpa using ew) ⟨rfl,fin⟩) hs
theorem Rb:IxR X (U5 X.K):=by
 intro value slice pins s σ H x y v u Q I rx ry h hs
 obtain⟨p,xs,i,z,rfl,rfl,hq,he,q⟩:=h
 cases rx
 obtain⟨t,rfl⟩:=ry
 obtain⟨its,r,pl,hz⟩:=I.tuple hq
 obtain⟨j,h1,h2,h3,h4,h5⟩:=Ca he
 obtain⟨w,ew,rw'⟩:=r.get h2
 have hl:=r.length
 have hn:=qK
 have fin:EP X pins σ Q w s:=⟨z,H,I,rw',q⟩
 exact subscriptTail_builtinR (x:=w) pl.typeIs slot_tuple_getitem.lookup
  (getItem_tuple (j:=j) (Q:=λ r s'=>r=w/\EP X pins σ Q r s') pl (by omega) (by omega) (by rw[x5,←hl];exact h1) (by simpa using ew) ⟨rfl,fin⟩) hs
theorem Dw(its:List Value)(n j:Nat)(u:Value):Obj.mapSeq (·.setIfInBounds j u) {cls:=.type "list",data:=.seq its.toArray n}={cls:=.type "list",data:=.seq (its.set j u).toArray n}:=by
 simp[Obj.mapSeq]
theorem Inv.lst{pins:List (Addr×Obj)}{σ:St}{H:Hp}{s:Shared}{p:Addr}{xs:List V}(I:Inv X pins σ H s)(h:H p=some (.lst xs)):
 ∃(its:List Value) (n:Nat),Vals xs its/\s.heap.get? p=some {cls:=.type "list",data:=.seq its.toArray n}/\xs.length≤sizeLine:=by
 obtain⟨z,its,n,r,e⟩:=I.hok p _ h
 exact⟨its,n,r,e,z⟩
theorem Inv.lstUpd{pins:List (Addr×Obj)}{σ:St}{H:Hp}{s:Shared}{p:Addr}{xs ys:List V}{its its':List Value}{n n':Nat}{f:Obj->Obj}(I:Inv X pins σ H s)(h:H p=some (.lst xs))
 (ho:s.heap.get? p=some {cls:=.type "list",data:=.seq its.toArray n})(hf:f {cls:=.type "list",data:=.seq its.toArray n}={cls:=.type "list",data:=.seq its'.toArray n'})(r:Vals ys its')(hz:ys.length≤sizeLine)(t:Nat):
 Inv X pins σ (upd H p (.lst ys)) {s with heap:=s.heap.update p f,toks:=t}:=by
 have e:(s.heap.update p f).get? p=some {cls:=.type "list",data:=.seq its'.toArray n'}:=by
  rw[Heap.get?_update_self f ho (by rw[hf]<;>rfl),hf]
 refine I.write (x:=p) (e:=p) (by rw[h];trivial) (.inl rfl) (λ b u hb q=>(Heap.get?_update_other _ _ (Ne.symm hb)).trans q) ⟨_,e⟩ ?_
 exact⟨hz,its',n',r,e⟩
def Ug:V->V->V->Hp->(Hp->Prop)->Prop:=λ o i v H Q=>∃p xs k j,o=.ref p/\i=.int k/\H p=some (.lst xs)/\ixN xs.length k=some j/\Q (upd H p (.lst (xs.set j v)))
theorem set_list:U3 X Ug:=by
 intro pins s σ H o i v ov iv u Q I ro ri rv h
 obtain⟨p,xs,k,j,rfl,rfl,hp,hj,q⟩:=h
 cases ro
 obtain⟨t,rfl⟩:=ri
 obtain⟨its,n,r,ho,hz⟩:=I.lst hp
 obtain⟨h1,h2,h3,h4⟩:=Ci hj
 have hl:=r.length
 have hn:=qK
 have I':Inv X pins σ (upd H p (.lst (xs.set j v))) {s with heap:=s.heap.update p (Obj.mapSeq (·.setIfInBounds j u))}:=
  I.lstUpd hp ho (Dw its n j u) (r.set rv j) (by rw[List.length_set];exact hz) s.toks
 by_cases h0:0≤k
 . have hk:k.toNat=j:=by
    rw[seqIndex_of h0 h4]at h1
    exact Option.some.inj h1
   exact PySem.W.ki_setAt ho h0 (by omega) (by rw[x5,←hl];exact h4) (by rw[hk];exact⟨_,I',q⟩)
 . have hk:(k+(its.toArray.size:Int)).toNat=j:=by
    rw[seqIndex_neg (by omega) h3]at h1
    rw[x5,←hl]
    exact Option.some.inj h1
   exact PySem.W.ki_setBack ho (by omega) (by rw[x5,←hl];exact h3) (by omega) (by rw[hk];exact⟨_,I',q⟩)
theorem yD(lo hi:Option Int)(n:Nat):(sliceBounds lo hi none n).1=((HT.sIx n 0 lo:Nat):Int)/\(sliceBounds lo hi none n).2.1=((HT.sIx n n hi:Nat):Int)/\(sliceBounds lo hi none n).2.2=1:=by
 refine⟨?_,?_,rfl⟩
 . cases lo with
   | none=>simp[sliceBounds,HT.sIx]
   | some i=>
     simp only[sliceBounds,HT.sIx,Option.getD_none,show(1:Int)>0 by decide,if_true]
     by_cases h:i<0
     . simp only[h,if_true]<;>omega
     . simp only[h,if_false]<;>omega
 . cases hi with
   | none=>simp[sliceBounds,HT.sIx]
   | some i=>
     simp only[sliceBounds,HT.sIx,Option.getD_none,show(1:Int)>0 by decide,if_true]
     by_cases h:i<0
     . simp only[h,if_true]<;>omega
     . simp only[h,if_false]<;>omega
theorem vM(its:List Value)(lo hi:Option Int):slicePick its.toArray lo hi none=((its.drop (HT.sIx its.length 0 lo)).take (HT.sIx its.length its.length hi-HT.sIx its.length 0 lo)).toArray:=by
 obtain⟨h1,h2,h3⟩:=yD lo hi its.toArray.size
 unfold slicePick
 rw[h1,h2,h3]
 simp only[sliceRange_one,pick_run,x5]<;>rfl
def U6(K:PySem.W.Frag):V->Option Int->Option Int->Hp->VK->Prop:=λ x lo hi H Q=>∃a xs,x=.ref a/\SqL K H a xs/\∀p,H p=none->Q (.ref p) (upd H p (.lst (lB xs lo hi)))
theorem Cz:SlR X (U6 X.K):=by
 intro pins s σ H x v vl vu lo hi sl Q I rx hs pl pu h
 obtain⟨a,xs,rfl,hx,q⟩:=h
 cases rx
 obtain⟨its,r,ht,hz⟩:=I.list hx
 have hlen:=r.length
 refine⟨"list",_,slot_list_getitem.lookup,ht.isList.typeIs,?_⟩
 refine wpAny_getItem_list_slice ht.isList hs pl pu .none (by simp) ?_ (by rw[x5]<;>omega)
 rw[vM,←hlen]
 refine⟨.ref s.heap.objs.size,_,I.laid (t':=s.toks) (o:=.lst (lB xs lo hi)) (λ b ob q=>Heap.get?_push_of_some _ q) (y9 _) ?_,rfl,q _ (I.hok.fresh (y9 _))⟩
 exact⟨Nat.le_trans (oE xs lo hi) hz,_,0,(r.drop (HT.sIx xs.length 0 lo)).take (HT.sIx xs.length xs.length hi-HT.sIx xs.length 0 lo),Heap.get?_push_size _ rfl⟩
theorem gh:fV X (.builtin "len") (λ xs H Q=>∃p ys,xs=[.ref p]/\(SqL X.K H p ys∨SqT X.K H p ys)/\Q (.int ys.length) H):=by
 intro pins s σ H xs us Q I r h
 obtain⟨p,ys,rfl,hq,q⟩:=h
 obtain⟨u,rfl,rx⟩:=vals1 r
 cases rx
 have hn:=qK
 rcases hq with hq | hq
 . obtain⟨its,r',pl,hz⟩:=I.list hq
   have hlen:=r'.length
   exact Calls.call_len_list pl.isList (by simp only[x5]<;>omega) ⟨.int ys.length,H,I.tok _,⟨s.toks+1,by rw[x5,hlen]⟩,q⟩
 . obtain⟨its,r',pl,hz⟩:=I.tuple hq
   have hlen:=r'.length
   exact len_tuple pl (by simp only[x5]<;>omega) ⟨.int ys.length,H,I.tok _,⟨s.toks+1,by rw[x5,hlen]⟩,q⟩
theorem j8:fV X (.type "tuple") (λ xs H Q=>∃p ys,xs=[.ref p]/\((SqL X.K H p ys/\∀l,H l=none->Q (.ref l) (upd H l (.tup ys)))∨(SqT X.K H p ys/\Q (.ref p) H))):=by
 intro pins s σ H xs us Q I r h
 obtain⟨p,ys,rfl,h⟩:=h
 obtain⟨u,rfl,rx⟩:=vals1 r
 cases rx
 rcases h with⟨hq,q⟩ | ⟨hq,q⟩
 . obtain⟨its,r',pl,hz⟩:=I.list hq
   have hlen:=r'.length
   refine call_tuple_list pl.isList (λ h' kp=>?_) (by simp only[x5]<;>omega)
   have I1:Inv X pins σ H {s with heap:=h'}:=I.kept (t':=s.toks) kp
   have I2:Inv X pins σ (upd H h'.objs.size (.tup ys)) {s with heap:=h'.push {cls:=.type "tuple",data:=.seq its.toArray}}:=
    I1.laid (t':=s.toks) (λ b o e=>Heap.get?_push_of_some _ e) (y9 _) (show bH X.prog X.w _ _ _ (.tup ys)from⟨hz,its,r',IsTup.new _ _⟩)
   exact⟨.ref h'.objs.size,_,I2,rfl,q _ (I1.hok.fresh (y9 _))⟩
 . obtain⟨its,r',pl,hz⟩:=I.tuple hq
   exact call_tuple_same pl ⟨.ref p,H,I,rfl,q⟩
def tyV(K:PySem.W.Frag)(T:String)(x:V)(H:Hp):Prop:=match x with
 | .str _=>T="str"
 | .int _=>T="int"
 | .ref p=>(T="list"/\∃xs,SqL K H p xs)∨(T="tuple"/\∃o,K.lookup p=some o/\o.cls=.type "tuple"/\o.dict=none)∨
  (T="dict"/\((∃kvs,H p=some (.dK kvs))∨∃kvs,H p=some (.dT kvs)))∨(T="set"/\∃S n,H p=some (.set S n))
 | _=>False
theorem RN{pins:List (Addr×Obj)}{σ:St}{H:Hp}{s:Shared}{T:String}{x:V}{v:Value}(I:Inv X pins σ H s)(r:RelV x v)(ty:tyV X.K T x H):
 s.TypeIs v T/\∀a,v=.ref a->∃ob,s.heap.get? a=some ob/\ob.dict=none:=by
 cases x with
 | str z=>
   obtain⟨t,rfl⟩:=r
   cases (show T="str" from ty)
   exact⟨typeIs_str s z t,λ _ e=>nomatch e⟩
 | int i=>
   obtain⟨t,rfl⟩:=r
   cases (show T="int" from ty)
   exact⟨typeIs_int s i t,λ _ e=>nomatch e⟩
 | ref p=>
   cases r
   rcases ty with⟨rfl,xs,hq⟩ | ⟨rfl,o,hk,hc,hd⟩ | ⟨rfl,hk⟩ | ⟨rfl,S,n,hk⟩
   . obtain⟨its,_,pl,_⟩:=I.list hq
     refine⟨pl.isList.typeIs,λ a e=>?_⟩
     cases e
     obtain⟨o,n,e,c,hd,_⟩:=pl
     exact⟨o,e,hd⟩
   . refine⟨⟨o,I.kIn p o hk,hc⟩,λ a e=>?_⟩
     cases e
     exact⟨o,I.kIn _ o hk,hd⟩
   . have z:∃o,s.heap.get? p=some o/\o.ExactDict:=by
      rcases hk with⟨kvs,hk⟩ | ⟨kvs,hk⟩
      . obtain⟨_,_,_,_,o,_,_,e,ex,_⟩:=I.hok p _ hk
        exact⟨o,e,ex⟩
      . obtain⟨_,_,_,_,o,_,_,e,ex,_⟩:=I.hok p _ hk
        exact⟨o,e,ex⟩
     obtain⟨o,e,ex⟩:=z
     refine⟨⟨o,e,ex.1⟩,λ a e2=>?_⟩
     cases e2
     exact⟨o,e,ex.2.1⟩
   . obtain⟨o,_,_,_,e,ex,_⟩:=I.hok p _ hk
     refine⟨⟨o,e,ex.1⟩,λ a e2=>?_⟩
     cases e2
     exact⟨o,e,ex.2.1⟩
 | _=>exact False.elim ty
def tBM(K:PySem.W.Frag)(T:String)(r:V->List V->Hp->VK->Prop)(to:TE)(t:TA):TE:=λ σ H Q=>to σ H λ x H1=>tyV K T x H1/\t σ H1 λ xs H2=>r x xs H2 Q
variable {o e : Expr} {es : List Expr} {to : TE} {t : TA} {name : Str} {apos cpos : Pos} {T id : String} {r : V -> List V -> Hp -> VK -> Prop}
theorem Ut(pa:PlainAttrs T)(slot:Slot T name id)(hty:typeOf (.builtin id)=pure (.type "method_descriptor"))(hm:MtR X id r)(ho:PE X o to)(ha:PA X (e::es) t)
 (hbase:attributeBase o name X.env (eval o X.env)=eval o X.env:=by rfl)
 (hfew:((backTo cpos (starEach (e::es) X.env)).all (λ x=>!x.1)&&(backToKw cpos (keywordEach [] X.env)).all (λ x=>x.1.isSome)
  &&decide ((e::es).length+([]:List Keyword).length+(if([]:List Keyword).isEmpty then 0 else 1)<30))=true:=by rfl)
 (hline:(apos.endLine==cpos.line)=true:=by rfl)(hs:starEach (e::es) X.env=(false,eval e X.env)::starEach es X.env:=by rfl)(hplain:(backTo cpos (starEach es X.env)).any (·.1)=false:=by rfl):
 PE X (.Call (.Attribute o name apos) (e::es) [] cpos) (tBM X.K T r to t):=by
 intro pins s σ H Q I h
 refine wpAny_Call_method_late hbase hfew hline rfl (thn (ho pins s σ H _ I h) λ v s1 ⟨x,H1,I1,r1,ty,q1⟩=>?_)
 obtain⟨h1,h2⟩:=RN I1 r1 ty
 refine⟨T,id,pa,slot,hty,h1,h2,?_⟩
 have hA:=ha cpos pins s1 σ H1 _ I1 q1
 rw[hs]at hA ⊢
 refine Calls.callWith_builtin (by show(false||(backTo cpos (starEach es X.env)).any (·.1))=false;rw[hplain]<;>rfl) (Calls.evalArgs_plain ?_)
 exact thn hA λ us s2 ⟨vs,H2,I2,r2,q2⟩=>hm pins s2 σ H2 x vs v us Q I2 r1 r2 q2
end
def MtM(X:Cx)(id:String)(r:V->List V->Hp->VK->Prop):Prop:=
 ∀ (pins:List (Addr×Obj))(s:Shared)(σ:St)(H:Hp)(x:V)(xs:List V)(v:Value)(us:List Value)(Q:VK),Inv X pins σ H s->RelV x v->Vals xs us->r x xs H Q->
   wpAny (model X.prog X.w) X.A (call (.builtin id) (v::us)) (EP X pins σ Q) X.xe s
theorem Vals.one:∀{x:V}{us:List Value},Vals [x] us->∃u,us=[u]/\RelV x u
 | _,_,.cons r .nil=>⟨_,rfl,r⟩
theorem Vals.rep{xs:List V}{us:List Value}(h:Vals xs us):∀k:Nat,Vals (List.replicate k xs).flatten (List.replicate k us).flatten
 | 0=>.nil
 | k+1=>by
   rw[List.replicate_succ,List.replicate_succ,List.flatten_cons,List.flatten_cons]
   exact Vals.append h (Vals.rep h k)
theorem foldl_rep(its:List Value):∀(k:Nat)(acc:List Value),
 List.foldl (λ x1 x2=>x1++x2) acc.toArray (List.replicate k its.toArray)=(acc++(List.replicate k its).flatten).toArray
 | 0,acc=>by simp
 | k+1,acc=>by
   have e:acc.toArray++its.toArray=(acc++its).toArray:=by simp
   have e2:(acc++its)++(List.replicate k its).flatten=acc++(List.replicate (k+1) its).flatten:=by
    rw[List.replicate_succ,List.flatten_cons,List.append_assoc]
   rw[←e2,←foldl_rep its k (acc++its),←e,List.replicate_succ,List.foldl_cons]
section
variable {X : Cx} {pins : List (Addr × Obj)} {σ : St} {H : Hp} {s : Shared} {l b : Addr} {xs ys zs : List V}
theorem Inv.lset{its its':List Value}{n:Nat}{f:Array Value->Array Value}{t':Nat}(I:Inv X pins σ H s)(hH:H l=some (.lst xs))
 (e:s.heap.get? l=some {cls:=.type "list",data:=.seq its.toArray n})(hf:f its.toArray=its'.toArray)(hv:Vals ys its')(hz:ys.length≤sizeLine):
 Inv X pins σ (upd H l (.lst ys)) {s with heap:=s.heap.update l (Obj.mapSeq f),toks:=t'}:=by
 have q:=PySem.IsL.update e f
 rw[hf]at q
 refine I.write (x:=l) (e:=l) (by rw[hH];exact trivial) (.inl rfl) (λ b' u hb hu=>(Heap.get?_update_other s.heap (Obj.mapSeq f) (Ne.symm hb)).trans hu) ⟨_,q⟩ ?_
 exact⟨hz,its',_,hv,q⟩
theorem Inv.lnew{its:List Value}{t':Nat}(I:Inv X pins σ H s)(hv:Vals ys its)(hz:ys.length≤sizeLine):
 Inv X pins σ (upd H s.heap.objs.size (.lst ys)) {s with heap:=s.heap.push {cls:=.type "list",data:=.seq its.toArray},toks:=t'}:=
 I.laid (λ _ _ q=>Heap.get?_push_of_some _ q) (y9 _) ⟨hz,its,0,hv,Heap.get?_push_size _ rfl⟩
theorem Inv.fresh(I:Inv X pins σ H s):H s.heap.objs.size=none:=I.hok.fresh (y9 _)
theorem Inv.lstM(I:Inv X pins σ H s)(hH:H l=some (.lst xs)):xs.length≤sizeLine/\∃(its:List Value) (n:Nat),Vals xs its/\xs.length=its.length/\s.heap.get? l=some {cls:=.type "list",data:=.seq its.toArray n}:=by
 obtain⟨z,its,n,r,e⟩:=I.hok l _ hH
 exact⟨z,its,n,r,r.length,e⟩
end
section
variable {X : Cx}
def Np:V->List V->Hp->VK->Prop:=λ x vs H Q=>∃l xs y,x=.ref l/\vs=[y]/\H l=some (.lst xs)/\xs.length<sizeLine/\Q .non (upd H l (.lst (xs++[y])))
theorem ug:MtM X "list.append" Np:=by
 intro pins s σ H x vs v us Q I rx rv h
 obtain⟨l,xs,y,rfl,rfl,hH,hz,q⟩:=h
 cases rx
 obtain⟨u,rfl,ru⟩:=rv.one
 obtain⟨z,its,n,r,hl,e⟩:=I.lstM hH
 refine call_meets F.slot_list_append ⟨_,e,rfl⟩ F.entry_list_append (F.args_list_append_2 _ _) (PySem.list_append l its.toArray n u (by rw[x5];omega)) ⟨e,?_⟩
 refine⟨.non,_,I.lset (its':=its++[u]) hH e (by simp) (r.append (.cons ru .nil)) ?_,rfl,q⟩
 rw[x8,List.length_singleton]
 omega
theorem len_rep{α:Type}(xs:List α)(k:Nat):(List.replicate k xs).flatten.length=k*xs.length:=by
 induction k with
 | zero=>simp
 | succ k ih=>rw[List.replicate_succ,List.flatten_cons,x8,ih,Nat.succ_mul,Nat.add_comm]
end
end L2
namespace Att
open PySem PySem.W PySem.Calls PyProof.Rows
theorem qF{P:Params}{h:Heap}:∀(ns:List Int)(vs:List Value),WellAll P h vs (ns.map WData.int)->IntsAre vs ns:=by
 intro ns
 induction ns with
 | nil=>
   intro vs w
   rw[List.map_nil]at w
   cases w
   exact .nil
 | cons n ns ih=>
   intro vs w
   rw[List.map_cons]at w
   cases w with
   | cons a b=>
     cases a
     exact .cons _ _ (ih _ b)
theorem Hk{l:OpenLaw}{n:Nat}(hn:l.most=some n){P:Params}{h:Heap}{args:List WData}{vals:List Value}
 (hpre:l.row.toRowW.claim.pre args=true)(hwl:WellAll P h vals args):
 ∃a vs ns,vals=[Value.ref a]/\args=[WData.list (ns.map WData.int)]/\h.get? a=some {cls:=.type "list",data:=.seq vs.toArray}/\IntsAre vs ns/\ns.length≤n:=by
 have hsh:WShape.hasAll [] args [.list .int]=true:=(pre_splitW hpre).1
 have hc:l.pre.holds [] {args:=args}=true:=(pre_splitW hpre).2
 obtain⟨d,r,rfl,h1,h2⟩:=hasAllW_cons hsh
 obtain rfl:=hasAllW_nil h2
 obtain⟨xs,rfl,h3⟩:=hasW_list h1
 obtain⟨ns,rfl⟩:=items_int h3
 have hlen:ns.length≤n:=by
  unfold OpenLaw.pre at hc
  have h4:(WTm.not (.lt (.lit (.int (n:Int))) (.len (.arg 0)))).holds [] {args:=[.list (ns.map .int)]}=true:=by
   have h4:=(holds_andW hc).1
   rw[hn]at h4
   exact h4
  have h5:=condW_of h4 (w_not (w_lt w_lit (w_len_list (w_arg rfl))))
  rw[y7]at h5
  refine Nat.le_of_not_lt λ q=>?_
  have q':(n:Int)<((ns.length:Nat):Int):=by omega
  first
   | (rw[decide_eq_true q']at h5;exact absurd h5 (by decide))
   | (simp at h5;omega)
 cases hwl with
 | cons w1 w2=>
   cases w2
   cases w1 with
   | list ho hall=>exact⟨_,_,ns,rfl,rfl,ho,qF ns _ hall,hlen⟩
theorem GZ(l:OpenLaw)(args:List WData):l.row.toRowW.claim.post args (.bool true) args=true:=
 postW_of (r:=l.row.toRowW) (X:=(true==true))
  (show WShape.has [] (.bool true) .bool=true by first | rfl | decide | simp[WShape.has,WShape.arms,WShape.armsAll])
  (show(WTm.eq .res (.lit (.bool true))).value [] {args:=args,res:=some (.bool true),after:=args}=some (.bool (true==true))from w_eq_bool (w_res rfl) w_lit) rfl
theorem attach_call{l:OpenLaw}{n:Nat}{q:Program}{loose:List Str}{XP:(Str->Option Value)->Heap->Prop}{YP:World->Heap->Prop}{d:DefRec}
 (hn:l.most=some n)(hdf:d.params.defaults=[])
 (call:∀(w:World)(s₀ s₁:Shared)(mg mb:Str->Option Value)(fa:Addr)(o:Obj)(pm cd doc:Value)(a:Addr)(vs:List Value)(ns:List Int),
  Ground q loose [] XP w s₀ mg mb s₁.heap->YP w s₁.heap->
  s₁.heap.get? fa=some o->o.data=.func (docDef d.name d.params d.body d.scope pm cd doc)->s₁.heap.CodeRec cd d.name->mg d.name=some (.ref fa)->
  s₁.heap.get? a=some {cls:=.type "list",data:=.seq vs.toArray}->IntsAre vs ns->ns.length≤n->s₁.gens=#[]->
  codeAny (model l.prog w) callerA (.call (.ref fa) ⟨[.ref a],[]⟩) (λ r s'=>r=.ok (.ret (.bool true))/\OldK s₁.heap s'.heap/\s'.os=s₁.os/\AllBare s'.gens) s₁):
 WalkO q loose XP YP l.row.toRowW d [] (λ f vs=>PySem.call f vs):=by
 intro w s₀ s₁ mg mb G Y fa o pm cd doc dV kV ho hd hcd hD hmg hg args vals as hpre hlay hrd hwl hlo
 obtain rfl:dV=.none:=Dflts.none hD hdf
 obtain rfl:kV=.none:=Dflts.noKw hD
 obtain⟨a,vs,ns,rfl,rfl,hobj,hints,hlen⟩:=Hk hn hpre hwl
 refine enter_call (codeAny_mono (call w s₀ s₁ mg mb fa o pm cd doc a vs ns G Y ho (fd_plain hd) hcd hmg hobj hints hlen hg) λ r s' hq=>?_)
 obtain⟨rfl,h2,h3,h4⟩:=hq
 exact⟨.inl ⟨.bool true,.bool true,[],rfl,λ _=>rfl,.bool true,GZ l _,λ _=>⟨List.Pairwise.nil,λ _ hm=>(nomatch hm)⟩⟩,h2,h3,h4⟩
end Att
namespace L2
open PySem PySem.Spec PyProof.Rows
theorem uI:∀{vs:List Value}{ns:List Int},IntsAre vs ns->Vals (ns.map V.int) vs
 | _,_,.nil=>.nil
 | _,_,.cons n t h=>.cons ⟨t,rfl⟩ (uI h)
def Only(H:Hp):Prop:=∀b,H b=none∨∃o xs,H b=some (.frz o (.lst xs))
theorem K9{P:Program}{w:World}{K:PySem.W.Frag}{mg mb:Str->Option Value}{CX:CXT}{k:Nat}{fa a:Addr}{fd:FuncData}{x:Str}{sp:Sp}{s₁:Shared}{vs:List Value}{ns:List Int}
 (KX:K.In s₁.heap)(hns:s₁.heap.Ns mainGlobals mg)(hb:s₁.heap.Ns builtinsNs mb)(hbb:∀x:Str,x≠"__name__"->mb x=bootBuiltins x)(hlim:s₁.heap.NoLimit)(hg:s₁.gens=#[])
 (ha:s₁.heap.get? a=some {cls:=.type "list",data:=.seq vs.toArray})(hi:IntsAre vs ns)(hl:ns.length≤sizeLine)(hr:Room k callerA)
 (F:∀base:Heap,K.In base->base.Ns mainGlobals mg->FnOk P w K mg base CX k fa fd [x] sp)(hbind:∀(s:Shared)(u:Value),BindsTo s fd ⟨[u],[]⟩ [(x,u)])
 (hsp:∀H:Hp,Only H->SqL K H a (ns.map V.int)->sp [.ref a] H (λ v _=>v=.bl true) λ _ _ _=>False)
 (hCX:∀H e s',CX [] H s₁ (λ _ _ _=>False) e s'->False):
 codeAny (model P w) callerA (.call (.ref fa) ⟨[.ref a],[]⟩) (λ r s'=>r=.ok (.ret (.bool true))/\OldK s₁.heap s'.heap/\s'.os=s₁.os/\AllBare s'.gens) s₁:=by
 have rv:=uI hi
 have lenV:=hi.length
 have core:∀H:Hp,Only H->SqL K H a (ns.map V.int)->HOk P w H s₁.heap->(∀b,H b≠none->b=a)->(H a≠none->K.lookup a=none)->
  codeAny (model P w) callerA (.call (.ref fa) ⟨[.ref a],[]⟩) (λ r s'=>r=.ok (.ret (.bool true))/\OldK s₁.heap s'.heap/\s'.os=s₁.os/\AllBare s'.gens) s₁:=by
  intro H hO hS hok hA hK
  have base_of:∀{b:Addr}{o:Obj},s₁.heap.get? b=some o->H b=none->(jC s₁.heap H).get? b=some o:=λ e n=>Jx e n
  have noA:∀{b:Addr}{o:Obj}{es:Array DictEntry}{ep:Nat},s₁.heap.get? b=some o->o.data=.dict es ep->H b=none:=λ{b o es ep} e d=>by
   cases q:H b with
   | none=>rfl
   | some u=>
     have e':b=a:=hA b (by rw[q];simp)
     subst e'
     rw[ha]at e;cases e
     have d':Data.seq vs.toArray _=Data.dict es ep:=d
     cases d'
  have nsK:∀{b:Addr}{m:Str->Option Value},s₁.heap.Ns b m->(jC s₁.heap H).Ns b m:=λ{b m} ⟨o,es,ep,e,d,r⟩=>⟨o,es,ep,base_of e (noA e d),d,r⟩
  have hKb:K.In (jC s₁.heap H):=λ b o e=>base_of (KX b o e) (by
   cases q:H b with
   | none=>rfl
   | some u=>
     have e':b=a:=hA b (by rw[q];simp)
     subst e'
     rw[hK (by rw[q];simp)]at e;cases e)
  have hM:Mod K mg (jC s₁.heap H):=⟨hKb,nsK hns,⟨mb,nsK hb,hbb⟩,let ⟨mc,h1,h2⟩:=hlim;⟨mc,nsK h1,h2⟩⟩
  have e0:Env0 P w K mg (jC s₁.heap H) callerA [] s₁ H:=⟨rfl,hM,λ b o e=>PK e,Nat.le_of_eq (G5 _ _),trivial,λ b hb=>absurd (show b∈([]:List Addr)from hb) (by simp),hok,.of_eq hg⟩
  refine codeAny_mono ((F _ hKb (nsK hns)).run callerA [] s₁ H ⟨[.ref a],[]⟩ [.ref a] [.ref a] _ _ hr e0 (hbind s₁ (.ref a)) (.cons rfl .nil) (hsp H hO hS)) λ r s' h=>?_
  cases r with
  | error e=>exact(hCX H e s' h).elim
  | ok fl =>
    cases fl with
    | next=>exact False.elim h
    | brk=>exact False.elim h
    | cont=>exact False.elim h
    | ret u=>
      obtain⟨v,H',os,bare,un,hok',r',q⟩:=h
      have q':v=.bl true:=q
      subst q'
      obtain rfl:u=Value.bool true:=r'
      refine⟨rfl,OldK.of_keep λ b o e=>?_,os,bare⟩
      cases q:H b with
      | none=>exact un.keep b o e q (by intro z;exact absurd (show b∈([]:List Addr)from z) (by simp)) (by simp)
      | some u=>
        rcases hO b with z | ⟨ob,xs,z⟩
        . rw[q]at z;cases z
        . have z2:=un.frzs b ob _ z
          obtain⟨e1,_⟩:=hok b _ z
          obtain⟨e2,_⟩:=hok' b _ z2
          rw[e]at e1;cases e1
          exact e2
 cases hk:K.lookup a with
 | some o=>
   have e:=KX a o hk
   rw[ha]at e
   cases e
   refine core (λ _=>none) (λ _=>.inl rfl) (.inr ⟨_,vs.toArray,_,hk,rfl,rfl,rfl,by rw[x5,lenV];exact hl,by simpa using rv⟩) (λ b u z=>by have z':(none:Option HO)=some u:=z;cases z') (λ b z=>absurd rfl z) λ z=>absurd rfl z
 | none=>
   refine core (λ b=>if b=a then some (.frz {cls:=.type "list",data:=.seq vs.toArray} (.lst (ns.map V.int)))else none) (λ b=>?_) (.inl (.inr ⟨{cls:=.type "list",data:=.seq vs.toArray},if_pos rfl⟩)) (λ b u z=>?_) (λ b z=>?_) λ _=>hk
   . by_cases hb:b=a
     . exact .inr ⟨_,_,if_pos hb⟩
     . exact .inl (if_neg hb)
   . by_cases hb:b=a
     . have z':=(if_pos hb).symm.trans z
       cases z'
       subst hb
       exact⟨ha,by rw[y7];exact hl,vs,_,rv,ha⟩
     . have z':=(if_neg hb).symm.trans z
       cases z'
   . by_cases hb:b=a
     . exact hb
     . exact absurd (if_neg hb) z
abbrev KOf{K:PySem.W.Frag}{h:Heap}(_:K.In h):PySem.W.Frag:=K
theorem walk_of{l:PySem.W.OpenLaw}{n k:Nat}{q:Program}{loose:List Str}{XP:(Str->Option Value)->Heap->Prop}{YP:World->Heap->Prop}{d:DefRec}{K:Params->PySem.W.Frag}{CX:World->CXT}{sp:World->Sp}{x:Str}
 (hn:l.most=some n)(hn2:n≤sizeLine)(hdf:d.params.defaults=[])(hr:Room k callerA)
 (hY:∀(w:World)(h:Heap),YP w h->(K w.params).In h)
 (F :∀(w:World)(mg:Str->Option Value)(fa:Addr)(h:Heap),(K w.params).In h->h.Ns mainGlobals mg->mg d.name=some (.ref fa)->
  ∃ fd:FuncData,(∀(s:Shared)(u:Value),BindsTo s fd ⟨[u],[]⟩ [(x,u)])/\
    ∀base:Heap,(K w.params).In base->base.Ns mainGlobals mg->FnOk l.prog w (K w.params) mg base (CX w) k fa fd [x] (sp w))
 (hsp:∀(w:World)(H:Hp)(a:Addr)(ns:List Int),ns.length≤n->Only H->SqL (K w.params) H a (ns.map V.int)->sp w [.ref a] H (λ v _=>v=.bl true) λ _ _ _=>False)
 (hCX:∀(w:World)(H:Hp)(s:Shared)(e:Value)(s':Shared),CX w [] H s (λ _ _ _=>False) e s'->False):
 PySem.W.WalkO q loose XP YP l.row.toRowW d [] (λ f vs=>PySem.call f vs):=by
 refine Att.attach_call hn hdf λ w s₀ s₁ mg mb fa o pm cd doc a vs ns G Y ho hd hcd hmg hobj hints hlen hg=>?_
 have KX:=hY w _ Y
 obtain⟨fd,hb,hF⟩:=F w mg fa _ KX G.T.g hmg
 exact K9 KX G.T.g G.T.b G.T.builtins G.T.nolimit hg hobj hints (Nat.le_trans hlen hn2) hr hF hb (λ H hO hS=>hsp w H a ns hlen hO hS) λ H e s'=>hCX w H s₁ e s'
def eY(s:Stmt):Arguments:=match s with
 | .FunctionDef _ a _ _ _ _ _ _ _ _=>a
 | _=>{posonlyargs:=[],args:=[],vararg:=none,kwonlyargs:=[],kw_defaults:=[],kwarg:=none,defaults:=[]}
def cF(s:Stmt):List Stmt:=match s with
 | .FunctionDef _ _ b _ _ _ _ _ _ _=>b
 | _=>[]
def aO(s:Stmt):Scope:=match s with
 | .FunctionDef _ _ _ _ _ _ sc _ _ _=>sc
 | _=>{kind:=.function,names:=[],isGenerator:=false,isCoroutine:=false}
abbrev CX0:CXT:=λ _ _ _ _ _ _=>False
abbrev E0:XK:=λ _ _ _=>False
theorem Ur{X:Cx}:Gn CX0 X E0:=λ _ _ _ _ _ _ _ h=>h.elim
structure Fun(K:PySem.W.Frag)(x qual:Str)(st:Stmt)(f:Addr)(fd:FuncData):Prop where
 ex:∃(oc:Value) (od:Option Addr) (kV doc pm:Value) (an:Option Addr) (cdv ct:Value) (osl:Array (Option Value)),
  fd=PySem.W.fnOf x qual (eY st) (cF st) (aO st) .none kV doc pm an cdv ct/\K.lookup f=some ⟨oc,od,.func fd,osl⟩/\PySem.W.codeIn K cdv qual=true
 kp:PySem.W.keepIn K (.ref f)=true
section
variable {P : Program} {w : World} {K : PySem.W.Frag} {mg : Str -> Option Value} {base : Heap}
theorem Fun.binds{x qual:Str}{st:Stmt}{f:Addr}{fd:FuncData}{ps:List Str}(F:Fun K x qual st f fd)
 (h:∀(kV doc pm:Value)(an:Option Addr)(cdv ct:Value)(us:List Value),us.length=ps.length->bindArgs (PySem.W.fnOf x qual (eY st) (cF st) (aO st) .none kV doc pm an cdv ct) ⟨us,[]⟩=pure (ps.zip us)):Binds K fd ps []:=by
 obtain⟨oc,od,kV,doc,pm,an,cdv,ct,osl,rfl,lk,hcd⟩:=F.ex
 exact .all (h kV doc pm an cdv ct)
theorem Hv{x qual:Str}{st:Stmt}{f:Addr}{oc:Value}{od an:Option Addr}{osl:Array (Option Value)}{kV doc pm cdv ct:Value}(l:K.lookup f=some ⟨oc,od,.func (PySem.W.fnOf x qual (eY st) (cF st) (aO st) .none kV doc pm an cdv ct),osl⟩)
 (c:PySem.W.codeIn K cdv qual=true)(k:PySem.W.keepIn K (.ref f)=true):Fun K x qual st f (PySem.W.fnOf x qual (eY st) (cF st) (aO st) .none kV doc pm an cdv ct):=⟨⟨oc,od,kV,doc,pm,an,cdv,ct,osl,rfl,l,c⟩,k⟩
end
def dH(H H':Hp):Prop:=∀b o,H b=some o->H' b=some o
theorem dH.refl(H:Hp):dH H H:=λ _ _ h=>h
end L2
set_option maxHeartbeats 4000000
namespace DL
open PySem PySem.Spec L2
open PyProof.Rows
variable {a p : Addr} {K : PySem.W.Frag} {O O' : Own} {H H' : Hp} {xs : List V} {S : Store}
abbrev St:=L2.St
inductive D where
 | non | bl(b:Bool) | int(i:Int) | str(x:Str) | tup(ds:List D) | lst(ds:List D) | loc(k:Nat) | dic | dlo(k:Nat)
abbrev Store:=List (List D)
abbrev Gam:=List (Option D)
structure Own where
 A:List (Addr×Bool)
 B:List Addr
abbrev adr(A:List (Addr×Bool)):List Addr:=A.map Prod.fst
theorem gY{A:List (Addr×Bool)}{k:Nat}{q:Bool}(h:A[k]? =some (a,q)):a∈adr A:=List.mem_map.mpr ⟨_,y4 h,rfl⟩
theorem dN(A N:List (Addr×Bool)):adr (A++N)=adr A++adr N:=List.map_append
abbrev Own.has(O:Own)(a:Addr):Prop:=a∈adr O.A∨a∈O.B
def Tp(K:PySem.W.Frag)(O:Own)(H:Hp)(a:Addr)(xs:List V):Prop:=¬O.has a/\H a=some (.tup xs)
def Ls(K:PySem.W.Frag)(O:Own)(H:Hp)(a:Addr)(xs:List V):Prop:=(¬O.has a/\Rd H a (.lst xs))∨SqL K (λ _=>none) a xs
theorem Tp.sq(h:Tp K O H a xs):SqT K H a xs:=.inl (.inl h.2)
theorem Ls.sq(h:Ls K O H a xs):SqL K H a xs:=by
 rcases h with⟨_,h⟩ | (h | h)
 . exact .inl h
 . rcases h with h | ⟨_,h⟩<;>cases h
 . exact .inr h
def Abv(K:PySem.W.Frag)(a:Addr):Prop:=∀c o,K.lookup c=some o->c<a
mutual
inductive Rep(K:PySem.W.Frag)(O:Own)(H:Hp):V->D->Prop
 | non:Rep K O H .non .non
 | bl(b:Bool):Rep K O H (.bl b) (.bl b)
 | int(i:Int):Rep K O H (.int i) (.int i)
 | str(x:Str):Rep K O H (.str x) (.str x)
 | tup{a:Addr}{xs:List V}{ds:List D}(h:Tp K O H a xs)(r:Reps K O H xs ds):Rep K O H (.ref a) (.tup ds)
 | lst{a:Addr}{xs:List V}{ds:List D}(h:Ls K O H a xs)(r:Reps K O H xs ds):Rep K O H (.ref a) (.lst ds)
 | loc{a:Addr}{k:Nat}(h:O.A[k]? =some (a,false)):Rep K O H (.ref a) (.loc k)
 | dlo{a:Addr}{k:Nat}(h:O.A[k]? =some (a,true))(n:Abv K a):Rep K O H (.ref a) (.dlo k)
 | dic{a:Addr}(h:¬O.has a)(e:H a=some (.dK [])):Rep K O H (.ref a) .dic
inductive Reps(K:PySem.W.Frag)(O:Own)(H:Hp):List V->List D->Prop
 | nil:Reps K O H [] []
 | cons{v:V}{d:D}{vs:List V}{ds:List D}(r:Rep K O H v d)(t:Reps K O H vs ds):Reps K O H (v::vs) (d::ds)
end
structure Step(O O':Own)(H H':Hp):Prop where
 kept:∀b o,b∉adr O.A->H b=some o->H' b=some o
 dom:∀b,H b≠none->H' b≠none
 ext:∃N,O'.A=O.A++N/\∀b∈adr N,H b=none
 hid:O'.B=O.B
theorem Step.refl(O:Own)(H:Hp):Step O O H H:=⟨λ _ _ _ h=>h,λ _ h=>h,⟨[],by simp,λ _ h=>nomatch h⟩,rfl⟩
theorem Step.trans{O1 O2:Own}{H1 H2:Hp}(a:Step O O1 H H1)(b:Step O1 O2 H1 H2):Step O O2 H H2:=by
 obtain⟨N1,e1,f1⟩:=a.ext
 obtain⟨N2,e2,f2⟩:=b.ext
 refine⟨λ c o hc h=>b.kept c o (λ z=>?_) (a.kept c o hc h),λ c h=>b.dom c (a.dom c h),⟨N1++N2,by rw[e2,e1,List.append_assoc],λ c hc=>?_⟩,b.hid.trans a.hid⟩
 . rw[e1,dN]at z
   rcases List.mem_append.mp z with z | z
   . exact hc z
   . rw[f1 c z]at h;cases h
 . rw[dN]at hc
   rcases List.mem_append.mp hc with z | z
   . exact f1 c z
   . cases q:H c with
     | none=>rfl
     | some o=>exact absurd (f2 c z) (a.dom c (by rw[q];simp))
theorem Step.nothas(s:Step O O' H H'){a:Addr}(h:¬O.has a)(t:H a≠none):¬O'.has a:=by
 obtain⟨N,e,f⟩:=s.ext
 rintro(z | z)
 . rw[e,dN]at z
   rcases List.mem_append.mp z with z | z
   . exact h (.inl z)
   . exact t (f a z)
 . rw[s.hid]at z;exact h (.inr z)
structure Conv(O O':Own)(H H':Hp):Prop where
 tr:∀a u,¬O.has a->H a=some u->¬O'.has a/\H' a=some u
 lc:∀(k:Nat)(a:Addr×Bool),O.A[k]? =some a->O'.A[k]? =some a
theorem Step.conv(s:Step O O' H H'):Conv O O' H H':=
 ⟨λ a u h t=>⟨s.nothas h (by rw[t];simp),s.kept a u (λ z=>h (.inl z)) t⟩,λ k a h=>by
  obtain⟨N,e,_⟩:=s.ext
  rw[e,x9 (z0.mp h).1];exact h⟩
theorem Rd.conv(s:Conv O O' H H'){a:Addr}{u:HO}(h:¬O.has a)(r:Rd H a u):¬O'.has a/\Rd H' a u:=by
 rcases r with r | ⟨o,r⟩
 . obtain⟨x,y⟩:=s.tr a _ h r
   exact⟨x,.inl y⟩
 . obtain⟨x,y⟩:=s.tr a _ h r
   exact⟨x,.inr ⟨o,y⟩⟩
theorem Tp.conv(h:Tp K O H a xs)(s:Conv O O' H H'):Tp K O' H' a xs:=s.tr a _ h.1 h.2
theorem Ls.conv(h:Ls K O H a xs)(s:Conv O O' H H'):Ls K O' H' a xs:=by
 rcases h with⟨n,r⟩ | h
 . exact .inl (Rd.conv s n r)
 . exact .inr h
mutual
theorem Rep.conv{K:PySem.W.Frag}{O O':Own}{H H':Hp}(s:Conv O O' H H'):∀{v:V}{d:D},Rep K O H v d->Rep K O' H' v d
 | _,_,.non=>.non
 | _,_,.bl b=>.bl b
 | _,_,.int i=>.int i
 | _,_,.str x=>.str x
 | _,_,.tup h r=>.tup (h.conv s) (Reps.conv s r)
 | _,_,.lst h r=>.lst (h.conv s) (Reps.conv s r)
 | _,_,.loc h=>.loc (s.lc _ _ h)
 | _,_,.dlo h n=>.dlo (s.lc _ _ h) n
 | _,_,.dic h e=>.dic (s.tr _ _ h e).1 (s.tr _ _ h e).2
theorem Reps.conv{K:PySem.W.Frag}{O O':Own}{H H':Hp}(s:Conv O O' H H'):∀{vs:List V}{ds:List D},Reps K O H vs ds->Reps K O' H' vs ds
 | _,_,.nil=>.nil
 | _,_,.cons r t=>.cons (Rep.conv s r) (Reps.conv s t)
end
theorem Rep.mono{v:V}{d:D}(h:Rep K O H v d)(s:Step O O' H H'):Rep K O' H' v d:=h.conv s.conv
theorem Reps.mono{v:List V}{d:List D}(h:Reps K O H v d)(s:Step O O' H H'):Reps K O' H' v d:=h.conv s.conv
abbrev Own.hide(O:Own)(p:Addr):Own:=⟨O.A,p::O.B⟩
theorem Conv.hide(h:H p=none)(o:HO):Conv O (O.hide p) H (upd H p o):=
 ⟨λ a u n t=>by
  have ne:a≠p:=aK t h
  refine⟨λ z=>?_,by rw[aA ne];exact t⟩
  rcases z with z | z
  . exact n (.inl z)
  . rcases List.mem_cons.mp z with z | z
    . exact ne z
    . exact n (.inr z),λ _ _ h=>h⟩
theorem Conv.unhide{A:List (Addr×Bool)}{B:List Addr}:Conv ⟨A,p::B⟩ ⟨A,B⟩ H H:=
 ⟨λ a u n t=>⟨λ z=>n (z.elim .inl λ z=>.inr (x4 _ z)),t⟩,λ _ _ h=>h⟩
theorem Conv.updHid(h:p∈O.B)(o:HO):Conv O O H (upd H p o):=
 ⟨λ a u n t=>⟨n,by rw[aA (λ e=>n (.inr (by rw[e];exact h)))];exact t⟩,λ _ _ h=>h⟩
theorem Reps.length{K:PySem.W.Frag}{O:Own}{H:Hp}:∀{vs:List V}{ds:List D},Reps K O H vs ds->vs.length=ds.length
 | _,_,.nil=>rfl
 | _,_,.cons _ t=>by simp[Reps.length t]
theorem Reps.get{K:PySem.W.Frag}{O:Own}{H:Hp}:∀{vs:List V}{ds:List D}{i:Nat}{d:D},Reps K O H vs ds->ds[i]? =some d->∃v,vs[i]? =some v/\Rep K O H v d
 | _,_,_,_,.nil,e=>by simp at e
 | _,_,0,_,.cons r _,e=>by simp at e;subst e;exact⟨_,rfl,r⟩
 | _,_,i+1,d,.cons _ t,e=>by
   obtain⟨v,h1,h2⟩:=Reps.get (i:=i) (d:=d) t (by simpa using e)
   exact⟨v,by simpa using h1,h2⟩
theorem Reps.append{K:PySem.W.Frag}{O:Own}{H:Hp}:∀{vs ws:List V}{ds es:List D},Reps K O H vs ds->Reps K O H ws es->Reps K O H (vs++ws) (ds++es)
 | _,_,_,_,.nil,s=>s
 | _,_,_,_,.cons r t,s=>.cons r (Reps.append t s)
theorem Reps.take{K:PySem.W.Frag}{O:Own}{H:Hp}:∀{vs:List V}{ds:List D}(n:Nat),Reps K O H vs ds->Reps K O H (vs.take n) (ds.take n)
 | _,_,0,_=>.nil
 | _,_,_+1,.nil=>.nil
 | _,_,n+1,.cons r t=>.cons r (Reps.take n t)
theorem Reps.drop{K:PySem.W.Frag}{O:Own}{H:Hp}:∀{vs:List V}{ds:List D}(n:Nat),Reps K O H vs ds->Reps K O H (vs.drop n) (ds.drop n)
 | _,_,0,r=>r
 | _,_,_+1,.nil=>.nil
 | _,_,n+1,.cons _ t=>Reps.drop n t
theorem Reps.set{K:PySem.W.Frag}{O:Own}{H:Hp}{v:V}{d:D}(r:Rep K O H v d):∀{vs:List V}{ds:List D}(i:Nat),Reps K O H vs ds->Reps K O H (vs.set i v) (ds.set i d)
 | _,_,_,.nil=>.nil
 | _,_,0,.cons _ t=>.cons r t
 | _,_,i+1,.cons q t=>.cons q (Reps.set r i t)
theorem Reps.ints{K:PySem.W.Frag}{O:Own}{H:Hp}:∀{vs:List V}{ns:List Int},Reps K O H vs (ns.map D.int)->vs=ns.map V.int
 | _,[],.nil=>rfl
 | _,_::_,.cons r t=>by cases r;simp[Reps.ints t]
theorem Reps.of_ints{K:PySem.W.Frag}{O:Own}{H:Hp}:∀ns:List Int,Reps K O H (ns.map V.int) (ns.map D.int)
 | []=>.nil
 | n::ns=>.cons (.int n) (Reps.of_ints ns)
theorem Reps.bools{K:PySem.W.Frag}{O:Own}{H:Hp}:∀{vs:List V}{ns:List Bool},Reps K O H vs (ns.map D.bl)->vs=ns.map V.bl
 | _,[],.nil=>rfl
 | _,_::_,.cons r t=>by cases r;simp[Reps.bools t]
def Vi(ns:List Int):List Key:=ns.map Sum.inl
inductive Kps(K:PySem.W.Frag)(O:Own)(H:Hp):List (List Key×V)->List D->Prop
 | nil:Kps K O H [] []
 | cons{ns:List Int}{v:V}{d:D}{kvs:List (List Key×V)}{ds:List D}(r:Rep K O H v d)(t:Kps K O H kvs ds):Kps K O H ((Vi ns,v)::kvs) (.tup [.tup (ns.map .int),d]::ds)
theorem Kps.conv{K:PySem.W.Frag}{O O':Own}{H H':Hp}(s:Conv O O' H H'):∀{kvs:List (List Key×V)}{ds:List D},Kps K O H kvs ds->Kps K O' H' kvs ds
 | _,_,.nil=>.nil
 | _,_,.cons r t=>.cons (r.conv s) (Kps.conv s t)
def hC0(c:Int×List Int):Int:=reduceHash (Builtin.Tuple.tupleHashOf [hashInt c.1,reduceHash (Builtin.Tuple.tupleHashOf (c.2.map hashInt))])
abbrev Cy:=List ((Int×List Int)×Addr×Value)
def Rv(a:Addr)(ys:Cy)(h:Heap):Prop:=ys.length≤sizeLine/\(a==sysModules)=false/\(ys.map (·.1)).Nodup/\
 ∃o es ep,h.get? a=some o/\o.ExactDict/\o.data=.dict es ep/\es.toList=ys.map λ y=>(⟨hC0 y.1,.ref y.2.1,y.2.2⟩:DictEntry)
def Rz(a:Addr)(ys:Cy)(h:Heap):Prop:=ys.length≤sizeLine/\(a==sysModules)=false/\(ys.map (·.1)).Nodup/\
 ∃o es,h.get? a=some o/\o.ExactDict/\o.data=.dict es ys.length/\es.toList=ys.map λ y=>(⟨hC0 y.1,.ref y.2.1,y.2.2⟩:DictEntry)
inductive Kcs(K:PySem.W.Frag)(O:Own)(H:Hp):Cy->List D->Prop
 | nil:Kcs K O H [] []
 | cons{c:Int×List Int}{b:Addr}{u:Value}{v:V}{k d:D}{ys:Cy}{ds:List D}(e:k=.tup [.int c.1,.tup (c.2.map .int)])(rk:Rep K O H (.ref b) k)(rv:RelV v u)(r:Rep K O H v d)(t:Kcs K O H ys ds):Kcs K O H ((c,b,u)::ys) (.tup [k,d]::ds)
theorem Kcs.conv{K:PySem.W.Frag}{O O':Own}{H H':Hp}(s:Conv O O' H H'):∀{ys:Cy}{ds:List D},Kcs K O H ys ds->Kcs K O' H' ys ds
 | _,_,.nil=>.nil
 | _,_,.cons e rk rv r t=>.cons e (rk.conv s) rv (r.conv s) (Kcs.conv s t)
def isO:Option Int->Value->Bool
 | some i,.int j _=>decide (i=j)
 | none,.none=>true
 | _,_=>false
def hO0:Option Int->Int
 | some i=>hashInt i
 | none=>4238894112
abbrev Oy:=List (Option Int×Value)
inductive OEs:List DictEntry->Oy->Prop
 | nil:OEs [] []
 | cons{e:DictEntry}{k:Option Int}{v:Value}{es:List DictEntry}{ys:Oy}(i:isO k e.key=true)(h:e.hash=hO0 k)(q:e.val=v)(t:OEs es ys):OEs (e::es) ((k,v)::ys)
def Qo(a:Addr)(ys:Oy)(h:Heap):Prop:=ys.length≤sizeLine/\(a==sysModules)=false/\(ys.map (·.1)).Nodup/\
 ∃o es ep,h.get? a=some o/\o.ExactDict/\o.data=.dict es ep/\OEs es.toList ys
def oD:Option Int->D
 | some i=>.int i
 | none=>.non
inductive Kos(K:PySem.W.Frag)(O:Own)(H:Hp):Oy->List D->Prop
 | nil:Kos K O H [] []
 | cons{c:Option Int}{u:Value}{v:V}{k d:D}{ys:Oy}{ds:List D}(e:k=oD c)(rv:RelV v u)(r:Rep K O H v d)(t:Kos K O H ys ds):Kos K O H ((c,u)::ys) (.tup [k,d]::ds)
theorem Kos.conv{K:PySem.W.Frag}{O O':Own}{H H':Hp}(s:Conv O O' H H'):∀{ys:Oy}{ds:List D},Kos K O H ys ds->Kos K O' H' ys ds
 | _,_,.nil=>.nil
 | _,_,.cons e rv r t=>.cons e rv (r.conv s) (Kos.conv s t)
abbrev tbD(b:Bool)(l c:Nat)(q:Str)(z:Nat):List D:=[.bl b,.int l,.int c,.str q,.int z,.tup (List.replicate (sizeLine+1) .non)]
def Ue(K:PySem.W.Frag)(z a:Addr):Prop:=∃o vs,K.lookup z=some o/\o.data=.fields vs/\vs[11]? =some (.ref a)
def U9(x:Addr)(q:Str)(h:Heap):Prop:=h.CodeRec (.ref x) q
inductive DOb(K:PySem.W.Frag)(O:Own)(H:Hp)(a:Addr)(ds:List D):Prop
 | t(kvs:List (List Key×V))(e:H a=some (.dT kvs))(r:Kps K O H kvs ds):DOb K O H a ds
 | c(ys:Cy)(n:ys≠[])(e:H a=some (.ext (Rv a ys)))(r:Kcs K O H ys ds):DOb K O H a ds
 | o(ys:Oy)(n:ys≠[])(e:H a=some (.ext (Qo a ys)))(r:Kos K O H ys ds):DOb K O H a ds
 | m(ys:Cy)(ds':List D)(hd:ds=.non::ds')(e:H a=some (.ext (Rz a ys)))(r:Kcs K O H ys ds'):DOb K O H a ds
 | p(ps:Array Value)(n:¬Abv K a)(b:Bool)(l c z:Nat)(q:Str)(k:Ue K z a)(e:H a=some (.tbl ps))(hd:ds=tbD b l c q z)
   (g:(b=false/\ps=#[])∨(b=true/\∃x,ps=#[rawInt l,rawInt c,.ref x]/\¬O.has x/\H x=some (.ext (U9 x q)))):DOb K O H a ds
theorem DOb.move{ds:List D}(s:Conv O O' H H')(b:DOb K O H a ds)(h:∀o,H a=some o->H' a=some o):DOb K O' H' a ds:=by
 cases b with
 | t kvs e r=>exact .t kvs (h _ e) (r.conv s)
 | c ys n e r=>exact .c ys n (h _ e) (r.conv s)
 | o ys n e r=>exact .o ys n (h _ e) (r.conv s)
 | m ys d' hd e r=>exact .m ys d' hd (h _ e) (r.conv s)
 | p ps n b l c z q k e hd g=>exact .p ps n b l c z q k (h _ e) hd (g.imp id λ⟨g1,x,g2,g3,g4⟩=>⟨g1,x,g2,s.tr _ _ g3 g4⟩)
theorem DOb.there{ds:List D}(b:DOb K O H a ds):H a≠none:=by
 cases b with
 | t kvs e r=>rw[e];simp
 | c ys n e r=>rw[e];simp
 | o ys n e r=>rw[e];simp
 | m ys d' hd e r=>rw[e];simp
 | p ps n b l c z q k e hd g=>rw[e];simp
structure StOk(K:PySem.W.Frag)(O:Own)(H:Hp)(S:Store):Prop where
 nd:(adr O.A).Nodup
 len:O.A.length=S.length
 obj:∀(k:Nat)(a:Addr)(ds:List D),O.A[k]? =some (a,false)->S[k]? =some ds->∃xs,H a=some (.lst xs)/\Reps K O H xs ds
 dob:∀(k:Nat)(a:Addr)(ds:List D),O.A[k]? =some (a,true)->S[k]? =some ds->DOb K O H a ds
 apart:∀a∈adr O.A,a∉O.B
 hidden:∀b∈O.B,H b≠none
structure EnvOk(K:PySem.W.Frag)(O:Own)(H:Hp)(σ:St)(Γ:Gam):Prop where
 len:σ.length=Γ.length
 at_:∀(i:Nat)(d:D),Γ[i]? =some (some d)->∃v,σ[i]? =some (some v)/\Rep K O H v d
theorem EnvOk.mono{σ:St}{Γ:Gam}(e:EnvOk K O H σ Γ)(s:Step O O' H H'):EnvOk K O' H' σ Γ:=
 ⟨e.len,λ i d h=>let ⟨v,a,b⟩:=e.at_ i d h;⟨v,a,b.mono s⟩⟩
theorem EnvOk.set{σ:St}{Γ:Gam}(e:EnvOk K O H σ Γ){v:V}{d:D}(r:Rep K O H v d)(i:Nat):EnvOk K O H (σ.set i (some v)) (Γ.set i (some d)):=by
 refine⟨by simp[e.len],λ j c h=>?_⟩
 by_cases hj:i=j
 . subst hj
   have hl:i<Γ.length:=by
    have:=(z0.mp h).1
    simpa using this
   rw[List.getElem?_set_self hl]at h
   cases h
   exact⟨v,List.getElem?_set_self (by rw[e.len];exact hl),r⟩
 . rw[List.getElem?_set_ne hj]at h
   rw[List.getElem?_set_ne hj]
   exact e.at_ j c h
theorem StOk.tracked(s:StOk K O H S){a:Addr}(h:O.has a):H a≠none:=by
 rcases h with h | h
 . obtain⟨⟨a',c⟩,hm,rfl⟩:=List.mem_map.mp h
   obtain⟨k,hk⟩:=List.getElem?_of_mem hm
   have hl:k<S.length:=by rw[←s.len];exact(z0.mp hk).1
   cases c with
   | false=>
     obtain⟨xs,q,_⟩:=s.obj k a' S[k] hk (y3 hl)
     rw[show(a',false).1=a' from rfl,q];simp
   | true=>
     exact(s.dob k a' S[k] hk (y3 hl)).there
 . exact s.hidden a h
theorem Step.fresh(h:H p=none)(o:HO):Step O O H (upd H p o):=
 ⟨λ b u _ q=>by rw[aA (aK q h)];exact q,λ b q=>by
  by_cases e:b=p
  . subst e;rw[bh];simp
  . rw[aA e];exact q,⟨[],by simp,λ _ z=>nomatch z⟩,rfl⟩
theorem Step.same(h:dH H H'):Step O O H H':=
 ⟨λ b o _ q=>h b o q,λ b q=>by
  cases e:H b with
  | none=>exact absurd e q
  | some o=>rw[h b o e];simp,⟨[],by simp,λ _ z=>nomatch z⟩,rfl⟩
theorem dH.fresh(h:H p=none)(o:HO):dH H (upd H p o):=λ b u q=>by rw[aA (aK q h)];exact q
theorem StOk.same(s:StOk K O H S)(h:dH H H'):StOk K O H' S:=
 ⟨s.nd,s.len,λ k a ds e1 e2=>let ⟨xs,q,r⟩:=s.obj k a ds e1 e2;⟨xs,h _ _ q,r.mono (Step.same h)⟩,λ k a ds e1 e2=>(s.dob k a ds e1 e2).move (Step.same h).conv λ o q=>h _ _ q,s.apart,λ b hb=>(Step.same (O:=O) h).dom b (s.hidden b hb)⟩
theorem StOk.fresh_not(s:StOk K O H S){p:Addr}(h:H p=none):¬O.has p:=λ z=>s.tracked z h
theorem StOk.fresh(s:StOk K O H S){p:Addr}(h:H p=none)(o:HO):StOk K O (upd H p o) S:=s.same (dH.fresh h o)
abbrev Own.more(O:Own)(p:Addr)(q:Bool:=false):Own:=⟨O.A++[(p,q)],O.B⟩
theorem Step.own(h:H p=none)(o:HO)(q:Bool:=false):Step O (O.more p q) H (upd H p o):=
 ⟨(Step.fresh (O:=O) h o).kept,(Step.fresh (O:=O) h o).dom,⟨[(p,q)],rfl,λ b z=>by rw[List.mem_singleton.mp z];exact h⟩,rfl⟩
theorem qj{A:List (Addr×Bool)}{p:Addr×Bool}{k:Nat}{x:Addr×Bool}(h:(A++[p])[k]? =some x):A[k]? =some x∨(k=A.length/\x=p):=by
 by_cases hk:k<A.length
 . rw[x9 hk]at h;exact .inl h
 . rw[List.getElem?_append_right (by omega)]at h
   have hk0:k-A.length=0:=by
    have:=(z0.mp h).1
    simp at this;omega
   rw[hk0]at h
   exact .inr ⟨by omega,(Option.some.inj h).symm⟩
theorem HJ{A:List (Addr×Bool)}{q:Bool}(h:(adr A).Nodup)(n:p∉adr A):(adr (A++[(p,q)])).Nodup:=by
 rw[dN]
 refine List.nodup_append.mpr ⟨h,by simp,λ a ha b hb e=>?_⟩
 rw[List.mem_singleton.mp hb]at e;rw[e]at ha;exact n ha
theorem StOk.own(s:StOk K O H S){p:Addr}(h:H p=none){xs:List V}{ds:List D}(r:Reps K O H xs ds):
 StOk K (O.more p) (upd H p (.lst xs)) (S++[ds]):=by
 have st:=Step.own (O:=O) h (.lst xs)
 have np:=s.fresh_not h
 refine⟨HJ s.nd λ z=>np (.inl z),by simp[s.len],λ k a es e1 e2=>?_,λ k a es e1 e2=>?_,λ a ha=>?_,λ b hb=>st.dom b (s.hidden b hb)⟩
 . rcases qj e1 with e1 | ⟨rfl,e⟩
   . have hk:=(z0.mp e1).1
     rw[x9 (by rw[←s.len];exact hk)]at e2
     obtain⟨ys,q,r'⟩:=s.obj k a es e1 e2
     exact⟨ys,by rw[aA (aK q h)];exact q,r'.mono st⟩
   . cases e
     rw[List.getElem?_append_right (by rw[s.len];exact y9 _),s.len,Nat.sub_self]at e2
     cases e2
     exact⟨xs,bh,r.mono st⟩
 . rcases qj e1 with e1 | ⟨rfl,e⟩
   . have hk:=(z0.mp e1).1
     rw[x9 (by rw[←s.len];exact hk)]at e2
     exact(s.dob k a es e1 e2).move st.conv λ o q=>by rw[aA (aK q h)];exact q
   . cases e
 . rw[dN]at ha
   rcases List.mem_append.mp ha with z | z
   . exact s.apart a z
   . rw[List.mem_singleton.mp z];exact λ q=>np (.inr q)
theorem Step.put(h:a∈adr O.A)(o:HO):Step O O H (upd H a o):=
 ⟨λ b u hb q=>by rw[aA (λ e=>hb (by rw[e];exact h))];exact q,λ b q=>by
  by_cases e:b=a
  . subst e;rw[bh];simp
  . rw[aA e];exact q,⟨[],by simp,λ _ z=>nomatch z⟩,rfl⟩
theorem Er{A:List (Addr×Bool)}(nd:(adr A).Nodup){k j:Nat}{a b:Addr}{p q:Bool}(h:A[k]? =some (a,p))(h2:A[j]? =some (b,q))(hj:k≠j):b≠a:=λ e=>hj (by
 have g1:(adr A)[k]? =some a:=by rw[y8,h];rfl
 have g2:(adr A)[j]? =some b:=by rw[y8,h2];rfl
 obtain⟨h1,e1'⟩:=z0.mp g1
 obtain⟨h2,e2'⟩:=z0.mp g2
 exact(List.getElem_inj nd).mp (e1'.trans (e.symm.trans e2'.symm)))
theorem StOk.put(s:StOk K O H S){k:Nat}{a:Addr}(h:O.A[k]? =some (a,false)){xs:List V}{ds:List D}(r:Reps K O H xs ds):
 StOk K O (upd H a (.lst xs)) (S.set k ds):=by
 have st:=Step.put (O:=O) (H:=H) (gY h) (.lst xs)
 refine⟨s.nd,by simp[s.len],λ j b es e1 e2=>?_,λ j b es e1 e2=>?_,s.apart,λ b hb=>st.dom b (s.hidden b hb)⟩
 . by_cases hj:k=j
   . subst hj
     rw[h]at e1;cases e1
     have hl:=(z0.mp e2).1
     rw[List.getElem?_set_self (by simpa using hl)]at e2
     cases e2
     exact⟨xs,bh,r.mono st⟩
   . rw[List.getElem?_set_ne hj]at e2
     obtain⟨ys,q,r'⟩:=s.obj j b es e1 e2
     exact⟨ys,by rw[aA (Er s.nd h e1 hj)];exact q,r'.mono st⟩
 . have hj:k≠j:=λ e=>by subst e;rw[h]at e1;cases e1
   rw[List.getElem?_set_ne hj]at e2
   exact(s.dob j b es e1 e2).move st.conv λ o q=>by rw[aA (Er s.nd h e1 hj)];exact q
theorem StOk.hide(s:StOk K O H S){p:Addr}(h:H p=none)(o:HO):StOk K (O.hide p) (upd H p o) S:=by
 have st:=Step.fresh (O:=O) h o
 refine⟨s.nd,s.len,λ k a ds e1 e2=>?_,λ k a ds e1 e2=>?_,λ a ha z=>?_,λ b hb=>?_⟩
 . obtain⟨xs,q,r⟩:=s.obj k a ds e1 e2
   exact⟨xs,by rw[aA (aK q h)];exact q,r.conv (Conv.hide h o)⟩
 . exact(s.dob k a ds e1 e2).move (Conv.hide h o) λ o q=>by rw[aA (aK q h)];exact q
 . rcases List.mem_cons.mp z with z | z
   . exact s.tracked (.inl ha) (z▸h)
   . exact s.apart a ha z
 . rcases List.mem_cons.mp hb with z | z
   . subst z;rw[bh];simp
   . exact st.dom b (s.hidden b z)
theorem StOk.unhide{A:List (Addr×Bool)}{B:List Addr}(s:StOk K ⟨A,p::B⟩ H S):StOk K ⟨A,B⟩ H S:=
 ⟨s.nd,s.len,λ k a ds e1 e2=>let ⟨xs,q,r⟩:=s.obj k a ds e1 e2;⟨xs,q,r.conv Conv.unhide⟩,λ k a ds e1 e2=>(s.dob k a ds e1 e2).move Conv.unhide λ _ q=>q,λ a ha z=>s.apart a ha (x4 _ z),λ b hb=>s.hidden b (x4 _ hb)⟩
theorem StOk.updHid(s:StOk K O H S){p:Addr}(h:p∈O.B)(o:HO):StOk K O (upd H p o) S:=
 ⟨s.nd,s.len,λ k a ds e1 e2=>by
  obtain⟨xs,q,r⟩:=s.obj k a ds e1 e2
  have ne:a≠p:=λ e=>s.apart a (gY e1) (e▸h)
  exact⟨xs,by rw[aA ne];exact q,r.conv (Conv.updHid h o)⟩,λ k a ds e1 e2=>by
  have ne:a≠p:=λ e=>s.apart a (gY e1) (e▸h)
  exact(s.dob k a ds e1 e2).move (Conv.updHid h o) λ _ q=>by rw[aA ne];exact q,s.apart,λ b hb=>by
  by_cases e:b=p
  . subst e;rw[bh];simp
  . rw[aA e];exact s.hidden b hb⟩
theorem Step.adopt{A:List (Addr×Bool)}(s:Step O ⟨A,O.B⟩ H H')(h:H p=none):Step O ⟨A++[(p,false)],O.B⟩ H H':=by
 obtain⟨N,e,f⟩:=s.ext
 refine⟨s.kept,s.dom,⟨N++[(p,false)],?_,λ b hb=>?_⟩,rfl⟩
 . show A++[(p,false)]=_
   rw[show A=O.A++N from e,List.append_assoc]
 . rw[dN]at hb
   rcases List.mem_append.mp hb with z | z
   . exact f b z
   . rw[List.mem_singleton.mp z];exact h
theorem Conv.adopt{A:List (Addr×Bool)}{B:List Addr}:Conv ⟨A,p::B⟩ ⟨A++[(p,false)],B⟩ H H:=
 ⟨λ a u n t=>⟨λ z=>n (z.elim (λ z=>(List.mem_append.mp (by rw[←dN];exact z)).elim .inl λ z=>.inr (by rw[List.mem_singleton.mp z];exact x6)) λ z=>.inr (x4 _ z)),t⟩,
  λ k a h=>by
   show(A++[(p,false)])[k]? =some a
   rw[x9 (z0.mp h).1];exact h⟩
theorem StOk.adopt{A:List (Addr×Bool)}{B:List Addr}{ds:List D}(s:StOk K ⟨A,p::B⟩ H S)(hp:p∉B)(h:H p=some (.lst xs))(r:Reps K ⟨A,p::B⟩ H xs ds):StOk K ⟨A++[(p,false)],B⟩ H (S++[ds]):=by
 have np:p∉adr A:=λ z=>s.apart p z x6
 have sl:A.length=S.length:=s.len
 refine⟨HJ s.nd np,by simp[sl],λ k a es e1 e2=>?_,λ k a es e1 e2=>?_,λ a ha=>?_,λ b hb=>s.hidden b (x4 _ hb)⟩
 . rcases qj e1 with e1 | ⟨rfl,e⟩
   . have hk:=(z0.mp e1).1
     rw[x9 (by omega)]at e2
     obtain⟨ys,q,r'⟩:=s.obj k a es e1 e2
     exact⟨ys,q,r'.conv Conv.adopt⟩
   . cases e
     rw[List.getElem?_append_right (by omega),sl,Nat.sub_self]at e2
     cases e2
     exact⟨xs,h,r.conv Conv.adopt⟩
 . rcases qj e1 with e1 | ⟨rfl,e⟩
   . have hk:=(z0.mp e1).1
     rw[x9 (by omega)]at e2
     exact(s.dob k a es e1 e2).move Conv.adopt λ _ q=>q
   . cases e
 . have ha:a∈adr (A++[(p,false)]):=ha
   rw[dN]at ha
   rcases List.mem_append.mp ha with z | z
   . exact λ q=>s.apart a z (x4 _ q)
   . rw[List.mem_singleton.mp z];exact hp
theorem Step.inner{A1 A2:List (Addr×Bool)}{B:List Addr}{H1 H2:Hp}(a:Step O ⟨A1,B⟩ H H1)(b:Step ⟨A1,p::B⟩ ⟨A2,p::B⟩ H1 H2)(h:H p=none)(o:HO):Step O ⟨A2,B⟩ H (upd H2 p o):=by
 have b':Step ⟨A1,B⟩ ⟨A2,B⟩ H1 H2:=⟨b.kept,b.dom,b.ext,rfl⟩
 have c:=a.trans b'
 refine⟨λ x u hx t=>?_,λ x t=>?_,c.ext,c.hid⟩
 . rw[aA (aK t h)];exact c.kept x u hx t
 . by_cases e:x=p
   . subst e;rw[bh];simp
   . rw[aA e];exact c.dom x t
end DL
namespace DL
open PySem PySem.Spec L2
open PyProof.Rows
variable {K : PySem.W.Frag} {O : Own} {H : Hp} {x : D} {ds : List D} {i j : Int} {p : Addr} {xs : List V}
abbrev Pins:=List (Addr×Obj)
abbrev WD:=D->Store->Prop
def QG(K:PySem.W.Frag)(O:Own)(H:Hp)(W:WD):VK:=λ v H'=>∃O' d S',W d S'/\Step O O' H H'/\StOk K O' H' S'/\Rep K O' H' v d
def QA(K:PySem.W.Frag)(O:Own)(H:Hp)(W:List D->Store->Prop):List V->Hp->Prop:=λ vs H'=>∃O' ds S',W ds S'/\Step O O' H H'/\StOk K O' H' S'/\Reps K O' H' vs ds
def QT(K:PySem.W.Frag)(O:Own)(H:Hp)(W:Bool->Store->Prop):Bool->Hp->Prop:=λ b H'=>∃O' S',W b S'/\Step O O' H H'/\StOk K O' H' S'
def Ev(X:Cx)(Γ:Gam)(S:Store)(e:Expr)(W:WD):Prop:=
 ∀ (pins:Pins)(s:Shared)(σ:St)(H:Hp)(O:Own),Inv X pins σ H s->EnvOk X.K O H σ Γ->StOk X.K O H S->
   wpAny (model X.prog X.w) X.A (eval e X.env) (EP X pins σ (QG X.K O H W)) X.xe s
def EvA(X:Cx)(Γ:Gam)(S:Store)(es:List Expr)(W:List D->Store->Prop):Prop:=
 ∀ (pos:Pos)(pins:Pins)(s:Shared)(σ:St)(H:Hp)(O:Own),Inv X pins σ H s->EnvOk X.K O H σ Γ->StOk X.K O H S->
   wpAny (model X.prog X.w) X.A (spliced (backTo pos (starEach es X.env))) (AP X pins σ (QA X.K O H W)) X.xe s
def TsW(X:Cx)(Γ:Gam)(S:Store)(e:Expr)(W:Bool->Store->Prop):Prop:=
 ∀ (whole:Sem Value)(pins:Pins)(s:Shared)(σ:St)(H:Hp)(O:Own),Inv X pins σ H s->EnvOk X.K O H σ Γ->StOk X.K O H S->
   wpAny (model X.prog X.w) X.A (isTrue e X.env whole) (TP X pins σ (QT X.K O H W)) X.xe s
def Ts(X:Cx)(Γ:Gam)(S:Store)(e:Expr)(W:Bool->Store->Prop):Prop:=
 ∀ (pins:Pins)(s:Shared)(σ:St)(H:Hp)(O:Own),Inv X pins σ H s->EnvOk X.K O H σ Γ->StOk X.K O H S->
   wpAny (model X.prog X.w) X.A (isTrue e X.env (eval e X.env)) (TP X pins σ (QT X.K O H W)) X.xe s
def OpW(X:Cx)(f:Value->Value->Sem Value)(x y:D)(S:Store)(W:WD):Prop:=
 ∀ (pins:Pins)(s:Shared)(σ:St)(H:Hp)(O:Own)(v w:V)(u u':Value),Inv X pins σ H s->StOk X.K O H S->Rep X.K O H v x->Rep X.K O H w y->RelV v u->RelV w u'->
   wpAny (model X.prog X.w) X.A (f u u') (EP X pins σ (QG X.K O H W)) X.xe s
def eX(X:Cx)(f:Value)(ds:List D)(S:Store)(W:WD):Prop:=
 ∀ (pins:Pins)(s:Shared)(σ:St)(H:Hp)(O:Own)(vs:List V)(us:List Value),Inv X pins σ H s->StOk X.K O H S->Reps X.K O H vs ds->Vals vs us->
   wpAny (model X.prog X.w) X.A (call f us) (EP X pins σ (QG X.K O H W)) X.xe s
abbrev du(X:Cx)(op:Operator):=OpW X (binaryOp op)
abbrev bK(X:Cx)(op:CmpOp):=OpW X (compareOp op)
section
variable {X : Cx} {Γ : Gam} {S S1 : Store} {W : WD} {a b e : Expr} {es rest : List Expr} {pos : Pos}
theorem QG.pre{O1:Own}{H1:Hp}(st:Step O O1 H H1){v:V}{H':Hp}(q:QG K O1 H1 W v H'):QG K O H W v H':=by
 obtain⟨O',d,S',w,s',ok,r⟩:=q
 exact⟨O',d,S',w,st.trans s',ok,r⟩
theorem dW{pins:Pins}{σ:St}{O1:Own}{H1:Hp}(st:Step O O1 H H1){u:Value}{s':Shared}(q:EP X pins σ (QG X.K O1 H1 W) u s'):EP X pins σ (QG X.K O H W) u s':=by
 obtain⟨v,H',I,r,q⟩:=q
 exact⟨v,H',I,r,q.pre st⟩
theorem Mt{pins:Pins}{σ:St}{O1:Own}{H1:Hp}(st:Step O O1 H H1){W:Bool->Store->Prop}{u:Bool}{s':Shared}(q:TP X pins σ (QT X.K O1 H1 W) u s'):TP X pins σ (QT X.K O H W) u s':=by
 obtain⟨H',I,O',S',w,s2,ok⟩:=q
 exact⟨H',I,O',S',w,st.trans s2,ok⟩
theorem Ev.mono{W':WD}(h:Ev X Γ S e W)(k:∀d S',W d S'->W' d S'):Ev X Γ S e W':=λ pins s σ H O I env st=>
 thn (h pins s σ H O I env st) λ _ _ hq_=>by obtain⟨v,H',I',r,O',d,S',w,q⟩:=hq_;exact⟨v,H',I',r,O',d,S',k d S' w,q⟩
theorem OpW.mono{f:Value->Value->Sem Value}{y:D}{W':WD}(h:OpW X f x y S W)(k:∀d S',W d S'->W' d S'):OpW X f x y S W':=λ pins s σ H O v w u u' I st r1 r2 r3 r4=>
 thn (h pins s σ H O v w u u' I st r1 r2 r3 r4) λ _ _ hq_=>by obtain⟨v,H',I',r,O',d,S',w,q⟩:=hq_;exact⟨v,H',I',r,O',d,S',k d S' w,q⟩
theorem dX{f:Value->Value->Sem Value}{r:R2}{y:D}(ho:OpR X f r)(h:∀O H v w,StOk X.K O H S->Rep X.K O H v x->Rep X.K O H w y->r v w H (QG X.K O H W)):OpW X f x y S W:=
 λ pins s σ H O v w u u' I st r1 r2 r3 r4=>ho pins s σ H v w u u' _ I r3 r4 (h O H v w st r1 r2)
theorem cP{f:Value}{r:List V->Hp->VK->Prop}(hc:fV X f r)(h:∀O H vs,StOk X.K O H S->Reps X.K O H vs ds->r vs H (QG X.K O H W)):eX X f ds S W:=
 λ pins s σ H O vs us I st r1 r2=>hc pins s σ H vs us _ I r2 (h O H vs st r1)
theorem QG.here{v:V}{d:D}(w:W d S)(st:StOk K O H S)(r:Rep K O H v d):QG K O H W v H:=⟨O,d,S,w,Step.refl O H,st,r⟩
theorem Qi(i:Nat){x:Str}{d:D}(hΓ:Γ[i]? =some (some d))(w:W d S)(hN:X.N[i]? =some x:=by rfl)
 (hv:Vis X.env.scope x:=by first | exact Or.inl rfl | exact Or.inr (Or.inl rfl) | exact Or.inr (Or.inr rfl))(hd:(x==("__debug__":Str))=false:=by decide)(hcd:(x==("__classdict__":Str))=false:=by decide):
 Ev X Γ S (.Name x pos) W:=by
 intro pins s σ H O I env st
 obtain⟨v,e,r⟩:=env.at_ i d hΓ
 exact Q8 hN hv hd hcd pins s σ H _ I ⟨v,e,QG.here w st r⟩
theorem R1{j}(w:W (.int i) S):Ev X Γ S (.Constant (.int i) j pos) W:=λ pins s σ H O I _ st=>Rq pins s σ H _ I (QG.here w st (.int i))
theorem Up{i:Bool}{j}(w:W (.bl i) S):Ev X Γ S (.Constant (.bool i) j pos) W:=λ pins s σ H O I _ st=>Ux pins s σ H _ I (QG.here w st (.bl i))
theorem Rj{j}(w:W .non S):Ev X Γ S (.Constant .none j pos) W:=λ pins s σ H O I _ st=>QQ pins s σ H _ I (QG.here w st .non)
theorem Jz{x:Str}{t:Tok}(hm:X.mg x=some (.int i t))(w:W (.int i) S)(hg:Gl X x:=by rfl)(hd:(x==("__debug__":Str))=false:=by decide):Ev X Γ S (.Name x pos) W:=
 λ pins s σ H O I _ st=>N5 hg hm (v:=.int i) ⟨t,rfl⟩ hd pins s σ H _ I (QG.here w st (.int i))
theorem yj{op:Operator}(h:Ev X Γ S a λ x S1=>Ev X Γ S1 b λ y S2=>du X op x y S2 W):Ev X Γ S (.BinOp a op b pos) W:=by
 intro pins s σ H O I env st
 refine wpAny_BinOp (thn (h pins s σ H O I env st) λ u s1 hq_=>?_)
 obtain⟨v,H1,I1,r1,O1,x,S1,hb,st1,ok1,rep1⟩:=hq_
 refine thn (hb pins s1 σ H1 O1 I1 (env.mono st1) ok1) λ u' s2 hq_=>?_
 obtain⟨w,H2,I2,r2,O2,y,S2,hw,st2,ok2,rep2⟩:=hq_
 exact thn (hw pins s2 σ H2 O2 v w u u' I2 ok2 (rep1.mono st2) rep2 r1 r2) λ _ _ q=>dW (st1.trans st2) q
theorem RZ{op:CmpOp}(h:Ev X Γ S a λ x S1=>Ev X Γ S1 b λ y S2=>bK X op x y S2 W)(hm:behindInMarks op b=false:=by first | exact nomark _ | (with_unfolding_all rfl)):Ev X Γ S (.Compare a [op] [b] pos) W:=by
 intro pins s σ H O I env st
 refine wpAny_Compare1 (thn (h pins s σ H O I env st) λ u s1 hq_=>?_) hm
 obtain⟨v,H1,I1,r1,O1,x,S1,hb,st1,ok1,rep1⟩:=hq_
 refine thn (hb pins s1 σ H1 O1 I1 (env.mono st1) ok1) λ u' s2 hq_=>?_
 obtain⟨w,H2,I2,r2,O2,y,S2,hw,st2,ok2,rep2⟩:=hq_
 exact thn (hw pins s2 σ H2 O2 v w u u' I2 ok2 (rep1.mono st2) rep2 r1 r2) λ _ _ q=>dW (st1.trans st2) q
abbrev asB(W:Bool->Store->Prop):WD:=λ d S=>∃c,d=.bl c/\W c S
theorem Sw{op:CmpOp}{W:Bool->Store->Prop}(h:Ev X Γ S a λ x S1=>Ev X Γ S1 b λ y S2=>bK X op x y S2 (asB W))(hm:behindInMarks op b=false:=by first | exact nomark _ | (with_unfolding_all rfl)):Ts X Γ S (.Compare a [op] [b] pos) W:=by
 intro pins s σ H O I env st
 refine wpAny_isTrue_Compare1 (thn (h pins s σ H O I env st) λ u s1 hq_=>?_) hm
 obtain⟨v,H1,I1,r1,O1,x,S1,hb,st1,ok1,rep1⟩:=hq_
 refine thn (hb pins s1 σ H1 O1 I1 (env.mono st1) ok1) λ u' s2 hq_=>?_
 obtain⟨w,H2,I2,r2,O2,y,S2,hw,st2,ok2,rep2⟩:=hq_
 refine thn (hw pins s2 σ H2 O2 v w u u' I2 ok2 (rep1.mono st2) rep2 r1 r2) λ _ _ hq_=>?_
 obtain⟨z,H3,I3,r3,O3,d,S3,⟨c,hd,wc⟩,st3,ok3,rep3⟩:=hq_
 subst hd
 cases rep3
 cases r3
 exact wpAny_truthy_bool ⟨H3,I3,O3,S3,wc,(st1.trans st2).trans st3,ok3⟩
theorem Rw{W:Bool->Store->Prop}(h:Ev X Γ S e (asB W))(he:∀whole,isTrue e X.env whole=(do let v ←whole;standAt e.pos;holding [v] (truthy v)):=by intro _;rfl):Ts X Γ S e W:=by
 intro pins s σ H O I env st
 refine isTrue_plain (thn (h pins s σ H O I env st) λ _ _ hq_=>?_) (he _)
 obtain⟨z,H3,I3,r3,O3,d,S3,⟨c,hd,wc⟩,st3,ok3,rep3⟩:=hq_
 subst hd
 cases rep3
 cases r3
 exact wpAny_truthy_bool ⟨H3,I3,O3,S3,wc,st3,ok3⟩
theorem TsW.ts{W:Bool->Store->Prop}(h:TsW X Γ S e W):Ts X Γ S e W:=λ pins s σ H O I env st=>h _ pins s σ H O I env st
theorem tw_and1{W:Bool->Store->Prop}(h:Ts X Γ S a W):TsW X Γ S (.BoolOp .And [a] pos) W:=by
 intro wh pins s σ H O I env st
 refine isTrue_and (thn (h pins s σ H O I env st) λ c s1 e=>?_)
 cases c with
 | true=>exact isTrue_and_nil e
 | false=>exact e
theorem tw_or1{W:Bool->Store->Prop}(h:Ts X Γ S a W):TsW X Γ S (.BoolOp .Or [a] pos) W:=by
 intro wh pins s σ H O I env st
 refine isTrue_or (thn (h pins s σ H O I env st) λ c s1 e=>?_)
 cases c with
 | false=>exact isTrue_or_nil e
 | true=>exact e
theorem tw_and{W:Bool->Store->Prop}(h:Ts X Γ S a λ c S1=>(c=true->TsW X Γ S1 (.BoolOp .And (b::rest) pos) W)/\(c=false->W false S1)):TsW X Γ S (.BoolOp .And (a::b::rest) pos) W:=by
 intro wh pins s σ H O I env st
 refine isTrue_and (thn (h pins s σ H O I env st) λ c s1 hq_=>?_)
 obtain⟨H1,I1,O1,S1,w1,st1,ok1⟩:=hq_
 cases c with
 | true=>exact thn (w1.1 rfl wh pins s1 σ H1 O1 I1 (env.mono st1) ok1) λ _ _ q=>Mt st1 q
 | false=>exact⟨H1,I1,O1,S1,w1.2 rfl,st1,ok1⟩
theorem tw_or{W:Bool->Store->Prop}(h:Ts X Γ S a λ c S1=>(c=true->W true S1)/\(c=false->TsW X Γ S1 (.BoolOp .Or (b::rest) pos) W)):TsW X Γ S (.BoolOp .Or (a::b::rest) pos) W:=by
 intro wh pins s σ H O I env st
 refine isTrue_or (thn (h pins s σ H O I env st) λ c s1 hq_=>?_)
 obtain⟨H1,I1,O1,S1,w1,st1,ok1⟩:=hq_
 cases c with
 | false=>exact thn (w1.2 rfl wh pins s1 σ H1 O1 I1 (env.mono st1) ok1) λ _ _ q=>Mt st1 q
 | true=>exact⟨H1,I1,O1,S1,w1.1 rfl,st1,ok1⟩
theorem QJ{W:Bool->Store->Prop}(h:Ts X Γ S a λ c S1=>W (!c) S1):Ts X Γ S (.UnaryOp .Not a pos) W:=by
 intro pins s σ H O I env st
 exact isTrue_not (thn (h pins s σ H O I env st) λ c s1 ⟨H1,I1,O1,S1,w1,st1,ok1⟩=>⟨H1,I1,O1,S1,w1,st1,ok1⟩)
theorem Hr{op}(h:Ev X Γ S a W):Ev X Γ S (.BoolOp op [a] pos) W:=λ pins s σ H O I env st=>BoolOp_one (h pins s σ H O I env st)
theorem Qp(h:Ev X Γ S a λ x S1=>∃c,x=.bl c/\(c=true->Ev X Γ S1 (.BoolOp .And (b::rest) pos) W)/\(c=false->W (.bl false) S1)):Ev X Γ S (.BoolOp .And (a::b::rest) pos) W:=by
 intro pins s σ H O I env st
 refine BoolOp_and (thn (h pins s σ H O I env st) λ u s1 hq_=>?_)
 obtain⟨v,H1,I1,r1,O1,x,S1,⟨c,hx,h1,h2⟩,st1,ok1,rep1⟩:=hq_
 subst hx
 cases rep1
 cases r1
 refine wpAny_truthy_bool ?_
 cases c with
 | true=>exact thn (h1 rfl pins s1 σ H1 O1 I1 (env.mono st1) ok1) λ _ _ q=>dW st1 q
 | false=>exact⟨.bl false,H1,I1,rfl,O1,.bl false,S1,h2 rfl,st1,ok1,.bl false⟩
theorem Us(h:Ev X Γ S a λ x S1=>∃c,x=.bl c/\(c=true->W (.bl true) S1)/\(c=false->Ev X Γ S1 (.BoolOp .Or (b::rest) pos) W)):Ev X Γ S (.BoolOp .Or (a::b::rest) pos) W:=by
 intro pins s σ H O I env st
 refine BoolOp_or (thn (h pins s σ H O I env st) λ u s1 hq_=>?_)
 obtain⟨v,H1,I1,r1,O1,x,S1,⟨c,hx,h1,h2⟩,st1,ok1,rep1⟩:=hq_
 subst hx
 cases rep1
 cases r1
 refine wpAny_truthy_bool ?_
 cases c with
 | false=>exact thn (h2 rfl pins s1 σ H1 O1 I1 (env.mono st1) ok1) λ _ _ q=>dW st1 q
 | true=>exact⟨.bl true,H1,I1,rfl,O1,.bl true,S1,h1 rfl,st1,ok1,.bl true⟩
theorem Qj(h:Ev X Γ S a λ x S1=>∃c,x=.bl c/\W (.bl (!c)) S1):Ev X Γ S (.UnaryOp .Not a pos) W:=by
 intro pins s σ H O I env st
 refine UnaryOp_ (thn (h pins s σ H O I env st) λ u s1 hq_=>?_)
 obtain⟨v,H1,I1,r1,O1,x,S1,⟨c,hx,h1⟩,st1,ok1,rep1⟩:=hq_
 subst hx
 cases rep1
 cases r1
 exact not_of (wpAny_truthy_bool ⟨.bl (!c),H1,I1,rfl,O1,.bl (!c),S1,h1,st1,ok1,.bl (!c)⟩)
theorem Rh(h:Ev X Γ S a λ x S1=>∃i,x=.int i/\W (.int (-i)) S1):Ev X Γ S (.UnaryOp .USub a pos) W:=by
 intro pins s σ H O I env st
 refine UnaryOp_ (thn (h pins s σ H O I env st) λ u s1 hq_=>?_)
 obtain⟨v,H1,I1,r1,O1,x,S1,⟨c,hx,h1⟩,st1,ok1,rep1⟩:=hq_
 subst hx
 cases rep1
 exact Ss pins s1 σ H1 _ _ _ I1 r1 ⟨c,rfl,O1,.int (-c),S1,h1,st1,ok1,.int (-c)⟩
theorem Lj{c:Expr}{op op':CmpOp}(h:Ev X Γ S a λ x S1=>Ev X Γ S1 b λ y S2=>bK X op x y S2 λ z S3=>∃k,z=.bl k/\(k=false->W (.bl false) S3)/\(k=true->Ev X Γ S3 c λ t S4=>bK X op' y t S4 W))
 (hm:lastMarks [op,op'] [b,c]=false:=by with_unfolding_all rfl):Ev X Γ S (.Compare a [op,op'] [b,c] pos) W:=by
 intro pins s σ H O I env st
 refine Compare_chain (thn (h pins s σ H O I env st) λ u s1 hq_=>?_) hm
 obtain⟨v,H1,I1,r1,O1,x,S1,hb,st1,ok1,rep1⟩:=hq_
 refine chain_link (thn (hb pins s1 σ H1 O1 I1 (env.mono st1) ok1) λ u' s2 hq_=>?_)
 obtain⟨w,H2,I2,r2,O2,y,S2,hw,st2,ok2,rep2⟩:=hq_
 refine thn (hw pins s2 σ H2 O2 v w u u' I2 ok2 (rep1.mono st2) rep2 r1 r2) λ _ s3 hq_=>?_
 obtain⟨z,H3,I3,r3,O3,d,S3,⟨k,hd,k1,k2⟩,st3,ok3,rep3⟩:=hq_
 subst hd
 cases rep3
 cases r3
 refine wpAny_truthy_bool ?_
 cases k with
 | false=>exact ite_ff ⟨.bl false,H3,I3,rfl,O3,.bl false,S3,k1 rfl,(st1.trans st2).trans st3,ok3,.bl false⟩
 | true=>
   refine ite_tt (chain_last (thn (k2 rfl pins s3 σ H3 O3 I3 (((env.mono st1).mono st2).mono st3) ok3) λ u4 s4 hq_=>?_))
   obtain⟨w4,H4,I4,r4,O4,t,S4,h4,st4,ok4,rep4⟩:=hq_
   exact thn (h4 pins s4 σ H4 O4 w w4 u' u4 I4 ok4 ((rep2.mono st3).mono st4) rep4 r2 r4) λ _ _ q=>dW (((st1.trans st2).trans st3).trans st4) q
theorem rG{W:List D->Store->Prop}(w:W [] S):EvA X Γ S [] W:=λ _ pins s σ H O I _ st=>Calls.spliced_nil ⟨[],H,I,.nil,O,[],S,w,Step.refl O H,st,.nil⟩
theorem gG{W:List D->Store->Prop}(h:Ev X Γ S e λ d S1=>EvA X Γ S1 es λ ds S2=>W (d::ds) S2)(hs:starEach (e::es) X.env=(false,eval e X.env)::starEach es X.env:=by rfl):EvA X Γ S (e::es) W:=by
 intro pos pins s σ H O I env st
 rw[hs]
 show wpAny _ _ (spliced ((false,eval e X.env)::backTo pos (starEach es X.env))) _ _ s
 refine Calls.spliced_cons (thn (h pins s σ H O I env st) λ u s1 hq_=>?_)
 obtain⟨v,H1,I1,r1,O1,x,S1,hb,st1,ok1,rep1⟩:=hq_
 exact thn (hb pos pins s1 σ H1 O1 I1 (env.mono st1) ok1) λ us s2 hq_=>by obtain⟨xs,H2,I2,r2,O2,ds,S2,w,st2,ok2,rep2⟩:=hq_;exact⟨v::xs,H2,I2,.cons r1 r2,O2,x::ds,S2,w,st1.trans st2,ok2,.cons (rep1.mono st2) rep2⟩
theorem small{n:Nat}(h:n≤1000000):n≤sizeLine:=Nat.le_trans h (by decide)
theorem Q3(st:StOk K O H S)(h:H p=none):Tp K O (upd H p (.tup xs)) p xs:=⟨st.fresh_not h,bh⟩
theorem Qc(st:StOk K O H S)(h:H p=none):Ls K O (upd H p (.lst xs)) p xs:=.inl ⟨st.fresh_not h,.inl bh⟩
theorem jg(w:W (.tup ds) S)(st:StOk K O H S)(h:H p=none)(r:Reps K O H xs ds):QG K O H W (.ref p) (upd H p (.tup xs)):=
 ⟨O,.tup ds,S,w,Step.fresh h _,st.fresh h _,.tup (Q3 st h) (r.mono (Step.fresh h _))⟩
theorem gA(w:W (.lst ds) S)(st:StOk K O H S)(h:H p=none)(r:Reps K O H xs ds):QG K O H W (.ref p) (upd H p (.lst xs)):=
 ⟨O,.lst ds,S,w,Step.fresh h _,st.fresh h _,.lst (Qc st h) (r.mono (Step.fresh h _))⟩
theorem Jh(w:W (.loc S.length) (S++[ds]))(st:StOk K O H S)(h:H p=none)(r:Reps K O H xs ds):QG K O H W (.ref p) (upd H p (.lst xs)):=
 ⟨O.more p,.loc S.length,S++[ds],w,Step.own h _,st.own h r,.loc (by show(O.A++[(p,false)])[S.length]? =some (p,false);rw[←st.len];simp)⟩
theorem Ro{x1}(h:EvA X Γ S es λ ds S1=>ds.length≤1000000/\W (.tup ds) S1):Ev X Γ S (.Tuple es x1 pos) W:=by
 intro pins s σ H O I env st
 refine wpAny_Tuple_spliced (thn (h pos pins s σ H O I env st) λ us s1 hq_=>?_)
 obtain⟨xs,H1,I1,r,O1,ds,S1,⟨z,w⟩,st1,ok1,rep⟩:=hq_
 refine⟨by rw[←r.length,rep.length];exact small z,?_⟩
 have hf:H1 s1.heap.objs.size=none:=I1.hok.fresh (y9 _)
 refine⟨.ref s1.heap.objs.size,upd H1 s1.heap.objs.size (.tup xs),I1.laid (t':=s1.toks) (λ b u e=>Heap.get?_push_of_some _ e) (y9 _) ?_,rfl,(jg w ok1 hf rep).pre st1⟩
 exact⟨by rw[rep.length];exact small z,us,r,⟨_,Heap.get?_push_size _ rfl,rfl,_,rfl⟩⟩
theorem Q0(h:EvA X Γ S es λ ds S1=>ds.length≤1000000/\W (.lst ds) S1):Ev X Γ S (.List es pos) W:=by
 intro pins s σ H O I env st
 refine wpAny_List_spliced (thn (h pos pins s σ H O I env st) λ us s1 hq_=>?_)
 obtain⟨xs,H1,I1,r,O1,ds,S1,⟨z,w⟩,st1,ok1,rep⟩:=hq_
 refine⟨by rw[←r.length,rep.length];exact small z,?_⟩
 have hf:H1 s1.heap.objs.size=none:=I1.hok.fresh (y9 _)
 refine⟨.ref s1.heap.objs.size,upd H1 s1.heap.objs.size (.lst xs),I1.laid (t':=s1.toks) (λ b u e=>Heap.get?_push_of_some _ e) (y9 _) ?_,rfl,(gA w ok1 hf rep).pre st1⟩
 exact⟨by rw[rep.length];exact small z,us,0,r,Heap.get?_push_size _ rfl⟩
theorem PX(h:EvA X Γ S es λ ds S1=>ds.length≤1000000/\W (.loc S1.length) (S1++[ds])):Ev X Γ S (.List es pos) W:=by
 intro pins s σ H O I env st
 refine wpAny_List_spliced (thn (h pos pins s σ H O I env st) λ us s1 hq_=>?_)
 obtain⟨xs,H1,I1,r,O1,ds,S1,⟨z,w⟩,st1,ok1,rep⟩:=hq_
 refine⟨by rw[←r.length,rep.length];exact small z,?_⟩
 have hf:H1 s1.heap.objs.size=none:=I1.hok.fresh (y9 _)
 refine⟨.ref s1.heap.objs.size,upd H1 s1.heap.objs.size (.lst xs),I1.laid (t':=s1.toks) (λ b u e=>Heap.get?_push_of_some _ e) (y9 _) ?_,rfl,(Jh w ok1 hf rep).pre st1⟩
 exact⟨by rw[rep.length];exact small z,us,0,r,Heap.get?_push_size _ rfl⟩
theorem ju{op:Operator}{C:Int->Int->Prop}{g:Int->Int->Int}(ho:OpR X (binaryOp op) (rI C λ i j=>.int (g i j))){i j:Int}(c:C i j)(w:W (.int (g i j)) S):du X op (.int i) (.int j) S W:=
 dX ho λ O H v w' st r1 r2=>by cases r1;cases r2;exact⟨i,j,rfl,rfl,c,QG.here w st (.int _)⟩
theorem yW{op:Operator}{g:Int->Int->Int}(ho:OpR X (binaryOp op) (rI0 λ i j=>.int (g i j))){i j:Int}(w:W (.int (g i j)) S):du X op (.int i) (.int j) S W:=
 dX ho λ O H v w' st r1 r2=>by cases r1;cases r2;exact⟨i,j,rfl,rfl,QG.here w st (.int _)⟩
theorem TX(w:W (.int (i+j)) S):du X .Add (.int i) (.int j) S W:=yW RT w
theorem Ud(w:W (.int (i-j)) S):du X .Sub (.int i) (.int j) S W:=yW R6 w
theorem Uo(c:CMul i j)(w:W (.int (i*j)) S):du X .Mult (.int i) (.int j) S W:=ju Q4 c w
theorem Um(c:0<j)(w:W (.int (i % j)) S):du X .Mod (.int i) (.int j) S W:=ju Rp c w
theorem Qk(c:0<j/\j<1073741824)(w:W (.int (i/j)) S):du X .FloorDiv (.int i) (.int j) S W:=ju Oi c w
theorem TQ(c:CPow i j)(w:W (.int (i ^ j.toNat)) S):du X .Pow (.int i) (.int j) S W:=ju Ry c w
theorem m5{op:CmpOp}{g:Int->Int->Bool}(ho:OpR X (compareOp op) (rI0 λ i j=>.bl (g i j))){i j:Int}(w:W (.bl (g i j)) S):bK X op (.int i) (.int j) S W:=
 dX ho λ O H v w' st r1 r2=>by cases r1;cases r2;exact⟨i,j,rfl,rfl,QG.here w st (.bl _)⟩
theorem Vd(w:W (.bl (decide (i<j))) S):bK X .Lt (.int i) (.int j) S W:=m5 Tc w
theorem U4(w:W (.bl (decide (i≤j))) S):bK X .LtE (.int i) (.int j) S W:=m5 Sy w
theorem Vg(w:W (.bl (decide (j<i))) S):bK X .Gt (.int i) (.int j) S W:=m5 Tf w
theorem Ve(w:W (.bl (decide (j≤i))) S):bK X .GtE (.int i) (.int j) S W:=m5 Uw w
theorem Sx(w:W (.bl (decide (i=j))) S):bK X .Eq (.int i) (.int j) S W:=
 dX Mx λ O H v w' st r1 r2=>by
  cases r1;cases r2
  have e:decide (V.int i=V.int j)=decide (i=j):=by rw[nA];exact(Bool.beq_eq_decide_eq i j)
  exact⟨rfl,by rw[e];exact QG.here w st (.bl _)⟩
theorem Th(w:W (.bl (!decide (i=j))) S):bK X .NotEq (.int i) (.int j) S W:=
 dX Mm λ O H v w' st r1 r2=>by
  cases r1;cases r2
  have e:decide (V.int i=V.int j)=decide (i=j):=by rw[nA];exact(Bool.beq_eq_decide_eq i j)
  exact⟨rfl,by rw[e];exact QG.here w st (.bl _)⟩
theorem Tj{i j:Bool}(w:W (.bl (i==j)) S):bK X .Eq (.bl i) (.bl j) S W:=
 dX Mx λ O H v w' st r1 r2=>by
  cases r1;cases r2
  exact⟨rfl,by rw[qH];exact QG.here w st (.bl _)⟩
theorem SM{i j:Bool}(w:W (.bl (!(i==j))) S):bK X .NotEq (.bl i) (.bl j) S W:=
 dX Mm λ O H v w' st r1 r2=>by
  cases r1;cases r2
  exact⟨rfl,by rw[qH];exact QG.here w st (.bl _)⟩
theorem Ua(w:W (.bl (match x with | .non=>true | _=>false)) S):bK X .Is x .non S W:=
 dX QK λ O H v w' st r1 r2=>by
  cases r2
  refine⟨rfl,?_⟩
  cases r1<;>exact QG.here w st (.bl _)
theorem M9(w:W (.bl (match x with | .non=>false | _=>true)) S):bK X .IsNot x .non S W:=
 dX NB λ O H v w' st r1 r2=>by
  cases r2
  refine⟨rfl,?_⟩
  cases r1<;>exact QG.here w st (.bl _)
theorem RJ{es:List D}(hz:ds.length+es.length≤1000000)(w:W (.tup (ds++es)) S):du X .Add (.tup ds) (.tup es) S W:=by
 intro pins s σ H O v w' u u' I st r1 r2 r3 r4
 cases r1 with
 | @tup a xs _ h1 q1=>
   cases r2 with
   | @tup b ys _ h2 q2=>
     by_cases hx:xs=[]
     . subst hx
       have e:ds=[]:=by have:=q1.length;simpa using this.symm
       subst e
       cases r3
       cases r4
       obtain⟨its,v1,p1,_⟩:=I.tuple h1.sq
       obtain⟨its2,v2,p2,_⟩:=I.tuple h2.sq
       cases v1
       obtain⟨⟨cls,dd,data,sl⟩,ho,hc,n,hd⟩:=id p1
       obtain⟨⟨cls2,dd2,data2,sl2⟩,ho2,hc2,n2,hd2⟩:=id p2
       simp only at hc hd hc2 hd2
       subst hc hd hc2 hd2
       exact concat_meets ⟨_,ho,rfl⟩ ⟨_,ho2,rfl⟩ noFill_tuple_add seq_tuple_add PySem.F.slot_tuple_add PySem.F.entry_tuple_add (PySem.F.args_tuple_add_2 _ _)
        (tuple_addW0 a b ([]:List Value).toArray its2.toArray n n2 dd dd2 sl sl2 rfl) ⟨ho,ho2,⟨.ref b,H,I,rfl,QG.here w st (.tup h2 q2)⟩⟩
     . refine Nt pins s σ H _ _ u u' _ I r3 r4 ⟨a,b,xs,ys,rfl,rfl,h1.sq,h2.sq,hx,by rw[q1.length,q2.length];exact small hz,λ e=>?_,λ _ p hp=>jg w st hp (q1.append q2)⟩
       subst e
       have e:es=[]:=by have:=q2.length;simpa using this.symm
       subst e
       rw[List.append_nil]at w
       exact QG.here w st (.tup h1 q1)
theorem Q6{es:List D}(hz:ds.length+es.length≤1000000)(w:W (.lst (ds++es)) S):du X .Add (.lst ds) (.lst es) S W:=by
 intro pins s σ H O v w' u u' I st r1 r2 r3 r4
 cases r1 with
 | @lst a xs _ h1 q1=>
   cases r2 with
   | @lst b ys _ h2 q2=>
     cases r3
     cases r4
     obtain⟨its,v1,p1,_⟩:=I.list h1.sq
     obtain⟨its2,v2,p2,_⟩:=I.list h2.sq
     obtain⟨⟨cls,dd,data,sl⟩,n,ho,hc,hdd,hd⟩:=id p1
     obtain⟨⟨cls2,dd2,data2,sl2⟩,n2,ho2,hc2,hdd2,hd2⟩:=id p2
     simp only at hc hd hc2 hd2
     subst hc hd hc2 hd2
     have z:its.length+its2.length≤sizeLine:=by rw[←v1.length,←v2.length,q1.length,q2.length];exact small hz
     refine concat_meets ⟨_,ho,rfl⟩ ⟨_,ho2,rfl⟩ noFill_list_add seq_list_add PySem.F.slot_list_add PySem.F.entry_list_add (PySem.F.args_list_add_2 _ _)
      (list_addW a b its.toArray its2.toArray n n2 dd dd2 sl sl2 (by simpa using z)) ⟨ho,ho2,?_⟩
     have ea:its.toArray++its2.toArray=(its++its2).toArray:=by simp
     rw[ea]
     refine⟨.ref s.heap.objs.size,_,I.lnew (t':=s.toks) (v1.append v2) (by rw[x8,q1.length,q2.length];exact small hz),rfl,gA w st I.fresh (q1.append q2)⟩
end
end DL
namespace DL
open PySem PySem.Spec L2
open PyProof.Rows
variable {K : PySem.W.Frag} {O : Own} {H : Hp} {xs : List V} {ds : List D} {i : Int} {d : D} {k : Nat} {x : Str} {p : Pos}
section
variable {X : Cx} {Γ : Gam} {S : Store} {W : WD} {a b e : Expr} {es : List Expr} {pos : Pos}
def IxW(X:Cx)(a b:Expr)(x y:D)(S:Store)(W:WD):Prop:=
 ∀ (pins:Pins)(s:Shared)(σ:St)(H:Hp)(O:Own)(v w:V)(u u':Value),Inv X pins σ H s->StOk X.K O H S->Rep X.K O H v x->Rep X.K O H w y->RelV v u->RelV w u'->
   subscripted b false u u'=operate [u,u'] (getItem u u')->wpAny (model X.prog X.w) X.A (subscriptTail a b u u') (EP X pins σ (QG X.K O H W)) X.xe s
theorem TJ(h:Ev X Γ S a λ x S1=>Ev X Γ S1 b λ y S2=>IxW X a b x y S2 W)(hs:BL b:=by intro _ _;rfl):Ev X Γ S (.Subscript a b pos) W:=by
 intro pins s σ H O I env st
 refine Subscript_ (thn (h pins s σ H O I env st) λ u s1 hq_=>?_)
 obtain⟨v,H1,I1,r1,O1,x,S1,hb,st1,ok1,rep1⟩:=hq_
 refine thn (hb pins s1 σ H1 O1 I1 (env.mono st1) ok1) λ u' s2 hq_=>?_
 obtain⟨w,H2,I2,r2,O2,y,S2,hw,st2,ok2,rep2⟩:=hq_
 exact thn (hw pins s2 σ H2 O2 v w u u' I2 ok2 (rep1.mono st2) rep2 r1 r2 (hs _ _)) λ _ _ q=>dW (st1.trans st2) q
theorem rE(r:Reps K O H xs ds)(h:atI ds i=some d):∃v,atI xs i=some v/\Rep K O H v d:=by
 unfold atI at h ⊢
 rw[r.length]
 cases e:ixN ds.length i with
 | none=>rw[e]at h;cases h
 | some j=>
   rw[e]at h
   exact r.get (i:=j) h
theorem SX(h:atI ds i=some d)(w:W d S):IxW X a b (.tup ds) (.int i) S W:=by
 intro pins s σ H O v w' u u' I st r1 r2 r3 r4 hs
 cases r2
 cases r1 with
 | @tup p xs _ h1 q1=>
   obtain⟨z,hz,rz⟩:=rE q1 h
   exact Rb a b pins s σ H _ _ u u' _ I r3 r4 ⟨p,xs,i,z,rfl,rfl,h1.sq,hz,QG.here w st rz⟩ hs
theorem Tw(h:atI ds i=some d)(w:W d S):IxW X a b (.lst ds) (.int i) S W:=by
 intro pins s σ H O v w' u u' I st r1 r2 r3 r4 hs
 cases r2
 cases r1 with
 | @lst p xs _ h1 q1=>
   obtain⟨z,hz,rz⟩:=rE q1 h
   exact Bm a b pins s σ H _ _ u u' _ I r3 r4 ⟨p,xs,i,z,rfl,rfl,h1.sq,hz,QG.here w st rz⟩ hs
theorem Tu(hk:S[k]? =some ds)(h:atI ds i=some d)(w:W d S):IxW X a b (.loc k) (.int i) S W:=by
 intro pins s σ H O v w' u u' I st r1 r2 r3 r4 hs
 cases r2
 cases r1 with
 | @loc p _ h1=>
   obtain⟨xs,hx,q1⟩:=st.obj k p ds h1 hk
   obtain⟨z,hz,rz⟩:=rE q1 h
   exact Bm a b pins s σ H _ _ u u' _ I r3 r4 ⟨p,xs,i,z,rfl,rfl,SqL.of hx,hz,QG.here w st rz⟩ hs
def PoD(X:Cx)(Γ:Gam)(S:Store)(o:Option Expr)(W:Option Int->Store->Prop):Prop:=match o with
 | none=>W none S
 | some e=>Ev X Γ S e λ d S1=>∃i,d=.int i/\W (some i) S1
def SlW(X:Cx)(x:D)(lo hi:Option Int)(S:Store)(W:WD):Prop:=
 ∀ (pins:Pins)(s:Shared)(σ:St)(H:Hp)(O:Own)(v:V)(u vl vu:Value)(sl:Addr),Inv X pins σ H s->StOk X.K O H S->Rep X.K O H v x->RelV v u->s.heap.IsSliceOf sl vl vu .none->IsPart vl lo->IsPart vu hi->
   ∃T id,typeLookup (.type T) "__getitem__"=pure (some (.builtin id))/\s.TypeIs u T/\wpAny (model X.prog X.w) X.A (getItem u (.ref sl)) (EP X pins σ (QG X.K O H W)) X.xe s
theorem IK{W:Option Int->Store->Prop}{o:Option Expr}(h:PoD X Γ S o W){pins:Pins}{s:Shared}{σ:St}{H:Hp}{O:Own}(I:Inv X pins σ H s)(env:EnvOk X.K O H σ Γ)(st:StOk X.K O H S):
 wpAny (model X.prog X.w) X.A (evalPart o X.env) (λ u s'=>∃p H' O' S',Inv X pins σ H' s'/\IsPart u p/\W p S'/\Step O O' H H'/\StOk X.K O' H' S') X.xe s:=by
 cases o with
 | none=>
   rw[evalPart_none]
   exact wpAny_pure ⟨none,H,O,S,I,.none,h,Step.refl O H,st⟩
 | some e=>
   rw[evalPart_some]
   refine thn (h pins s σ H O I env st) λ u s1 hq_=>?_
   obtain⟨v,H1,I1,r1,O1,x,S1,⟨i,hx,w⟩,st1,ok1,rep1⟩:=hq_
   subst hx
   cases rep1
   obtain⟨t,rfl⟩:=r1
   exact⟨some i,H1,O1,S1,I1,.int i t,w,st1,ok1⟩
theorem J3{lo hi:Option Expr}{p2:Pos}(h:Ev X Γ S e λ x S1=>PoD X Γ S1 lo λ l S2=>PoD X Γ S2 hi λ r S3=>SlW X x l r S3 W):Ev X Γ S (.Subscript e (.Slice lo hi none p2) pos) W:=by
 intro pins s σ H O I env st
 refine Subscript_ (thn (h pins s σ H O I env st) λ v s1 hq_=>?_)
 obtain⟨y,H1,I1,r1,O1,x,S1,hb,st1,ok1,rep1⟩:=hq_
 refine wpAny_Slice (thn (IK hb I1 (env.mono st1) ok1) λ vl s2 hq_=>?_)
 obtain⟨l,H2,O2,S2,I2,pl,hc,st2,ok2⟩:=hq_
 refine thn (IK hc I2 ((env.mono st1).mono st2) ok2) λ vu s3 hq_=>?_
 obtain⟨r,H3,O3,S3,I3,pu,hd,st3,ok3⟩:=hq_
 rw[evalPart_none]
 refine wpAny_pure ?_
 have I4:Inv X pins σ H3 {s3 with heap:=s3.heap.push {cls:=.type "slice",data:=.fields #[vl,vu,.none]}}:=I3.kept (t':=s3.toks) λ b ob q=>Heap.get?_push_of_some _ q
 obtain⟨T,id,hT,ht,hg⟩:=hd pins {s3 with heap:=s3.heap.push {cls:=.type "slice",data:=.fields #[vl,vu,.none]}} σ H3 O3 y v vl vu s3.heap.objs.size I4 ok3 ((rep1.mono st2).mono st3) r1 (Heap.IsSliceOf.new ..) pl pu
 show wpAny (model X.prog X.w) X.A (subscriptTail e (.Slice lo hi none p2) v (.ref s3.heap.objs.size)) _ X.xe {s3 with heap:=s3.heap.push {cls:=.type "slice",data:=.fields #[vl,vu,.none]}}
 exact tail_any (ops:=[.ref s3.heap.objs.size,v]) ht hT (thn hg λ _ _ q=>dW ((st1.trans st2).trans st3) q) (by with_unfolding_all rfl)
def cutD(ds:List D)(lo hi:Option Int):List D:=(ds.drop (HT.sIx ds.length 0 lo)).take (HT.sIx ds.length ds.length hi-HT.sIx ds.length 0 lo)
theorem rm(r:Reps K O H xs ds)(lo hi:Option Int):Reps K O H (lB xs lo hi) (cutD ds lo hi):=by
 unfold lB cutD
 rw[r.length]
 exact(r.drop _).take _
theorem zZ{prog:Program}{w:World}{A:Around}{E:Value->Shared->Prop}{s:Shared}{t sl:Addr}{items:Array Value}{vl vu:Value}{lo hi:Option Int}{Q:Value->Shared->Prop}(ht:IsTup s.heap t items)(hs:s.heap.IsSliceOf sl vl vu .none)(pl:IsPart vl lo)(pu:IsPart vu hi)
 (h0:HT.sIx items.size 0 lo=0)(h1:HT.sIx items.size items.size hi=items.size)(h:Q (.ref t) s):wpAny (model prog w) A (getItem (.ref t) (.ref sl)) Q E s:=by
 obtain⟨os,hos,hcs,hds⟩:=id hs
 have isS:s.TypeIs (.ref sl) "slice":=⟨os,hos,hcs⟩
 unfold getItem
 try with_reducible refine wpAny_holding ?_
 first | refine wpAny_bind (wpAny_pure ?_) | skip
 refine wpAny_bind (wpAny_sequenceKey ht.typeIs (by decide) ?_)
 refine wpAny_bind (wpAny_callSpecial?_slot (name:=Str.ofString "__getitem__") ht.typeIs PyProof.Rows.slot_tuple_getitem
  (wpAny_call_entry PyProof.Rows.slot_tuple_getitem ht.typeIs entry_tuple_getitem ?_ (args_tuple_getitem _ _)))
 show wpAny _ _ (Builtin.Tuple.tupleItemsOf (.ref t)>>=_) _ _ s
 refine wpAny_bind (tupleItemsOf_ ht (wpAny_bind (wpAny_typeOf isS ?_)))
 rw[if_pos (by decide)]
 refine wpAny_bind (HT.sliceApplied_gen hs pl pu ?_)
 rw[h0,h1]
 show wpAny _ _ (if(((0:Nat):Int)==0&&(1:Int)==1&&(items.size-0)==items.size)=true then _ else _) _ _ s
 rw[if_pos (by simp)]
 unfold Builtin.Tuple.tupleIsExact
 first
  | exact wpAny_bind (wpAny_bind (wpAny_typeOf ht.typeIs (wpAny_pure (by rw[if_pos (by decide)];exact wpAny_bind (wpAny_rule (wpAny_pure ⟨_,rfl,wpAny_pure h⟩))))))
  | (refine wpAny_bind (wpAny_bind (wpAny_typeOf ht.typeIs (wpAny_pure ?_)))
     simp only[beq_self_eq_true,if_true]
     exact wpAny_bind (wpAny_rule (wpAny_pure ⟨_,rfl,wpAny_pure h⟩)))
theorem Uy{lo hi:Option Int}(w:W (.tup (cutD ds lo hi)) S):SlW X (.tup ds) lo hi S W:=by
 intro pins s σ H O v u vl vu sl I st r1 r3 hs pl pu
 cases r1 with
 | @tup p xs _ h1 q1=>
   by_cases hw:HT.sIx xs.length 0 lo=0/\HT.sIx xs.length xs.length hi=xs.length
   . cases r3
     obtain⟨its,r,ht,hz⟩:=I.tuple h1.sq
     have hlen:its.toArray.size=xs.length:=by rw[x5];exact r.length.symm
     refine⟨"tuple",_,PyProof.Rows.slot_tuple_getitem.lookup,ht.typeIs,zZ ht hs pl pu (by rw[hlen];exact hw.1) (by rw[hlen];exact hw.2) ⟨.ref p,H,I,rfl,?_⟩⟩
     have e:cutD ds lo hi=ds:=by
      unfold cutD
      rw[←q1.length,hw.1,hw.2,List.drop_zero,List.take_of_length_le (by rw[←q1.length];omega)]
     rw[e]at w
     exact QG.here w st (.tup h1 q1)
   . exact Rr pins s σ H _ u vl vu lo hi sl _ I r3 hs pl pu ⟨p,xs,rfl,h1.sq,hw,λ p' hp=>jg w st hp (rm q1 lo hi)⟩
theorem T4{lo hi:Option Int}(w:W (.lst (cutD ds lo hi)) S):SlW X (.lst ds) lo hi S W:=by
 intro pins s σ H O v u vl vu sl I st r1 r3 hs pl pu
 cases r1 with
 | @lst p xs _ h1 q1=>exact Cz pins s σ H _ u vl vu lo hi sl _ I r3 hs pl pu ⟨p,xs,rfl,h1.sq,λ p' hp=>gA w st hp (rm q1 lo hi)⟩
theorem Kf{id:String}(h:EvA X Γ S (e::es) λ ds S1=>eX X (.builtin id) ds S1 W)(hm:X.mg x=none)(hv:bootBuiltins x=some (.builtin id))(hg:Gl X x:=by rfl)(hn:x≠"__name__":=by decide)(hdb:(x==("__debug__":Str))=false:=by decide)
 (he:starEach (e::es) X.env=(false,eval e X.env)::starEach es X.env:=by rfl)(hpl:(backTo pos (starEach es X.env)).any (·.1)=false:=by rfl):Ev X Γ S (.Call (.Name x p) (e::es) [] pos) W:=by
 intro pins s σ H O I env st
 refine wpAny_Call_Name_kw (cO I hg hm hv ?_ hn hdb)
 exact PyProof.Rows.callWith_builtin1 (thn (h pos pins s σ H O I env st) λ us s1 hq_=>by obtain⟨vs,H1,I1,r1,O1,ds,S1,w,st1,ok1,rep⟩:=hq_;exact thn (w pins s1 σ H1 O1 vs us I1 ok1 rep r1) λ _ _ q=>dW st1 q) he hpl
theorem Lx{T:String}(h:EvA X Γ S (e::es) λ ds S1=>eX X (.type T) ds S1 W)(hm:X.mg x=none)(hv:bootBuiltins x=some (.type T))(hg:Gl X x:=by rfl)(hn:x≠"__name__":=by decide)(hdb:(x==("__debug__":Str))=false:=by decide)
 (he:starEach (e::es) X.env=(false,eval e X.env)::starEach es X.env:=by rfl)(hpl:(backTo pos (starEach es X.env)).any (·.1)=false:=by rfl):Ev X Γ S (.Call (.Name x p) (e::es) [] pos) W:=by
 intro pins s σ H O I env st
 refine wpAny_Call_Name_kw (cO I hg hm hv ?_ hn hdb)
 exact PyProof.Rows.callWith_type1 (thn (h pos pins s σ H O I env st) λ us s1 hq_=>by obtain⟨vs,H1,I1,r1,O1,ds,S1,w,st1,ok1,rep⟩:=hq_;exact thn (w pins s1 σ H1 O1 vs us I1 ok1 rep r1) λ _ _ q=>dW st1 q) he hpl
theorem dY{vs:List V}(r:Reps K O H vs [d]):∃v,vs=[v]/\Rep K O H v d:=by
 cases r with
 | cons a t=>cases t;exact⟨_,rfl,a⟩
theorem QX(w:W (.int ds.length) S):eX X (.builtin "len") [.tup ds] S W:=cP gh λ O H vs st r=>by
 obtain⟨v,rfl,r'⟩:=dY r
 cases r' with
 | @tup p xs _ h1 q1=>exact⟨p,xs,rfl,.inr h1.sq,by rw[q1.length];exact QG.here w st (.int _)⟩
theorem R8(w:W (.int ds.length) S):eX X (.builtin "len") [.lst ds] S W:=cP gh λ O H vs st r=>by
 obtain⟨v,rfl,r'⟩:=dY r
 cases r' with
 | @lst p xs _ h1 q1=>exact⟨p,xs,rfl,.inl h1.sq,by rw[q1.length];exact QG.here w st (.int _)⟩
theorem RV(hk:S[k]? =some ds)(w:W (.int ds.length) S):eX X (.builtin "len") [.loc k] S W:=cP gh λ O H vs st r=>by
 obtain⟨v,rfl,r'⟩:=dY r
 cases r' with
 | @loc p _ h1=>
   obtain⟨xs,hx,q1⟩:=st.obj k p ds h1 hk
   exact⟨p,xs,rfl,.inl (SqL.of hx),by rw[q1.length];exact QG.here w st (.int _)⟩
theorem Qw(w:W (.tup ds) S):eX X (.type "tuple") [.lst ds] S W:=cP j8 λ O H vs st r=>by
 obtain⟨v,rfl,r'⟩:=dY r
 cases r' with
 | @lst p xs _ h1 q1=>exact⟨p,xs,rfl,.inl ⟨h1.sq,λ l hl=>jg w st hl q1⟩⟩
theorem Sg(hk:S[k]? =some ds)(w:W (.tup ds) S):eX X (.type "tuple") [.loc k] S W:=cP j8 λ O H vs st r=>by
 obtain⟨v,rfl,r'⟩:=dY r
 cases r' with
 | @loc p _ h1=>
   obtain⟨xs,hx,q1⟩:=st.obj k p ds h1 hk
   exact⟨p,xs,rfl,.inl ⟨SqL.of hx,λ l hl=>jg w st hl q1⟩⟩
abbrev Ct:=List D->Store->WD->Prop
def spC(K:PySem.W.Frag)(n:Nat)(F:Ct):Sp:=λ vs H Q _=>∃O ds S W,ds.length=n/\Reps K O H vs ds/\StOk K O H S/\F ds S W/\∀v H',QG K O H W v H'->Q v H'
structure Callee(P:Program)(w:World)(K:PySem.W.Frag)(mg:Str->Option Value)(base:Heap)(x:Str)(k n:Nat)(F:Ct):Prop where
 ex:∃f fd ps,FnOk P w K mg base CX0 k f fd ps (spC K n F)/\mg x=some (.ref f)/\PySem.W.keepIn K (.ref f)=true/\Binds K fd ps []
theorem Nf{n:Nat}{F:Ct}(C:Callee X.prog X.w X.K X.mg X.base x k n F)(hr:Room k X.A)(h:EvA X Γ S (e::es) λ ds S1=>ds.length=n/\F ds S1 W)(hg:Gl X x:=by rfl)(hdb:(x==("__debug__":Str))=false:=by decide)
 (he:starEach (e::es) X.env=(false,eval e X.env)::starEach es X.env:=by rfl)(hpl:(backTo pos (starEach es X.env)).any (·.1)=false:=by rfl):Ev X Γ S (.Call (.Name x p) (e::es) [] pos) W:=by
 intro pins s σ H O I env st
 obtain⟨f,fd,ps,hF,hm,hk,hb⟩:=C.ex
 refine wpAny_Call_Name_kw (By I hg hm ?_ hdb)
 refine PySem.W.callWith_K (h₀:=X.base) I.ok.mod.kin hk (thn (h pos pins s σ H O I env st) λ us s1 hq_=>?_) he hpl
 obtain⟨vs,H1,I1,r1,O1,ds,S1,⟨hl,w⟩,st1,ok1,rep⟩:=hq_
 refine⟨I1.kIn,?_⟩
 refine Ri hF hr hb .nil Ur I1 r1 ?_
 rw[List.append_nil]
 exact⟨O1,ds,S1,W,hl,rep,ok1,w,λ v H' q=>q.pre st1⟩
structure Fin where
 nx:Gam->Store->Prop
 rt:WD
 bk:Gam->Store->Prop:=λ _ _=>False
 ct:Gam->Store->Prop:=λ _ _=>False
def QN(K:PySem.W.Frag)(O:Own)(H:Hp)(W:Gam->Store->Prop):St->Hp->Prop:=λ σ' H'=>∃O' Γ' S',W Γ' S'/\Step O O' H H'/\StOk K O' H' S'/\EnvOk K O' H' σ' Γ'
def ends(K:PySem.W.Frag)(O:Own)(H:Hp)(W:Fin):Ends:={nx:=QN K O H W.nx,rt:=QG K O H W.rt,bk:=QN K O H W.bk,ct:=QN K O H W.ct}
def Rn(X:Cx)(Γ:Gam)(S:Store)(st:Stmt)(W:Fin):Prop:=
 ∀ (pins:Pins)(s:Shared)(σ:St)(H:Hp)(O:Own),Inv X pins σ H s->EnvOk X.K O H σ Γ->StOk X.K O H S->
   wpAny (model X.prog X.w) X.A (exec st X.env) (SP X pins (ends X.K O H W)) X.xe s
def Rns(X:Cx)(Γ:Gam)(S:Store)(sts:List Stmt)(W:Fin):Prop:=
 ∀ (pins:Pins)(s:Shared)(σ:St)(H:Hp)(O:Own),Inv X pins σ H s->EnvOk X.K O H σ Γ->StOk X.K O H S->
   wpAny (model X.prog X.w) X.A (execs sts X.env) (SP X pins (ends X.K O H W)) X.xe s
theorem QN.pre{O1:Own}{H1:Hp}(st:Step O O1 H H1){W:Gam->Store->Prop}{v:St}{H':Hp}(q:QN K O1 H1 W v H'):QN K O H W v H':=by
 obtain⟨O',d,S',w,s',ok,r⟩:=q
 exact⟨O',d,S',w,st.trans s',ok,r⟩
theorem Ec{pins:Pins}{O1:Own}{H1:Hp}{W:Fin}(st:Step O O1 H H1){f:Flow}{s':Shared}(q:SP X pins (ends X.K O1 H1 W) f s'):SP X pins (ends X.K O H W) f s':=by
 cases f with
 | next=>obtain⟨σ,H',I,q⟩:=q;exact⟨σ,H',I,QN.pre st q⟩
 | brk=>obtain⟨σ,H',I,q⟩:=q;exact⟨σ,H',I,QN.pre st q⟩
 | cont=>obtain⟨σ,H',I,q⟩:=q;exact⟨σ,H',I,QN.pre st q⟩
 | ret u=>obtain⟨v,σ,H',I,r,q⟩:=q;exact⟨v,σ,H',I,r,QG.pre st q⟩
variable {W : Fin} {st : Stmt} {sts : List Stmt}
theorem QF(w:W.nx Γ S):Rns X Γ S [] W:=λ pins s σ H O I env st=>wpAny_execs_nil ⟨σ,H,I,O,Γ,S,w,Step.refl O H,st,env⟩
theorem P0(h:Rn X Γ S st {W with nx:=λ Γ1 S1=>Rns X Γ1 S1 sts W}):Rns X Γ S (st::sts) W:=by
 intro pins s σ H O I env ok
 refine wpAny_execs_cons (thn (h pins s σ H O I env ok) λ f s1 q=>?_)
 cases f with
 | next=>
   obtain⟨σ',H',I',O1,Γ1,S1,w,st1,ok1,env1⟩:=q
   exact thn (w pins s1 σ' H' O1 I' env1 ok1) λ _ _ q=>Ec st1 q
 | ret v=>exact q
 | brk=>exact q
 | cont=>exact q
theorem TV(h:Ev X Γ S e W.rt):Rn X Γ S (.Return (some e) pos) W:=by
 intro pins s σ H O I env ok
 exact wpAny_Return_some (thn (h pins s σ H O I env ok) λ v s1 ⟨x,H1,I1,r1,q1⟩=>⟨x,σ,H1,I1,r1,q1⟩)
theorem Vj{c:Expr}{xs ys:List Stmt}(h:Ts X Γ S c λ k S1=>(k=true->Rns X Γ S1 xs W)/\(k=false->Rns X Γ S1 ys W)):Rn X Γ S (.If c xs ys pos) W:=by
 intro pins s σ H O I env ok
 refine wpAny_If (thn (h pins s σ H O I env ok) λ d s1 hq_=>?_)
 obtain⟨H1,I1,O1,S1,w,st1,ok1⟩:=hq_
 cases d with
 | true=>exact thn (w.1 rfl pins s1 σ H1 O1 I1 (env.mono st1) ok1) λ _ _ q=>Ec st1 q
 | false=>exact thn (w.2 rfl pins s1 σ H1 O1 I1 (env.mono st1) ok1) λ _ _ q=>Ec st1 q
theorem MF(i:Nat){x:Str}{pos':Pos}(h:Ev X Γ S e λ d S1=>W.nx (Γ.set i (some d)) S1)(hN:X.N.Nodup)(hi:X.N[i]? =some x:=by rfl)(hx:Loc X.env.scope x:=by first | exact Or.inl rfl | exact Or.inr rfl)
 (hs:swapsWith e (some (.Name x pos')) pos.line X.env=pure false:=by rfl)(hf:X.fn x=true∨X.env.scope.names.lookup x=some .local:=by first | exact .inl rfl | exact .inr rfl):Rn X Γ S (.Assign [.Name x pos'] e pos) W:=by
 intro pins s σ H O I env ok
 refine wpAny_Assign_Name (thn (h pins s σ H O I env ok) λ v s1 hq_=>?_) hs
 obtain⟨y,H1,I1,r1,O1,d,S1,w,st1,ok1,rep1⟩:=hq_
 exact yJ I1 hN hi hx r1 (λ s2 I2=>⟨_,H1,I2,O1,_,S1,w,st1,ok1,(env.mono st1).set rep1 i⟩) hf
theorem RQ(h:Ev X Γ S e λ d S1=>W.nx Γ S1)(hs:swapsWith e none pos.line X.env=pure false:=by rfl):Rn X Γ S (.Expr e pos) W:=by
 intro pins s σ H O I env ok
 exact wpAny_Expr_any (thn (h pins s σ H O I env ok) λ v s1 hq_=>by obtain⟨x,H1,I1,r1,O1,d,S1,w,st1,ok1,rep1⟩:=hq_;exact⟨σ,H1,I1,O1,Γ,S1,w,st1,ok1,env.mono st1⟩) I.quiet hs
def tE(K:PySem.W.Frag)(Γ:Gam)(S:Store)(W:WD):TE:=λ σ H Q=>∃O,EnvOk K O H σ Γ/\StOk K O H S/\∀v H',QG K O H W v H'->Q v H'
theorem QZ{pins:Pins}{σ:St}{Q Q':VK}{u:Value}{s':Shared}(q:EP X pins σ Q u s')(k:∀v H',Q v H'->Q' v H'):EP X pins σ Q' u s':=by
 obtain⟨v,H',I,r,q⟩:=q
 exact⟨v,H',I,r,k v H' q⟩
theorem Ev.pe{W:WD}(h:Ev X Γ S e W):PE X e (tE X.K Γ S W):=λ pins s σ H Q I ⟨O,env,st,k⟩=>thn (h pins s σ H O I env st) λ _ _ q=>QZ q k
def tEA(K:PySem.W.Frag)(Γ:Gam)(S:Store)(W:List D->Store->Prop):TA:=λ σ H Q=>∃O,EnvOk K O H σ Γ/\StOk K O H S/\∀v H',QA K O H W v H'->Q v H'
theorem EvA.pa{W:List D->Store->Prop}(h:EvA X Γ S es W):PA X es (tEA X.K Γ S W):=λ pos pins s σ H Q I ⟨O,env,st,k⟩=>thn (h pos pins s σ H O I env st) λ _ _ ⟨v,H',I',r,q⟩=>⟨v,H',I',r,k v H' q⟩
theorem Ot{o i:Expr}{tpos:Pos}(h:Ev X Γ S e λ d S1=>Ev X Γ S1 o λ x S2=>Ev X Γ S2 i λ y S3=>∃k n ds j,x=.loc k/\y=.int n/\S3[k]? =some ds/\ixN ds.length n=some j/\W.nx Γ (S3.set k (ds.set j d)))
 (ha:∀v,assign (.Subscript o i tpos) X.env v=(do
  let ov ←holding [v] (eval o X.env)
  let iv ←holding [v,ov] (eval i X.env)
  standAt tpos
  holding [v,ov,iv] (setItem ov iv v)
  release [v,ov,iv] []):=by intro _;rfl)(hs:swapsWithSole [.Subscript o i tpos] e pos.line X.env=pure false:=by rfl)(hw:swappedStores [.Subscript o i tpos] e X.env=pure none:=by rfl)
 (h1:(assignEach [.Subscript o i tpos] X.env).map (·.2)=[assign (.Subscript o i tpos) X.env]:=by rfl):Rn X Γ S (.Assign [.Subscript o i tpos] e pos) W:=by
 intro pins s σ H O I env ok
 refine wpAny_Assign_stores (thn (h pins s σ H O I env ok) λ u s1 hq_=>?_) hs hw
 obtain⟨v,H1,I1,r1,O1,d,S1,w1,st1,ok1,rep1⟩:=hq_
 rw[h1]
 show wpAny _ _ (assign (.Subscript o i tpos) X.env u) _ _ _
 rw[ha]
 refine wpAny_bind (wpAny_holding (thn (w1 pins s1 σ H1 O1 I1 (env.mono st1) ok1) λ ov s2 hq_=>?_))
 obtain⟨x,H2,I2,r2,O2,dx,S2,w2,st2,ok2,rep2⟩:=hq_
 refine wpAny_bind (wpAny_holding (thn (w2 pins s2 σ H2 O2 I2 ((env.mono st1).mono st2) ok2) λ iv s3 hq_=>?_))
 obtain⟨y,H3,I3,r3,O3,dy,S3,⟨k,n,ds,j,ex,ey,hk,hj,w⟩,st3,ok3,rep3⟩:=hq_
 subst ex
 subst ey
 have rx:=rep2.mono st3
 cases rx with
 | @loc p _ hp=>
   cases rep3
   obtain⟨xs,hx,q⟩:=ok3.obj k p ds hp hk
   have rd:=(rep1.mono st2).mono st3
   refine wpAny_bind (wpAny_standAt (wpAny_bind (wpAny_holding (thn (set_list pins s3 σ H3 _ _ v ov iv u (λ H'=>H'=upd H3 p (.lst (xs.set j v))) I3 r2 r3 r1 ⟨p,xs,n,j,rfl,rfl,hx,by rw[q.length];exact hj,rfl⟩) λ _ s4 hq_=>?_))))
   obtain⟨H4,I4,e4⟩:=hq_
   subst e4
   refine wpAny_release ⟨σ,_,I4,O3,Γ,_,w,((st1.trans st2).trans st3).trans (Step.put (gY hp) _),ok3.put hp (q.set rd j),(((env.mono st1).mono st2).mono st3).mono (Step.put (gY hp) _)⟩
def BdW(X:Cx)(tg:Expr)(d:D)(Γ:Gam)(S:Store)(W:Gam->Store->Prop):Prop:=
 ∀ (pins:Pins)(s:Shared)(σ:St)(H:Hp)(O:Own)(v:V)(u:Value),Inv X pins σ H s->EnvOk X.K O H σ Γ->StOk X.K O H S->Rep X.K O H v d->RelV v u->
   wpAny (model X.prog X.w) X.A (assign tg X.env u) (λ _ s'=>∃σ' H',Inv X pins σ' H' s'/\QN X.K O H W σ' H') X.xe s
def xF(X:Cx)(ts:List Expr)(ds:List D)(Γ:Gam)(S:Store)(W:Gam->Store->Prop):Prop:=
 ∀ (pins:Pins)(s:Shared)(σ:St)(H:Hp)(O:Own)(vs:List V)(us:List Value),Inv X pins σ H s->EnvOk X.K O H σ Γ->StOk X.K O H S->Reps X.K O H vs ds->Vals vs us->
   wpAny (model X.prog X.w) X.A (assignInOrder ((assignEach ts X.env).map (·.2)) us) (λ _ s'=>∃σ' H',Inv X pins σ' H' s'/\QN X.K O H W σ' H') X.xe s
theorem MT(i:Nat){x:Str}{d:D}{W:Gam->Store->Prop}(w:W (Γ.set i (some d)) S)(hN:X.N.Nodup)(hi:X.N[i]? =some x:=by rfl)(hx:Loc X.env.scope x:=by first | exact Or.inl rfl | exact Or.inr rfl)
 (hf:X.fn x=true∨X.env.scope.names.lookup x=some .local:=by first | exact .inl rfl | exact .inr rfl):BdW X (.Name x pos) d Γ S W:=λ pins s σ H O v u I env st r ru=>
 wpAny_assign_Name (yJ I hN hi hx ru (λ s' I'=>⟨_,H,I',O,_,S,w,Step.refl O H,st,env.set r i⟩) hf)
theorem De{W:Gam->Store->Prop}(w:W Γ S):xF X [] [] Γ S W:=λ pins s σ H O vs us I env st r ru=>by
 cases r
 cases ru
 exact assignInOrder_nil ⟨σ,H,I,O,Γ,S,w,Step.refl O H,st,env⟩
theorem pO{t:Expr}{ts:List Expr}{W:Gam->Store->Prop}(h:BdW X t d Γ S λ Γ1 S1=>xF X ts ds Γ1 S1 W)
 (hs:(assignEach (t::ts) X.env).map (·.2)=assign t X.env::(assignEach ts X.env).map (·.2):=by rfl):xF X (t::ts) (d::ds) Γ S W:=λ pins s σ H O vs us I env st r ru=>by
 cases r with
 | cons r rr=>
   cases ru with
   | cons ru rru=>
     rw[hs]
     refine assignInOrder_cons (thn (h pins s σ H O _ _ I env st r ru) λ _ s1 hq_=>?_)
     obtain⟨σ1,H1,I1,O1,Γ1,S1,w,st1,ok1,env1⟩:=hq_
     refine thn (w pins s1 σ1 H1 O1 _ _ I1 env1 ok1 (rr.mono st1) rru) λ _ s2 hq_=>by obtain⟨σ2,H2,I2,q⟩:=hq_;exact⟨σ2,H2,I2,QN.pre st1 q⟩
theorem Gd{ts:List Expr}{W:Gam->Store->Prop}(h:xF X ts ds Γ S W)(hc:X.calm=true:=by rfl)(hn:(assignEach ts X.env).length=ds.length:=by rfl)(hst:(assignEach ts X.env).findIdx? (·.1)=none:=by rfl):BdW X (.Tuple ts k pos) (.tup ds) Γ S W:=λ pins s σ H O v u I env st r ru=>by
 cases r with
 | @tup p xs _ h1 q1=>
   cases ru
   obtain⟨its,rv,ht,hz⟩:=I.tuple h1.sq
   refine assign_Tuple_tuple (I.ok.hd hc) ht (by simp[hn,←q1.length,rv.length]) hst λ h' hx=>?_
   have I1:Inv X pins σ H {s with heap:=h'}:=I.kept (t':=s.toks) λ b o e=>hx b o (v3 (Heap.lt_size e)) e
   exact h pins _ σ H O xs _ I1 env st q1 (by simpa using rv)
def gw(K:PySem.W.Frag)(J:It)(O:Own)(H:Hp)(ds:List D):Prop:=
 ∀(O':Own)(H':Hp),Conv O O' H H'->(∀a,O'.has a->H' a≠none)->∀i:Nat,(∀d,ds[i]? =some d->J.go i H'/\∀x H'',J.yld i H' x H''->dH H' H''/\Rep K O' H'' x d)/\(i=ds.length->J.stop i H')
def QI(K:PySem.W.Frag)(O:Own)(H:Hp)(W:List D->Store->Prop):It->Hp->Prop:=λ J H'=>∃O' ds S',W ds S'/\Step O O' H H'/\StOk K O' H' S'/\gw K J O' H' ds
def ItW(X:Cx)(Γ:Gam)(S:Store)(tg iter:Expr)(W:List D->Store->Prop):Prop:=
 ∀ (pins:Pins)(s:Shared)(σ:St)(H:Hp)(O:Own),Inv X pins σ H s->EnvOk X.K O H σ Γ->StOk X.K O H S->
   wpAny (model X.prog X.w) X.A (eval iter X.env) (λ v s1=>wpAny (model X.prog X.w) X.A (pyIter v) (PIE X pins σ tg (QI X.K O H W)) X.xe s1) X.xe s
theorem nY{a:Addr}(h:Ls K O H a xs)(r:Reps K O H xs ds):gw K (Itl K a) O H ds:=by
 intro O' H' st _ i
 have hq:=(h.conv st).sq
 refine⟨λ d hd=>?_,λ hi=>⟨xs,hq,by rw[r.length];exact Nat.le_of_eq hi.symm⟩⟩
 obtain⟨v,hv,rv⟩:=r.get hd
 refine⟨⟨xs,v,hq,hv⟩,λ x H'' y=>?_⟩
 obtain⟨e,y⟩:=y
 subst e
 have e:=y xs hq
 rw[hv]at e
 cases e
 exact⟨dH.refl _,rv.conv st⟩
theorem qU{a:Addr}(h:Tp K O H a xs)(r:Reps K O H xs ds):gw K (Itt K a) O H ds:=by
 intro O' H' st _ i
 have hq:=(h.conv st).sq
 refine⟨λ d hd=>?_,λ hi=>⟨xs,hq,by rw[r.length];exact Nat.le_of_eq hi.symm⟩⟩
 obtain⟨v,hv,rv⟩:=r.get hd
 refine⟨⟨xs,v,hq,hv⟩,λ x H'' y=>?_⟩
 obtain⟨e,y⟩:=y
 subst e
 have e:=y xs hq
 rw[hv]at e
 cases e
 exact⟨dH.refl _,rv.conv st⟩
def upTo(lo:Int)(n:Nat):List D:=(List.range n).map λ(k:Nat)=>D.int (lo+(k:Int))
theorem az(lo:Int)(n:Nat):(upTo lo n).length=n:=by simp[upTo]
theorem bC{lo:Int}{n i:Nat}(h:(upTo lo n)[i]? =some d):i<n/\d=.int (lo+i):=by
 unfold upTo at h
 rw[y8]at h
 cases e:(List.range n)[i]? with
 | none=>rw[e]at h;cases h
 | some k=>
   rw[e]at h
   obtain⟨hl,hk⟩:=z0.mp e
   simp at hl hk
   subst hk
   cases h
   exact⟨hl,rfl⟩
theorem mQ(lo:Int)(n:Nat):gw K (Itr lo n) O H (upTo lo n):=by
 intro O' H' st _ i
 refine⟨λ d hd=>?_,λ hi=>by rw[az]at hi;exact Nat.le_of_eq hi.symm⟩
 obtain⟨hi,ed⟩:=bC hd
 subst ed
 refine⟨hi,λ x H'' y=>?_⟩
 obtain⟨e,ex⟩:=y
 subst e
 subst ex
 exact⟨dH.refl _,.int _⟩
theorem Jc{tg a:Expr}{W:List D->Store->Prop}(h:Ev X Γ S a λ d S1=>∃j:Int,d=.int j/\ -(2 ^ 62)≤j/\j<2 ^ 62/\W (upTo 0 j.toNat) S1)(hm:X.mg "range"=none)(hg:Gl X "range":=by rfl)(hs:starEach [a] X.env=[(false,eval a X.env)]:=by rfl):
 ItW X Γ S tg (.Call (.Name "range" p) [a] [] pos) W:=by
 intro pins s σ H O I env st
 refine Gi hg hm (nu h.pe yq hs) hs pins s σ H _ I ⟨O,env,st,λ v H' q=>?_⟩
 obtain⟨O',d,S',⟨j,ed,h1,h2,w⟩,st1,ok1,rep⟩:=q
 subst ed
 cases rep
 exact⟨j,rfl,h1,h2,O',_,S',w,st1,ok1,mQ 0 _⟩
theorem Jd{tg a b:Expr}{W:List D->Store->Prop}(h:Ev X Γ S a λ d S1=>Ev X Γ S1 b λ d' S2=>∃i j:Int,d=.int i/\d'=.int j/\(-(2 ^ 62)≤i/\i<2 ^ 62/\ -(2 ^ 62)≤j/\j<2 ^ 62)/\W (upTo i (j-i).toNat) S2)(hm:X.mg "range"=none)(hg:Gl X "range":=by rfl)
 (hs:starEach [a,b] X.env=[(false,eval a X.env),(false,eval b X.env)]:=by rfl)(hs2:starEach [b] X.env=[(false,eval b X.env)]:=by rfl):
 ItW X Γ S tg (.Call (.Name "range" p) [a,b] [] pos) W:=by
 intro pins s σ H O I env st
 have hA:EvA X Γ S [a,b] λ ds S2=>∃i j:Int,ds=[.int i,.int j]/\(-(2 ^ 62)≤i/\i<2 ^ 62/\ -(2 ^ 62)≤j/\j<2 ^ 62)/\W (upTo i (j-i).toNat) S2:=
  gG (h.mono λ d S1 h1=>gG (h1.mono λ d' S2 ⟨i,j,e1,e2,hb,w⟩=>rG ⟨i,j,by rw[e1,e2],hb,w⟩) hs2) (by rw[hs,hs2])
 refine Gk hg hm hA.pa hs hs2 pins s σ H _ I ⟨O,env,st,λ v H' q=>?_⟩
 obtain⟨O',ds,S',⟨i,j,ed,hb,w⟩,st1,ok1,rep⟩:=q
 subst ed
 cases rep with
 | cons r1 r2=>
   cases r2 with
   | cons r2 r3=>
     cases r3
     cases r1
     cases r2
     exact⟨i,j,rfl,hb,O',_,S',w,st1,ok1,mQ i _⟩
theorem Mu{tg iter:Expr}{body:List Stmt}(h:ItW X Γ S tg iter λ ds S1=>∃Pv:Nat->Gam->Store->Prop,Pv 0 Γ S1/\
 (∀i d Γ' S',ds[i]? =some d->Pv i Γ' S'->BdW X tg d Γ' S' λ Γ2 S2=>Rns X Γ2 S2 body {W with nx:=Pv (i+1),ct:=Pv (i+1),bk:=W.nx})/\(∀Γ' S',Pv ds.length Γ' S'->W.nx Γ' S'))
 (hp:PassesOwn (model X.prog X.w) X.A X.env X.xe:=by exact PassesOwn.never)(hc:X.calm=true:=by rfl)(hs:∀x,foldedSetIterable iter X.env x=pure x:=by intro _;rfl):Rn X Γ S (.For tg iter body [] pos) W:=by
 intro pins s σ H O I env ok
 let WI:List D->Store->Prop:=λ ds S1=>∃Pv:Nat->Gam->Store->Prop,Pv 0 Γ S1/\
     (∀i d Γ' S',ds[i]? =some d->Pv i Γ' S'->BdW X tg d Γ' S' λ Γ2 S2=>Rns X Γ2 S2 body {W with nx:=Pv (i+1),ct:=Pv (i+1),bk:=W.nx})/\(∀Γ' S',Pv ds.length Γ' S'->W.nx Γ' S')
 have hI:PI X tg iter (λ σ H R=>∃O,EnvOk X.K O H σ Γ/\StOk X.K O H S/\∀J H',QI X.K O H WI J H'->R J H'):=λ pins s σ H R I hh=>by
  obtain⟨O,env,st,k⟩:=hh
  refine thn (h pins s σ H O I env st) λ _ _ q=>thn q λ _ _ q2=>?_
  obtain⟨it,fp,tn,J,H',e1,e2,e3,e4,e5,e6⟩:=q2
  exact⟨it,fp,tn,J,H',e1,e2,e3,e4,e5,k J H' e6⟩
 have hG:PG X tg (λ v σ H Q=>∃O d Γ S W',EnvOk X.K O H σ Γ/\StOk X.K O H S/\Rep X.K O H v d/\BdW X tg d Γ S W'/\∀σ' H',QN X.K O H W' σ' H'->Q σ' H'):=λ pins s σ H v u Q I ru hh=>by
  obtain⟨O,d,Γ,S,W',env,st,r,b,k⟩:=hh
  refine thn (b pins s σ H O v u I env st r ru) λ _ _ q2=>?_
  obtain⟨σ',H',I',q⟩:=q2
  exact⟨σ',H',I',k σ' H' q⟩
 have hB:PSs X body (λ D σ H=>∃O Γ S W',EnvOk X.K O H σ Γ/\StOk X.K O H S/\Rns X Γ S body W'/\(∀σ' H',QN X.K O H W'.nx σ' H'->D.nx σ' H')/\(∀v H',QG X.K O H W'.rt v H'->D.rt v H')/\(∀σ' H',QN X.K O H W'.bk σ' H'->D.bk σ' H')/\∀σ' H',QN X.K O H W'.ct σ' H'->D.ct σ' H'):=
  λ pins s σ H D I hh=>by
   obtain⟨O,Γ,S,W',env,st,b,k1,k2,k3,k4⟩:=hh
   refine thn (b pins s σ H O I env st) λ f s' q=>?_
   cases f with
   | next=>obtain⟨σ',H',I',q⟩:=q;exact⟨σ',H',I',k1 σ' H' q⟩
   | brk=>obtain⟨σ',H',I',q⟩:=q;exact⟨σ',H',I',k3 σ' H' q⟩
   | cont=>obtain⟨σ',H',I',q⟩:=q;exact⟨σ',H',I',k4 σ' H' q⟩
   | ret u=>obtain⟨v,σ',H',I',r,q⟩:=q;exact⟨v,σ',H',I',r,k2 v H' q⟩
 refine Ib hp hc hI hG hB hs pins s σ H _ I ⟨O,env,ok,λ J H1 q=>?_⟩
 obtain⟨O1,ds,S1,⟨Pv,p0,pt,pe⟩,st1,ok1,yl⟩:=q
 refine⟨λ i m σ' H'=>m=ds.length-i/\i≤ds.length/\∃O' Γ' S',Pv i Γ' S'/\Step O1 O' H1 H'/\StOk X.K O' H' S'/\EnvOk X.K O' H' σ' Γ',⟨ds.length,by simp,Nat.zero_le _,O1,Γ,S1,p0,Step.refl _ _,ok1,env.mono st1⟩,?_⟩
 rintro i m σ2 H2 ⟨rfl,hi,O2,Γ2,S2,p2,st2,ok2,env2⟩
 obtain⟨y1,y2⟩:=yl O2 H2 st2.conv (λ a ha=>ok2.tracked ha) i
 by_cases hlt:i<ds.length
 . obtain⟨go,yy⟩:=y1 ds[i] (y3 hlt)
   refine .inr ⟨go,λ σ' H'=>i+1≤ds.length/\∃O' Γ' S',Pv (i+1) Γ' S'/\Step O1 O' H1 H'/\StOk X.K O' H' S'/\EnvOk X.K O' H' σ' Γ',λ σ' H' q=>⟨ds.length-(i+1),by omega,rfl,q.1,q.2⟩,λ x H3 y=>?_⟩
   obtain⟨sm,rx⟩:=yy x H3 y
   have st3:=Step.same (O:=O2) sm
   refine⟨O2,ds[i],Γ2,S2,_,env2.mono st3,ok2.same sm,rx,pt i ds[i] Γ2 S2 (y3 hlt) p2,λ σ4 H4 q4=>?_⟩
   obtain⟨O4,Γ4,S4,w4,st4,ok4,env4⟩:=q4
   have stA:=(st2.trans st3).trans st4
   refine⟨O4,Γ4,S4,_,env4,ok4,w4,?_,?_,?_,?_⟩
   . rintro σ5 H5 ⟨O5,Γ5,S5,w5,st5,ok5,env5⟩
     exact⟨hlt,O5,Γ5,S5,w5,stA.trans st5,ok5,env5⟩
   . exact λ v H' q=>QG.pre (st1.trans stA) q
   . exact λ σ' H' q=>QN.pre (st1.trans stA) q
   . rintro σ5 H5 ⟨O5,Γ5,S5,w5,st5,ok5,env5⟩
     exact⟨hlt,O5,Γ5,S5,w5,stA.trans st5,ok5,env5⟩
 . have e:i=ds.length:=by omega
   subst e
   exact .inl ⟨y2 rfl,O2,Γ2,S2,pe Γ2 S2 p2,st1.trans st2,ok2,env2⟩
theorem Uh {P:Program}{w:World}{mg:Str->Option Value}{base:Heap}{qual:Str}{sm:Stmt}{f:Addr}{fd:FuncData}{N ps:List Str}{F:Ct}(FF:Fun K x qual sm f fd)(SC:FnScope N ps (aO sm))
 (body:∀(cdv:Value)(A:Around)(outer:List Env)(s:Shared)(H:Hp)(E:XK)(ds:List D)(S:Store)(W:WD),fd.code=cdv->Room k (A.deeper (envOfC qual (aO sm) s.heap.objs.size f cdv))->ds.length=ps.length->F ds S W->
  Rns (mR CX0 P w K mg base N qual (aO sm) f cdv A outer s H E).nox (ds.map some++List.replicate (N.length-ds.length) none) S (cF sm) {nx:=λ _ S1=>W .non S1,rt:=W}):FnOk P w K mg base CX0 (k+1) f fd ps (spC K ps.length F):=by
 obtain⟨oc,od,kV,doc,pm,an,cdv,ct,osl,rfl,lk,hcd⟩:=FF.ex
 refine Uq lk hcd SC (λ vs H Q E h=>?_) λ A outer s H vs Q E hr h=>?_
 . obtain⟨O,ds,S,W,hl,r,_⟩:=h
   rw[r.length,hl]
 . obtain ⟨O,ds,S,W,hl,r,st,hF,q⟩:=h
   have hB:=body cdv A outer s H E ds S W rfl hr hl hF
   suffices key:∃t,PSs (mR CX0 P w K mg base N qual (aO sm) f cdv A outer s H E).nox (cF sm) t/\t {nx:=λ _ H'=>Q .non H',rt:=Q} (L2.start N vs) H from let ⟨t,h,q⟩:=key;⟨t,h.nox,q⟩
   refine⟨λ D σ H'=>∃O Γ S W',EnvOk K O H' σ Γ/\StOk K O H' S/\Rns (mR CX0 P w K mg base N qual (aO sm) f cdv A outer s H E).nox Γ S (cF sm) W'/\(∀σ' H2,QN K O H' W'.nx σ' H2->D.nx σ' H2)/\(∀v H2,QG K O H' W'.rt v H2->D.rt v H2)/\(∀σ' H2,QN K O H' W'.bk σ' H2->D.bk σ' H2)/\∀σ' H2,QN K O H' W'.ct σ' H2->D.ct σ' H2,?_,?_⟩
   . intro pins s σ H' D I ⟨O,Γ,S,W',env,st,b,k1,k2,k3,k4⟩
     refine thn (b pins s σ H' O I env st) λ f s' q=>?_
     cases f with
     | next=>obtain⟨σ',H',I',q⟩:=q;exact⟨σ',H',I',k1 σ' H' q⟩
     | brk=>obtain⟨σ',H',I',q⟩:=q;exact⟨σ',H',I',k3 σ' H' q⟩
     | cont=>obtain⟨σ',H',I',q⟩:=q;exact⟨σ',H',I',k4 σ' H' q⟩
     | ret u=>obtain⟨v,σ',H',I',r,q⟩:=q;exact⟨v,σ',H',I',r,k2 v H' q⟩
   . refine⟨O,_,S,_,?_,st,hB,?_,?_,?_,?_⟩
     . have hv:vs.length=ds.length:=r.length
       refine⟨by simp[L2.start,hv],λ i d h=>?_⟩
       by_cases hi:i<ds.length
       . rw[x9 (by simpa using hi),y8]at h
         cases e:ds[i]? with
         | none=>rw[e]at h;cases h
         | some d'=>
           rw[e]at h
           cases h
           obtain⟨v,hv',rv⟩:=r.get e
           refine⟨v,?_,rv⟩
           unfold L2.start
           rw[x9 (by rw[y7,hv];exact hi),y8,hv']
           rfl
       . rw[List.getElem?_append_right (by simpa using hi),List.getElem?_replicate]at h
         split at h<;>cases h
     . rintro σ' H2 ⟨O',Γ',S',w,st',ok',_⟩
       exact q _ _ ⟨O',.non,S',w,st',ok',.non⟩
     . exact λ v H2 z=>q v H2 z
     . rintro σ' H2 ⟨_,_,_,w,_⟩
       exact w.elim
     . rintro σ' H2 ⟨_,_,_,w,_⟩
       exact w.elim
end
end DL
namespace DL
open PySem PySem.Spec L2
open PyProof.Rows
variable {K : PySem.W.Frag} {O : Own} {H : Hp} {s : Shared}
def rk(env:Env)(n:Str)(k:NameKind):NameKind:=if(k==NameKind.free&&env.scope.kind==.function&&env.kindOf n==some .cell)=true then .cell else k
theorem jH(sc:Scope)(env:Env):(relabel sc env).names=sc.names.map λ p=>(p.1,rk env p.1 p.2):=by
 show sc.names.map _=_
 congr 1
 funext p
 obtain⟨n,k⟩:=p
 unfold rk
 by_cases h:(k==NameKind.free&&env.scope.kind==.function&&env.kindOf n==some .cell)=true
 . simp only[h,if_true]
 . simp only[h,if_false,Bool.false_eq_true]
theorem dU(g:Str->NameKind->NameKind)(x:Str):∀names:List (Str×NameKind),(names.map λ p=>(p.1,g p.1 p.2)).lookup x=(names.lookup x).map (g x)
 | []=>rfl
 | (n,k)::r=>by
   have ih:=dU g x r
   rw[List.map_cons,List.lookup_cons,List.lookup_cons]
   cases hx:x==n with
   | true=>rw[eq_of_beq hx];rfl
   | false=>exact ih
theorem oY(env:Env)(n:Str)(k:NameKind):rk env n k=k∨(k=.free/\rk env n k=.cell):=by
 unfold rk
 by_cases h:(k==NameKind.free&&env.scope.kind==.function&&env.kindOf n==some .cell)=true
 . rw[if_pos h]
   rw[Bool.and_eq_true,Bool.and_eq_true]at h
   exact .inr ⟨eq_of_beq h.1.1,rfl⟩
 . rw[if_neg h];exact .inl rfl
theorem jk{env:Env}{sc:Scope}{x:Str}{k:NameKind}(h:(relabel sc env).names.lookup x=some k):∃k0,sc.names.lookup x=some k0/\(k=k0∨(k0=.free/\k=.cell)):=by
 rw[jH,dU]at h
 cases e:sc.names.lookup x with
 | none=>rw[e]at h;cases h
 | some k0=>
   rw[e]at h
   have h':rk env x k0=k:=Option.some.inj h
   refine⟨k0,rfl,?_⟩
   rcases oY env x k0 with q | ⟨q1,q2⟩
   . exact .inl (h'.symm.trans q)
   . exact .inr ⟨q1,h'.symm.trans q2⟩
theorem wO{env:Env}{sc:Scope}{x:Str}(h:sc.names.lookup x=some .free):(relabel sc env).names.lookup x=some .cell∨(relabel sc env).names.lookup x=some .free:=by
 rw[jH,dU,h]
 rcases oY env x .free with q | ⟨_,q⟩
 . exact .inr (congrArg some q)
 . exact .inl (congrArg some q)
def closes(env:Env):List (Str×NameKind)->List (Str×Addr)->List (Str×Addr)
 | [],cs=>cs
 | (n,k)::r,cs=>closes env r (if k==.free then(n,(env.cells.lookup n).getD 0)::cs else cs)
theorem oG{env:Env}:∀(names:List (Str×NameKind))(cs:List (Str×Addr)),(∀y∈names,y.2=.free->∃c,env.cells.lookup y.1=some c)->
 (forIn (m:=Sem) names cs λ x r=>if(x.2==.free)=true then do let a ←cellOf env x.1;pure (ForInStep.yield ((x.1,a)::r))else pure (ForInStep.yield r))=pure (closes env names cs)
 | [],cs,_=>by rw[List.forIn_nil];rfl
 | (n,k)::r,cs,h=>by
   rw[List.forIn_cons]
   have ih:=λ cs=>oG (env:=env) r cs λ y hy=>h y (x4 _ hy)
   by_cases hk:(k==NameKind.free)=true
   . obtain⟨c,hc⟩:=h (n,k) x6 (eq_of_beq hk)
     have hc':env.cells.lookup n=some c:=hc
     have e:cellOf env n=pure c:=by unfold cellOf;rw[hc']
     have q:=ih ((n,c)::cs)
     simp only[hk,if_true,e,pure_bind]
     rw[q]
     simp[closes,hk,hc']
   . have q:=ih cs
     simp only[hk,if_false,pure_bind,Bool.false_eq_true]
     rw[q]
     simp[closes,hk]
theorem j7{env:Env}{sc:Scope}(h:∀y∈sc.names,y.2=.free->∃c,env.cells.lookup y.1=some c):closureFor sc env=pure (closes env sc.names []):=by
 have q:=oG (env:=env) sc.names [] h
 unfold closureFor
 first
  | (simp only[bind_pure];exact q)
  | (rw[show(forIn sc.names ([]:List (Str×Addr)) _:Sem _)=_ from q];rfl)
  | (refine Eq.trans (congrArg (λ t=>t>>=pure) q) ?_;simp)
theorem nW{env:Env}{x:Str}{c:Addr}:∀(names:List (Str×NameKind))(cs:List (Str×Addr)),(∀y∈names,y.2=.free->∃c,env.cells.lookup y.1=some c)->(∀c,cs.lookup x=some c->env.cells.lookup x=some c)->(closes env names cs).lookup x=some c->env.cells.lookup x=some c
 | [],cs,_,hc,h=>hc c h
 | (n, k)::r,cs,hf,hc,h=>by
   refine nW r _ (λ y hy=>hf y (x4 _ hy)) ?_ h
   intro c' h'
   by_cases hk:(k==NameKind.free)=true
   . rw[if_pos hk]at h'
     obtain⟨c2,h2⟩:=hf (n,k) x6 (eq_of_beq hk)
     have h2:env.cells.lookup n=some c2:=h2
     rw[List.lookup_cons]at h'
     cases hx:x==n with
     | true=>
       rw[hx,h2]at h'
       have e:x=n:=eq_of_beq hx
       subst e
       simp only[Option.getD_some]at h'
       cases h'
       exact h2
     | false=>rw[hx]at h';exact hc c' h'
   . rw[if_neg hk]at h'
     exact hc c' h'
theorem fX{env:Env}{x:Str}:∀(names:List (Str×NameKind))(cs:List (Str×Addr)),((∃c,cs.lookup x=some c)∨names.lookup x=some .free)->∃c,(closes env names cs).lookup x=some c
 | [],cs,h=>by
   rcases h with h | h
   . exact h
   . simp at h
 | (n, k)::r,cs,h=>by
   refine fX r _ ?_
   rcases h with⟨c,h⟩ | h
   . refine .inl ?_
     by_cases hk:(k==NameKind.free)=true
     . rw[if_pos hk,List.lookup_cons]
       cases hx:x==n with
       | true=>exact⟨_,rfl⟩
       | false=>exact⟨c,h⟩
     . rw[if_neg hk];exact⟨c,h⟩
   . rw[List.lookup_cons]at h
     cases hx:x==n with
     | true=>
       rw[hx]at h
       simp only at h
       cases h
       refine .inl ⟨(env.cells.lookup n).getD 0,?_⟩
       simp[List.lookup_cons,hx]
     | false=>rw[hx]at h;exact .inr h
def fC(X:Cx)(sc:Scope)(N:List Str)(C:Addr)(s:Shared)(H:Hp)(ex:List Addr)(cl:List (Str×Addr)):Cx:=
 {X with N:=N,s₀:=s,H₀:=H,env:=compEnvC sc cl C X.env,outer:=X.stack,stack:=X.stack,ex:=ex,fn:=λ x=>sc.names.lookup x==some .cell,pn:=[]}
def capt{α:Type}(cap:List (Option Nat))(xs:List (Option α)):List (Option α):=cap.map λ o=>o.bind λ j=>(xs[j]?).join
def bB(N:List Str)(names:List (Str×NameKind))(N':List Str)(names':List (Str×NameKind)):List (Option Nat)->List Str->Bool
 | [],[]=>true
 | none::r,_::t=>bB N names N' names' r t
 | some j::r,x::t=>(N[j]? ==some x)&&(names.lookup x==some .cell||names.lookup x==some .free)&&(names'.lookup x==some .free)&&bB N names N' names' r t
 | _,_=>false
theorem lV{N:List Str}{names:List (Str×NameKind)}{N':List Str}{names':List (Str×NameKind)}:∀{cap:List (Option Nat)}{t:List Str},bB N names N' names' cap t=true->cap.length=t.length
 | [],[],_=>rfl
 | [],_::_,h=>by simp[bB]at h
 | _::_,[],h=>by
   rename_i o r
   cases o<;>simp[bB]at h
 | none::r,_::t,h=>by simp only[bB]at h;simp[lV h]
 | some j::r,x::t,h=>by
   simp only[bB,Bool.and_eq_true]at h
   simp[lV h.2]
theorem oN{N:List Str}{names:List (Str×NameKind)}{N':List Str}{names':List (Str×NameKind)}:∀{cap:List (Option Nat)}{t:List Str}{i j:Nat},bB N names N' names' cap t=true->cap[i]? =some (some j)->
 ∃x,t[i]? =some x/\N[j]? =some x/\(names.lookup x=some .cell∨names.lookup x=some .free)/\names'.lookup x=some .free
 | [],_,_,_,_,h=>by simp at h
 | none::r,[],_,_,h,_=>by simp[bB]at h
 | some _::r,[],_,_,h,_=>by simp[bB]at h
 | none::r,x::t,0,j,_,h=>by simp at h
 | none::r,x::t,i+1,j,h,e=>by
   simp only[bB]at h
   obtain⟨y,a,b⟩:=oN (i:=i) h (by simpa using e)
   exact⟨y,by simpa using a,b⟩
 | some k::r,x::t,0,j,h,e=>by
   simp only[bB,Bool.and_eq_true,Bool.or_eq_true,beq_iff_eq]at h
   simp at e
   subst e
   exact⟨x,rfl,h.1.1.1,h.1.1.2,h.1.2⟩
 | some k::r,x::t,i+1,j,h,e=>by
   simp only[bB,Bool.and_eq_true]at h
   obtain⟨y,a,b⟩:=oN (i:=i) h.2 (by simpa using e)
   exact⟨y,by simpa using a,b⟩
theorem Dg{α:Type}{cap:List (Option Nat)}{xs:List (Option α)}{i:Nat}{d:α}(h:(capt cap xs)[i]? =some (some d)):∃j,cap[i]? =some (some j)/\xs[j]? =some (some d):=by
 unfold capt at h
 rw[y8]at h
 cases e:cap[i]? with
 | none=>rw[e]at h;cases h
 | some o=>
   rw[e]at h
   cases o with
   | none=>simp at h
   | some j=>
     simp at h
     refine⟨j,rfl,?_⟩
     cases q:xs[j]? with
     | none=>rw[q]at h;cases h
     | some z=>rw[q]at h;simp at h;rw[h]
theorem EnvOk.capt{σ:St}{Γ:Gam}(e:EnvOk K O H σ Γ)(cap:List (Option Nat)):EnvOk K O H (capt cap σ) (capt cap Γ):=by
 refine⟨by simp[DL.capt],λ i d h=>?_⟩
 obtain⟨j,hj,hd⟩:=Dg h
 obtain⟨v,hv,r⟩:=e.at_ j d hd
 refine⟨v,?_,r⟩
 unfold DL.capt
 rw[y8,hj]
 simp[hv]
def Sub(Γ Γ':Gam):Prop:=Γ.length=Γ'.length/\∀(i:Nat)(d:D),Γ[i]? =some (some d)->Γ'[i]? =some (some d)
theorem Sub.refl(Γ:Gam):Sub Γ Γ:=⟨rfl,λ _ _ h=>h⟩
theorem Sub.set{Γ Γ':Gam}(s:Sub Γ Γ')(i:Nat)(d:Option D)(h:Γ[i]? =some none:=by rfl):Sub Γ (Γ'.set i d):=⟨by rw[List.length_set];exact s.1,λ j c hj=>by
 have ne:i≠j:=λ e=>by subst e;rw[h]at hj;cases hj
 rw[List.getElem?_set_ne ne];exact s.2 j c hj⟩
theorem EnvOk.sub{σ:St}{Γ Γ':Gam}(e:EnvOk K O H σ Γ')(s:Sub Γ Γ'):EnvOk K O H σ Γ:=⟨e.len.trans s.1.symm,λ i d h=>e.at_ i d (s.2 i d h)⟩
theorem EnvOk.conv{O':Own}{H':Hp}{σ:St}{Γ:Gam}(e:EnvOk K O H σ Γ)(s:Conv O O' H H'):EnvOk K O' H' σ Γ:=
 ⟨e.len,λ i d h=>let ⟨v,a,b⟩:=e.at_ i d h;⟨v,a,b.conv s⟩⟩
def freeOk(names names':List (Str×NameKind)):Bool:=names'.all λ y=>!(y.2==.free)||(names.lookup y.1==some .cell||names.lookup y.1==some .free)
theorem lK{names names':List (Str×NameKind)}(h:freeOk names names'=true):∀y∈names',y.2=.free->names.lookup y.1=some .cell∨names.lookup y.1=some .free:=λ y hy e=>by
 have q:=List.all_eq_true.mp h y hy
 simp only[e,beq_self_eq_true,Bool.not_true,Bool.false_or,Bool.or_eq_true,beq_iff_eq]at q
 exact q
def yd(names:List (Str×NameKind)):Bool:=match names.filter (λ y=>y.2==.cell)with
 | []=>true
 | [y]=>names.lookup y.1==some .cell
 | _=>false
theorem yK{names:List (Str×NameKind)}(h:names.filter (λ y=>y.2==.cell)=[])(n:Nat)(acc:List (Str×Addr))(hp:Heap):cellsFrom n names acc=acc/\pushCells hp names=hp:=by
 induction names with
 | nil=>exact⟨rfl,rfl⟩
 | cons y r ih=>
   obtain⟨x,k⟩:=y
   rw[List.filter_cons]at h
   by_cases hk:(k==NameKind.cell)=true
   . rw[if_pos hk]at h;cases h
   . rw[if_neg hk]at h
     obtain⟨i1,i2⟩:=ih h
     unfold cellsFrom pushCells
     rw[if_neg hk,if_neg hk]
     exact⟨i1,i2⟩
theorem ud{names:List (Str×NameKind)}{t:Str×NameKind}(h:names.filter (λ y=>y.2==.cell)=[t])(n:Nat)(acc:List (Str×Addr))(hp:Heap):cellsFrom n names acc=(t.1,n)::acc/\pushCells hp names=hp.push {cls:=.type "cell",data:=.cell none}:=by
 induction names with
 | nil=>cases h
 | cons y r ih=>
   obtain⟨x,k⟩:=y
   rw[List.filter_cons]at h
   by_cases hk:(k==NameKind.cell)=true
   . rw[if_pos hk]at h
     have e:=List.cons.inj h
     obtain⟨i1,i2⟩:=yK e.2 (n+1) ((x,n)::acc) (hp.push {cls:=.type "cell",data:=.cell none})
     unfold cellsFrom pushCells
     rw[if_pos hk,if_pos hk,i1,i2,←e.1]
     exact⟨rfl,rfl⟩
   . rw[if_neg hk]at h
     obtain⟨i1,i2⟩:=ih h
     unfold cellsFrom pushCells
     rw[if_neg hk,if_neg hk]
     exact⟨i1,i2⟩
theorem Oo{M:Model}{A:Around}{E:Value->Shared->Prop}{scope:Scope}{globals:Addr}{closure:List (Str×Addr)}{qual:Str}{outer:Env}{Q:Env->Shared->Prop}
 (hQ:Q (newEnv scope s.heap.objs.size globals (cellsFrom (s.heap.objs.size+1) scope.names closure) qual none .none (some outer) builtinsNs) {s with heap:=pushCells (s.heap.push {cls:=.type "dict",data:=.dict #[]}) scope.names}):
 wpAny M A (newFunctionEnv scope globals closure [] qual none .none (some outer)) Q E s:=by
 simp only[newFunctionEnv,Option.isSome_some,if_true]
 refine wpAny_bind (wpAny_alloc ?_)
 refine wpAny_bind (wpAny_layCells _ (λ name kind cells=>by cases hkc:kind==NameKind.cell<;>simp[hkc]) _ _ _ _ ?_)
 rw[show({s with heap:=s.heap.push {cls:=.type "dict",data:=.dict #[]}}:Shared).heap.objs.size=s.heap.objs.size+1 from Heap.size_push ..]
 rw[List.forIn_nil]
 exact wpAny_bind (wpAny_pure (wpAny_pure hQ))
structure CelsB(X:Cx)(sc:Scope)(cl:List (Str×Addr))(z:Nat)(h1:Heap):Prop where
 lk:∀x c,cl.lookup x=some c->X.env.cells.lookup x=some c∨(c=z/\sc.names.lookup x=some .cell/\h1.IsCell c none/\∀y,cl.lookup y=some c->y=x)
 has:∀x,sc.names.lookup x=some .cell∨sc.names.lookup x=some .free->∃c,cl.lookup x=some c
 cp:∀x c,sc.names.lookup x=some .free->X.env.cells.lookup x=some c->cl.lookup x=some c
 ow:∀x c,sc.names.lookup x=some .cell->cl.lookup x=some c->z≤c
section
variable {X : Cx}
theorem Od{pins:Pins}{σ:St}{sc:Scope}{N':List Str}{cap:List (Option Nat)}{fp:List Addr}{h1:Heap}{t:Nat}(I:Inv X pins σ H s)(hfp:∀b∈fp,eQ X pins H b)(hob:∀b∈fp,∃o,s.heap.get? b=some o)
 {cl:List (Str×Addr)}(hkind:sc.kind=.function)(hcl:CelsB X sc cl (s.heap.objs.size+2) h1)(hfree:∀y∈sc.names,y.2=.free->X.env.kindOf y.1=some .cell∨X.env.kindOf y.1=some .free)(hcap:bB X.N X.env.scope.names N' sc.names cap N'=true)
 (k:∀b u,s.heap.get? b=some u->h1.get? b=some u)(hD:h1.get? s.heap.objs.size=some {cls:=.type "list",data:=.seq #[] 0})(hC:∃m,h1.Ns (s.heap.objs.size+1) m):
 Inv (fC X sc N' (s.heap.objs.size+1) s H fp cl) [] (capt cap σ) (upd H s.heap.objs.size (.lst [])) {s with heap:=h1,toks:=t}:=by
 have fr0:H s.heap.objs.size=none:=I.hok.fresh (y9 _)
 have fr1:H (s.heap.objs.size+1)=none:=I.hok.fresh (Nat.le_succ _)
 have fr2:H (s.heap.objs.size+2)=none:=I.hok.fresh (by omega)
 have lt:∀b∈fp,b<s.heap.objs.size:=λ b hb=>let ⟨o,e⟩:=hob b hb;Heap.lt_size e
 have clt:∀{x c},X.env.cells.lookup x=some c->c<s.heap.objs.size:=λ{x c} h=>by
  obtain⟨v,q⟩:=I.cell x c h
  exact q.lt
 refine⟨⟨I.ok.mod,hkind,I.ok.glob,I.ok.blt,Nat.le_succ _,λ x y c a b=>?_,λ x hx=>?_,λ x c z e=>?_,I.ok.hd,I.ok.frames,.inl rfl,λ b hb=>⟨v3 (Nat.lt_succ_of_lt (lt b hb)),λ x c h=>?_⟩,
  I.bs,Nat.le_trans I.ok.bsz I.sz,λ b o e hb=>?_,λ b hb z=>?_,I.stack,I.stkFree⟩,rfl,I.bare,Un.laid k (y9 _) fr0,?_,λ x c h=>?_,?_,λ x c h=>?_,λ p hp=>absurd (show p∈([]:Pins)from hp) (by simp),I.hok.laid k (y9 _) ⟨Nat.zero_le _,[],0,.nil,hD⟩,?_⟩
 . rcases hcl.lk x c a with q | ⟨_,_,_,q⟩
   . rcases hcl.lk y c b with q' | ⟨_,_,_,q'⟩
     . exact I.ok.inj x y c q q'
     . exact q' x a
   . exact(q y b).symm
 . have hx':(relabel sc X.env).names.lookup x=some .cell∨(relabel sc X.env).names.lookup x=some .free:=hx
   have z:sc.names.lookup x=some .cell∨sc.names.lookup x=some .free:=by
    rcases hx' with q | q
    . obtain⟨k0,e,r⟩:=jk q
      rcases r with r | r
      . exact .inl (by rw[e,r])
      . exact .inr (by rw[e,r.1])
    . obtain⟨k0,e,r⟩:=jk q
      rcases r with r | r
      . exact .inr (by rw[e,r])
      . exact absurd r.2 (by decide)
   exact hcl.has x z
 . have z':sc.names.lookup x=some .cell:=eq_of_beq z
   have:=hcl.ow x c z' e
   show s.heap.objs.size≤c
   omega
 . rcases hcl.lk x c h with q | ⟨q,_⟩
   . exact(hfp b hb).2.2.2.2.1 x c q
   . exact λ e=>Nat.lt_irrefl _ (w9 (lt b hb) (by rw[←e,q];exact Nat.le_add_right _ _))
 . rcases(hfp b hb).2.2.2.1 with z | z
   . exact I.ok.noex b o e z
   . exact absurd (w9 (Heap.lt_size e) (Nat.le_trans I.ok.bsz z)) (Nat.lt_irrefl _)
 . rcases List.mem_cons.mp (I.stkSub b z)with q | q
   . exact(hfp b hb).2.1 q
   . exact(hfp b hb).2.2.1 q
 . obtain⟨m,hm⟩:=hC
   refine⟨m,hm,λ i x v e1 e2 e3=>?_⟩
   obtain⟨j,hj,hv⟩:=Dg e2
   obtain⟨y,a,b,c,d⟩:=oN hcap hj
   have e1':N'[i]? =some x:=e1
   rw[a]at e1'
   cases e1'
   obtain⟨m0,hn0,hl⟩:=I.loc
   have vis:Vis X.env.scope x:=by
    rcases c with c | c
    . exact .inr (.inl c)
    . exact .inr (.inr c)
   obtain⟨u,r,l⟩:=hl j x v b hv vis
   refine⟨u,r,?_⟩
   rcases l with⟨q,_⟩ | ⟨q,cc,hc,hcell'⟩
   . exfalso
     have q':X.env.scope.names.lookup x=some .local:=q
     rcases c with c | c<;>· rw[c]at q';cases q'
   . have h2:=hcl.cp x cc d hc
     obtain⟨o,ho,hd⟩:=hcell'
     refine .inr ⟨?_,cc,h2,⟨o,k _ _ ho,hd⟩⟩
     exact wO d
 . rcases hcl.lk x c h with q | ⟨_,_,q,_⟩
   . obtain⟨v,o,ho,hd⟩:=I.cell x c q
     exact⟨v,o,k _ _ ho,hd⟩
   . exact⟨_,q⟩
 . show upd H s.heap.objs.size (.lst []) (s.heap.objs.size+1)=none
   rw[aA (Nat.succ_ne_self _)];exact fr1
 . rcases hcl.lk x c h with q | ⟨q,_⟩
   . rw[aA (v3 (clt q))];exact I.freeC x c q
   . subst q
     rw[aA (Nat.ne_of_gt (Nat.lt_add_of_pos_right (by decide)))];exact fr2
 . show(capt cap σ).length=N'.length
   rw[←lV hcap]
   simp[capt]
theorem rD{α:Type}{t:Sem α}{Q:α->Shared->Prop}{M:Model}{A:Around}{E E':Value->Shared->Prop}(hx:E=λ _ _=>False)(h:wpAny M A t Q E s):wpAny M A t Q E' s:=wpAny_mono h (λ _ _ q=>q) λ _ _ z=>by rw[hx]at z;exact z.elim
def TsA(X:Cx)(Γ:Gam)(S:Store):List Expr->(Bool->Store->Prop)->Prop
 | [],W=>W true S
 | [c],W=>Ts X Γ S c W
 | _,_=>False
theorem PJ{X:Cx}{Γ:Gam}{S:Store}{ifs:List Expr}{W:Bool->Store->Prop}(h:TsA X Γ S ifs W){pins:Pins}{s:Shared}{σ:St}{H:Hp}{O:Own}(I:Inv X pins σ H s)(env:EnvOk X.K O H σ Γ)(st:StOk X.K O H S):
 wpAny (model X.prog X.w) X.A (forIn ifs true λ c r=>if r=true then do let ok ←isTrue c X.env (eval c X.env);pure (ForInStep.yield ok)else pure (ForInStep.yield r)) (TP X pins σ (QT X.K O H W)) X.xe s:=by
 match ifs,h with
 | [],h=>exact wpAny_tests_nil ⟨H,I,O,S,h,Step.refl O H,st⟩
 | [c],h=>exact wpAny_tests_one (h pins s σ H O I env st)
 | _::_::_,h=>exact h.elim
def rn(K:PySem.W.Frag)(J:It)(O:Own)(H:Hp)(C:Store->Prop)(ds:List D):Prop:=
 ∀(O':Own)(H':Hp)(S':Store),Conv O O' H H'->StOk K O' H' S'->C S'->∀i:Nat,(∀d,ds[i]? =some d->J.go i H'/\∀x H'',J.yld i H' x H''->dH H' H''/\Rep K O' H'' x d)/\(i=ds.length->J.stop i H')
def QIc(K:PySem.W.Frag)(O:Own)(H:Hp)(W:List D->(Store->Prop)->Store->Prop):It->Hp->Prop:=λ J H'=>∃O' ds C S',W ds C S'/\Step O O' H H'/\StOk K O' H' S'/\rn K J O' H' C ds
def ItC(X:Cx)(Γ:Gam)(S:Store)(tg iter:Expr)(W:List D->(Store->Prop)->Store->Prop):Prop:=
 ∀ (pins:Pins)(s:Shared)(σ:St)(H:Hp)(O:Own),Inv X pins σ H s->EnvOk X.K O H σ Γ->StOk X.K O H S->
   wpAny (model X.prog X.w) X.A (eval iter X.env) (λ v s1=>wpAny (model X.prog X.w) X.A (pyIter v) (PIE X pins σ tg (QIc X.K O H W)) X.xe s1) X.xe s
theorem qe{J:It}{ds:List D}(y:gw K J O H ds):rn K J O H (λ _=>True) ds:=λ O' H' S' st ok _ i=>y O' H' st (λ a ha=>ok.tracked ha) i
theorem ItW.toC{X:Cx}{Γ:Gam}{S:Store}{tg iter:Expr}{W:List D->(Store->Prop)->Store->Prop}(h:ItW X Γ S tg iter λ ds S1=>W ds (λ _=>True) S1):ItC X Γ S tg iter W:=λ pins s σ H O I env st=>
 thn (h pins s σ H O I env st) λ _ _ q=>thn q λ _ _ hq_=>by
  obtain⟨it,fp,tn,J,H',e1,e2,e3,e4,e5,O',ds,S',w,z1,z2,z3⟩:=hq_
  exact⟨it,fp,tn,J,H',e1,e2,e3,e4,e5,O',ds,_,S',w,z1,z2,qe z3⟩
abbrev vO(X:Cx)(sc:Scope)(N':List Str)(cap:List (Option Nat))(Γ:Gam)(elt tg:Expr)(ifs:List Expr)(W:WD):List D->(Store->Prop)->Store->Prop:=λ ds C0 S1=>
 ds.length≤1000000/\∃Pv:Nat->List D->Store->Prop,Pv 0 [] S1/\(∀i acc S',Pv i acc S'->C0 S')/\
  (∀i d acc S',ds[i]? =some d->Pv i acc S'->∀(C:Addr)(s:Shared)(H:Hp)(ex:List Addr)(cl:List (Str×Addr)),BdW (fC X sc N' C s H ex cl) tg d (capt cap Γ) S' λ Γ2 S2=>Sub (capt cap Γ) Γ2/\
   TsA (fC X sc N' C s H ex cl) Γ2 S2 ifs λ ok S3=>(ok=true->Ev (fC X sc N' C s H ex cl) Γ2 S3 elt λ y S4=>Pv (i+1) (acc++[y]) S4)/\(ok=false->Pv (i+1) acc S3))/\
  ∀acc S',Pv ds.length acc S'->W (.lst acc) S'∨W (.loc S'.length) (S'++[acc])
theorem uK{Γ:Gam}{S:Store}{elt tg iter:Expr}{ifs:List Expr}{sc:Scope}{cpos:Pos}{N':List Str}{cap:List (Option Nat)}{W:WD}{E:Value->Shared->Prop}{pins:Pins}{σ:St}
 {RR:Value->Addr->Result->Shared->Prop}
 (hx:X.xe=λ _ _=>False)(hc:X.calm=true)(hkind:sc.kind=.function)(hcell:yd sc.names=true)(hfree:∀y∈sc.names,y.2=.free->X.env.kindOf y.1=some .cell∨X.env.kindOf y.1=some .free)
 (hcap:bB X.N X.env.scope.names N' sc.names cap N'=true)(h:ItC X Γ S tg iter (vO X sc N' cap Γ elt tg ifs W))(I:Inv X pins σ H s)(env:EnvOk X.K O H σ Γ)(st:StOk X.K O H S)
 (fin:∀(s':Shared)(Hc:Hp)(D0 C:Addr)(m:Str->Option Value),Inv X pins σ Hc s'->s'.heap.Ns C m->eQ X pins Hc C->D0≠C->QG X.K O H W (.ref D0) Hc->RR (.ref D0) C (.ok .next) s'):
 wpAny (model X.prog X.w) X.A (eval iter X.env) (λ x s₁=>wpAny (model X.prog X.w) X.A (pyIter x) (λ it s₂=>wpAny (model X.prog X.w) X.A (newList []) (λ acc s₃=>
  wpAny (model X.prog X.w) X.A (newFunctionEnv sc X.env.globals (closes X.env sc.names []) [] X.env.qual none .none (some X.env)) (λ cenv s₄=>
   codeAny (model X.prog X.w) X.A (.compStart (.ListComp elt [⟨tg,iter,ifs,0⟩] sc cpos) 0 it acc {cenv with scope:=relabel sc X.env}) (RR acc cenv.locals) s₄) E s₃) E s₂) E s₁) E s:=by
 refine thn (rD hx (h pins s σ H O I env st)) λ xv s1 h1=>thn (rD hx h1) λ itv s2 h2=>?_
 obtain⟨it,fp,tn,J,H2,e,I2,T,st2,f2,O2,ds,C0,S2,⟨hz,Pv,p0,pC,pt,pe⟩,stp,ok2,yl⟩:=h2
 subst e
 refine wpAny_newObj_type (Oo ?_)
 dsimp only
 have hD0:H2 s2.heap.objs.size=none:=I2.hok.fresh (y9 _)
 have hsz:(s2.heap.push {cls:=.type "list",dict:=none,data:=.seq ([]:List Value).toArray}).objs.size=s2.heap.objs.size+1:=Heap.size_push ..
 rw[hsz]
 have ns0:=Heap.Ns.new (s2.heap.push {cls:=.type "list",dict:=none,data:=.seq ([]:List Value).toArray}) (.type "dict")
 rw[hsz]at ns0
 obtain⟨cl,hcleq⟩:∃cl,cellsFrom (s2.heap.objs.size+1+1) sc.names (closes X.env sc.names [])=cl:=⟨_,rfl⟩
 obtain⟨h₁,hh1⟩:∃h₁,pushCells ((s2.heap.push {cls:=.type "list",dict:=none,data:=.seq ([]:List Value).toArray}).push {cls:=.type "dict",data:=.dict #[]}) sc.names=h₁:=⟨_,rfl⟩
 have hns₁:h₁.Ns (s2.heap.objs.size+1) (λ _=>none):=by rw[←hh1];exact ns0.keeps (pushCells_keeps _ _)
 have kp0:∀b u,(s2.heap.push {cls:=.type "list",dict:=none,data:=.seq ([]:List Value).toArray}).get? b=some u->h₁.get? b=some u:=λ b u e=>by rw[←hh1];exact pushCells_keeps _ _ b u (Heap.get?_push_of_some _ e)
 have kp:∀b u,s2.heap.get? b=some u->h₁.get? b=some u:=λ b u e=>kp0 b u (Heap.get?_push_of_some _ e)
 have hD1:h₁.get? s2.heap.objs.size=some {cls:=.type "list",data:=.seq #[] 0}:=kp0 _ _ (Heap.get?_push_size _ rfl)
 have hf:∀y∈sc.names,y.2=.free->∃c,X.env.cells.lookup y.1=some c:=λ y hy e=>I.ok.has y.1 (hfree y hy e)
 have hcl :CelsB X sc cl (s2.heap.objs.size+2) h₁:=by
  have look:∀{x c},(closes X.env sc.names []).lookup x=some c->X.env.cells.lookup x=some c:=λ{x c} h=>nW sc.names [] hf (λ c h=>by simp at h) h
  have cpy:∀x c,sc.names.lookup x=some .free->X.env.cells.lookup x=some c->(closes X.env sc.names []).lookup x=some c:=λ x c d hc=>by
   obtain⟨c2,h2⟩:=fX (env:=X.env) sc.names [] (.inr d)
   have e:=look h2
   rw[hc]at e
   cases e
   exact h2
  unfold yd at hcell
  split at hcell
  . rename_i hfl
    have e1:=(yK hfl (s2.heap.objs.size+1+1) (closes X.env sc.names []) s2.heap).1
    rw[hcleq]at e1
    have no:∀x,sc.names.lookup x≠some .cell:=λ x z=>by
     have:(x,NameKind.cell)∈sc.names.filter (λ y=>y.2==.cell):=List.mem_filter.mpr ⟨PySem.mem_of_lookup z,rfl⟩
     rw[hfl]at this
     cases this
    rw[e1]
    exact⟨λ x c h=>.inl (look h),λ x hx=>hx.elim (λ z=>absurd z (no x)) λ z=>fX sc.names [] (.inr z),cpy,λ x c z=>absurd z (no x)⟩
  . rename_i y hfl
    have hy:sc.names.lookup y.1=some .cell:=eq_of_beq hcell
    obtain⟨e1,_⟩:=ud hfl (s2.heap.objs.size+1+1) (closes X.env sc.names []) s2.heap
    rw[hcleq]at e1
    have e2:=(ud hfl 0 [] ((s2.heap.push {cls:=.type "list",dict:=none,data:=.seq ([]:List Value).toArray}).push {cls:=.type "dict",data:=.dict #[]})).2
    rw[hh1]at e2
    have e3:((s2.heap.push {cls:=.type "list",dict:=none,data:=.seq ([]:List Value).toArray}).push {cls:=.type "dict",data:=.dict #[]}).objs.size=s2.heap.objs.size+2:=by rw[Heap.size_push,hsz]
    have cel:h₁.IsCell (s2.heap.objs.size+2) none:=by
     rw[e2,←e3]
     exact⟨_,Heap.get?_push_size _ rfl,rfl⟩
    have only:∀x,sc.names.lookup x=some .cell->x=y.1:=λ x z=>by
     have:(x,NameKind.cell)∈sc.names.filter (λ y=>y.2==.cell):=List.mem_filter.mpr ⟨PySem.mem_of_lookup z,rfl⟩
     rw[hfl]at this
     have:=List.mem_singleton.mp this
     rw[←this]
    have lt0:∀{x c},(closes X.env sc.names []).lookup x=some c->c<s2.heap.objs.size:=λ{x c} h=>by
     obtain⟨v,q⟩:=I2.cell x c (look h)
     exact q.lt
    have lk2:∀x,cl.lookup x=if x=y.1 then some (s2.heap.objs.size+1+1)else(closes X.env sc.names []).lookup x:=λ x=>by
     rw[e1,List.lookup_cons]
     by_cases z:x=y.1
     . subst z;simp
     . rw[if_neg z,beq_eq_false_iff_ne.mpr z]
    refine⟨λ x c h=>?_,λ x hx=>?_,λ x c d hc=>?_,λ x c z h=>?_⟩
    . rw [lk2]at h
      by_cases z:x=y.1
      . rw[if_pos z]at h
        cases h
        refine .inr ⟨rfl,by rw[z];exact hy,cel,λ u hu=>?_⟩
        rw[lk2]at hu
        by_cases z2:u=y.1
        . rw[z2,z]
        . rw[if_neg z2]at hu
          exact(Nat.lt_irrefl _ (Nat.lt_of_le_of_lt (Nat.le_add_right _ 2) (lt0 hu))).elim
      . rw[if_neg z]at h
        exact .inl (look h)
    . rw[lk2]
      by_cases z:x=y.1
      . exact⟨_,if_pos z⟩
      . rw[if_neg z]
        exact hx.elim (λ q=>absurd (only x q) z) λ q=>fX sc.names [] (.inr q)
    . rw[lk2,if_neg (λ z=>by rw[z,hy]at d;cases d)]
      exact cpy x c d hc
    . rw[lk2,if_pos (only x z)]at h
      cases h
      exact y9 _
  . cases hcell
 rw[hcleq,hh1]
 have hob:∀b∈fp,∃o,s2.heap.get? b=some o:=λ b hb=>let ⟨o,e,_⟩:=T.obj _ _ st2 b hb;⟨o,e⟩
 have I4:=Od (t:=s2.toks) (h1:=h₁) I2 f2 hob hkind hcl hfree hcap kp hD1 ⟨_,hns₁⟩
 generalize hX':fC X sc N' (s2.heap.objs.size+1) s2 H2 fp cl=X' at I4
 have pt':=λ i d acc S' a b=>pt i d acc S' a b (s2.heap.objs.size+1) s2 H2 fp cl
 rw[hX']at pt'
 have eP:X'.prog=X.prog:=by rw[←hX'];rfl
 have ew:X'.w=X.w:=by rw[←hX'];rfl
 have eK:X'.K=X.K:=by rw[←hX'];rfl
 have eA:X'.A=X.A:=by rw[←hX'];rfl
 have ec:X'.calm=true:=by rw[←hX'];exact hc
 have ex':X'.xe=λ _ _=>False:=by rw[←hX'];exact hx
 have eenv:X'.env=compEnvC sc cl (s2.heap.objs.size+1) X.env:=by rw[←hX'];rfl
 have eex:X'.ex=fp:=by rw[←hX'];rfl
 have eout:X'.outer=X.stack:=by rw[←hX'];rfl
 have es0:X'.s₀=s2:=by rw[←hX'];rfl
 have eH0:X'.H₀=H2:=by rw[←hX'];rfl
 have epn:X'.pn=[]:=by rw[←hX'];rfl
 have stat:∀{H':Hp},(∀b∈fp,H' b=none)->∀b∈fp,eQ X' [] H' b:=λ hn b hb=>by
  refine⟨hn b hb,(I4.ok.exf b (by rw[eex];exact hb)).1,I4.ok.exfs b (by rw[eex];exact hb),.inl (by rw[eex];exact hb),(I4.ok.exf b (by rw[eex];exact hb)).2,λ p hp=>?_⟩
  rw[epn]at hp
  exact absurd hp (by simp)
 have loop:∀s₃:Shared,s₃={s2 with heap:=h₁}->
  codeAny (model X.prog X.w) X.A (.compLoop (.ListComp elt [⟨tg,iter,ifs,0⟩] sc cpos) 0 (.ref it) (.ref s2.heap.objs.size) (compEnvC sc cl (s2.heap.objs.size+1) X.env))
   (RR (.ref s2.heap.objs.size) (s2.heap.objs.size+1)) s₃:=by
  intro s₃ es
  rw[←eenv]
  refine codeAny_loop rfl (λ n s'=>∃i acc xs Hc Ac Sc σc,n=ds.length-i/\i≤ds.length/\Inv X' [] σc Hc s'/\tn i s'.heap/\(∀b∈fp,Hc b=none)/\Pv i acc Sc/\Hc s2.heap.objs.size=some (.lst xs)/\xs.length≤i/\
   Reps X.K ⟨Ac,s2.heap.objs.size::O2.B⟩ Hc xs acc/\Step O2 ⟨Ac,O2.B⟩ H2 Hc/\StOk X.K ⟨Ac,s2.heap.objs.size::O2.B⟩ Hc Sc/\EnvOk X.K ⟨Ac,s2.heap.objs.size::O2.B⟩ Hc σc (capt cap Γ)) ?_ ds.length ?_
  . rintro n s' ⟨i,acc,xs,Hc,Ac,Sc,σc,rfl,hi,Ic,stc,frc,pc,hxs,hxl,rc,sc',okc,envc⟩
    show wpAny _ _ ((compTurn (.ListComp elt [⟨tg,iter,ifs,0⟩] sc cpos) 0 (.ref it) (.ref s2.heap.objs.size) X'.env).onRaise (λ x=>do noteFrame x X'.env;theTreesLotGoes x)) _ _ s'
    refine wpAny_noted ?_
    rw[compTurn_list]
    refine wpAny_bind (wpAny_standAt (wpAny_bind ?_))
    have cv:Conv O2 ⟨Ac,s2.heap.objs.size::O2.B⟩ H2 Hc:=by
     refine⟨λ a u n t=>?_,sc'.conv.lc⟩
     obtain⟨x1,x2⟩:=sc'.conv.tr a u n t
     refine⟨λ z=>?_,x2⟩
     rcases z with z | z
     . exact x1 (.inl z)
     . rcases List.mem_cons.mp z with z | z
       . subst z;rw[hD0]at t;cases t
       . exact x1 (.inr z)
    obtain⟨y1,y2⟩:=yl _ _ _ cv okc (pC _ _ _ pc) i
    by_cases hlt:i<ds.length
    . obtain⟨go,yy⟩:=y1 ds[i] (y3 hlt)
      have it1:=T.item X' eP ew eK ec i [] s' σc Hc (λ _ _=>False) Ic (stat frc) stc go
      rw[eA]at it1
      refine wpAny_mono it1 (λ r s3 hq_=>?_) λ _ _ z=>z.elim
      obtain⟨u,hr,h3⟩:=hq_
      subst hr
      refine wpAny_bind (wpAny_mono h3 (λ _ s5 hq_=>?_) λ _ _ z=>z.elim)
      obtain⟨x,H5,I5,r5,y5,st5,fr5⟩:=hq_
      obtain⟨sm,rx⟩:=yy x H5 y5
      have I5':=I5.pinned (stat fr5) (T.obj _ _ st5)
      have st35:=Step.same (O:=⟨Ac,s2.heap.objs.size::O2.B⟩) sm
      have bd:=pt' i ds[i] acc Sc (y3 hlt) pc _ s5 σc H5 ⟨Ac,s2.heap.objs.size::O2.B⟩ x u I5' (by rw[eK];exact envc.mono st35) (by rw[eK];exact okc.same sm) (by rw[eK];exact rx) r5
      rw[eP,ew,eA]at bd
      refine wpAny_bind (wpAny_mono (rD (E':=λ _ _=>False) ex' bd) (λ _ s6 hq_=>?_) λ _ _ z=>z.elim)
      obtain⟨σ6,H6,I6,O6,Γ6,S6,⟨sub6,w6⟩,st6,ok6,env6⟩:=hq_
      have tst:=PJ w6 I6 env6 ok6
      rw[eP,ew,eA]at tst
      refine wpAny_bind (wpAny_mono (rD (E':=λ _ _=>False) ex' tst) (λ ok s7 hq_=>?_) λ _ _ z=>z.elim)
      obtain⟨H7,I7,O7,S7,w7,st7,ok7⟩:=hq_
      have st57:Step ⟨Ac,s2.heap.objs.size::O2.B⟩ O7 Hc H7:=st35.trans (st6.trans st7)
      have eB7:O7.B=s2.heap.objs.size::O2.B:=st57.hid
      have next:∀(s9:Shared)(H8:Hp)(O8:Own)(S8:Store)(ys:List V)(acc':List D),Step ⟨Ac,s2.heap.objs.size::O2.B⟩ O8 Hc H8->
       StOk X.K O8 H8 S8->EnvOk X.K O8 H8 σ6 (capt cap Γ)->Pv (i+1) acc' S8->Inv X' ([]++mC fp s5.heap) σ6 (upd H8 s2.heap.objs.size (.lst ys)) s9->Reps X.K O8 H8 ys acc'->ys.length≤i+1->
       ∃ m,m<ds.length-i/\∃i acc xs Hc Ac Sc σc,m=ds.length-i/\i≤ds.length/\Inv X' [] σc Hc s9/\tn i s9.heap/\(∀b∈fp,Hc b=none)/\Pv i acc Sc/\Hc s2.heap.objs.size=some (.lst xs)/\xs.length≤i/\
         Reps X.K ⟨Ac,s2.heap.objs.size::O2.B⟩ Hc xs acc/\Step O2 ⟨Ac,O2.B⟩ H2 Hc/\StOk X.K ⟨Ac,s2.heap.objs.size::O2.B⟩ Hc Sc/\EnvOk X.K ⟨Ac,s2.heap.objs.size::O2.B⟩ Hc σc (capt cap Γ):=by
       intro s9 H8 O8 S8 ys acc' st8 ok8 env8 p8 I8 r8 hl8
       have eB:O8.B=s2.heap.objs.size::O2.B:=st8.hid
       obtain⟨A8,B8⟩:=O8
       have eB':B8=s2.heap.objs.size::O2.B:=eB
       subst eB'
       have mem:s2.heap.objs.size∈(⟨A8,s2.heap.objs.size::O2.B⟩:Own).B:=x6
       refine⟨ds.length-(i+1),by omega,i+1,acc',ys,_,A8,S8,σ6,rfl,hlt,I8.unpinned,T.keep _ _ _ st5 λ b hb o e=>(I8.pin (b,o) (List.mem_append_right _ (List.mem_append_right _ (fU hb e)))).1,λ b hb=>?_,p8,bh,hl8,
        r8.conv (Conv.updHid mem _),sc'.inner st8 hD0 _,ok8.updHid mem _,env8.conv (Conv.updHid mem _)⟩
       obtain⟨o,e,d⟩:=T.obj _ _ st5 b hb
       exact(I8.pin (b,o) (List.mem_append_right _ (List.mem_append_right _ (fU hb e)))).2.1
      rw[eK]at ok7 env6 ok6
      have hid:∀{O':Own}{H':Hp}{S':Store},Step ⟨Ac,s2.heap.objs.size::O2.B⟩ O' Hc H'->H' s2.heap.objs.size=some (.lst xs):=λ st'=>
       st'.kept _ _ (λ z=>okc.apart _ z x6) hxs
      cases ok with
      | false=>
        refine wpAny_pure ⟨rfl,?_⟩
        have hx7:=hid (S':=S7) st57
        have eq7:upd H7 s2.heap.objs.size (.lst xs)=H7:=by
         funext b
         by_cases hb:b=s2.heap.objs.size
         . subst hb;rw[bh];exact hx7.symm
         . exact aA hb
        exact next s7 H7 O7 S7 xs acc st57 ok7 ((env6.mono st7).sub sub6) (w7.2 rfl) (by rw[eq7];exact I7) (rc.mono st57) (Nat.le_succ_of_le hxl)
      | true=>
        have el:=w7.1 rfl _ s7 σ6 H7 O7 I7 (by rw[eK];exact env6.mono st7) (by rw[eK];exact ok7)
        rw[eP,ew,eA]at el
        refine wpAny_bind (wpAny_bind (wpAny_mono (rD (E':=λ _ _=>False) ex' el) (λ xe s8 hq_=>?_) λ _ _ z=>z.elim))
        obtain⟨v8,H8,I8,r8,O8,y,S8,w8,st8,ok8,rep8⟩:=hq_
        rw[eK]at ok8 rep8
        have st58:=st57.trans st8
        have hx8:=hid (S':=S8) st58
        have ap:=ug (X:=X') _ s8 σ6 H8 (.ref s2.heap.objs.size) [v8] (.ref s2.heap.objs.size) [xe] (λ v H'=>H'=upd H8 s2.heap.objs.size (.lst (xs++[v8]))) I8 rfl (.cons r8 .nil)
         ⟨s2.heap.objs.size,xs,v8,rfl,rfl,hx8,Nat.lt_of_le_of_lt (Nat.le_trans hxl (Nat.le_trans hi hz)) (by decide),rfl⟩
        rw[eP,ew,eA]at ap
        refine wpAny_bind (wpAny_mono (rD (E':=λ _ _=>False) ex' ap) (λ _ s9 hq_=>wpAny_pure (wpAny_pure ⟨rfl,?_⟩)) λ _ _ z=>z.elim)
        obtain⟨_,H9,I9,_,e9⟩:=hq_
        subst e9
        exact next s9 H8 O8 S8 (xs++[v8]) (acc++[y]) st58 ok8 (((env6.mono st7).mono st8).sub sub6) w8 I9 ((rc.mono st58).append (.cons rep8 .nil)) (by rw[x8,List.length_singleton];omega)
    . have e:i=ds.length:=by omega
      subst e
      have dn:=T.done X' eP ew eK ec ds.length [] s' σc Hc (λ _ _=>False) Ic (stat frc) stc (y2 rfl)
      rw[eA]at dn
      refine wpAny_mono dn (λ r s3 hq_=>?_) λ _ _ z=>z.elim
      obtain⟨hr,I3⟩:=hq_
      subst hr
      refine wpAny_pure ?_
      obtain⟨m,hm,_⟩:=I3.loc
      have un:Un (frs X.stack) fp H2 Hc s2.heap s3.heap:=by
       have:=I3.base
       rw[eex,eH0,es0]at this
       show Un (frs X.stack) fp H2 Hc s2.heap s3.heap
       rw[←eout]
       exact this
      have os:s3.os=s2.os:=by
       have:=I3.os
       rw[es0]at this
       exact this
      have hok3:HOk X.prog X.w Hc s3.heap:=by
       have:=I3.hok
       rw[eP,ew]at this
       exact this
      have IX:Inv X pins σ Hc s3:=I2.call' os un hok3 I3.bare (λ b hb=>⟨(f2 b hb).2.2.2.1,(f2 b hb).2.1,(f2 b hb).2.2.2.2.1,(f2 b hb).2.2.2.2.2⟩)
      have hCn:Hc (s2.heap.objs.size+1)=none:=by
       have:=I3.free
       rw[eenv]at this
       exact this
      refine fin s3 Hc _ _ m IX (by rw[eenv]at hm;exact hm) (I2.fpOk (Nat.le_succ _) hCn) (v3 (Nat.lt_succ_self _)) ?_
      rcases pe acc Sc pc with w | w
      . refine⟨⟨Ac,O2.B⟩,.lst acc,Sc,w,stp.trans sc',okc.unhide,.lst (.inl ⟨λ z=>?_,.inl hxs⟩) (rc.conv Conv.unhide)⟩
        rcases z with z | z
        . exact okc.apart _ z x6
        . exact ok2.hidden _ z hD0
      . refine⟨⟨Ac++[(s2.heap.objs.size,false)],O2.B⟩,.loc Sc.length,Sc++[acc],w,stp.trans (sc'.adopt hD0),okc.adopt (λ z=>ok2.hidden _ z hD0) hxs rc,.loc ?_⟩
        have el:Ac.length=Sc.length:=okc.len
        show(Ac++[(s2.heap.objs.size,false)])[Sc.length]? =some _
        rw[←el];simp
  . refine⟨0,[],[],upd H2 s2.heap.objs.size (.lst []),O2.A,S2,capt cap σ,rfl,Nat.zero_le _,by rw[es];exact I4,by rw[es];exact T.keep 0 s2.heap h₁ st2 λ b hb o e=>kp b o e,λ b hb=>?_,p0,bh,y9 0,.nil,Step.fresh hD0 _,ok2.hide hD0 _,((env.mono stp).capt cap).conv (Conv.hide hD0 _)⟩
    obtain⟨o,e⟩:=hob b hb
    rw[aA (v3 (Heap.lt_size e))]
    exact(f2 b hb).1
 exact codeAny_compStart_list (loop _ rfl) (T.self _ 0 _ _ _ (T.keep 0 s2.heap h₁ st2 λ b hb o e=>kp b o e) (loop _ rfl))
variable {Γ : Gam} {S : Store} {elt tg iter : Expr} {ifs : List Expr} {sc : Scope} {pos : Pos} {N' : List Str} {cap : List (Option Nat)}
theorem N7(N':List Str)(cap:List (Option Nat)){W:WD}(h:ItC X Γ S tg iter (vO X sc N' cap Γ elt tg ifs W))(hx:X.xe=λ _ _=>False:=by rfl)(hc:X.calm=true:=by rfl)(hkind:sc.kind=.function:=by rfl)
 (hcell:yd sc.names=true:=by rfl)(hfr:freeOk X.env.scope.names sc.names=true:=by rfl)
 (hnames:∀y∈sc.names,y.2=.local->sc.names.lookup y.1=some .local:=by decide+kernel)(hcap:bB X.N X.env.scope.names N' sc.names cap N'=true:=by rfl)(hs:∀x,foldedSetIterable iter X.env x=pure x:=by intro _;rfl):
 Ev X Γ S (.ListComp elt [⟨tg,iter,ifs,0⟩] sc pos) W:=by
 intro pins s σ H O I env st
 have hfree:∀y∈sc.names,y.2=.free->X.env.kindOf y.1=some .cell∨X.env.kindOf y.1=some .free:=lK hfr
 have hf:∀y∈sc.names,y.2=.free->∃c,X.env.cells.lookup y.1=some c:=λ y hy e=>I.ok.has y.1 (hfree y hy e)
 rw[eval_ListComp]
 refine wpAny_comprehension_free (use:=none) (g:=⟨tg,iter,ifs,0⟩) (gs:=[]) rfl hs (j7 hf) hkind hnames ?_
 refine uK (RR:=λ acc C=>compPost (model X.prog X.w) X.A X.xe none (EP X pins σ (QG X.K O H W)) acc C) hx hc hkind hcell hfree hcap h I env st ?_
 intro s' Hc D0 C m I' hm fp ne q
 refine⟨m,hm,λ h' sb=>⟨.ref D0,Hc,?_,rfl,q⟩⟩
 obtain⟨f0,f1,f2,f3,f4,f5⟩:=fp
 exact I'.turned (t':=s'.toks) (λ b o hb e=>(sb.2 b hb).trans e) f0 f1 f3 f4 f5
theorem Ja(i:Nat){x:Str}{pos' spos:Pos}{W:Fin}(N':List Str)(cap:List (Option Nat))(h:ItC X Γ S tg iter (vO X sc N' cap Γ elt tg ifs λ d S1=>W.nx (Γ.set i (some d)) S1))(hN:X.N.Nodup)(hi:X.N[i]? =some x:=by rfl)
 (hl:Loc X.env.scope x:=by first | exact Or.inl rfl | exact Or.inr rfl)(hsw:swapsWith (.ListComp elt [⟨tg,iter,ifs,0⟩] sc pos) (some (.Name x pos')) spos.line X.env=pure true:=by rfl)
 (hfn:X.fn x=true∨X.env.scope.names.lookup x=some .local:=by first | exact .inl rfl | exact .inr rfl)(hx:X.xe=λ _ _=>False:=by rfl)(hc:X.calm=true:=by rfl)(hkind:sc.kind=.function:=by rfl)
 (hcell:yd sc.names=true:=by rfl)(hfr:freeOk X.env.scope.names sc.names=true:=by rfl)
 (hnames:∀y∈sc.names,y.2=.local->sc.names.lookup y.1=some .local:=by decide+kernel)(hcap:bB X.N X.env.scope.names N' sc.names cap N'=true:=by rfl)(hs:∀x,foldedSetIterable iter X.env x=pure x:=by intro _;rfl):
 Rn X Γ S (.Assign [.Name x pos'] (.ListComp elt [⟨tg,iter,ifs,0⟩] sc pos) spos) W:=by
 intro pins s σ H O I env st
 have hfree:∀y∈sc.names,y.2=.free->X.env.kindOf y.1=some .cell∨X.env.kindOf y.1=some .free:=lK hfr
 have hf:∀y∈sc.names,y.2=.free->∃c,X.env.cells.lookup y.1=some c:=λ y hy e=>I.ok.has y.1 (hfree y hy e)
 rw[exec_Assign_Name_used _ _ _ _ hsw]
 refine wpAny_bind (wpAny_standAt (wpAny_bind ?_))
 show wpAny _ X.A (do let _ ←comprehension (.ListComp elt [⟨tg,iter,ifs,0⟩] sc pos) sc X.env _ (newList []) false (eval iter X.env) (some (assign (.Name x pos') X.env))) _ _ s
 refine wpAny_bind (wpAny_mono (wpAny_comprehension_free (use:=some (assign (.Name x pos') X.env)) (g:=⟨tg,iter,ifs,0⟩) (gs:=[]) (Q:=λ _ s'=>SP X pins (ends X.K O H W) .next s') rfl hs (j7 hf) hkind hnames ?_) (λ _ s' hq=>wpAny_pure (wpAny_pure hq)) λ _ _ e=>e)
 refine uK (RR:=λ acc C=>compPost (model X.prog X.w) X.A X.xe (some (assign (.Name x pos') X.env)) (λ _ s'=>SP X pins (ends X.K O H W) .next s') acc C) hx hc hkind hcell hfree hcap h I env st ?_
 intro s' Hc D0 C m I' hm fp ne q
 show wpAny _ X.A (assign (.Name x pos') X.env (.ref D0)) _ _ _
 refine wpAny_assign_Name (uf I' hN hi hl (show RelV (.ref D0) (.ref D0)from rfl) (λ s2 I2 hq_=>?_) hfn)
 obtain⟨a,sa,ha⟩:=hq_
 obtain⟨f0,f1,f2,f3,f4,f5⟩:=fp
 have neC:C≠a:=by
  rcases ha with z | z
  . rw[z];exact f1
  . exact(f4 x a z).symm
 refine⟨m,hm.sameBut sa neC,λ h' sb=>?_⟩
 obtain⟨O',d,S',w,stp,okp,rep⟩:=q
 exact⟨_,Hc,I2.turned (t':=s2.toks) (λ b o hb e=>(sb.2 b hb).trans e) f0 f1 f3 f4 f5,O',_,S',w,stp,okp,(env.mono stp).set rep i⟩
end
end DL
namespace DL
open PySem PySem.Spec L2
open PyProof.Rows
def tyD:D->String
 | .non=>"NoneType" | .bl _=>"bool" | .int _=>"int" | .str _=>"str" | .tup _=>"tuple" | .lst _=>"list" | .loc _=>"list" | .dic=>"dict" | .dlo _=>"dict"
def isi(t c:String):Bool:=t==c||(t=="bool"&&c=="int")
def isT(c:String):Bool:=c=="int"||c=="bool"||c=="tuple"||c=="list"||c=="str"
theorem kit_at(K:PySem.W.Frag)(d:D){c:String}(hc:isT c=true):PySem.W.kitOne K (.type (tyD d)) (.type c)=some (isi (tyD d) c):=by
 simp only[isT,Bool.or_eq_true,beq_iff_eq]at hc
 rcases hc with(((h | h) | h) | h) | h<;>subst h<;>cases d<;>kernel_rfl
section
variable {X : Cx} {Γ : Gam} {S : Store} {W : WD} {a b e : Expr} {es : List Expr} {pos : Pos}
theorem Nr{pins:Pins}{s:Shared}{σ:St}{H:Hp}{O:Own}{v:V}{u c:Value}{d:D}{A:Around}{E:Value->Shared->Prop}{Q:Value->Shared->Prop}(I:Inv X pins σ H s)(st:StOk X.K O H S)(r:Rep X.K O H v d)(ru:RelV v u)
 (go:∀{x t:Value}{Hh:Heap->Prop},PySem.W.KitX X.K x t Hh->t=.type (tyD d)->Hh s.heap->x≠.builtin "__main__.__loader__#opaque"->wpAny (model X.prog X.w) A (call (.builtin "isinstance") [x,c]) Q E s):
 wpAny (model X.prog X.w) A (call (.builtin "isinstance") [u,c]) Q E s:=by
 cases r with
 | non=>cases ru;exact go PySem.W.kitx_none rfl True.intro (λ z=>nomatch z)
 | bl y=>cases ru;exact go PySem.W.kitx_bool rfl True.intro (λ z=>nomatch z)
 | int y=>obtain⟨t,rfl⟩:=ru;exact go PySem.W.kitx_int rfl True.intro (λ z=>nomatch z)
 | str y=>obtain⟨t,rfl⟩:=ru;exact go PySem.W.kitx_str rfl True.intro (λ z=>nomatch z)
 | tup h1 q1=>
   cases ru
   obtain⟨its,_,⟨o,h2,h3,_⟩,_⟩:=I.tuple h1.sq
   exact go PySem.W.kitx_tuple rfl ⟨o,h2,h3⟩ (λ z=>nomatch z)
 | lst h1 q1=>
   cases ru
   obtain⟨its,_,pl,_⟩:=I.list h1.sq
   obtain⟨o,h2,h3,_⟩:=pl.isList
   exact go PySem.W.kitx_list rfl ⟨o,h2,h3⟩ (λ z=>nomatch z)
 | @loc p k hk=>
   cases ru
   have hl:k<S.length:=by rw[←st.len];exact(z0.mp hk).1
   obtain⟨xs,hx,_⟩:=st.obj k p S[k] hk (y3 hl)
   obtain⟨its,_,pl,_⟩:=I.list (SqL.of hx)
   obtain⟨o,h2,h3,_⟩:=pl.isList
   exact go PySem.W.kitx_list rfl ⟨o,h2,h3⟩ (λ z=>nomatch z)
 | @dic p h1 h2=>
   cases ru
   obtain⟨_,_,vs,_,o,es,ep,h3,h4,_⟩:=(show bH X.prog X.w H s.heap p (.dK [])from I.hok p _ h2)
   exact go PySem.W.kitx_dict rfl ⟨o,h3,h4.1⟩ (λ z=>nomatch z)
 | @dlo p k hk nk=>
   cases ru
   have hl:k<S.length:=by rw[←st.len];exact(z0.mp hk).1
   cases st.dob k p S[k] hk (y3 hl)with
   | t kvs hx _=>
     obtain⟨_,_,xs,_,o,es,ep,h3,h4,_⟩:=(show bH X.prog X.w H s.heap p (.dT kvs)from I.hok p _ hx)
     exact go PySem.W.kitx_dict rfl ⟨o,h3,h4.1⟩ (λ z=>nomatch z)
   | c ys _ hx _=>
     obtain⟨⟨_,_,_,o,es,ep,h3,h4,_⟩,_,_⟩:=(show bH X.prog X.w H s.heap p (.ext (Rv p ys))from I.hok p _ hx)
     exact go PySem.W.kitx_dict rfl ⟨o,h3,h4.1⟩ (λ z=>nomatch z)
   | o ys _ hx _=>
     obtain⟨⟨_,_,_,o,es,ep,h3,h4,_⟩,_,_⟩:=(show bH X.prog X.w H s.heap p (.ext (Qo p ys))from I.hok p _ hx)
     exact go PySem.W.kitx_dict rfl ⟨o,h3,h4.1⟩ (λ z=>nomatch z)
   | m ys _ _ hx _=>
     obtain⟨⟨_,_,_,o,es,h3,h4,_⟩,_,_⟩:=(show bH X.prog X.w H s.heap p (.ext (Rz p ys))from I.hok p _ hx)
     exact go PySem.W.kitx_dict rfl ⟨o,h3,h4.1⟩ (λ z=>nomatch z)
   | p _ n=>exact absurd nk n
theorem RP{T:Str}{Tn:String}{p q:Pos}(h:Ev X Γ S a λ x S1=>W (.bl (isi (tyD x) Tn)) S1)(hT:isT Tn=true)(hb:bootBuiltins T=some (.type Tn))(hm1:X.mg "isinstance"=none)(hm:X.mg T=none)(hg1:Gl X "isinstance":=by rfl)(hg:Gl X T:=by rfl)
 (hn:T≠"__name__":=by decide)(hdb:(T==("__debug__":Str))=false:=by decide)(hs1:starEach [a,.Name T q] X.env=(false,eval a X.env)::starEach [.Name T q] X.env:=by rfl)(hs2:starEach [.Name T q] X.env=[(false,eval (.Name T q) X.env)]:=by rfl):
 Ev X Γ S (.Call (.Name "isinstance" p) [a,.Name T q] [] pos) W:=by
 intro pins s σ H O I env st
 have hc:fV X (.builtin "isinstance") (λ xs H' Q=>∃v,xs=[v,.ty Tn]/\∃O' d S',StOk X.K O' H' S'/\Rep X.K O' H' v d/\Q (.bl (isi (tyD d) Tn)) H'):=by
  intro pins s σ H xs us Q I r h
  obtain⟨v,rfl,O',d,S',st',rep,q⟩:=h
  obtain⟨u,u2,rfl,r1,r2⟩:=vals2 r
  cases r2
  refine Nr I st' rep r1 λ Z e p ne=>?_
  subst e
  exact PySem.W.kia_one Z I.kIn p (kit_at X.K d hT) ne λ tk=>⟨.bl _,H,I.tok tk,rfl,q⟩
 refine LR hc hg1 hm1 PyProof.Rows.boot_isinstance (nu h.pe (nu (NP hg hm hb (v:=.ty Tn) rfl hn hdb) yq hs2) hs1) (by decide) (by decide) hs1 (by rw[hs2];rfl) pins s σ H _ I ⟨O,env,st,λ v H' q=>?_⟩
 obtain⟨O',d,S',w,st1,ok1,rep⟩:=q
 exact⟨v,rfl,O',d,S',ok1,rep,O',_,S',w,st1,ok1,.bl _⟩
theorem range_all{α:Type}(f:α->Bool)(d:α):∀(bs:List α)(k:Nat),((List.range' k bs.length).all λ i=>f ((List.replicate k d++bs).getD i d))=bs.all f
 | [],_=>by simp
 | b ::bs,k=>by
   have ih:=range_all f d bs (k+1)
   rw[List.length_cons,List.range'_succ,List.all_cons,List.all_cons]
   congr 1
   . simp[List.getD]
   . rw[←ih]
     have e:List.replicate k d++b::bs=(List.replicate k d++[b])++bs:=by simp
     rw[List.all_eq,List.all_eq]
     congr 1
     apply propext
     constructor
     . intro h i hi
       have:=h i hi
       rw[List.mem_range']at hi
       obtain⟨j,hj,rfl⟩:=hi
       simp only[List.getD,List.getElem?_append,List.length_replicate]at this ⊢
       have g1:¬(k+1+1*j<k):=by omega
       have g2:¬(k+1+1*j<k+1):=by omega
       rw[if_neg g1]at this
       rw[if_neg g2]
       have e1:k+1+1*j-k=(k+1+1*j-(k+1))+1:=by omega
       rw[e1,List.getElem?_cons_succ]at this
       exact this
     . intro h i hi
       have:=h i hi
       rw[List.mem_range']at hi
       obtain⟨j,hj,rfl⟩:=hi
       simp only[List.getD,List.getElem?_append,List.length_replicate]at this ⊢
       have g1:¬(k+1+1*j<k):=by omega
       have g2:¬(k+1+1*j<k+1):=by omega
       rw[if_neg g2]at this
       rw[if_neg g1]
       have e1:k+1+1*j-k=(k+1+1*j-(k+1))+1:=by omega
       rw[e1,List.getElem?_cons_succ]
       exact this
theorem Ek(bs:List Bool):((List.range bs.length).all λ i=>bs.getD i false)=bs.all id:=by
 have:=range_all id false bs 0
 simpa[List.range_eq_range']using this
theorem k_all{bs:List Bool}(w:W (.bl (bs.all id)) S)(hc:X.calm=true:=by rfl):eX X (.builtin "all") [.lst (bs.map .bl)] S W:=by
 intro pins s σ H O vs us I st r ru
 obtain⟨v,rfl,r'⟩:=dY r
 obtain⟨u,rfl,ru'⟩:=vals1 ru
 cases r' with
 | @lst a xs _ h1 q1=>
   cases ru'
   obtain⟨its,rv,pl,hz⟩:=I.list h1.sq
   have ex:=q1.bools
   subst ex
   have hlen:its.length=bs.length:=by rw[←rv.length];simp
   refine call_all_walk (wpAny_pyIter_list pl.isList ?_)
   have ne:a≠s.heap.objs.size:=by
    obtain⟨o,e,_⟩:=pl.isList
    exact v3 (Heap.lt_size e)
   refine⟨_,_,_,_,_,_,λ i=>bs.getD i false,rfl,Walks.list (A:=X.A.in1) (I.ok.hd hc) _ a ne its.toArray,⟨⟨_,Heap.get?_push_size _ rfl,rfl,rfl⟩,pl.isList.push _⟩,λ i v s' Q' E' hv hq=>?_,λ h' tk hk=>?_⟩
   . have hv:its[i]? =some v:=by simpa using hv
     have hi:i<bs.length:=by rw[←hlen];exact(z0.mp hv).1
     obtain⟨z,hz',rz⟩:=rv.get (i:=i) (x:=V.bl bs[i]) (by rw[y8,y3 hi];rfl)
     rw[hv]at hz'
     cases hz'
     cases rz
     have e:bs.getD i false=bs[i]:=by simp[List.getD,hi]
     have hq':Q' (bs.getD i false) s':=hq
     rw[e]at hq'
     exact wpAny_truthy_bool hq'
   . have e:(List.range its.toArray.size).all (λ i=>bs.getD i false)=bs.all id:=by rw[x5,hlen];exact Ek bs
     rw[e]
     refine⟨.bl _,H,I.kept (λ b o q=>hk b o (λ z=>?_) (Heap.get?_push_of_some _ q)),rfl,QG.here w st (.bl _)⟩
     have z':b=s.heap.objs.size:=by simpa using z
     exact absurd (Heap.lt_size q) (by rw[z'];exact Nat.lt_irrefl _)
theorem Tv{ns:List Int}(w:W (.int ns.sum) S)(hc:X.calm=true:=by rfl):eX X (.builtin "sum") [.lst (ns.map .int)] S W:=by
 intro pins s σ H O vs us I st r ru
 obtain⟨v,rfl,r'⟩:=dY r
 obtain⟨u,rfl,ru'⟩:=vals1 ru
 cases r' with
 | @lst a xs _ h1 q1=>
   cases ru'
   obtain⟨its,rv,pl,hz⟩:=I.list h1.sq
   have ex:=q1.ints
   subst ex
   have hi:IntsAre its ns:=intsAre_of rv
   obtain⟨zs,ez⟩:=hi.allInts.items
   have hL:=pl.isList
   rw[ez]at hL
   refine sum_intListG (I.ok.hd hc) hL λ h' tk t' hk=>?_
   have e:preSum (numAt zs) zs.size=ns.sum:=by
    rw[preSum_eq,List.take_of_length_le (by simp),←nums_intItems,←ez]
    exact congrArg List.sum hi.numsOf
   rw[e]
   exact⟨.int _,H,I.kept hk,⟨_,rfl⟩,QG.here w st (.int _)⟩
mutual
def deep:D->Nat
 | .tup ds=>aY ds+1
 | .lst ds=>aY ds+1
 | .dic=>1
 | _=>0
def aY:List D->Nat
 | []=>0
 | d::ds=>max (deep d) (aY ds)
end
mutual
def au:D->Bool
 | .tup ds=>ao ds
 | .lst ds=>ao ds
 | .loc _=>false
 | .dlo _=>false
 | _=>true
def ao:List D->Bool
 | []=>true
 | d::ds=>au d&&ao ds
end
theorem dI{d:D}:∀{ds:List D}{i:Nat},ds[i]? =some d->deep d≤aY ds
 | [],_,h=>by simp at h
 | c::ds,0,h=>by simp at h;subst h;simp[aY];omega
 | c::ds,i+1,h=>by
   have:=dI (ds:=ds) (i:=i) (by simpa using h)
   simp[aY];omega
theorem fH{d:D}:∀{ds:List D}{i:Nat},ao ds=true->ds[i]? =some d->au d=true
 | [],_,_,h=>by simp at h
 | c::ds,0,n,h=>by simp at h;subst h;simp[ao]at n;exact n.1
 | c::ds,i+1,n,h=>by
   simp[ao]at n
   exact fH (ds:=ds) (i:=i) n.2 (by simpa using h)
theorem jU{pins:Pins}{s:Shared}{σ:St}{H:Hp}{a:Addr}(I:Inv X pins σ H s)(h:H a=some (.dK [])):(a==sysModules)=false/\s.heap.DictOf (dM X.prog X.w) a []:=by
 obtain⟨_,h2,vs,h3,h4⟩:=(show bH X.prog X.w H s.heap a (.dK [])from I.hok a _ h)
 cases h3
 exact⟨h2,h4⟩
theorem Mw{P P':Program}{w w':World}{h:Heap}{a:Addr}(d:h.DictOf (dM P w) a []):h.DictOf (dM P' w') a []:=by
 obtain⟨o,es,ep,h1,h2,h3,h4,h5,h6⟩:=d
 have e:es=#[]:=by
  have q0:∀l,Pairs (dM P w) l ([]:List (Key×Value))->l=[]:=by
   intro l hl
   cases hl
   rfl
  have q:es.toList=[]:=q0 _ h5
  exact Array.toList_eq_nil_iff.mp q
 subst e
 exact⟨o,#[],ep,h1,h2,h3,λ _ he=>by simp at he,Pairs.nil,List.nodup_nil⟩
theorem Ha (n:Nat):∀(x:D),deep x≤n->au x=true->∀{pins:Pins}{s:Shared}{σ:St}{H:Hp}{O:Own}{v w:V}{u u':Value}{A:Around},Inv X pins σ H s->Rep X.K O H v x->Rep X.K O H w x->RelV v u->RelV w u'->A.units+n<cLine->SeqAt.EqAt A s u u' true:=by
 induction n with
 | zero=>
   intro x hx hn pins s σ H O v w u u' A I r1 r2 ru ru' hu
   cases r1 with
   | non=>cases r2;cases ru;cases ru';exact SeqAt.EqAt.same _
   | bl b=>cases r2;cases ru;cases ru';exact SeqAt.EqAt.same _
   | int i=>
     cases r2;obtain⟨t,rfl⟩:=ru;obtain⟨t',rfl⟩:=ru'
     have:=SeqAt.EqAt.int_int (A:=A) (s:=s) i t i t'
     rw[beq_self_eq_true]at this
     exact this
   | str i=>
     cases r2;obtain⟨t,rfl⟩:=ru;obtain⟨t',rfl⟩:=ru'
     have:=SeqAt.EqAt.str_str (A:=A) (s:=s) i t i t'
     rw[beq_self_eq_true]at this
     exact this
   | tup _ _=>simp[deep]at hx
   | lst _ _=>simp[deep]at hx
   | loc _=>simp[au]at hn
   | dlo _=>simp[au]at hn
   | dic _ _=>simp[deep]at hx
 | succ n ih=>
   intro x hx hn pins s σ H O v w u u' A I r1 r2 ru ru' hu
   cases r1 with
   | non=>cases r2;cases ru;cases ru';exact SeqAt.EqAt.same _
   | bl b=>cases r2;cases ru;cases ru';exact SeqAt.EqAt.same _
   | int i=>
     cases r2;obtain⟨t,rfl⟩:=ru;obtain⟨t',rfl⟩:=ru'
     have:=SeqAt.EqAt.int_int (A:=A) (s:=s) i t i t'
     rw[beq_self_eq_true]at this
     exact this
   | str i=>
     cases r2;obtain⟨t,rfl⟩:=ru;obtain⟨t',rfl⟩:=ru'
     have:=SeqAt.EqAt.str_str (A:=A) (s:=s) i t i t'
     rw[beq_self_eq_true]at this
     exact this
   | @tup a xs ds h1 q1=>
     cases r2 with
     | @tup b ys _ h2 q2=>
       cases ru;cases ru'
       by_cases e:a=b
       . subst e;exact SeqAt.EqAt.same _
       . obtain⟨its,v1,p1,_⟩:=I.tuple h1.sq
         obtain⟨its2,v2,p2,_⟩:=I.tuple h2.sq
         have l1:its.length=ds.length:=by rw[←v1.length,q1.length]
         have l2:its2.length=ds.length:=by rw[←v2.length,q2.length]
         have rc:=SeqAt.RcAt.tuples (A:=A) (e:=λ _=>true) (show s.heap.IsTuple a its.toArray from p1) (show s.heap.IsTuple b its2.toArray from p2) (by omega) (λ j j1 j2=>?_)
         . have e2:((List.range (min its.toArray.size its2.toArray.size)).all (λ _=>true)&&its.toArray.size==its2.toArray.size)=true:=by simp[l1,l2]
           rw[e2]at rc
           exact SeqAt.EqAt.of_refs e rc
         . have hj:j<ds.length:=by simpa[l1]using j1
           obtain⟨z1,a1,b1⟩:=q1.get (y3 hj)
           obtain⟨z2,a2,b2⟩:=q2.get (y3 hj)
           obtain⟨u1,c1,d1⟩:=v1.get a1
           obtain⟨u2,c2,d2⟩:=v2.get a2
           have e1:its.toArray[j]=u1:=by have:=(z0.mp c1).2;simpa using this
           have e2:its2.toArray[j]=u2:=by have:=(z0.mp c2).2;simpa using this
           rw[e1,e2]
           have hd:=dI (y3 hj)
           exact ih ds[j] (by simp[deep]at hx;omega) (fH (by simpa[au]using hn) (y3 hj)) I b1 b2 d1 d2 (by show A.units+1+n<cLine;omega)
   | @lst a xs ds h1 q1=>
     cases r2 with
     | @lst b ys _ h2 q2=>
       cases ru;cases ru'
       by_cases e:a=b
       . subst e;exact SeqAt.EqAt.same _
       . obtain⟨its,v1,p1,_⟩:=I.list h1.sq
         obtain⟨its2,v2,p2,_⟩:=I.list h2.sq
         have l1:its.length=ds.length:=by rw[←v1.length,q1.length]
         have l2:its2.length=ds.length:=by rw[←v2.length,q2.length]
         have rc:=SeqAt.RcAt.lists (A:=A) (e:=λ _=>true) p1.isList p2.isList (by simp[l1,l2]) (by omega) (λ j j1 j2=>?_)
         . have e2:(List.range its.toArray.size).all (λ _=>true)=true:=by simp
           rw[e2]at rc
           exact SeqAt.EqAt.of_refs e rc
         . have hj:j<ds.length:=by simpa[l1]using j1
           obtain⟨z1,a1,b1⟩:=q1.get (y3 hj)
           obtain⟨z2,a2,b2⟩:=q2.get (y3 hj)
           obtain⟨u1,c1,d1⟩:=v1.get a1
           obtain⟨u2,c2,d2⟩:=v2.get a2
           have e1:its.toArray[j]=u1:=by have:=(z0.mp c1).2;simpa using this
           have e2:its2.toArray[j]=u2:=by have:=(z0.mp c2).2;simpa using this
           rw[e1,e2]
           have hd:=dI (y3 hj)
           exact ih ds[j] (by simp[deep]at hx;omega) (fH (by simpa[au]using hn) (y3 hj)) I b1 b2 d1 d2 (by show A.units+1+n<cLine;omega)
   | loc _=>simp[au]at hn
   | dlo _=>simp[au]at hn
   | @dic a h1 e1=>
     cases r2 with
     | @dic b h2 e2=>
       cases ru;cases ru'
       by_cases e:a=b
       . subst e;exact SeqAt.EqAt.same _
       . obtain⟨z1,d1⟩:=jU I e1
         obtain⟨z2,d2⟩:=jU I e2
         refine SeqAt.EqAt.of_refs e λ prog w' E Q hq=>?_
         exact PySem.W.keq_eq (knd:=dM prog w') z1 z2 (Mw d1) (Mw d2) (by omega) (λ _=>.nil) (by simpa using hq)
end
end DL
namespace DL
open PySem PySem.Spec L2
open PyProof.Rows
variable {pins : Pins} {H : Hp} {s : Shared}
section
variable {X : Cx} {Γ : Gam} {S : Store} {W : WD} {a b e : Expr} {es : List Expr} {pos : Pos}
theorem Ld{x:D}(hu:X.A.units+60<cLine)(hn:au x=true)(hd:deep x≤50)(w:W (.bl false) S):bK X .NotEq x x S W:=by
 intro pins s σ H O v w' u u' I st r1 r2 r3 r4
 have fin:∀{k:Bool},SeqAt.RcNeAt X.A s u u' k->k=false->wpAny (model X.prog X.w) X.A (compareOp .NotEq u u') (EP X pins σ (QG X.K O H W)) X.xe s:=λ h e=>by
  subst e
  exact h _ _ _ _ ⟨.bl false,H,I,rfl,QG.here w st (.bl false)⟩
 cases r1 with
 | non=>cases r2;cases r3;cases r4;exact fin SeqAt.RcNeAt.none_none rfl
 | bl y=>cases r2;cases r3;cases r4;exact fin (SeqAt.RcNeAt.bool_bool y y) (by simp)
 | int y=>cases r2;obtain⟨t,rfl⟩:=r3;obtain⟨t',rfl⟩:=r4;exact fin (SeqAt.RcNeAt.int_int y t y t') (by simp)
 | str y=>cases r2;obtain⟨t,rfl⟩:=r3;obtain⟨t',rfl⟩:=r4;exact fin (SeqAt.RcNeAt.str_str y t y t') (by simp)
 | @tup a xs ds h1 q1=>
   cases r2 with
   | @tup b ys _ h2 q2=>
     cases r3;cases r4
     obtain⟨its,v1,p1,_⟩:=I.tuple h1.sq
     obtain⟨its2,v2,p2,_⟩:=I.tuple h2.sq
     have l1:its.length=ds.length:=by rw[←v1.length,q1.length]
     have l2:its2.length=ds.length:=by rw[←v2.length,q2.length]
     refine fin (SeqAt.RcNeAt.tuples (e:=λ _=>true) (show s.heap.IsTuple a its.toArray from p1) (show s.heap.IsTuple b its2.toArray from p2) (by omega) (λ j j1 j2=>?_)) (by simp[l1,l2])
     have hj:j<ds.length:=by simpa[l1]using j1
     obtain⟨z1,a1,b1⟩:=q1.get (y3 hj)
     obtain⟨z2,a2,b2⟩:=q2.get (y3 hj)
     obtain⟨u1,c1,d1⟩:=v1.get a1
     obtain⟨u2,c2,d2⟩:=v2.get a2
     have e1:its.toArray[j]=u1:=by have:=(z0.mp c1).2;simpa using this
     have e2:its2.toArray[j]=u2:=by have:=(z0.mp c2).2;simpa using this
     rw[e1,e2]
     have hd':=dI (y3 hj)
     exact Ha 49 ds[j] (by simp[deep]at hd;omega) (fH (by simpa[au]using hn) (y3 hj)) I b1 b2 d1 d2 (by show X.A.units+1+49<cLine;omega)
 | @lst a xs ds h1 q1=>
   cases r2 with
   | @lst b ys _ h2 q2=>
     cases r3;cases r4
     obtain⟨its,v1,p1,_⟩:=I.list h1.sq
     obtain⟨its2,v2,p2,_⟩:=I.list h2.sq
     have l1:its.length=ds.length:=by rw[←v1.length,q1.length]
     have l2:its2.length=ds.length:=by rw[←v2.length,q2.length]
     refine fin (SeqAt.RcNeAt.lists (e:=λ _=>true) p1.isList p2.isList (by simp[l1,l2]) (by omega) (λ j j1 j2=>?_)) (by simp)
     have hj:j<ds.length:=by simpa[l1]using j1
     obtain⟨z1,a1,b1⟩:=q1.get (y3 hj)
     obtain⟨z2,a2,b2⟩:=q2.get (y3 hj)
     obtain⟨u1,c1,d1⟩:=v1.get a1
     obtain⟨u2,c2,d2⟩:=v2.get a2
     have e1:its.toArray[j]=u1:=by have:=(z0.mp c1).2;simpa using this
     have e2:its2.toArray[j]=u2:=by have:=(z0.mp c2).2;simpa using this
     rw[e1,e2]
     have hd':=dI (y3 hj)
     exact Ha 49 ds[j] (by simp[deep]at hd;omega) (fH (by simpa[au]using hn) (y3 hj)) I b1 b2 d1 d2 (by show X.A.units+1+49<cLine;omega)
 | loc _=>simp[au]at hn
 | dlo _=>simp[au]at hn
 | @dic a h1 e1=>
   cases r2 with
   | @dic b h2 e2=>
     cases r3;cases r4
     obtain⟨z1,d1⟩:=jU I e1
     obtain⟨z2,d2⟩:=jU I e2
     exact PySem.W.keq_ne (knd:=dM X.prog X.w) z1 z2 d1 d2 (by omega) (λ _=>.nil) ⟨.bl false,H,I,rfl,QG.here w st (.bl false)⟩
end
set_option genInjectivity false in
structure SqKind(P:Program)(w:World)(K:PySem.W.Frag) where
 Sq:Hp->Addr->List V->Prop
 It:Heap->Addr->Addr->Nat->Prop
 Ob:Heap->Addr->Array Value->Prop
 itObj:∀{h it a i},It h it a i->∃o vs,h.get? it=some o/\o.data=.fields vs
 itAt:∀{h h' it a i},It h it a i->(∀o,h.get? it=some o->h'.get? it=some o)->It h' it a i
 obObj:∀{h a its},Ob h a its->∃o n,h.get? a=some o/\o.data=.seq its n
 draws:∀(A:Around),A.handled=none->∀(it a:Addr),a≠it->∀items:Array Value,Draws P w A it [it,a] items.size (λ i v=>items[i]? =some v) (λ i h=>It h it a i/\Ob h a items)
 get:∀{X:Cx}{pins:Pins}{σ:St}{H:Hp}{s:Shared}{a:Addr}{xs:List V},X.prog=P->X.w=w->X.K=K->Inv X pins σ H s->Sq H a xs->∃its:List Value,Vals xs its/\Ob s.heap a its.toArray
 inj:∀{X:Cx}{pins:Pins}{σ:St}{H:Hp}{s:Shared}{a:Addr}{xs ys:List V},X.prog=P->X.w=w->X.K=K->Inv X pins σ H s->Sq H a xs->Sq H a ys->xs=ys
 far:∀{X:Cx}{pins:Pins}{σ:St}{H:Hp}{s:Shared}{a b:Addr}{xs:List V},X.K=K->Inv X pins σ H s->Sq H a xs->eQ X pins H b->a≠b
section
variable {P : Program} {w : World} {K : PySem.W.Frag}
theorem SqKind.ne(q:SqKind P w K){h:Heap}{it a:Addr}{i:Nat}{its:Array Value}(x:q.It h it a i)(y:q.Ob h a its):a≠it:=λ e=>by
 obtain⟨o,vs,h1,h2⟩:=q.itObj x
 obtain⟨o',n,h3,h4⟩:=q.obObj y
 rw[e,h1]at h3
 cases h3
 rw[h2]at h4
 cases h4
theorem Rf{X:Cx}{σ:St}{a b:Addr}{o:Obj}(I:Inv X pins σ H s)(h:X.K.lookup a=some o)(f:eQ X pins H b):a≠b:=λ z=>by
 have e:=I.ok.mod.kin a o h
 rw[z]at e
 rcases f.2.2.2.1 with q | q
 . exact I.ok.noex b o e q
 . exact absurd (w9 (Heap.lt_size e) (Nat.le_trans I.ok.bsz q)) (Nat.lt_irrefl _)
def Ti(P:Program)(w:World)(K:PySem.W.Frag):SqKind P w K where
 Sq:=SqL K
 It:=λ h it a i=>h.IsListIter it a i
 Ob:=λ h a its=>h.IsList a its
 itObj:=λ x=>let ⟨o,e,_,d⟩:=x;⟨o,_,e,d⟩
 itAt:=λ x k=>x.at k
 obObj:=λ x=>let ⟨o,e,_,n,d⟩:=x;⟨o,n,e,d⟩
 draws:=λ A hh it a ne items=>Draws.list hh it a ne items
 get:=λ hP hw hK I h=>by
  subst hP hw hK
  obtain⟨its,rv,p,_⟩:=I.list h
  exact⟨its,rv,p.isList⟩
 inj:=λ hP hw hK I h h'=>by
  subst hP hw hK
  exact I.list_inj h h'
 far:=λ hK I h f=>by
  subst hK
  rcases h with(h | ⟨_,h⟩) | ⟨o,_,_,h,_⟩
  . exact aK h f.1
  . exact aK h f.1
  . exact Rf I h f
theorem R4{prog:Program}{w:World}{A:Around}{E:Value->Shared->Prop}{it t:Addr}{i:Nat}{items:Array Value}{x:Value}{Q:Value->Shared->Prop}(hi:s.heap.IsTupleIter it t i)(ht:s.heap.IsTuple t items)(hx:items[i]? =some x)
 (hQ:∀h',h'.IsTupleIter it t (i+1)->Heap.SameBut it s.heap h'->Q x {s with heap:=h'}):wpAny (model prog w) A (Builtin.SmallTypes.nextOf (.ref it)) Q E s:=by
 obtain⟨o,ho,hc,hd⟩:=id hi
 obtain⟨o2,ho2,_,n2,hd2⟩:=ht
 unfold Builtin.SmallTypes.nextOf
 refine wpAny_bind (wpAny_callSpecial?_slot (name:=Str.ofString "__next__") hi.typeIs F.slot_tuple_iterator_next (wpAny_call_entry F.slot_tuple_iterator_next hi.typeIs F.entry_tuple_iterator_next ?_ (F.args_tuple_iterator_next_1 _)))
 refine wpAny_bind (m:=field (.ref it) 0) (wpAny_field ho hd (x:=.ref t) rfl ?_)
 rw[if_neg (show ¬((Value.ref t==Value.none)=true)from y6)]
 refine wpAny_bind (m:=field (.ref it) 1) (wpAny_field ho hd (x:=.int i 0) rfl ?_)
 refine wpAny_bind (m:=seqItems? (.ref t)) (wpAny_seqItems ho2 hd2 ?_)
 simp only[Int.toNat_natCast,hx]
 refine wpAny_bind (wpAny_setField ho hd (by simp) (wpAny_pure ⟨x,rfl,wpAny_pure (hQ _ ⟨_,Heap.get?_update_self _ ho (Obj.isFreed_of_fields (Obj.data_mapFields hd _)),(Obj.cls_mapFields ..).trans hc,by rw[Obj.data_mapFields hd];simp[rawInt]⟩ (Heap.SameBut.update ..))⟩))
theorem Hs{prog:Program}{w:World}{A:Around}{E:Value->Shared->Prop}{it t:Addr}{i:Nat}{items:Array Value}{Q:Value->Shared->Prop}(hh:A.handled=none)(hi:s.heap.IsTupleIter it t i)(ht:s.heap.IsTuple t items)(hx:items[i]? =none)
 (hE:∀h' e,Heap.ExtBut it s.heap h'->(∃o,h'.get? e=some o/\o.cls=.type "StopIteration")->E (.ref e) {s with heap:=h'}):wpAny (model prog w) A (Builtin.SmallTypes.nextOf (.ref it)) Q E s:=by
 obtain⟨o,ho,hc,hd⟩:=id hi
 obtain⟨o2,ho2,_,n2,hd2⟩:=ht
 unfold Builtin.SmallTypes.nextOf
 refine wpAny_bind (wpAny_callSpecial?_slot (name:=Str.ofString "__next__") hi.typeIs F.slot_tuple_iterator_next (wpAny_call_entry F.slot_tuple_iterator_next hi.typeIs F.entry_tuple_iterator_next ?_ (F.args_tuple_iterator_next_1 _)))
 refine wpAny_bind (m:=field (.ref it) 0) (wpAny_field ho hd (x:=.ref t) rfl ?_)
 rw[if_neg (show ¬((Value.ref t==Value.none)=true)from y6)]
 refine wpAny_bind (m:=field (.ref it) 1) (wpAny_field ho hd (x:=.int i 0) rfl ?_)
 refine wpAny_bind (m:=seqItems? (.ref t)) (wpAny_seqItems ho2 hd2 ?_)
 simp only[Int.toNat_natCast,hx]
 refine wpAny_bind (wpAny_rule (wpAny_bind (wpAny_setField ho hd (by simp) (wpAny_bind (m:=newExc (.type "StopIteration") []) ?_))))
 simp only[newExc,newTuple]
 refine wpAny_bind (wpAny_newObj_type (wpAny_bind (m:=firstArgMember _ _) (wpAny_of_eq (a:=Value.none) (by first | rfl | (simp only[firstArgMember];rfl)) (wpAny_newObj_type ?_ (by size_fits)))) (by size_fits))
 simp only[raiseNew]
 refine wpAny_bind (wpAny_handled ?_)
 first | rw[show A.in1.handled=none from hh] | rw[hh]
 exact wpAny_bind (wpAny_pure (wpAny_throw (hE _ _ (((Heap.SameBut.update ..).extBut.push _).push _) ⟨_,Heap.get?_push_size _ rfl,rfl⟩)))
theorem LQ{prog:Program}{w:World}{A:Around}(hh:A.handled=none)(it t:Addr)(ne:t≠it)(items:Array Value):
 Draws prog w A it [it,t] items.size (λ i v=>items[i]? =some v) (λ i h=>h.IsTupleIter it t i/\h.IsTuple t items) where
 live:=λ i h x=>let ⟨o,e,_⟩:=x.1;⟨o,e⟩
 frame:=λ i h h' x k=>by
  obtain⟨⟨o,e,r⟩,⟨o2,e2,r2⟩⟩:=x
  exact⟨⟨o,k it (by simp) o e,r⟩,⟨o2,k t (by simp) o2 e2,r2⟩⟩
 item:=λ i s Q E hi x hQ=>R4 x.1 x.2 (x:=items[i]) (by simp[hi]) λ h' y sb=>hQ _ h' s.toks (by simp[hi]) ⟨y,x.2.extBut sb.extBut ne⟩ sb
 done:=λ s Q E x hE=>Hs hh x.1 x.2 (by simp) hE
def Ka(P:Program)(w:World)(K:PySem.W.Frag):SqKind P w K where
 Sq:=SqT K
 It:=λ h it a i=>h.IsTupleIter it a i
 Ob:=λ h a its=>h.IsTuple a its
 itObj:=λ x=>let ⟨o,e,_,d⟩:=x;⟨o,_,e,d⟩
 itAt:=λ x k=>let ⟨o,e,r⟩:=x;⟨o,k o e,r⟩
 obObj:=λ x=>let ⟨o,e,_,n,d⟩:=x;⟨o,n,e,d⟩
 draws:=λ A hh it a ne items=>LQ hh it a ne items
 get:=λ hP hw hK I h=>by
  subst hP hw hK
  obtain⟨its,rv,p,_⟩:=I.tuple h
  exact⟨its,rv,p⟩
 inj:=λ hP hw hK I h h'=>by
  subst hP hw hK
  exact I.tuple_inj h h'
 far:=λ hK I h f=>by
  subst hK
  rcases h with(h | ⟨_,h⟩) | ⟨o,_,_,h,_⟩
  . exact aK h f.1
  . exact aK h f.1
  . exact Rf I h f
theorem sI{X:Cx}{σ:St}{h':Heap}{t:Nat}{ch:List Addr}(I:Inv X pins σ H s)(hf:∀b∈ch,eQ X pins H b)(k:∀b o,b∉ch->s.heap.get? b=some o->h'.get? b=some o):Inv X pins σ H {s with heap:=h',toks:=t}:=by
 have nch:∀b u,H b=some u->b∉ch:=λ b u e z=>by rw[(hf b z).1]at e;cases e
 refine I.step (g':=s.gens) (d':=s.drawn) (ch:=ch) (λ b hb=>⟨(hf b hb).2.2.2.1,(hf b hb).2.1,(hf b hb).2.2.2.2.1,(hf b hb).2.2.2.2.2⟩) (λ b o _ _ hc e _=>k b o hc e) (λ b o _ _ hc e _=>⟨o.slots,k b o hc e⟩) (λ _ _ _ _ n=>n) (λ b o hc e=>⟨o,k b o hc e⟩)
  (λ _ _ e=>e) (λ _ _ _ e=>e) (λ b ps e=>⟨#[],by rw[e];simp⟩) (λ m hm=>?_) (λ b u e=>?_) I.bare
 . obtain⟨o,es,ep,ho,r⟩:=hm
   exact⟨o,es,ep,k _ o (λ z=>(hf _ z).2.1 rfl) ho,r⟩
 . refine(I.hok b u e).stay (λ c v hc q=>k c v ?_ q) (λ _ q=>q) λ _ _ q=>q
   rcases hc with z | z
   . rw[z];exact nch b u e
   . exact nch c _ z
theorem xu{X:Cx}{σ:St}{s':Shared}{p:Addr}{o:HO}(I:Inv X pins σ H s)(I':Inv X pins σ H s')(hp:s.heap.objs.size≤p)(ob:bH X.prog X.w (upd H p o) s'.heap p o):Inv X pins σ (upd H p o) s':=by
 have hn:H p=none:=I.hok.fresh hp
 have nt:∀b u,H b=some u->b≠p:=λ b u e=>aK e hn
 refine⟨I'.ok,I'.os,I'.bare,⟨I'.base.keep,I'.base.slot,λ b ob e n hx=>?_,I'.base.there,λ b xs e=>?_,λ b ob u e=>?_,λ b ps e=>?_⟩,I'.loc,I'.cell,?_,λ x c e=>?_,λ q hq=>?_,λ b u e=>?_,I'.len⟩
 . have lt:b<s.heap.objs.size:=w9 (Heap.lt_size e) I.sz
   rw[aA (v3 (w9 lt hp))]
   exact I'.base.free b ob e n hx
 . have:=I'.base.tups b xs e
   rw[aA (nt b _ this)];exact this
 . have:=I'.base.frzs b ob u e
   rw[aA (nt b _ this)];exact this
 . obtain⟨m,e'⟩:=I'.base.tbls b ps e
   exact⟨m,by rw[aA (nt b _ e')];exact e'⟩
 . rw[aA (v3 (w9 I.lt hp))];exact I'.free
 . obtain⟨v,z⟩:=I.cell x c e
   rw[aA (v3 (w9 z.lt hp))];exact I'.freeC x c e
 . obtain⟨e1,_⟩:=I.pin q hq
   obtain⟨a1,a2,a3⟩:=I'.pin q hq
   exact⟨a1,by rw[aA (v3 (w9 (Heap.lt_size e1) hp))];exact a2,a3⟩
 . by_cases hb:b=p
   . subst hb;rw[bh]at e;cases e;exact ob
   . rw[aA hb]at e
     exact(I'.hok b u e).stay (λ c v _ q=>q) (λ c q=>by rw[aA (nt c _ q)];exact q) λ c xs q=>by rw[aA (nt c _ q)];exact q
def Ite(q:SqKind P w K)(a:Addr):It:=
 ⟨λ i H=>∃xs x,q.Sq H a xs/\xs[i]? =some x,λ i H x H'=>∃p y,H p=none/\H'=upd H p (.tup [.int i,y])/\x=.ref p/\∀xs,q.Sq H a xs->xs[i]? =some y,λ i H=>∃xs,q.Sq H a xs/\i=xs.length⟩
theorem Jw(q:SqKind P w K){elts:List Expr}{k:Nat}{pos:Pos}(a e it:Addr)(hne:e≠it):Turn P w K (.Tuple elts k pos) (Ite q a) [e,it] e (λ i h=>(∃old,IsEnum h e it i old)/\q.It h it a i) where
 mem:=by simp
 obj:=λ i h st b hb=>by
  obtain⟨⟨old,he⟩,hi⟩:=st
  rcases List.mem_cons.mp hb with rfl | hb
  . exact⟨_,he,λ v z=>nomatch z⟩
  . rw[List.mem_singleton.mp hb]
    obtain⟨o,vs,h1,h2⟩:=q.itObj hi
    exact⟨o,h1,λ v z=>by rw[h2]at z;cases z⟩
 keep:=λ i h h' st k=>⟨let ⟨old,he⟩:=st.1;⟨old,k e (by simp) _ he⟩,q.itAt st.2 λ o e=>k it (by simp) o e⟩
 item :=by
  intro X hP hw hK hc i pins s σ H E I hf st hg
  obtain⟨xs,x,hq,hx⟩:=hg
  obtain⟨its,rv,ob⟩:=q.get hP hw hK I hq
  obtain⟨u,hu,ru⟩:=rv.get hx
  obtain⟨⟨old,he⟩,hi⟩:=st
  have ne:=q.ne hi ob
  have hea:e≠a:=λ z=>by
   obtain⟨o,n,h1,h2⟩:=q.obObj ob
   rw[←z,he]at h1
   cases h1
   cases h2
  have hlt:i<its.toArray.size:=by simpa using(z0.mp hu).1
  have uq:∀ys,q.Sq H a ys->ys[i]? =some x:=λ ys hy=>by rw[q.inj hP hw hK I hy hq];exact hx
  subst hP hw
  refine wpAny_pyNext_enum_itemD (q.draws X.A.in1 (I.ok.hd hc) it a ne its.toArray) he ⟨hi,ob⟩ hlt hne (by simp[hne,hea]) λ x' h' tk hPx ho hs' hT hsz hk=>?_
  have ex:x'=u:=by
   have:its.toArray[i]? =some u:=by simpa using hu
   rw[this]at hPx
   exact(Option.some.inj hPx).symm
  subst ex
  refine⟨_,rfl,wpAny_letOwnedTupleGo_enum ho λ h2 he2 sb=>?_⟩
  have I1:Inv X pins σ H {s with heap:=h2,toks:=tk+1}:=sI (ch:=[e,it]) I hf λ b o hb q'=>(sb.2 b (λ z=>hb (by simp[z]))).trans (hk b o (λ z=>hb (by simp[z])) (λ z=>hb (by simp[z])) q')
  have hp:H s.heap.objs.size=none:=I.hok.fresh (y9 _)
  have elt:e<s.heap.objs.size:=Heap.lt_size he
  have hT2:h2.get? s.heap.objs.size=some {cls:=.type "tuple",data:=.seq #[.int i tk,x']}:=(sb.2 _ (Nat.ne_of_gt elt)).trans hT
  have I2:Inv X pins σ (upd H s.heap.objs.size (.tup [.int i,x])) {s with heap:=h2,toks:=tk+1}:=xu I I1 (y9 _) ⟨by show 2≤sizeLine;decide,[.int i tk,x'],.cons ⟨tk,rfl⟩ (.cons ru .nil),_,hT2,rfl,_,rfl⟩
  refine⟨.ref s.heap.objs.size,_,I2,rfl,⟨_,x,hp,rfl,rfl,uq⟩,⟨⟨_,by simpa using he2⟩,q.itAt hs'.1 λ o q'=>(sb.2 it hne.symm).trans q'⟩,λ b hb=>?_⟩
  rw[aA (v3 ?_)]
  . exact(hf b hb).1
  . rcases List.mem_cons.mp hb with rfl | hb
    . exact elt
    . rw[List.mem_singleton.mp hb]
      obtain⟨o,vs,h1,_⟩:=q.itObj hi
      exact Heap.lt_size h1
 done:=by
  intro X hP hw hK hc i pins s σ H E I hf st hg
  obtain⟨xs,hq,hx⟩:=hg
  obtain⟨its,rv,ob⟩:=q.get hP hw hK I hq
  obtain⟨⟨old,he⟩,hi⟩:=st
  have ne:=q.ne hi ob
  subst hP hw
  obtain⟨f0,f1,f2,f3,f4,f5⟩:=hf it (by simp)
  have hn:i=its.toArray.size:=by rw[hx,rv.length];simp
  have st':q.It s.heap it a its.toArray.size/\q.Ob s.heap a its.toArray:=⟨hn▸hi,ob⟩
  exact wpAny_pyNext_enum_endD (q.draws X.A.in1 (I.ok.hd hc) it a ne its.toArray) he st' λ h' ext=>⟨rfl,I.turned (t':=s.toks) (λ b o hb e=>ext b o hb e) f0 f1 f3 f4 f5⟩
 self:=λ _ _ _ _ _ st h=>let ⟨old,he⟩:=st.1;wpAny_pyIter_enum he h
theorem oA(q:SqKind P w K){O:Own}{H:Hp}{a:Addr}{ds:List D}(h:∀O' H',Conv O O' H H'->∃xs,q.Sq H' a xs/\Reps K O' H' xs ds):gw K (Ite q a) O H (ds.mapIdx λ i d=>.tup [.int i,d]):=by
 intro O' H' cv tr i
 obtain⟨xs,hq,r⟩:=h O' H' cv
 refine⟨λ d hd=>?_,λ hi=>⟨xs,hq,by rw[hi,r.length];simp⟩⟩
 rw[List.getElem?_mapIdx]at hd
 cases e:ds[i]? with
 | none=>rw[e]at hd;cases hd
 | some d0=>
   rw[e]at hd
   cases hd
   obtain⟨v,hv,rv⟩:=r.get e
   refine⟨⟨xs,v,hq,hv⟩,λ x H'' y=>?_⟩
   obtain⟨p,y,hp,rfl,rfl,hy⟩:=y
   have ey:=hy xs hq
   rw[hv]at ey
   cases ey
   have np:¬O'.has p:=λ z=>tr p z hp
   exact⟨dH.fresh hp _,.tup ⟨np,bh⟩ (.cons (.int _) (.cons (rv.mono (Step.fresh hp _)) .nil))⟩
section
variable {X : Cx} {Γ : Gam} {S : Store} {e : Expr} {pos : Pos}
theorem Bh{σ:St}{elts:List Expr}{k:Nat}{tp:Pos}{R:It->Hp->Prop}{E:Value->Shared->Prop}{h':Heap}(q:SqKind X.prog X.w X.K){a:Addr}(I:Inv X pins σ H s)(he:IsEnum h' (s.heap.objs.size+1) s.heap.objs.size 0 .none)(hi:q.It h' s.heap.objs.size a 0)
 (kp:∀b o,s.heap.get? b=some o->h'.get? b=some o)(r:R (Ite q a) H):wpAny (model X.prog X.w) X.A (pyIter (.ref (s.heap.objs.size+1))) (PIE X pins σ (.Tuple elts k tp) R) E {s with heap:=h'}:=by
 refine wpAny_pyIter_enum he ?_
 refine⟨s.heap.objs.size+1,[s.heap.objs.size+1,s.heap.objs.size],_,_,H,rfl,I.kept (t':=s.toks) kp,Jw q a (s.heap.objs.size+1) s.heap.objs.size (Nat.succ_ne_self _),⟨⟨_,he⟩,hi⟩,λ b hb=>?_,r⟩
 rcases List.mem_cons.mp hb with rfl | hb
 . exact I.fpOk (Nat.le_succ _) (I.hok.fresh (Nat.le_succ _))
 . rw[List.mem_singleton.mp hb]
   exact I.fpOk (y9 _) (I.hok.fresh (y9 _))
theorem HX(l:Addr)(items:Array Value)(n:Nat)(dct:Option Addr)(sl:Array (Option Value)):
 Meets (Builtin.«enumerate.__new__» ⟨[.type "enumerate",.ref l],[]⟩) (λ _ R s=>s.heap.get? l=some {cls:=.type "tuple",dict:=dct,data:=.seq items n,slots:=sl}/\
  R (.ok (.ret (.ref (s.heap.push {cls:=.type "tuple_iterator",data:=.fields #[.ref l,.int 0 0]}).objs.size)))
    {s with heap:=(s.heap.push {cls:=.type "tuple_iterator",data:=.fields #[.ref l,.int 0 0]}).push {cls:=.type "enumerate",data:=.fields #[.none,.bool false,.ref s.heap.objs.size,rawInt 0,.none,.none]}}):=
 .of_wp λ prog w A R s h=>by
  obtain⟨hp,g,d,tk,os⟩:=s;obtain⟨hl,h⟩:=h
  have hsub:=sub_enumerate
  have hT:Heap.IsTuple (Shared.heap ⟨hp,g,d,tk,os⟩) l items:=⟨_,hl,rfl,n,rfl⟩
  wp_walk using AutoSeq1.wpAny_loadPart' hl
  refine wpAny_stack_any λ st=>wpAny_pure ?_
  split
  . rename_i c _ _ _ _ _
    cases (c==Value.type "enumerate")<;>(wp_walk using AutoSeq1.wpAny_loadPart' hl,wpAny_pyIter_tuple hT;exact⟨_,rfl,h⟩)
  . wp_walk using AutoSeq1.wpAny_loadPart' hl,wpAny_pyIter_tuple hT
    exact⟨_,rfl,h⟩
end
end
end DL
namespace DL
open PySem PySem.Spec L2
open PyProof.Rows
structure Zd(z TI TO i1 i2:Addr)(f1 f2:List Addr):Prop where
 a:TI≠z
 b:TO≠z
 c:TI≠TO
 d:TI≠i1
 e:TI≠i2
 f:TO≠i1
 g:TO≠i2
 h:i1≠z
 i:i2≠z
 j:z∉f1
 k:z∉f2
 l:TO∉f1
 m:TO∉f2
 n:i1∉f2
 o:i2∉f1
section
variable {prog : Program} {w : World} {A : Around} {E : Value -> Shared -> Prop} {s : Shared} {z TI TO i1 i2 : Addr} {f1 f2 : List Addr} {n1 n2 k : Nat} {P1 P2 : Nat -> Value -> Prop} {T1 T2 : Nat -> Heap -> Prop} {va vb : Value}
theorem QR{Q:Value->Shared->Prop}(D1:Draws prog w A i1 f1 n1 P1 T1)(D2:Draws prog w A i2 f2 n2 P2 T2)(Z:Zd z TI TO i1 i2 f1 f2)(hz:IsZip s.heap z TI TO .none)(hTI:IsPair s.heap TI (.ref i1) (.ref i2))(hTO:IsPair s.heap TO va vb)(t1:T1 k s.heap)(t2:T2 k s.heap)(k1:k<n1)(k2:k<n2)
 (hQ:∀x y h' tk,P1 k x->P2 k y->IsZip h' z TI TO (rawInt s.heap.objs.size)->IsPair h' TO x y->T1 (k+1) h'->T2 (k+1) h'->IsPair h' s.heap.objs.size x y->
  (∀c o,c≠z->c≠TO->c≠i1->c≠i2->s.heap.get? c=some o->h'.get? c=some o)->Q (.ref s.heap.objs.size) {s with heap:=h',toks:=tk}):
 wpAny (model prog w) A (Builtin.«zip.__next__» ⟨[.ref z],[]⟩) (λ fin s'=>∃v,fin=.done (.ret v)/\Q v s') E s:=by
 obtain⟨hp,g,d,tk0,os⟩:=s
 refine wpAny_bind (m:=field (.ref z) 2) (wpAny_field hz rfl (x:=.bool false) rfl (wpAny_bind (m:=field (.ref z) 3) (wpAny_field hz rfl (x:=.ref TI) rfl (wpAny_bind (wpAny_seqItems hTI rfl ?_)))))
 refine wpAny_bind (m:=Builtin.SmallTypes.ownedTupleIsFree (.ref z)) ?_
 unfold Builtin.SmallTypes.ownedTupleIsFree
 refine wpAny_bind (wpAny_field hz rfl (x:=.none) rfl (wpAny_pure ?_))
 simp only[if_true]
 refine wpAny_bind (wpAny_rule (wpAny_bind (wpAny_field hz rfl (x:=.ref TO) rfl (wpAny_bind (wpAny_setField_rec hz (by simp) λ h1 hz1 s1=>?_)))))
 replace hz1:IsZip h1 z TI TO .ellipsis:=hz1
 refine wpAny_bind ?_
 simp only[List.zipIdx_cons,List.zipIdx_nil,List.forIn_cons,List.forIn_nil]
 refine wpAny_bind (wpAny_bind (wpAny_onRaise (wpAny_bind (m:=Builtin.SmallTypes.nextOf (.ref i1)) ?_)))
 refine D1.item k _ _ _ k1 (D1.frame _ _ _ t1 λ b hb o e=>s1.extBut b o (λ q=>Z.j (q▸hb)) e) λ x h2 tk1 p1 t1' s2=>wpAny_pure ?_
 replace s2:Heap.SameBut i1 h1 h2:=s2
 have o2:IsPair h2 TO va vb:=s2.extBut _ _ Z.f (s1.extBut _ _ Z.b hTO)
 refine wpAny_bind (wpAny_seqItems o2 rfl (wpAny_bind (wpAny_updateSeq_pair o2 λ h3 o3 s3=>wpAny_bind (wpAny_letGo (wpAny_pure ?_)))))
 replace o3:IsPair h3 TO x vb:=o3
 refine wpAny_bind (wpAny_bind (wpAny_onRaise (wpAny_bind (m:=Builtin.SmallTypes.nextOf (.ref i2)) ?_)))
 have t2':T2 k h3:=D2.frame _ _ _ t2 λ b hb o e=>s3.extBut b o (λ q=>Z.m (q▸hb)) (s2.extBut b o (λ q=>Z.n (q▸hb)) (s1.extBut b o (λ q=>Z.k (q▸hb)) e))
 refine D2.item k _ _ _ k2 t2' λ y h4 tk2 p2 t2'' s4=>wpAny_pure ?_
 replace s4:Heap.SameBut i2 h3 h4:=s4
 have o4:IsPair h4 TO x vb:=s4.extBut _ _ Z.g o3
 refine wpAny_bind (wpAny_seqItems o4 rfl (wpAny_bind (wpAny_updateSeq_pair o4 λ h5 o5 s5=>wpAny_bind (wpAny_letGo (wpAny_pure (wpAny_pure ?_))))))
 replace o5:IsPair h5 TO x y:=o5
 refine wpAny_bind (wpAny_seqItems o5 rfl (wpAny_bind (wpAny_newTuple ?_)))
 have sz:h5.objs.size=hp.objs.size:=by rw[s5.1,s4.1,s3.1,s2.1,s1.1]
 have hz5:IsZip h5 z TI TO .ellipsis:=s5.extBut _ _ Z.b.symm (s4.extBut _ _ Z.i.symm (s3.extBut _ _ Z.b.symm (s2.extBut _ _ Z.h.symm hz1)))
 have k5:∀c o,c≠z->c≠TO->c≠i1->c≠i2->hp.get? c=some o->h5.get? c=some o:=λ c o c1 c2 c3 c4 q=>s5.extBut _ _ c2 (s4.extBut _ _ c4 (s3.extBut _ _ c2 (s2.extBut _ _ c3 (s1.extBut _ _ c1 q))))
 have zlt:z<h5.objs.size:=Heap.lt_size hz5
 refine wpAny_bind (m:=Builtin.SmallTypes.ownedTupleHandOut (.ref z) (.ref h5.objs.size)) ?_
 unfold Builtin.SmallTypes.ownedTupleHandOut
 have hz6:IsZip (h5.push {cls:=.type "tuple",data:=.seq #[x,y]}) z TI TO .ellipsis:=Heap.get?_push_of_some _ hz5
 refine wpAny_bind (wpAny_setField_rec hz6 (by simp) λ h7 hz7 s7=>?_)
 replace hz7:IsZip h7 z TI TO (rawInt h5.objs.size):=hz7
 refine wpAny_setField_rec hz7 (by simp) λ h8 hz8 s8=>?_
 replace hz8:IsZip h8 z TI TO (rawInt h5.objs.size):=hz8
 have up:∀c o,c≠z->h5.get? c=some o->h8.get? c=some o:=λ c o c1 q=>s8.extBut _ _ c1 (s7.extBut _ _ c1 (Heap.get?_push_of_some _ q))
 have p8:IsPair h8 h5.objs.size x y:=s8.extBut _ _ (Nat.ne_of_gt zlt) (s7.extBut _ _ (Nat.ne_of_gt zlt) (Heap.get?_push_size _ rfl))
 rw[sz]at hz8 p8
 refine wpAny_pure ⟨_,rfl,?_⟩
 show Q (.ref h5.objs.size) _
 rw[sz]
 have u1:T1 (k+1) h8:=D1.frame _ _ _ t1' λ b hb o q=>up b o (λ r=>Z.j (r▸hb)) (s5.extBut b o (λ r=>Z.l (r▸hb)) (s4.extBut b o (λ r=>Z.o (r▸hb)) (s3.extBut b o (λ r=>Z.l (r▸hb)) q)))
 have u2:T2 (k+1) h8:=D2.frame _ _ _ t2'' λ b hb o q=>up b o (λ r=>Z.k (r▸hb)) (s5.extBut b o (λ r=>Z.m (r▸hb)) q)
 exact hQ x y h8 tk2 p1 p2 hz8 (up _ _ Z.b o5) u1 u2 p8 λ c o c1 c2 c3 c4 q=>up c o c1 (k5 c o c1 c2 c3 c4 q)
theorem Kr{Q:PySem.Fin->Shared->Prop}(D1:Draws prog w A i1 f1 n1 P1 T1)(D2:Draws prog w A i2 f2 n2 P2 T2)(Z:Zd z TI TO i1 i2 f1 f2)(hz:IsZip s.heap z TI TO .none)(hTI:IsPair s.heap TI (.ref i1) (.ref i2))(hTO:IsPair s.heap TO va vb)(t1:T1 k s.heap)(t2:T2 k s.heap)(hk:k=n1∨(k<n1/\k=n2))
 (hE:∀h' tk e,(∀c o,c≠z->c≠TO->c≠i1->c≠i2->s.heap.get? c=some o->h'.get? c=some o)->(∃o,h'.get? e=some o/\o.cls=.type "StopIteration")->E (.ref e) {s with heap:=h',toks:=tk}):
 wpAny (model prog w) A (Builtin.«zip.__next__» ⟨[.ref z],[]⟩) Q E s:=by
 obtain⟨hp,g,d,tk0,os⟩:=s
 refine wpAny_bind (m:=field (.ref z) 2) (wpAny_field hz rfl (x:=.bool false) rfl (wpAny_bind (m:=field (.ref z) 3) (wpAny_field hz rfl (x:=.ref TI) rfl (wpAny_bind (wpAny_seqItems hTI rfl ?_)))))
 refine wpAny_bind (m:=Builtin.SmallTypes.ownedTupleIsFree (.ref z)) ?_
 unfold Builtin.SmallTypes.ownedTupleIsFree
 refine wpAny_bind (wpAny_field hz rfl (x:=.none) rfl (wpAny_pure ?_))
 simp only[if_true]
 refine wpAny_bind (wpAny_rule (wpAny_bind (wpAny_field hz rfl (x:=.ref TO) rfl (wpAny_bind (wpAny_setField_rec hz (by simp) λ h1 hz1 s1=>?_)))))
 replace hz1:IsZip h1 z TI TO .ellipsis:=hz1
 refine wpAny_bind ?_
 simp only[List.zipIdx_cons,List.zipIdx_nil,List.forIn_cons,List.forIn_nil]
 refine wpAny_bind (wpAny_bind (wpAny_onRaise (wpAny_bind (m:=Builtin.SmallTypes.nextOf (.ref i1)) ?_)))
 have t1':T1 k h1:=D1.frame _ _ _ t1 λ b hb o e=>s1.extBut b o (λ q=>Z.j (q▸hb)) e
 rcases hk with rfl | ⟨k1,rfl⟩
 . refine D1.done _ _ _ t1' λ h2 e s2 hq_=>?_
   obtain⟨oe,he,ce⟩:=hq_
   replace s2:Heap.ExtBut i1 h1 h2:=s2
   have hz2:IsZip h2 z TI TO .ellipsis:=s2 _ _ Z.h.symm hz1
   have ez:e≠z:=λ q=>by subst q;rw[hz2]at he;cases he;simp at ce
   exact wpAny_setField_rec hz2 (by simp) λ h3 _ s3=>hE h3 _ e (λ c o c1 _ c3 _ q=>s3.extBut _ _ c1 (s2 _ _ c3 (s1.extBut _ _ c1 q))) ⟨oe,s3.extBut _ _ ez he,ce⟩
 . refine D1.item k _ _ _ k1 t1' λ x h2 tk1 p1 _ s2=>wpAny_pure ?_
   replace s2:Heap.SameBut i1 h1 h2:=s2
   have o2:IsPair h2 TO va vb:=s2.extBut _ _ Z.f (s1.extBut _ _ Z.b hTO)
   refine wpAny_bind (wpAny_seqItems o2 rfl (wpAny_bind (wpAny_updateSeq_pair o2 λ h3 o3 s3=>wpAny_bind (wpAny_letGo (wpAny_pure ?_)))))
   refine wpAny_bind (wpAny_bind (wpAny_onRaise (wpAny_bind (m:=Builtin.SmallTypes.nextOf (.ref i2)) ?_)))
   have t2':T2 k h3:=D2.frame _ _ _ t2 λ b hb o e=>s3.extBut b o (λ q=>Z.m (q▸hb)) (s2.extBut b o (λ q=>Z.n (q▸hb)) (s1.extBut b o (λ q=>Z.k (q▸hb)) e))
   refine D2.done _ _ _ t2' λ h4 e s4 hq_=>?_
   obtain⟨oe,he,ce⟩:=hq_
   replace s4:Heap.ExtBut i2 h3 h4:=s4
   have hz4:IsZip h4 z TI TO .ellipsis:=s4 _ _ Z.i.symm (s3.extBut _ _ Z.b.symm (s2.extBut _ _ Z.h.symm hz1))
   have ez:e≠z:=λ q=>by subst q;rw[hz4]at he;cases he;simp at ce
   exact wpAny_setField_rec hz4 (by simp) λ h5 _ s5=>hE h5 _ e (λ c o c1 c2 c3 c4 q=>s5.extBut _ _ c1 (s4 _ _ c4 (s3.extBut _ _ c2 (s2.extBut _ _ c3 (s1.extBut _ _ c1 q))))) ⟨oe,s5.extBut _ _ ez he,ce⟩
end
section
variable {P : Program} {w : World} {K : PySem.W.Frag}
def Itz(q r:SqKind P w K)(a b:Addr):It:=
 ⟨λ i H=>∃xs ys x y,q.Sq H a xs/\r.Sq H b ys/\xs[i]? =some x/\ys[i]? =some y,
  λ i H v H'=>∃p x y,H p=none/\H'=upd H p (.tup [x,y])/\v=.ref p/\(∀xs,q.Sq H a xs->xs[i]? =some x)/\∀ys,r.Sq H b ys->ys[i]? =some y,
  λ i H=>∃xs ys,q.Sq H a xs/\r.Sq H b ys/\i=min xs.length ys.length⟩
structure Zr(z TI TO i1 i2:Addr):Prop where
 a:TI≠z
 b:TO≠z
 c:TI≠TO
 d:TI≠i1
 e:TI≠i2
 f:TO≠i1
 g:TO≠i2
 h:i1≠z
 i:i2≠z
 j:i1≠i2
theorem Zr.zd(q r:SqKind P w K){X:Cx}{pins:Pins}{σ:St}{H:Hp}{s:Shared}{z TI TO i1 i2 a b:Addr}{xs ys:List V}(Z:Zr z TI TO i1 i2)(hK:X.K=K)(I:Inv X pins σ H s)(hf:∀c∈[z,TI,TO,i1,i2],eQ X pins H c)(hq:q.Sq H a xs)(hr:r.Sq H b ys):Zd z TI TO i1 i2 [i1,a] [i2,b]:=by
 have fa:∀c∈[z,TI,TO,i1,i2],c≠a:=λ c hc=>(q.far hK I hq (hf c hc)).symm
 have fb:∀c∈[z,TI,TO,i1,i2],c≠b:=λ c hc=>(r.far hK I hr (hf c hc)).symm
 refine⟨Z.a,Z.b,Z.c,Z.d,Z.e,Z.f,Z.g,Z.h,Z.i,?_,?_,?_,?_,?_,?_⟩
 . simp[Z.h.symm,fa z (by simp)]
 . simp[Z.i.symm,fb z (by simp)]
 . simp[Z.f,fa TO (by simp)]
 . simp[Z.g,fb TO (by simp)]
 . simp[Z.j,fb i1 (by simp)]
 . simp[Z.j.symm,fa i2 (by simp)]
theorem LC(q r:SqKind P w K){elts:List Expr}{k:Nat}{pos:Pos}(a b z TI TO i1 i2:Addr)(Z:Zr z TI TO i1 i2):Turn P w K (.Tuple elts k pos) (Itz q r a b) [z,TI,TO,i1,i2] z
 (λ i h=>IsZip h z TI TO .none/\IsPair h TI (.ref i1) (.ref i2)/\(∃va vb,IsPair h TO va vb)/\q.It h i1 a i/\r.It h i2 b i) where
 mem:=by simp
 obj:=λ i h st c hc=>by
  obtain⟨hz,hTI,⟨va,vb,hTO⟩,hi,hj⟩:=st
  obtain⟨o,vs,h1,h2⟩:=q.itObj hi
  obtain⟨o',vs',h1',h2'⟩:=r.itObj hj
  simp only[List.mem_cons,List.not_mem_nil,or_false]at hc
  rcases hc with rfl | rfl | rfl | rfl | rfl
  . exact⟨_,hz,λ v z=>nomatch z⟩
  . exact⟨_,hTI,λ v z=>nomatch z⟩
  . exact⟨_,hTO,λ v z=>nomatch z⟩
  . exact⟨o,h1,λ v z=>by rw[h2]at z;cases z⟩
  . exact⟨o',h1',λ v z=>by rw[h2']at z;cases z⟩
 keep:=λ i h h' st k=>by
  obtain⟨hz,hTI,⟨va,vb,hTO⟩,hi,hj⟩:=st
  exact⟨k z (by simp) _ hz,k TI (by simp) _ hTI,⟨va,vb,k TO (by simp) _ hTO⟩,q.itAt hi λ o e=>k i1 (by simp) o e,r.itAt hj λ o e=>k i2 (by simp) o e⟩
 item:=by
  intro X hP hw hK hc i pins s σ H E I hf st hg
  obtain⟨xs,ys,x,y,hq,hr,hx,hy⟩:=hg
  obtain⟨its,rv,ob⟩:=q.get hP hw hK I hq
  obtain⟨its2,rv2,ob2⟩:=r.get hP hw hK I hr
  obtain⟨u,hu,ru⟩:=rv.get hx
  obtain⟨u2,hu2,ru2⟩:=rv2.get hy
  obtain⟨hz,hTI,⟨va,vb,hTO⟩,hi,hj⟩:=st
  have ux:∀zs,q.Sq H a zs->zs[i]? =some x:=λ zs h=>by rw[q.inj hP hw hK I h hq];exact hx
  have uy:∀zs,r.Sq H b zs->zs[i]? =some y:=λ zs h=>by rw[r.inj hP hw hK I h hr];exact hy
  have Z2:=Z.zd q r hK I hf hq hr
  have l1:i<its.toArray.size:=by simpa using(z0.mp hu).1
  have l2:i<its2.toArray.size:=by simpa using(z0.mp hu2).1
  subst hP hw
  have hT:s.TypeIs (.ref z) "zip":=⟨_,hz,rfl⟩
  unfold pyNext
  refine wpAny_bind (wpAny_attempt (wpAny_callSpecial?_slot (name:=Str.ofString "__next__") hT F.slot_zip_next (wpAny_call_entry F.slot_zip_next hT F.entry_zip_next ?_ (F.args_zip_next_1 _))))
  refine QR (q.draws X.A.in1 (I.ok.hd hc) i1 a (q.ne hi ob) its.toArray) (r.draws X.A.in1 (I.ok.hd hc) i2 b (r.ne hj ob2) its2.toArray) Z2 hz hTI hTO ⟨hi,ob⟩ ⟨hj,ob2⟩ l1 l2 λ x' y' h' tk px py hz' hTO' t1 t2 hp' kp=>wpAny_pure ?_
  have ex:x'=u:=by
   have e1:its.toArray[i]? =some u:=by simpa using hu
   rw[e1]at px
   exact(Option.some.inj px).symm
  have ey:y'=u2:=by
   have e1:its2.toArray[i]? =some u2:=by simpa using hu2
   rw[e1]at py
   exact(Option.some.inj py).symm
  subst ex
  subst ey
  refine⟨_,rfl,wpAny_letOwnedTupleGo_zip hz' λ h2 hz2 sb=>?_⟩
  have I1:Inv X pins σ H {s with heap:=h2,toks:=tk}:=sI (ch:=[z,TI,TO,i1,i2]) I hf λ c o hb q'=>(sb.2 c (λ z=>hb (by simp[z]))).trans (kp c o (λ z=>hb (by simp[z])) (λ z=>hb (by simp[z])) (λ z=>hb (by simp[z])) (λ z=>hb (by simp[z])) q')
  have hp:H s.heap.objs.size=none:=I.hok.fresh (y9 _)
  have elt:z<s.heap.objs.size:=Heap.lt_size hz
  have hT2:h2.get? s.heap.objs.size=some {cls:=.type "tuple",data:=.seq #[x',y']}:=(sb.2 _ (Nat.ne_of_gt elt)).trans hp'
  have I2:Inv X pins σ (upd H s.heap.objs.size (.tup [x,y])) {s with heap:=h2,toks:=tk}:=xu I I1 (y9 _) ⟨by show 2≤sizeLine;decide,[x',y'],.cons ru (.cons ru2 .nil),_,hT2,rfl,_,rfl⟩
  have hTI':IsPair h2 TI (.ref i1) (.ref i2):=(sb.2 _ Z.a).trans (kp _ _ Z.a Z.c Z.d Z.e hTI)
  refine⟨.ref s.heap.objs.size,_,I2,rfl,⟨_,x,y,hp,rfl,rfl,ux,uy⟩,⟨hz2,hTI',⟨_,_,(sb.2 _ Z.b).trans hTO'⟩,q.itAt t1.1 λ o q'=>(sb.2 i1 Z.h).trans q',r.itAt t2.1 λ o q'=>(sb.2 i2 Z.i).trans q'⟩,λ c hb=>?_⟩
  rw[aA (v3 ?_)]
  . exact(hf c hb).1
  . obtain⟨o,vs,h1,_⟩:=q.itObj hi
    obtain⟨o',vs',h1',_⟩:=r.itObj hj
    simp only[List.mem_cons,List.not_mem_nil,or_false]at hb
    rcases hb with rfl | rfl | rfl | rfl | rfl
    . exact elt
    . exact Heap.lt_size hTI
    . exact Heap.lt_size hTO
    . exact Heap.lt_size h1
    . exact Heap.lt_size h1'
 done:=by
  intro X hP hw hK hc i pins s σ H E I hf st hg
  obtain⟨xs,ys,hq,hr,hn⟩:=hg
  obtain⟨its,rv,ob⟩:=q.get hP hw hK I hq
  obtain⟨its2,rv2,ob2⟩:=r.get hP hw hK I hr
  obtain⟨hz,hTI,⟨va,vb,hTO⟩,hi,hj⟩:=st
  have Z2:=Z.zd q r hK I hf hq hr
  subst hP hw
  have hT:s.TypeIs (.ref z) "zip":=⟨_,hz,rfl⟩
  have hk:i=its.toArray.size∨(i<its.toArray.size/\i=its2.toArray.size):=by
   have e1:=rv.length
   have e2:=rv2.length
   simp only[x5]
   omega
  unfold pyNext
  refine wpAny_bind (wpAny_attempt (wpAny_callSpecial?_slot (name:=Str.ofString "__next__") hT F.slot_zip_next (wpAny_call_entry F.slot_zip_next hT F.entry_zip_next ?_ (F.args_zip_next_1 _))))
  refine Kr (q.draws X.A.in1 (I.ok.hd hc) i1 a (q.ne hi ob) its.toArray) (r.draws X.A.in1 (I.ok.hd hc) i2 b (r.ne hj ob2) its2.toArray) Z2 hz hTI hTO ⟨hi,ob⟩ ⟨hj,ob2⟩ hk λ h' tk e kp hq_=>?_
  obtain⟨o,he,ce⟩:=hq_
  refine wpAny_bind (wpAny_isInstance (T:="StopIteration") (b:=true) ⟨o,he,ce⟩ isSubtype_stop (wpAny_pure ⟨rfl,?_⟩))
  exact sI (ch:=[z,TI,TO,i1,i2]) I hf λ c o hb q'=>kp c o (λ z=>hb (by simp[z])) (λ z=>hb (by simp[z])) (λ z=>hb (by simp[z])) (λ z=>hb (by simp[z])) q'
 self:=λ _ _ _ _ _ st h=>wpAny_pyIter_zip st.1 h
theorem Ff(q r:SqKind P w K){O:Own}{H:Hp}{a b:Addr}{ds es:List D}(h:∀O' H',Conv O O' H H'->∃xs ys,q.Sq H' a xs/\Reps K O' H' xs ds/\r.Sq H' b ys/\Reps K O' H' ys es):gw K (Itz q r a b) O H (List.zipWith (λ x y=>.tup [x,y]) ds es):=by
 intro O' H' cv tr i
 obtain⟨xs,ys,hq,r1,hr,r2⟩:=h O' H' cv
 refine⟨λ d hd=>?_,λ hi=>⟨xs,ys,hq,hr,by rw[hi,r1.length,r2.length,List.length_zipWith]⟩⟩
 rw[List.getElem?_zipWith]at hd
 cases e1:ds[i]? with
 | none=>rw[e1]at hd;cases hd
 | some d1=>
   cases e2:es[i]? with
   | none=>rw[e1,e2]at hd;cases hd
   | some d2=>
     rw[e1,e2]at hd
     cases hd
     obtain⟨v1,hv1,rv1⟩:=r1.get e1
     obtain⟨v2,hv2,rv2⟩:=r2.get e2
     refine⟨⟨xs,ys,v1,v2,hq,hr,hv1,hv2⟩,λ x H'' y=>?_⟩
     obtain⟨p,x',y',hp,rfl,rfl,hx,hy⟩:=y
     have ex:=hx xs hq
     have ey:=hy ys hr
     rw[hv1]at ex
     rw[hv2]at ey
     cases ex
     cases ey
     have np:¬O'.has p:=λ z=>tr p z hp
     exact⟨dH.fresh hp _,.tup ⟨np,bh⟩ (.cons (rv1.mono (Step.fresh hp _)) (.cons (rv2.mono (Step.fresh hp _)) .nil))⟩
abbrev zh(h:Heap)(c1 c2:String)(l1 l2:Addr):Heap:=
 ((((h.push {cls:=.type c1,data:=.fields #[.ref l1,.int 0 0]}).push {cls:=.type c2,data:=.fields #[.ref l2,.int 0 0]}).push {cls:=.type "tuple",data:=.seq #[.ref h.objs.size,.ref (h.push {cls:=.type c1,data:=.fields #[.ref l1,.int 0 0]}).objs.size]}).push {cls:=.type "tuple",data:=.seq #[.none,.none]})
abbrev zhz(h:Heap)(c1 c2:String)(l1 l2:Addr):Heap:=
 (zh h c1 c2 l1 l2).push {cls:=.type "zip",data:=.fields #[.none,.bool false,.bool false,.ref ((h.push {cls:=.type c1,data:=.fields #[.ref l1,.int 0 0]}).push {cls:=.type c2,data:=.fields #[.ref l2,.int 0 0]}).objs.size,
  .ref (((h.push {cls:=.type c1,data:=.fields #[.ref l1,.int 0 0]}).push {cls:=.type c2,data:=.fields #[.ref l2,.int 0 0]}).push {cls:=.type "tuple",data:=.seq #[.ref h.objs.size,.ref (h.push {cls:=.type c1,data:=.fields #[.ref l1,.int 0 0]}).objs.size]}).objs.size]}
theorem Hj(l1 l2:Addr)(xs ys:Array Value):
 Meets (Builtin.«zip.__new__» ⟨[.type "zip",.ref l1,.ref l2],[]⟩) (λ _ R s=>s.heap.IsTuple l1 xs/\s.heap.IsTuple l2 ys/\
  R (.ok (.ret (.ref (zh s.heap "tuple_iterator" "tuple_iterator" l1 l2).objs.size))) {s with heap:=zhz s.heap "tuple_iterator" "tuple_iterator" l1 l2}):=
 .of_wp λ prog w A R s h=>by
  obtain⟨hp,g,d,tk,os⟩:=s;obtain⟨a1,a2,h⟩:=h
  have hsub:=sub_zip
  have b1:Heap.IsTuple (Shared.heap ⟨hp,g,d,tk,os⟩) l1 xs:=a1
  have b2:Heap.IsTuple (Shared.heap ⟨hp.push {cls:=.type "tuple_iterator",data:=.fields #[.ref l1,.int 0 0]},g,d,tk,os⟩) l2 ys:=Heap.IsTuple.push a2 _
  wp_walk using wpAny_pyIter_tuple b1,wpAny_pyIter_tuple b2
  exact⟨_,rfl,h⟩
end
section
variable {X : Cx} {Γ : Gam} {S : Store} {pos : Pos}
theorem zip_parts(h:Heap)(c1 c2:String)(l1 l2:Addr):(zh h c1 c2 l1 l2).objs.size=h.objs.size+4/\IsZip (zhz h c1 c2 l1 l2) (h.objs.size+4) (h.objs.size+2) (h.objs.size+3) .none/\IsPair (zhz h c1 c2 l1 l2) (h.objs.size+2) (.ref h.objs.size) (.ref (h.objs.size+1))/\IsPair (zhz h c1 c2 l1 l2) (h.objs.size+3) .none .none/\
 (zhz h c1 c2 l1 l2).get? h.objs.size=some {cls:=.type c1,data:=.fields #[.ref l1,.int 0 0]}/\(zhz h c1 c2 l1 l2).get? (h.objs.size+1)=some {cls:=.type c2,data:=.fields #[.ref l2,.int 0 0]}/\∀b o,h.get? b=some o->(zhz h c1 c2 l1 l2).get? b=some o:=by
 have z1:(h.push {cls:=.type c1,data:=.fields #[.ref l1,.int 0 0]}).objs.size=h.objs.size+1:=Heap.size_push ..
 have z2:((h.push {cls:=.type c1,data:=.fields #[.ref l1,.int 0 0]}).push {cls:=.type c2,data:=.fields #[.ref l2,.int 0 0]}).objs.size=h.objs.size+2:=by rw[Heap.size_push,z1]
 have z3:(((h.push {cls:=.type c1,data:=.fields #[.ref l1,.int 0 0]}).push {cls:=.type c2,data:=.fields #[.ref l2,.int 0 0]}).push {cls:=.type "tuple",data:=.seq #[.ref h.objs.size,.ref (h.push {cls:=.type c1,data:=.fields #[.ref l1,.int 0 0]}).objs.size]}).objs.size=h.objs.size+3:=by rw[Heap.size_push,z2]
 have z4:(zh h c1 c2 l1 l2).objs.size=h.objs.size+4:=by rw[Heap.size_push,z3]
 have g5:=Heap.get?_push_size (zh h c1 c2 l1 l2) (o:={cls:=.type "zip",data:=.fields #[.none,.bool false,.bool false,.ref ((h.push {cls:=.type c1,data:=.fields #[.ref l1,.int 0 0]}).push {cls:=.type c2,data:=.fields #[.ref l2,.int 0 0]}).objs.size,
  .ref (((h.push {cls:=.type c1,data:=.fields #[.ref l1,.int 0 0]}).push {cls:=.type c2,data:=.fields #[.ref l2,.int 0 0]}).push {cls:=.type "tuple",data:=.seq #[.ref h.objs.size,.ref (h.push {cls:=.type c1,data:=.fields #[.ref l1,.int 0 0]}).objs.size]}).objs.size]}) rfl
 have g4:(zhz h c1 c2 l1 l2).get? (((h.push {cls:=.type c1,data:=.fields #[.ref l1,.int 0 0]}).push {cls:=.type c2,data:=.fields #[.ref l2,.int 0 0]}).push {cls:=.type "tuple",data:=.seq #[.ref h.objs.size,.ref (h.push {cls:=.type c1,data:=.fields #[.ref l1,.int 0 0]}).objs.size]}).objs.size=some {cls:=.type "tuple",data:=.seq #[.none,.none]}:=Heap.get?_push_of_some _ (Heap.get?_push_size _ rfl)
 have g3:(zhz h c1 c2 l1 l2).get? ((h.push {cls:=.type c1,data:=.fields #[.ref l1,.int 0 0]}).push {cls:=.type c2,data:=.fields #[.ref l2,.int 0 0]}).objs.size=some {cls:=.type "tuple",data:=.seq #[.ref h.objs.size,.ref (h.push {cls:=.type c1,data:=.fields #[.ref l1,.int 0 0]}).objs.size]}:=Heap.get?_push_of_some _ (Heap.get?_push_of_some _ (Heap.get?_push_size _ rfl))
 have g2:(zhz h c1 c2 l1 l2).get? (h.push {cls:=.type c1,data:=.fields #[.ref l1,.int 0 0]}).objs.size=some {cls:=.type c2,data:=.fields #[.ref l2,.int 0 0]}:=Heap.get?_push_of_some _ (Heap.get?_push_of_some _ (Heap.get?_push_of_some _ (Heap.get?_push_size _ rfl)))
 have g1:(zhz h c1 c2 l1 l2).get? h.objs.size=some {cls:=.type c1,data:=.fields #[.ref l1,.int 0 0]}:=Heap.get?_push_of_some _ (Heap.get?_push_of_some _ (Heap.get?_push_of_some _ (Heap.get?_push_of_some _ (Heap.get?_push_size _ rfl))))
 rw[z2,z3,z4]at g5
 rw[z3]at g4
 rw[z1,z2]at g3
 rw[z1]at g2
 refine⟨z4,?_,g3,g4,g1,g2,λ b o e=>Heap.get?_push_of_some _ (Heap.get?_push_of_some _ (Heap.get?_push_of_some _ (Heap.get?_push_of_some _ (Heap.get?_push_of_some _ e))))⟩
 show(zhz h c1 c2 l1 l2).get? _=_
 unfold zhz
 rw[z2,z3]
 exact g5
theorem Q7{pins:Pins}{σ:St}{H:Hp}{s:Shared}{elts:List Expr}{k:Nat}{tp:Pos}{R:It->Hp->Prop}{E:Value->Shared->Prop}{c1 c2:String}{l1 l2:Addr}(q r:SqKind X.prog X.w X.K)(I:Inv X pins σ H s)
 (hi:q.It (zhz s.heap c1 c2 l1 l2) s.heap.objs.size l1 0)(hj:r.It (zhz s.heap c1 c2 l1 l2) (s.heap.objs.size+1) l2 0)(rr:R (Itz q r l1 l2) H):
 wpAny (model X.prog X.w) X.A (pyIter (.ref (s.heap.objs.size+4))) (PIE X pins σ (.Tuple elts k tp) R) E {s with heap:=zhz s.heap c1 c2 l1 l2}:=by
 obtain⟨_,p1,p2,p3,_,_,kp⟩:=zip_parts s.heap c1 c2 l1 l2
 refine wpAny_pyIter_zip p1 ?_
 refine⟨s.heap.objs.size+4,[s.heap.objs.size+4,s.heap.objs.size+2,s.heap.objs.size+3,s.heap.objs.size,s.heap.objs.size+1],_,_,H,rfl,I.kept (t':=s.toks) kp,LC q r l1 l2 (s.heap.objs.size+4) (s.heap.objs.size+2) (s.heap.objs.size+3) s.heap.objs.size (s.heap.objs.size+1) ?_,⟨p1,p2,⟨_,_,p3⟩,hi,hj⟩,λ b hb=>?_,rr⟩
 . constructor<;>exact λ z=>by have z':(_:Nat)=_:=z;omega
 . have hb':s.heap.objs.size≤b:=by
    simp only[List.mem_cons,List.not_mem_nil,or_false]at hb
    rcases hb with rfl | rfl | rfl | rfl | rfl
    . exact Nat.le_add_right _ _
    . exact Nat.le_add_right _ _
    . exact Nat.le_add_right _ _
    . exact y9 _
    . exact Nat.le_add_right _ _
   exact I.fpOk hb' (I.hok.fresh hb')
theorem K3{e1 e2:Expr}{elts:List Expr}{k:Nat}{tp p:Pos}{W:List D->Store->Prop}(h:Ev X Γ S e1 λ d S1=>Ev X Γ S1 e2 λ d' S2=>∃ds es,d=.tup ds/\d'=.tup es/\W (List.zipWith (λ x y=>.tup [x,y]) ds es) S2)(hm:X.mg "zip"=none)(hg:Gl X "zip":=by rfl)
 (hs:starEach [e1,e2] X.env=(false,eval e1 X.env)::starEach [e2] X.env:=by rfl)(hs2:starEach [e2] X.env=[(false,eval e2 X.env)]:=by rfl):
 ItW X Γ S (.Tuple elts k tp) (.Call (.Name "zip" p) [e1,e2] [] pos) W:=by
 intro pins s σ H O I env st
 have hA:EvA X Γ S [e1,e2] λ dd S2=>∃ds es,dd=[.tup ds,.tup es]/\W (List.zipWith (λ x y=>.tup [x,y]) ds es) S2:=
  gG (h.mono λ d S1 h1=>gG (h1.mono λ d' S2 ⟨ds,es,a,b,w⟩=>rG ⟨ds,es,by rw[a,b],w⟩) hs2) hs
 refine Call_ (cO I hg hm boot_zip (PyProof.Rows.callWith_type1 (thn (hA pos pins s σ H O I env st) λ us s1 hq_=>?_) hs (by rw[hs2];rfl)))
 obtain⟨vs,H1,I1,r1,O1,dd,S1,⟨ds,es,ed,w⟩,st1,ok1,rep⟩:=hq_
 subst ed
 cases rep with
 | cons ra rb=>
   cases rb with
   | cons rb rc=>
     cases rc
     obtain⟨u,u2,rfl,ru,ru2⟩:=vals2 r1
     cases ra with
     | @tup a xs _ h1 q1=>
       cases rb with
       | @tup b ys _ h2 q2=>
         cases ru
         cases ru2
         obtain⟨its,rv,pl,hz⟩:=I1.tuple h1.sq
         obtain⟨its2,rv2,pl2,hz2⟩:=I1.tuple h2.sq
         obtain⟨z4,p1,p2,p3,p4,p5,kp⟩:=zip_parts s1.heap "tuple_iterator" "tuple_iterator" a b
         refine callType_new F.called_zip (by decide) (F.typeCall_zip_2 _ _) (F.newCall_zip_2 _ _) (λ obj=>F.args_object_init_3 obj _ _) F.entry_zip_new (Hj a b its.toArray its2.toArray) ⟨pl,pl2,?_⟩
         show _/\_
         rw[z4]
         refine⟨⟨_,p1,rfl⟩,Q7 (Ka X.prog X.w X.K) (Ka X.prog X.w X.K) I1 ⟨_,p4,rfl,rfl⟩ ⟨_,p5,rfl,rfl⟩ ⟨O1,_,S1,w,st1,ok1,Ff _ _ λ O' H' cv=>⟨xs,ys,(h1.conv cv).sq,q1.conv cv,(h2.conv cv).sq,q2.conv cv⟩⟩⟩
end
section
variable {X : Cx} {Γ : Gam} {S : Store} {e : Expr}
theorem UL{W:Option Int->Store->Prop}(h:Ev X Γ S e λ d S1=>∃i,d=.int i/\W (some i) S1):PoD X Γ S (some e) W:=h
theorem Vb{W:Option Int->Store->Prop}(h:W none S):PoD X Γ S none W:=h
theorem SQ{c:Expr}{W:Bool->Store->Prop}(h:Ts X Γ S c W):TsA X Γ S [c] W:=h
end
theorem bj{α:Type}{xs:List α}{i:Nat}{x:α}(h:xs[i]? =some x):xs.take (i+1)=xs.take i++[x]:=by rw[List.take_add_one,h];rfl
theorem wM(d:D)(ds:List D):cutD (d::ds) (some 1) none=ds:=by
 unfold cutD
 have h1:HT.sIx (d::ds).length 0 (some 1)=1:=by
  have:=HT.sIx_nat (d::ds).length 0 1
  simp only[List.length_cons]at this ⊢
  have h2:((1:Nat):Int)=1:=rfl
  rw[h2]at this
  rw[this];omega
 rw[h1,HT.sIx_none]
 simp
theorem gf{α:Type}{ds:List α}{v:Int}(h0:0≤v)(h1:v<ds.length):∃x,atI ds v=some x/\ds[v.toNat]? =some x:=by
 have hk:v.toNat<ds.length:=by omega
 refine⟨ds[v.toNat],?_,y3 hk⟩
 have q:=aU (xs:=ds) (j:=v.toNat) (y3 hk)
 rwa[Int.toNat_of_nonneg h0]at q
theorem ww{α:Type}(x:α)(xs:List α):atI (x::xs) 0=some x:=aU (xs:=x::xs) (j:=0) rfl
theorem set_get{S:Store}{k:Nat}{l l':List D}(h:S[k]? =some l):(S.set k l')[k]? =some l':=List.getElem?_set_self (z0.mp h).1
end DL
namespace RF
open PySem PySem.Spec L2 DL
open PyProof.Rows
open Builtin
theorem pG:fillsNumberSlot (.type "tuple") "mul"=pure false:=
 PySem.fillsNumberSlot_seq (id:="tuple.__mul__") (r:=some (.builtin "tuple.__rmul__")) F.slot_tuple_mul.lookup (by decide+kernel) F.slot_tuple_rmul.lookup (by decide+kernel)
theorem yI:seqRepeat? (.type "tuple")=pure (some (.builtin "tuple.__mul__")):=by
 unfold seqRepeat?
 rw[PySem.seqSlot_of (T:="tuple") (name:="__mul__") (id:="tuple.__mul__") F.slot_tuple_mul.lookup (by decide+kernel),PySem.seqSlot_of (T:="tuple") (name:="__rmul__") (id:="tuple.__rmul__") F.slot_tuple_rmul.lookup (by decide+kernel)]
 rfl
theorem rZ(a:Int)(t:Tok)(l:Addr)(items:Array Value)(n:Nat)(dct:Option Addr)(sl:Array (Option Value)):
 Meets (Builtin.«int.__rmul__» ⟨[.int a t,.ref l],[]⟩) (λ _ R s=>s.heap.get? l=some {cls:=.type "tuple",dict:=dct,data:=.seq items n,slots:=sl}/\R (.ok (.ret Value.notImplemented)) s):=
 .of_wp λ prog w A R s h=>by obtain⟨hp,g,d,tk,os⟩:=s;obtain⟨hl,h⟩:=h;wp_walk;exact⟨_,rfl,h⟩
theorem sS(l:Addr)(items:Array Value)(n:Nat)(dct:Option Addr)(sl:Array (Option Value))(x:Int)(u:Tok)(h1:¬(decide (x< -(2 ^ 63))||decide (x≥2 ^ 63))=true)(hc:(items.isEmpty||x==1)=true):
 Meets (Builtin.«tuple.__mul__» ⟨[.ref l,.int x u],[]⟩) (λ _ R s=>s.heap.get? l=some {cls:=.type "tuple",dict:=dct,data:=.seq items n,slots:=sl}/\R (.ok (.ret (.ref l))) s):=
 .of_wp λ prog w A R s h=>by
  obtain⟨hp,g,d,tk,os⟩:=s;obtain⟨hl,h⟩:=h
  unfold Builtin.«tuple.__mul__»
  wp_walk
  rw[if_neg h1]
  wp_walk using AutoSeq1.wpAny_loadPart' hl
  try rw[if_pos hc]
  wp_walk using AutoSeq1.wpAny_loadPart' hl
  exact⟨_,rfl,h⟩
theorem rM(l:Addr)(items:Array Value)(n:Nat)(dct:Option Addr)(sl:Array (Option Value))(x:Int)(u:Tok)(h1:¬(decide (x< -(2 ^ 63))||decide (x≥2 ^ 63))=true)(hc:¬(items.isEmpty||x==1)=true)(h2:(decide (x≤0)||items.isEmpty)=true):
 Meets (Builtin.«tuple.__mul__» ⟨[.ref l,.int x u],[]⟩) (λ _ R s=>s.heap.get? l=some {cls:=.type "tuple",dict:=dct,data:=.seq items n,slots:=sl}/\R (.ok (.ret (.ref s.heap.objs.size))) {s with heap:=s.heap.push {cls:=.type "tuple",data:=.seq #[]}}):=
 .of_wp λ prog w A R s h=>by
  obtain⟨hp,g,d,tk,os⟩:=s;obtain⟨hl,h⟩:=h
  unfold Builtin.«tuple.__mul__»
  wp_walk
  rw[if_neg h1]
  wp_walk using AutoSeq1.wpAny_loadPart' hl
  try rw[if_neg hc]
  wp_walk using AutoSeq1.wpAny_loadPart' hl
  try rw[if_pos h2]
  wp_walk using AutoSeq1.wpAny_loadPart' hl
  exact⟨_,rfl,h⟩
theorem tW(l:Addr)(items:Array Value)(n:Nat)(dct:Option Addr)(sl:Array (Option Value))(x:Int)(u:Tok)(h1:¬(decide (x< -(2 ^ 63))||decide (x≥2 ^ 63))=true)(hc:¬(items.isEmpty||x==1)=true)(h2:¬(decide (x≤0)||items.isEmpty)=true)
 (h3:¬((items.size:Int)*x>(2 ^ 63-1)/8))(h4:¬Builtin.Tuple.tupleTooMany ((items.size:Int)*x)=true)(h5:((List.replicate x.toNat items).foldl (· ++·) #[]).size≤sizeLine):
 Meets (Builtin.«tuple.__mul__» ⟨[.ref l,.int x u],[]⟩) (λ _ R s=>s.heap.get? l=some {cls:=.type "tuple",dict:=dct,data:=.seq items n,slots:=sl}/\R (.ok (.ret (.ref s.heap.objs.size))) {s with heap:=s.heap.push {cls:=.type "tuple",data:=.seq ((List.replicate x.toNat items).foldl (· ++·) #[])}}):=
 .of_wp λ prog w A R s h=>by
  obtain⟨hp,g,d,tk,os⟩:=s;obtain⟨hl,h⟩:=h
  unfold Builtin.«tuple.__mul__»
  wp_walk
  rw[if_neg h1]
  wp_walk using AutoSeq1.wpAny_loadPart' hl
  try rw[if_neg hc]
  wp_walk using AutoSeq1.wpAny_loadPart' hl
  try rw[if_neg h2]
  wp_walk using AutoSeq1.wpAny_loadPart' hl
  try rw[if_neg h3]
  wp_walk using AutoSeq1.wpAny_loadPart' hl
  try rw[if_neg h4]
  wp_walk using AutoSeq1.wpAny_loadPart' hl
  exact⟨_,rfl,h⟩
theorem Reps.rep{K:PySem.W.Frag}{O:Own}{H:Hp}{vs:List V}{ds:List D}(r:Reps K O H vs ds):∀k:Nat,Reps K O H (List.replicate k vs).flatten (List.replicate k ds).flatten
 | 0=>.nil
 | k+1=>by
   rw[List.replicate_succ,List.replicate_succ,List.flatten_cons,List.flatten_cons]
   exact r.append (Reps.rep r k)
theorem Sd{X:Cx}{S:Store}{W:WD}{ds:List D}{k:Int}(hk: -(2 ^ 63)≤k/\k<2 ^ 63)(hz:ds.length*k.toNat≤1000000)(w:W (.tup (List.replicate k.toNat ds).flatten) S):du X .Mult (.tup ds) (.int k) S W:=by
 intro pins s σ H O v w' u u' I st r1 r2 r3 r4
 cases r1 with
 | @tup a xs _ h1 q1=>
   cases r2
   cases r3
   obtain⟨t,rfl⟩:=r4
   obtain⟨its,v1,p1,_⟩:=I.tuple h1.sq
   obtain⟨⟨cls,dd,data,sl⟩,ho,hc,n,hd⟩:=id p1
   simp only at hc hd
   subst hc hd
   have l1:its.length=ds.length:=by rw[←v1.length,q1.length]
   have c1:¬(decide (k< -(2 ^ 63))||decide (k≥2 ^ 63))=true:=by
    rw[decide_eq_false (by omega),decide_eq_false (by omega)];decide
   have new:∀m:Nat,m=k.toNat->EP X pins σ (QG X.K O H W) (.ref s.heap.objs.size) {s with heap:=s.heap.push {cls:=.type "tuple",data:=.seq (List.replicate m its).flatten.toArray}}:=by
    rintro m rfl
    refine⟨.ref s.heap.objs.size,upd H s.heap.objs.size (.tup (List.replicate k.toNat xs).flatten),I.laid (t':=s.toks) (λ b u e=>Heap.get?_push_of_some _ e) (y9 _) ?_,rfl,jg w st I.fresh (Reps.rep q1 _)⟩
    exact⟨by rw[len_rep,q1.length,Nat.mul_comm];exact small hz,_,v1.rep _,⟨_,Heap.get?_push_size _ rfl,rfl,_,rfl⟩⟩
   refine PySem.wpAny_binaryOp_repeat_ref (T:="tuple") (U:="int") (by decide) ⟨_,ho,rfl⟩ (λ s'=>typeIs_int s' k t) pG F.fills_int_mul F.slot_int_rmul yI F.slot_int_index.lookup
    (call_meets F.slot_int_rmul (typeIs_int s k t) F.entry_int_rmul (F.args_int_rmul_2 _ _) (rZ k t a its.toArray n dd sl) ⟨ho,rfl,⟨_,ho,rfl⟩,?_⟩)
   by_cases b1:(its.toArray.isEmpty||k==1)=true
   . refine call_meets F.slot_tuple_mul ⟨_,ho,rfl⟩ F.entry_tuple_mul (F.args_tuple_mul_2 _ _) (sS a its.toArray n dd sl k t c1 b1) ⟨ho,.ref a,H,I,rfl,?_⟩
     have e:(List.replicate k.toNat ds).flatten=ds:=by
      rw[Bool.or_eq_true]at b1
      rcases b1 with z | z
      . have:its=[]:=by simpa using z
        have:ds=[]:=by rw[this]at l1;simpa using l1.symm
        subst this
        simp
      . have:k=1:=eq_of_beq z
        subst this
        simp
     rw[e]at w
     exact QG.here w st (.tup h1 q1)
   . by_cases b2:(decide (k≤0)||its.toArray.isEmpty)=true
     . refine call_meets F.slot_tuple_mul ⟨_,ho,rfl⟩ F.entry_tuple_mul (F.args_tuple_mul_2 _ _) (rM a its.toArray n dd sl k t c1 b1 b2) ⟨ho,?_⟩
       have h0:k.toNat=0:=by
        rw[Bool.or_eq_true]at b2
        rcases b2 with z | z
        . have:=of_decide_eq_true z;omega
        . exact absurd (by rw[z];rfl) b1
       have:=new 0 h0.symm
       exact this
     . have h0:0<k:=by
        cases z:decide (k≤0)with
        | true=>exact absurd (by rw[z];rfl) b2
        | false=>have:=of_decide_eq_false z;omega
       have ek:(its.toArray.size:Int)*k=((its.length*k.toNat:Nat):Int):=by
        rw[x5,Int.natCast_mul,Int.toNat_of_nonneg (by omega)]
       have fz:List.foldl (λ x1 x2=>x1++x2) #[] (List.replicate k.toNat its.toArray)=(List.replicate k.toNat its).flatten.toArray:=by
        have:=foldl_rep its k.toNat []
        rw[List.nil_append]at this
        exact this
       have big:its.length*k.toNat≤1000000:=by rw[l1];exact hz
       refine call_meets F.slot_tuple_mul ⟨_,ho,rfl⟩ F.entry_tuple_mul (F.args_tuple_mul_2 _ _) (tW a its.toArray n dd sl k t c1 b1 b2 (by rw[ek];omega) ?_ ?_) ⟨ho,?_⟩
       . rw[ek]
         have:(1000000:Nat)≤sizeLine:=by decide
         unfold Builtin.Tuple.tupleTooMany
         rw[decide_eq_true_eq]
         omega
       . rw[fz,x5,len_rep,Nat.mul_comm];exact small big
       . rw[fz]
         exact new _ rfl
variable {W : WD}
set_option genInjectivity false in
structure Wd where
 P:Program
 w:World
 K:PySem.W.Frag
 mg:Str->Option Value
 base:Heap
 cd:Option (Value×Str):=none
abbrev Nm:=List (Str×NameKind)
structure At(Ω:Wd)(X:Cx)(r:Nat)(top:Bool)(N:List Str)(nm:Nm):Prop where
 p:X.prog=Ω.P
 w:X.w=Ω.w
 k:X.K=Ω.K
 g:X.mg=Ω.mg
 b:X.base=Ω.base
 room:Room r X.A
 xe:X.xe=λ _ _=>False
 calm:X.calm=true
 n:X.N=N
 nd:N.Nodup
 kind:X.env.scope.kind=.function
 look:∀x k,nm.lookup x=some k->X.env.kindOf x=some k∨(k=.free/\X.env.kindOf x=some .cell)
 fn:∀x,nm.lookup x=some .cell->X.fn x=true
 cd:top=true->∀p,Ω.cd=some p->X.env.code=p.1/\X.env.qual=p.2
 fr:top=true->X.stack=X.env::X.outer/\X.env.frame=some X.env.locals/\X.ex=[]
def vis(nm:Nm)(x:Str):Bool:=match nm.lookup x with | some .local=>true | some .cell=>true | some .free=>true | _=>false
def lcl(top:Bool)(nm:Nm)(x:Str):Bool:=match nm.lookup x with | some .local=>true | some .cell=>true | _=>false
def glb(nm:Nm)(x:Str):Bool:=nm.lookup x==some .globalImplicit
def okN(x:Str):Bool:=!(x==("__debug__":Str))&&(!(x==("__classdict__":Str))&& !(x==("__name__":Str)))
def okE:Expr->Bool
 | .Starred .. =>false | .Set .. =>false | .Slice .. =>false | _=>true
def noC:Expr->Bool
 | .ListComp .. =>false | .SetComp .. =>false | .DictComp .. =>false | _=>true
def Kl:Expr->Bool
 | .UnaryOp .. =>false | .BoolOp .. =>false | .IfExp .. =>false | .Compare .. =>false | _=>true
theorem aa{a b:Bool}(h:(a&&b)=true):a=true/\b=true:=by cases a<;>cases b<;>first | exact⟨rfl,rfl⟩ | exact(y6 h).elim
theorem nt{a:Bool}(h:(!a)=true):a=false:=by cases a<;>first | rfl | exact(y6 h).elim
theorem gC{x:Str}(h:okN x=true):(x==("__debug__":Str))=false/\(x==("__classdict__":Str))=false/\x≠"__name__":=by
 obtain⟨h1,h2⟩:=aa h
 obtain⟨h2,h3⟩:=aa h2
 exact⟨nt h1,nt h2,λ e=>by rw[e]at h3;simp at h3⟩
section
variable {Ω : Wd} {X : Cx} {r : Nat} {top : Bool} {N : List Str} {nm : Nm} {x : Str}
theorem At.vis(A:At Ω X r top N nm)(h:RF.vis nm x=true):Vis X.env.scope x:=by
 unfold RF.vis at h
 cases e:nm.lookup x with
 | none=>rw[e]at h;cases h
 | some k=>
   rw[e]at h
   have q:=A.look x k e
   cases k with
   | «local»=>rcases q with q | ⟨q,_⟩;exact .inl q;exact nomatch q
   | cell=>rcases q with q | ⟨q,_⟩;exact .inr (.inl q);exact nomatch q
   | free=>rcases q with q | ⟨_,q⟩;exact .inr (.inr q);exact .inr (.inl q)
   | _=>exact(y6 h).elim
theorem At.lcl(A:At Ω X r top N nm)(h:RF.lcl top nm x=true):Loc X.env.scope x/\(X.fn x=true∨X.env.scope.names.lookup x=some .local):=by
 unfold RF.lcl at h
 cases e:nm.lookup x with
 | none=>rw[e]at h;cases h
 | some k=>
   rw[e]at h
   have q:=A.look x k e
   cases k with
   | «local»=>rcases q with q | ⟨q,_⟩;exact⟨.inl q,.inr q⟩;exact nomatch q
   | cell=>rcases q with q | ⟨q,_⟩;exact⟨.inr q,.inl (A.fn x e)⟩;exact nomatch q
   | _=>exact(y6 h).elim
theorem At.glb(A:At Ω X r top N nm)(h:RF.glb nm x=true):Gl X x:=by
 have e:nm.lookup x=some .globalImplicit:=eq_of_beq h
 rcases A.look x _ e with q | ⟨q,_⟩
 . exact q
 . exact nomatch q
end
theorem bu{e:Expr}(h:okE e=true)(es:List Expr)(env:Env):starEach (e::es) env=(false,eval e env)::starEach es env:=by
 cases e<;>first | rfl | exact(y6 h).elim
theorem qm:∀{es:List Expr}(_:es.all okE=true)(pos:Pos)(env:Env),(backTo pos (starEach es env)).any (·.1)=false
 | [],_,_,_=>rfl
 | e::es,h,pos,env=>by
   rw[List.all_cons]at h
   obtain⟨h1,h2⟩:=aa h
   rw[bu h1]
   show(false||(backTo pos (starEach es env)).any (·.1))=false
   rw[qm h2];rfl
theorem j4{op:CmpOp}{e:Expr}(h:okE e=true):behindInMarks op e=false:=by
 cases e<;>first | rfl | exact(y6 h).elim
theorem LK{e:Expr}(h:okE e=true):BL e:=by
 intro _ _
 cases e<;>first | rfl | exact(y6 h).elim
theorem je{e:Expr}(h:okE e=true)(env:Env):∀x,foldedSetIterable e env x=pure x:=by
 intro x
 cases e<;>first | rfl | exact(y6 h).elim
theorem qd{e:Expr}(h:noC e=true)(t:Option Expr)(l:Nat)(env:Env):swapsWith e t l env=pure false:=by
 cases e<;>first | rfl | exact(y6 h).elim
theorem FZ{e:Expr}(h:Kl e=true)(env:Env):∀whole,isTrue e env whole=(do let v ←whole;standAt e.pos;holding [v] (truthy v)):=by
 intro w
 cases e<;>first | rfl | exact(y6 h).elim
section
variable {X : Cx} {Γ : Gam} {S : Store} {e : Expr} {es : List Expr}
theorem EvA.mono{W W':List D->Store->Prop}(h:EvA X Γ S es W)(k:∀ds S',W ds S'->W' ds S'):EvA X Γ S es W':=λ pos pins s σ H O I env st=>
 thn (h pos pins s σ H O I env st) λ _ _ hq_=>by obtain⟨v,H',I',r,O',d,S',w,q⟩:=hq_;exact⟨v,H',I',r,O',d,S',k d S' w,q⟩
theorem Ts.mono{W W':Bool->Store->Prop}(h:Ts X Γ S e W)(k:∀c S',W c S'->W' c S'):Ts X Γ S e W':=λ pins s σ H O I env st=>
 thn (h pins s σ H O I env st) λ _ _ hq_=>by obtain⟨H',I',O',S',w,q⟩:=hq_;exact⟨H',I',O',S',k _ S' w,q⟩
theorem BdW.mono{d:D}{W W':Gam->Store->Prop}(h:BdW X e d Γ S W)(k:∀G S',W G S'->W' G S'):BdW X e d Γ S W':=λ pins s σ H O v u I env st r ru=>
 thn (h pins s σ H O v u I env st r ru) λ _ _ q=>by
  obtain⟨σ',H',I',O',G,S',w,q⟩:=q
  exact⟨σ',H',I',O',G,S',k G S' w,q⟩
theorem ItW.mono{tg:Expr}{W W':List D->Store->Prop}(h:ItW X Γ S tg e W)(k:∀ds S',W ds S'->W' ds S'):ItW X Γ S tg e W':=λ pins s σ H O I env st=>
 thn (h pins s σ H O I env st) λ _ _ q=>thn q λ _ _ q=>by
  obtain⟨it,fp,tn,J,H',e1,e2,e3,e4,e5,O',ds,S',w,z⟩:=q
  exact⟨it,fp,tn,J,H',e1,e2,e3,e4,e5,O',ds,S',k ds S' w,z⟩
theorem RC{pins:Pins}{O:Own}{H:Hp}{W W':DL.Fin}(h1:∀G S,W.nx G S->W'.nx G S)(h2:∀d S,W.rt d S->W'.rt d S)(h3:∀G S,W.bk G S->W'.bk G S)(h4:∀G S,W.ct G S->W'.ct G S){f:Flow}{s':Shared}(q:SP X pins (ends X.K O H W) f s'):SP X pins (ends X.K O H W') f s':=by
 cases f with
 | next=>obtain⟨σ,H',I,O',G,S',w,q⟩:=q;exact⟨σ,H',I,O',G,S',h1 _ _ w,q⟩
 | brk=>obtain⟨σ,H',I,O',G,S',w,q⟩:=q;exact⟨σ,H',I,O',G,S',h3 _ _ w,q⟩
 | cont=>obtain⟨σ,H',I,O',G,S',w,q⟩:=q;exact⟨σ,H',I,O',G,S',h4 _ _ w,q⟩
 | ret u=>obtain⟨v,σ,H',I,r,O',d,S',w,q⟩:=q;exact⟨v,σ,H',I,r,O',d,S',h2 _ _ w,q⟩
theorem Rn.mono{st:Stmt}{W W':DL.Fin}(h:Rn X Γ S st W)(h1:∀G S,W.nx G S->W'.nx G S)(h2:∀d S,W.rt d S->W'.rt d S)(h3:∀G S,W.bk G S->W'.bk G S)(h4:∀G S,W.ct G S->W'.ct G S):Rn X Γ S st W':=λ pins s σ H O I env ok=>
 thn (h pins s σ H O I env ok) λ _ _ q=>RC h1 h2 h3 h4 q
theorem Gr{a b c:Expr}{op op':CmpOp}{pos:Pos}{W:Bool->Store->Prop}(h:Ev X Γ S a λ x S1=>Ev X Γ S1 b λ y S2=>bK X op x y S2 (asB λ k S3=>(k=false->W false S3)/\(k=true->Ev X Γ S3 c λ t S4=>bK X op' y t S4 (asB W))))
 (hm:lastMarks [op,op'] [b,c]=false):Ts X Γ S (.Compare a [op,op'] [b,c] pos) W:=by
 intro pins s σ H O I env st
 refine isTrue_chain (rs:=[]) (thn (h pins s σ H O I env st) λ u s1 hq_=>?_) hm
 obtain⟨v,H1,I1,r1,O1,x,S1,hb,st1,ok1,rep1⟩:=hq_
 refine test_link (thn (hb pins s1 σ H1 O1 I1 (env.mono st1) ok1) λ u' s2 hq_=>?_)
 obtain⟨w,H2,I2,r2,O2,y,S2,hw,st2,ok2,rep2⟩:=hq_
 refine thn (hw pins s2 σ H2 O2 v w u u' I2 ok2 (rep1.mono st2) rep2 r1 r2) λ _ s3 hq_=>?_
 obtain⟨z,H3,I3,r3,O3,d3,S3,⟨k,hd,k1,k2⟩,st3,ok3,rep3⟩:=hq_
 subst hd
 cases rep3
 cases r3
 refine wpAny_truthy_bool ?_
 cases k with
 | false=>exact ite_ff ⟨H3,I3,O3,S3,k1 rfl,(st1.trans st2).trans st3,ok3⟩
 | true=>
   refine ite_tt (test_last (thn (k2 rfl pins s3 σ H3 O3 I3 (((env.mono st1).mono st2).mono st3) ok3) λ u4 s4 hq_=>?_))
   obtain⟨w4,H4,I4,r4,O4,t,S4,h4,st4,ok4,rep4⟩:=hq_
   refine thn (h4 pins s4 σ H4 O4 w w4 u' u4 I4 ok4 ((rep2.mono st3).mono st4) rep4 r2 r4) λ _ s5 hq_=>?_
   obtain⟨z5,H5,I5,r5,O5,d5,S5,⟨k,hd,w5⟩,st5,ok5,rep5⟩:=hq_
   subst hd
   cases rep5
   cases r5
   exact wpAny_truthy_bool ⟨H5,I5,O5,S5,w5,(((st1.trans st2).trans st3).trans st4).trans st5,ok5⟩
end
def bII(x y:D)(k:Int->Int->Prop):Prop:=match x with
 | .int i=>(match y with
   | .int j=>k i j
   | _=>False)
 | _=>False
theorem dR{x y:D}{k:Int->Int->Prop}(h:bII x y k):∃i j,x=.int i/\y=.int j/\k i j:=by
 cases x<;>first | exact h.elim | (cases y<;>first | exact h.elim | exact⟨_,_,rfl,rfl,h⟩)
def bTu(x:D)(k:List D->Prop):Prop:=match x with
 | .tup a=>k a
 | _=>False
theorem tG{x:D}{k:List D->Prop}(h:bTu x k):∃a,x=.tup a/\k a:=by cases x<;>first | exact h.elim | exact⟨_,rfl,h⟩
def bLs(x:D)(k:List D->Prop):Prop:=match x with
 | .lst a=>k a
 | _=>False
theorem CN{x:D}{k:List D->Prop}(h:bLs x k):∃a,x=.lst a/\k a:=by cases x<;>first | exact h.elim | exact⟨_,rfl,h⟩
def bIn(x:D)(k:Int->Prop):Prop:=match x with
 | .int a=>k a
 | _=>False
theorem Nq{x:D}{k:Int->Prop}(h:bIn x k):∃a,x=.int a/\k a:=by cases x<;>first | exact h.elim | exact⟨_,rfl,h⟩
def KC(x:D)(a b c:Prop):Prop:=match x with
 | .int _=>a
 | .tup _=>b
 | _=>c
theorem yz{x:D}{a b c:Prop}(h:KC x a b c):a∨b∨c:=by cases x<;>first | exact .inl h | exact .inr (.inl h) | exact .inr (.inr h)
def Mv(op:Operator)(x y:D)(S:Store)(W:WD):Prop:=match op with
 | .Add=>KC x (bII x y λ i j=>W (.int (i+j)) S) (bTu x λ a=>bTu y λ b=>a.length+b.length≤1000000/\W (.tup (a++b)) S) (bLs x λ a=>bLs y λ b=>a.length+b.length≤1000000/\W (.lst (a++b)) S)
 | .Sub=>bII x y λ i j=>W (.int (i-j)) S
 | .Mult=>KC x (bII x y λ i j=>CMul i j/\W (.int (i*j)) S) (bTu x λ a=>bIn y λ n=>(-(2 ^ 63)≤n/\n<2 ^ 63)/\a.length*n.toNat≤1000000/\W (.tup (List.replicate n.toNat a).flatten) S) False
 | .Mod=>bII x y λ i j=>0<j/\W (.int (i % j)) S
 | .FloorDiv=>bII x y λ i j=>(0<j/\j<1073741824)/\W (.int (i/j)) S
 | .Pow=>bII x y λ i j=>CPow i j/\W (.int (i ^ j.toNat)) S
 | _=>False
theorem Mh{X:Cx}{op:Operator}{x y:D}{S:Store}(h:Mv op x y S W):du X op x y S W:=by
 cases op<;>first | exact(show False from h).elim | skip
 . rcases yz h with h | h | h
   . obtain⟨i,j,rfl,rfl,h⟩:=dR h;exact TX h
   . obtain⟨a,rfl,h1⟩:=tG h;obtain⟨b,rfl,h2⟩:=tG h1;exact RJ h2.1 h2.2
   . obtain⟨a,rfl,h1⟩:=CN h;obtain⟨b,rfl,h2⟩:=CN h1;exact Q6 h2.1 h2.2
 . obtain⟨i,j,rfl,rfl,h⟩:=dR h;exact Ud h
 . rcases yz h with h | h | h
   . obtain⟨i,j,rfl,rfl,h⟩:=dR h;exact Uo h.1 h.2
   . obtain⟨a,rfl,h1⟩:=tG h;obtain⟨b,rfl,h2⟩:=Nq h1;exact Sd h2.1 h2.2.1 h2.2.2
   . exact h.elim
 all_goals obtain⟨i,j,rfl,rfl,h⟩:=dR h
 all_goals first | exact Um h.1 h.2 | exact Qk h.1 h.2 | exact TQ h.1 h.2
def Li(x y:D)(S:Store)(W:WD):Prop:=match x,y with
 | .tup ds,.int i=>∃d,atI ds i=some d/\W d S
 | .lst ds,.int i=>∃d,atI ds i=some d/\W d S
 | .loc k,.int i=>∃ds d,S[k]? =some ds/\atI ds i=some d/\W d S
 | _,_=>False
theorem PP{X:Cx}{a b:Expr}{x y:D}{S:Store}(h:Li x y S W):IxW X a b x y S W:=by
 unfold Li at h
 split at h
 . obtain⟨d,h1,h2⟩:=h;exact SX h1 h2
 . obtain⟨d,h1,h2⟩:=h;exact Tw h1 h2
 . obtain⟨ds,d,h1,h2,h3⟩:=h;exact Tu h1 h2 h3
 . exact h.elim
def Kw(x:D)(l h:Option Int)(S:Store)(W:WD):Prop:=match x with
 | .tup ds=>W (.tup (cutD ds l h)) S
 | .lst ds=>W (.lst (cutD ds l h)) S
 | .loc k=>∃ds,S[k]? =some ds/\W (.lst (cutD ds l h)) S
 | _=>False
theorem Td{X:Cx}{S:Store}{k:Nat}{ds:List D}{lo hi:Option Int}(hk:S[k]? =some ds)(w:W (.lst (cutD ds lo hi)) S):SlW X (.loc k) lo hi S W:=by
 intro pins s σ H O v u vl vu sl I st r1 r3 hs pl pu
 cases r1 with
 | @loc p _ h1=>
   obtain⟨xs,hx,q1⟩:=st.obj k p ds h1 hk
   exact Cz pins s σ H _ u vl vu lo hi sl _ I r3 hs pl pu ⟨p,xs,rfl,SqL.of hx,λ p' hp=>gA w st hp (rm q1 lo hi)⟩
theorem Oc{X:Cx}{x:D}{l r:Option Int}{S:Store}(h:Kw x l r S W):SlW X x l r S W:=by
 unfold Kw at h
 split at h
 . exact Uy h
 . exact T4 h
 . obtain⟨ds,h1,h2⟩:=h;exact Td h1 h2
 . exact h.elim
inductive Ty where
 | int | bool | tuple | list | str
 deriving DecidableEq
def Ty.id:Ty->String
 | .int=>"int" | .bool=>"bool" | .tuple=>"tuple" | .list=>"list" | .str=>"str"
def Ty.nm:Ty->Str
 | .int=>"int" | .bool=>"bool" | .tuple=>"tuple" | .list=>"list" | .str=>"str"
def isD:Ty->D->Bool
 | .int,.int _=>true | .int,.bl _=>true | .bool,.bl _=>true | .tuple,.tup _=>true | .list,.lst _=>true | .list,.loc _=>true | .str,.str _=>true | _,_=>false
theorem Ru(T:Ty)(x:D):isi (tyD x) T.id=isD T x:=by cases T<;>cases x<;>rfl
theorem Ty.isT(T:Ty):DL.isT T.id=true:=by cases T<;>rfl
theorem Ty.boot(T:Ty):bootBuiltins T.nm=some (.type T.id):=by cases T<;>decide+kernel
theorem Ty.ok(T:Ty):(T.nm==("__debug__":Str))=false/\T.nm≠"__name__":=by cases T<;>decide+kernel
end RF
set_option maxHeartbeats 1000000
namespace RF
open PySem PySem.Spec L2 DL
open PyProof.Rows
variable {e : Expr}
def nameV:Expr->Option Str
 | .Name x _=>some x
 | _=>none
theorem pF{x:Str}(h:nameV e=some x):∃p,e=.Name x p:=by
 unfold nameV at h
 split at h
 . cases h;exact⟨_,rfl⟩
 . cases h
def wj:Expr->Option (Expr×List Expr×Bool)
 | .Call f es ks _=>some (f,es,ks.isEmpty)
 | _=>none
theorem Gz{f:Expr}{es:List Expr}(h:wj e=some (f,es,true)):∃pos,e=.Call f es [] pos:=by
 unfold wj at h
 split at h
 . rename_i f' es' ks pos
   have h:=Option.some.inj h
   have h1:=congrArg Prod.fst h
   have h2:=congrArg (λ z=>z.2.1) h
   have h3:ks.isEmpty=true:=congrArg (λ z=>z.2.2) h
   have h1:f'=f:=h1
   have h2:es'=es:=h2
   cases ks with
   | nil=>subst h1 h2;exact⟨pos,rfl⟩
   | cons=>cases h3
 . cases h
def anB{α:Type}(o:Option α)(k:α->Bool):Bool:=match o with
 | some a=>k a
 | none=>false
theorem mz{α:Type}{o:Option α}{k:α->Bool}(h:anB o k=true):∃a,o=some a/\k a=true:=by
 cases o with
 | none=>cases h
 | some a=>exact⟨a,rfl,h⟩
def iz(e:Expr)(k:Str->List Expr->Bool):Bool:=anB (wj e) λ z=>z.2.2&&anB (nameV z.1) λ f=>k f z.2.1
theorem dG{k:Str->List Expr->Bool}(h:iz e k=true):∃f p es pos,e=.Call (.Name f p) es [] pos/\k f es=true:=by
 obtain⟨⟨f,es,b⟩,h1,h⟩:=mz h
 obtain⟨hb,h⟩:=aa h
 have hb:b=true:=hb
 subst hb
 obtain⟨x,h2,h⟩:=mz h
 obtain⟨pos,rfl⟩:=Gz h1
 obtain⟨p,e2⟩:=pF h2
 have e2:f=.Name x p:=e2
 subst e2
 exact⟨x,p,es,pos,rfl,h⟩
def sV{α:Type}(l:List α)(k:α->Bool):Bool:=match l with
 | [a]=>k a
 | _=>false
theorem jr{α:Type}{l:List α}{k:α->Bool}(h:sV l k=true):∃a,l=[a]/\k a=true:=by
 cases l with
 | nil=>cases h
 | cons a l=>cases l with
   | nil=>exact⟨a,rfl,h⟩
   | cons=>cases h
def two2{α:Type}(l:List α)(k:α->α->Bool):Bool:=match l with
 | [a,b]=>k a b
 | _=>false
theorem two2_of{α:Type}{l:List α}{k:α->α->Bool}(h:two2 l k=true):∃a b,l=[a,b]/\k a b=true:=by
 cases l with
 | nil=>cases h
 | cons a l=>cases l with
   | nil=>cases h
   | cons b l=>cases l with
     | nil=>exact⟨a,b,rfl,h⟩
     | cons=>cases h
def Dt:Expr->Bool
 | .Tuple .. =>true
 | _=>false
theorem Cg(h:Dt e=true):∃es k p,e=.Tuple es k p:=by
 unfold Dt at h
 split at h
 . exact⟨_,_,_,rfl⟩
 . cases h
def KY:Stmt->Option (List Expr×Expr)
 | .Assign ts e _=>some (ts,e)
 | _=>none
theorem Ny{st:Stmt}{ts:List Expr}(h:KY st=some (ts,e)):∃p,st=.Assign ts e p:=by
 unfold KY at h
 split at h
 . cases h;exact⟨_,rfl⟩
 . cases h
def setB(st:Stmt)(k:Str->Expr->Bool):Bool:=anB (KY st) λ z=>sV z.1 λ t=>anB (nameV t) λ x=>k x z.2
theorem Nv{st:Stmt}{k:Str->Expr->Bool}(h:setB st k=true):∃x q e p,st=.Assign [.Name x q] e p/\k x e=true:=by
 obtain⟨⟨ts,e⟩,h1,h⟩:=mz h
 obtain⟨t,e1,h⟩:=jr h
 obtain⟨x,h2,h⟩:=mz h
 obtain⟨p,rfl⟩:=Ny h1
 obtain⟨q,rfl⟩:=pF h2
 have e1:ts=[Expr.Name x q]:=e1
 subst e1
 exact⟨x,q,e,p,rfl,h⟩
end RF
set_option maxHeartbeats 4000000
namespace RF
open PySem PySem.Spec L2 DL
open PyProof.Rows
variable {ds : List D} {S : Store} {x y : D} {W : Bool -> Store -> Prop}
mutual
def eqD:D->D->Bool
 | .non,.non=>true
 | .bl a,.bl b=>a==b
 | .int a,.int b=>a==b
 | .bl a,.int b=>(if a then 1 else 0)==b
 | .int a,.bl b=>a==(if b then 1 else 0)
 | .str a,.str b=>a==b
 | .tup a,.tup b=>cC a b
 | .lst a,.lst b=>cC a b
 | .dic,.dic=>true
 | _,_=>false
def cC:List D->List D->Bool
 | [],[]=>true
 | a::as,b::bs=>eqD a b&&cC as bs
 | _,_=>false
end
mutual
def okD:D->Bool
 | .tup ds=>cU ds
 | .lst ds=>cU ds
 | .loc _=>false
 | .dic=>false
 | .dlo _=>false
 | _=>true
def cU:List D->Bool
 | []=>true
 | d::ds=>okD d&&cU ds
end
mutual
inductive Sn(K:PySem.W.Frag)(H:Hp):V->D->Prop
 | non:Sn K H .non .non
 | bl(b:Bool):Sn K H (.bl b) (.bl b)
 | int(i:Int):Sn K H (.int i) (.int i)
 | str(x:Str):Sn K H (.str x) (.str x)
 | tup{a:Addr}{xs:List V}{ds:List D}(h:SqT K H a xs)(r:Sns K H xs ds):Sn K H (.ref a) (.tup ds)
 | lst{a:Addr}{xs:List V}{ds:List D}(h:SqL K H a xs)(r:Sns K H xs ds):Sn K H (.ref a) (.lst ds)
inductive Sns(K:PySem.W.Frag)(H:Hp):List V->List D->Prop
 | nil:Sns K H [] []
 | cons{v:V}{d:D}{vs:List V}{ds:List D}(r:Sn K H v d)(t:Sns K H vs ds):Sns K H (v::vs) (d::ds)
end
section
variable {K : PySem.W.Frag} {H : Hp} {O : Own}
theorem Sns.length:∀{vs:List V}{ds:List D},Sns K H vs ds->vs.length=ds.length
 | _,_,.nil=>rfl
 | _,_,.cons _ t=>by simp[Sns.length t]
theorem Sns.get:∀{vs:List V}{ds:List D}{i:Nat}{d:D},Sns K H vs ds->ds[i]? =some d->∃v,vs[i]? =some v/\Sn K H v d
 | _,_,_,_,.nil,e=>by simp at e
 | _,_,0,_,.cons r _,e=>by simp at e;subst e;exact⟨_,rfl,r⟩
 | _,_,i+1,d,.cons _ t,e=>by
   obtain⟨v,h1,h2⟩:=Sns.get (i:=i) (d:=d) t (by simpa using e)
   exact⟨v,by simpa using h1,h2⟩
mutual
theorem wQ{v:V}{d:D}(h:okD d=true)(r:Rep K O H v d):Sn K H v d:=by
 cases r with
 | non=>exact .non
 | bl b=>exact .bl b
 | int i=>exact .int i
 | str x=>exact .str x
 | tup h1 r=>exact .tup h1.sq (nj h r)
 | lst h1 r=>exact .lst h1.sq (nj h r)
 | loc=>cases h
 | dic=>cases h
 | dlo=>cases h
theorem nj{vs:List V}{ds:List D}(h:cU ds=true)(r:Reps K O H vs ds):Sns K H vs ds:=by
 cases r with
 | nil=>exact .nil
 | cons r t=>
   obtain⟨h1,h2⟩:=aa h
   exact .cons (wQ h1 r) (nj h2 t)
end
end
section
variable {X : Cx} {pins : Pins} {s : Shared} {σ : DL.St} {H : Hp}
mutual
theorem qY(I:Inv X pins σ H s){v:V}{x y:D}(a:Sn X.K H v x)(b:Sn X.K H v y):x=y:=by
 cases a with
 | non=>cases b;rfl
 | bl=>cases b;rfl
 | int=>cases b;rfl
 | str=>cases b;rfl
 | tup h r=>
   cases b with
   | tup h' r'=>
     have e:=I.tuple_inj h h'
     subst e
     rw[sE I r r']
   | lst h' r'=>
     exfalso
     obtain⟨its,_,⟨o,h2,h3,_⟩,_⟩:=I.tuple h
     obtain⟨its2,_,pl,_⟩:=I.list h'
     obtain⟨o',h2',h3',_⟩:=pl.isList
     rw[h2]at h2'
     cases h2'
     rw[h3]at h3'
     exact absurd h3' (by decide)
 | lst h r=>
   cases b with
   | lst h' r'=>
     have e:=I.list_inj h h'
     subst e
     rw[sE I r r']
   | tup h' r'=>
     exfalso
     obtain⟨its,_,⟨o,h2,h3,_⟩,_⟩:=I.tuple h'
     obtain⟨its2,_,pl,_⟩:=I.list h
     obtain⟨o',h2',h3',_⟩:=pl.isList
     rw[h2]at h2'
     cases h2'
     rw[h3]at h3'
     exact absurd h3' (by decide)
theorem sE(I:Inv X pins σ H s){vs:List V}{xs ys:List D}(a:Sns X.K H vs xs)(b:Sns X.K H vs ys):xs=ys:=by
 cases a with
 | nil=>cases b;rfl
 | cons r t=>
   cases b with
   | cons r' t'=>rw[qY I r r',sE I t t']
end
end
theorem Oq(a b:List D):eqD (.tup a) (.tup b)=cC a b:=rfl
theorem N8(a b:List D):eqD (.lst a) (.lst b)=cC a b:=rfl
mutual
theorem j5:∀(x:D),au x=true->eqD x x=true
 | .non,_=>rfl
 | .bl b,_=>beq_self_eq_true b
 | .int i,_=>beq_self_eq_true i
 | .str s,_=>beq_self_eq_true s
 | .tup ds,h=>lU ds h
 | .lst ds,h=>lU ds h
 | .loc _,h=>by cases h
 | .dlo _,h=>by cases h
 | .dic,_=>rfl
theorem lU:∀(xs:List D),ao xs=true->cC xs xs=true
 | [],_=>rfl
 | d::ds,h=>by
   obtain⟨h1,h2⟩:=aa (show(au d&&ao ds)=true from h)
   show(eqD d d&&cC ds ds)=true
   rw[j5 d h1,lU ds h2]
   rfl
end
abbrev eqJ(ds es:List D)(j:Nat):Bool:=eqD (ds.getD j .non) (es.getD j .non)
theorem KH(d e:D)(ds es:List D):(eqJ (d::ds) (e::es)) ∘ Nat.succ=eqJ ds es:=by
 funext j;simp[eqJ,List.getD]
theorem jz:∀(ds es:List D),((List.range (min ds.length es.length)).all (eqJ ds es)&&ds.length==es.length)=cC ds es
 | [],[]=>by simp[cC]
 | [],e::es=>by simp[cC]
 | d::ds,[]=>by simp[cC]
 | d::ds,e::es=>by
   have ih:=jz ds es
   have h1:min (d::ds).length (e::es).length=min ds.length es.length+1:=by simp only[List.length_cons];omega
   rw[h1,List.range_succ_eq_map,List.all_cons,List.all_map,KH]
   have h2:((d::ds).length==(e::es).length)=(ds.length==es.length):=by simp
   have h3:eqJ (d::ds) (e::es) 0=eqD d e:=by simp[eqJ,List.getD]
   rw[h2,h3,Bool.and_assoc,ih]
   simp only[cC]
theorem Lh{es:List D}(h:ds.length=es.length):(List.range ds.length).all (eqJ ds es)=cC ds es:=by
 rw[←jz ds es,←h,Nat.min_self,beq_self_eq_true,Bool.and_true]
theorem NQ{es:List D}(h:ds.length≠es.length):cC ds es=false:=by
 rw[←jz ds es]
 have:(ds.length==es.length)=false:=by simpa using h
 rw[this,Bool.and_false]
section
variable {X : Cx}
theorem sH{n:Nat}(ih:∀(x y:D),deep x≤n->∀{pins:Pins}{s:Shared}{σ:DL.St}{H:Hp}{v w:V}{u u':Value}{A:Around},Inv X pins σ H s->Sn X.K H v x->Sn X.K H w y->RelV v u->RelV w u'->A.units+n<cLine->SeqAt.EqAt A s u u' (eqD x y))
 (x y:D)(hx:deep x≤n+1){pins:Pins}{s:Shared}{σ:DL.St}{H:Hp}{v w:V}{u u':Value}{A:Around}(I:Inv X pins σ H s)(r1:Sn X.K H v x)(r2:Sn X.K H w y)(ru:RelV v u)(ru':RelV w u')(hu:A.units+(n+1)<cLine):
 SeqAt.RcAt A s u u' (eqD x y)/\SeqAt.RcNeAt A s u u' (!eqD x y):=by
 have hu0:A.units<cLine:=by omega
 have part:∀{ds es:List D}{xs ys:List V}{its its2:List Value},aY ds≤n->Sns X.K H xs ds->Sns X.K H ys es->Vals xs its->Vals ys its2->∀j(h1:j<its.toArray.size)(h2:j<its2.toArray.size),SeqAt.EqAt A.in1 s its.toArray[j] its2.toArray[j] (eqJ ds es j):=by
  intro ds es xs ys its its2 hd q1 q2 v1 v2 j j1 j2
  have l1:its.length=ds.length:=by rw[←v1.length,q1.length]
  have l2:its2.length=es.length:=by rw[←v2.length,q2.length]
  have hj:j<ds.length:=by simpa[l1]using j1
  have hj2:j<es.length:=by simpa[l2]using j2
  obtain⟨z1,a1,b1⟩:=q1.get (y3 hj)
  obtain⟨z2,a2,b2⟩:=q2.get (y3 hj2)
  obtain⟨u1,c1,d1⟩:=v1.get a1
  obtain⟨u2,c2,d2⟩:=v2.get a2
  have e1:its.toArray[j]=u1:=by have:=(z0.mp c1).2;simpa using this
  have e2:its2.toArray[j]=u2:=by have:=(z0.mp c2).2;simpa using this
  rw[e1,e2]
  have e3:eqJ ds es j=eqD ds[j] es[j]:=by simp[eqJ,List.getD,hj,hj2]
  rw[e3]
  have hd':=dI (y3 hj)
  exact ih ds[j] es[j] (by omega) I b1 b2 d1 d2 (by show A.units+1+n<cLine;omega)
 cases r1 with
 | non=>
   cases ru
   cases r2 with
   | non=>cases ru';exact⟨SeqAt.RcAt.none_none,SeqAt.RcNeAt.none_none⟩
   | bl b=>cases ru';exact⟨SeqAt.RcAt.none_bool b,SeqAt.RcNeAt.none_bool b⟩
   | int i=>obtain⟨t',rfl⟩:=ru';exact⟨SeqAt.RcAt.none_int i t',SeqAt.RcNeAt.none_int i t'⟩
   | str i=>obtain⟨t',rfl⟩:=ru';exact⟨SeqAt.RcAt.none_str i t',SeqAt.RcNeAt.none_str i t'⟩
   | tup h2 q2=>
     cases ru';obtain⟨its2,v2,p2,_⟩:=I.tuple h2
     exact⟨SeqAt.RcAt.none_tuple (show s.heap.IsTuple _ its2.toArray from p2) hu0,SeqAt.RcNeAt.none_tuple (show s.heap.IsTuple _ its2.toArray from p2) hu0⟩
   | lst h2 q2=>
     cases ru';obtain⟨its2,v2,p2,_⟩:=I.list h2
     exact⟨SeqAt.RcAt.none_list p2.isList hu0,SeqAt.RcNeAt.none_list p2.isList hu0⟩
 | bl a=>
   cases ru
   cases r2 with
   | non=>cases ru';exact⟨SeqAt.RcAt.bool_none a,SeqAt.RcNeAt.bool_none a⟩
   | bl b=>cases ru';exact⟨SeqAt.RcAt.bool_bool a b,SeqAt.RcNeAt.bool_bool a b⟩
   | int i=>obtain⟨t',rfl⟩:=ru';exact⟨SeqAt.RcAt.bool_int a i t',SeqAt.RcNeAt.bool_int a i t'⟩
   | str i=>obtain⟨t',rfl⟩:=ru';exact⟨SeqAt.RcAt.bool_str a i t',SeqAt.RcNeAt.bool_str a i t'⟩
   | tup h2 q2=>
     cases ru';obtain⟨its2,v2,p2,_⟩:=I.tuple h2
     exact⟨SeqAt.RcAt.bool_tuple a (show s.heap.IsTuple _ its2.toArray from p2) hu0,SeqAt.RcNeAt.bool_tuple a (show s.heap.IsTuple _ its2.toArray from p2) hu0⟩
   | lst h2 q2=>
     cases ru';obtain⟨its2,v2,p2,_⟩:=I.list h2
     exact⟨SeqAt.RcAt.bool_list a p2.isList hu0,SeqAt.RcNeAt.bool_list a p2.isList hu0⟩
 | int a=>
   obtain⟨t,rfl⟩:=ru
   cases r2 with
   | non=>cases ru';exact⟨SeqAt.RcAt.int_none a t,SeqAt.RcNeAt.int_none a t⟩
   | bl b=>cases ru';exact⟨SeqAt.RcAt.int_bool a t b,SeqAt.RcNeAt.int_bool a t b⟩
   | int i=>obtain⟨t',rfl⟩:=ru';exact⟨SeqAt.RcAt.int_int a t i t',SeqAt.RcNeAt.int_int a t i t'⟩
   | str i=>obtain⟨t',rfl⟩:=ru';exact⟨SeqAt.RcAt.int_str a t i t',SeqAt.RcNeAt.int_str a t i t'⟩
   | tup h2 q2=>
     cases ru';obtain⟨its2,v2,p2,_⟩:=I.tuple h2
     exact⟨SeqAt.RcAt.int_tuple a t (show s.heap.IsTuple _ its2.toArray from p2) hu0,SeqAt.RcNeAt.int_tuple a t (show s.heap.IsTuple _ its2.toArray from p2) hu0⟩
   | lst h2 q2=>
     cases ru';obtain⟨its2,v2,p2,_⟩:=I.list h2
     exact⟨SeqAt.RcAt.int_list a t p2.isList hu0,SeqAt.RcNeAt.int_list a t p2.isList hu0⟩
 | str a=>
   obtain⟨t,rfl⟩:=ru
   cases r2 with
   | non=>cases ru';exact⟨SeqAt.RcAt.str_none a t,SeqAt.RcNeAt.str_none a t⟩
   | bl b=>cases ru';exact⟨SeqAt.RcAt.str_bool a t b,SeqAt.RcNeAt.str_bool a t b⟩
   | int i=>obtain⟨t',rfl⟩:=ru';exact⟨SeqAt.RcAt.str_int a t i t',SeqAt.RcNeAt.str_int a t i t'⟩
   | str i=>obtain⟨t',rfl⟩:=ru';exact⟨SeqAt.RcAt.str_str a t i t',SeqAt.RcNeAt.str_str a t i t'⟩
   | tup h2 q2=>
     cases ru';obtain⟨its2,v2,p2,_⟩:=I.tuple h2
     exact⟨SeqAt.RcAt.str_tuple a t (show s.heap.IsTuple _ its2.toArray from p2) hu0,SeqAt.RcNeAt.str_tuple a t (show s.heap.IsTuple _ its2.toArray from p2) hu0⟩
   | lst h2 q2=>
     cases ru';obtain⟨its2,v2,p2,_⟩:=I.list h2
     exact⟨SeqAt.RcAt.str_list a t p2.isList hu0,SeqAt.RcNeAt.str_list a t p2.isList hu0⟩
 | @tup a xs ds h1 q1=>
   cases ru
   obtain⟨its,v1,p1,_⟩:=I.tuple h1
   have p1:s.heap.IsTuple a its.toArray:=p1
   cases r2 with
   | non=>cases ru';exact⟨SeqAt.RcAt.tuple_none p1 hu0,SeqAt.RcNeAt.tuple_none p1 hu0⟩
   | bl b=>cases ru';exact⟨SeqAt.RcAt.tuple_bool b p1 hu0,SeqAt.RcNeAt.tuple_bool b p1 hu0⟩
   | int i=>obtain⟨t',rfl⟩:=ru';exact⟨SeqAt.RcAt.tuple_int i t' p1 hu0,SeqAt.RcNeAt.tuple_int i t' p1 hu0⟩
   | str i=>obtain⟨t',rfl⟩:=ru';exact⟨SeqAt.RcAt.tuple_str i t' p1 hu0,SeqAt.RcNeAt.tuple_str i t' p1 hu0⟩
   | @tup b ys es h2 q2=>
     cases ru'
     obtain⟨its2,v2,p2,_⟩:=I.tuple h2
     have p2:s.heap.IsTuple b its2.toArray:=p2
     have l1:its.toArray.size=ds.length:=by rw[x5,←v1.length,q1.length]
     have l2:its2.toArray.size=es.length:=by rw[x5,←v2.length,q2.length]
     have hd:aY ds≤n:=by simp[deep]at hx;exact hx
     have a1:=SeqAt.RcAt.tuples (e:=eqJ ds es) p1 p2 hu0 (part hd q1 q2 v1 v2)
     have a2:=SeqAt.RcNeAt.tuples (e:=eqJ ds es) p1 p2 hu0 (part hd q1 q2 v1 v2)
     rw[l1,l2,jz]at a1 a2
     rw[Oq]
     exact⟨a1,a2⟩
   | lst h2 q2=>
     cases ru';obtain⟨its2,v2,p2,_⟩:=I.list h2
     exact⟨SeqAt.RcAt.tuple_list p1 p2.isList hu0,SeqAt.RcNeAt.tuple_list p1 p2.isList hu0⟩
 | @lst a xs ds h1 q1=>
   cases ru
   obtain⟨its,v1,p1,_⟩:=I.list h1
   have p1:=p1.isList
   cases r2 with
   | non=>cases ru';exact⟨SeqAt.RcAt.list_none p1 hu0,SeqAt.RcNeAt.list_none p1 hu0⟩
   | bl b=>cases ru';exact⟨SeqAt.RcAt.list_bool b p1 hu0,SeqAt.RcNeAt.list_bool b p1 hu0⟩
   | int i=>obtain⟨t',rfl⟩:=ru';exact⟨SeqAt.RcAt.list_int i t' p1 hu0,SeqAt.RcNeAt.list_int i t' p1 hu0⟩
   | str i=>obtain⟨t',rfl⟩:=ru';exact⟨SeqAt.RcAt.list_str i t' p1 hu0,SeqAt.RcNeAt.list_str i t' p1 hu0⟩
   | tup h2 q2=>
     cases ru';obtain⟨its2,v2,p2,_⟩:=I.tuple h2
     exact⟨SeqAt.RcAt.list_tuple p1 (show s.heap.IsTuple _ its2.toArray from p2) hu0,SeqAt.RcNeAt.list_tuple p1 (show s.heap.IsTuple _ its2.toArray from p2) hu0⟩
   | @lst b ys es h2 q2=>
     cases ru'
     obtain⟨its2,v2,p2,_⟩:=I.list h2
     have p2:=p2.isList
     have l1:its.toArray.size=ds.length:=by rw[x5,←v1.length,q1.length]
     have l2:its2.toArray.size=es.length:=by rw[x5,←v2.length,q2.length]
     have hd:aY ds≤n:=by simp[deep]at hx;exact hx
     rw[N8]
     by_cases hl:ds.length=es.length
     . have a1:=SeqAt.RcAt.lists (e:=eqJ ds es) p1 p2 (by rw[l1,l2,hl]) hu0 (part hd q1 q2 v1 v2)
       have a2:=SeqAt.RcNeAt.lists (e:=eqJ ds es) p1 p2 (by rw[l1,l2,hl]) hu0 (part hd q1 q2 v1 v2)
       rw[l1,Lh hl]at a1 a2
       exact⟨a1,a2⟩
     . have z:(its.toArray.size !=its2.toArray.size)=true:=by rw[l1,l2];simpa using hl
       rw[NQ hl]
       exact⟨SeqAt.RcAt.lists_lengths p1 p2 z hu0,SeqAt.RcNeAt.lists_lengths p1 p2 z hu0⟩
theorem xG:∀{K:PySem.W.Frag}{H:Hp}{v:V}{x:D},Sn K H v x->au x=true:=by
 intro K H v x h
 refine Sn.rec (motive_1:=λ v x _=>au x=true) (motive_2:=λ vs xs _=>ao xs=true) ?_ ?_ ?_ ?_ ?_ ?_ ?_ ?_ h
 . simp[au]
 . intro b;simp[au]
 . intro b;simp[au]
 . intro b;simp[au]
 . intro a xs ds h r ih;simpa[au]using ih
 . intro a xs ds h r ih;simpa[au]using ih
 . simp[ao]
 . intro v d vs ds r t ih1 ih2;simp[ao,ih1,ih2]
theorem JV (n:Nat):∀(x y:D),deep x≤n->∀{pins:Pins}{s:Shared}{σ:DL.St}{H:Hp}{v w:V}{u u':Value}{A:Around},Inv X pins σ H s->Sn X.K H v x->Sn X.K H w y->RelV v u->RelV w u'->A.units+n<cLine->SeqAt.EqAt A s u u' (eqD x y):=by
 induction n with
 | zero=>
   intro x y hx pins s σ H v w u u' A I r1 r2 ru ru' hu
   cases r1 with
   | non=>
     cases ru
     cases r2 with
     | non=>cases ru';exact SeqAt.EqAt.same _
     | bl b=>cases ru';exact SeqAt.EqAt.none_bool b
     | int i=>obtain⟨t',rfl⟩:=ru';exact SeqAt.EqAt.none_int i t'
     | str i=>obtain⟨t',rfl⟩:=ru';exact SeqAt.EqAt.none_str i t'
     | tup h2 q2=>cases ru';obtain⟨its2,v2,p2,_⟩:=I.tuple h2;exact SeqAt.EqAt.none_tuple (show s.heap.IsTuple _ its2.toArray from p2) (by omega)
     | lst h2 q2=>cases ru';obtain⟨its2,v2,p2,_⟩:=I.list h2;exact SeqAt.EqAt.none_list p2.isList (by omega)
   | bl a=>
     cases ru
     cases r2 with
     | non=>cases ru';exact SeqAt.EqAt.bool_none a
     | bl b=>cases ru';exact SeqAt.EqAt.bool_bool a b
     | int i=>obtain⟨t',rfl⟩:=ru';exact SeqAt.EqAt.bool_int a i t'
     | str i=>obtain⟨t',rfl⟩:=ru';exact SeqAt.EqAt.bool_str a i t'
     | tup h2 q2=>cases ru';obtain⟨its2,v2,p2,_⟩:=I.tuple h2;exact SeqAt.EqAt.bool_tuple a (show s.heap.IsTuple _ its2.toArray from p2) (by omega)
     | lst h2 q2=>cases ru';obtain⟨its2,v2,p2,_⟩:=I.list h2;exact SeqAt.EqAt.bool_list a p2.isList (by omega)
   | int a=>
     obtain⟨t,rfl⟩:=ru
     cases r2 with
     | non=>cases ru';exact SeqAt.EqAt.int_none a t
     | bl b=>cases ru';exact SeqAt.EqAt.int_bool a t b
     | int i=>obtain⟨t',rfl⟩:=ru';exact SeqAt.EqAt.int_int a t i t'
     | str i=>obtain⟨t',rfl⟩:=ru';exact SeqAt.EqAt.int_str a t i t'
     | tup h2 q2=>cases ru';obtain⟨its2,v2,p2,_⟩:=I.tuple h2;exact SeqAt.EqAt.int_tuple a t (show s.heap.IsTuple _ its2.toArray from p2) (by omega)
     | lst h2 q2=>cases ru';obtain⟨its2,v2,p2,_⟩:=I.list h2;exact SeqAt.EqAt.int_list a t p2.isList (by omega)
   | str a=>
     obtain⟨t,rfl⟩:=ru
     cases r2 with
     | non=>cases ru';exact SeqAt.EqAt.str_none a t
     | bl b=>cases ru';exact SeqAt.EqAt.str_bool a t b
     | int i=>obtain⟨t',rfl⟩:=ru';exact SeqAt.EqAt.str_int a t i t'
     | str i=>obtain⟨t',rfl⟩:=ru';exact SeqAt.EqAt.str_str a t i t'
     | tup h2 q2=>cases ru';obtain⟨its2,v2,p2,_⟩:=I.tuple h2;exact SeqAt.EqAt.str_tuple a t (show s.heap.IsTuple _ its2.toArray from p2) (by omega)
     | lst h2 q2=>cases ru';obtain⟨its2,v2,p2,_⟩:=I.list h2;exact SeqAt.EqAt.str_list a t p2.isList (by omega)
   | tup _ _=>simp[deep]at hx
   | lst _ _=>simp[deep]at hx
 | succ n ih=>
   intro x y hx pins s σ H v w u u' A I r1 r2 ru ru' hu
   by_cases h0:deep x≤n
   . exact ih x y h0 I r1 r2 ru ru' (by omega)
   . have both:=sH ih x y hx I r1 r2 ru ru' hu
     cases r1 with
     | non=>simp[deep]at h0
     | bl b=>simp[deep]at h0
     | int b=>simp[deep]at h0
     | str b=>simp[deep]at h0
     | @tup a xs ds h1 q1=>
       cases ru
       obtain⟨its,v1,p1,_⟩:=I.tuple h1
       have p1:s.heap.IsTuple a its.toArray:=p1
       cases r2 with
       | non=>cases ru';exact SeqAt.EqAt.tuple_none p1 (by omega)
       | bl b=>cases ru';exact SeqAt.EqAt.tuple_bool b p1 (by omega)
       | int i=>obtain⟨t',rfl⟩:=ru';exact SeqAt.EqAt.tuple_int i t' p1 (by omega)
       | str i=>obtain⟨t',rfl⟩:=ru';exact SeqAt.EqAt.tuple_str i t' p1 (by omega)
       | @tup b ys es h2 q2=>
         cases ru'
         by_cases e:a=b
         . subst e
           have e2:=qY I (.tup h1 q1) (.tup h2 q2)
           rw[←e2,j5 _ (xG (.tup h1 q1))]
           exact SeqAt.EqAt.same _
         . exact SeqAt.EqAt.of_refs e both.1
       | @lst b ys es h2 q2=>
         cases ru';obtain⟨its2,v2,p2,_⟩:=I.list h2;exact SeqAt.EqAt.tuple_list p1 p2.isList (by omega)
     | @lst a xs ds h1 q1=>
       cases ru
       obtain⟨its,v1,p1,_⟩:=I.list h1
       have p1:=p1.isList
       cases r2 with
       | non=>cases ru';exact SeqAt.EqAt.list_none p1 (by omega)
       | bl b=>cases ru';exact SeqAt.EqAt.list_bool b p1 (by omega)
       | int i=>obtain⟨t',rfl⟩:=ru';exact SeqAt.EqAt.list_int i t' p1 (by omega)
       | str i=>obtain⟨t',rfl⟩:=ru';exact SeqAt.EqAt.list_str i t' p1 (by omega)
       | tup h2 q2=>cases ru';obtain⟨its2,v2,p2,_⟩:=I.tuple h2;exact SeqAt.EqAt.list_tuple p1 (show s.heap.IsTuple _ its2.toArray from p2) (by omega)
       | @lst b ys es h2 q2=>
         cases ru'
         by_cases e:a=b
         . subst e
           have e2:=qY I (.lst h1 q1) (.lst h2 q2)
           rw[←e2,j5 _ (xG (.lst h1 q1))]
           exact SeqAt.EqAt.same _
         . exact SeqAt.EqAt.of_refs e both.1
def vw(S:Store):D->D
 | .loc k=>match S[k]? with | some ds=>.lst ds | none=>.loc k
 | d=>d
def Ep(S:Store)(x y:D):Prop:=okD (vw S x)=true/\okD (vw S y)=true/\deep (vw S x)≤50
theorem ir{K:PySem.W.Frag}{O:Own}{H:Hp}{v:V}(st:StOk K O H S)(r:Rep K O H v x)(h:okD (vw S x)=true):Sn K H v (vw S x):=by
 cases r with
 | @loc a k hk=>
   simp only[vw]at h ⊢
   have hl:k<S.length:=by rw[←st.len];exact(z0.mp hk).1
   obtain⟨xs,hx,q⟩:=st.obj k a S[k] hk (y3 hl)
   rw[y3 hl]at h ⊢
   exact .lst (SqL.of hx) (nj (by simpa[okD]using h) q)
 | non=>exact .non
 | bl b=>exact .bl b
 | int i=>exact .int i
 | str i=>exact .str i
 | tup h1 q1=>exact wQ h (.tup h1 q1)
 | lst h1 q1=>exact wQ h (.lst h1 q1)
 | dic h1 e1=>simp[vw,okD]at h
 | dlo h1 _=>simp[vw,okD]at h
theorem Tq(hu:X.A.units+60<cLine)(h:Ep S x y)(w:W (eqD (vw S x) (vw S y)) S):bK X .Eq x y S (asB W):=by
 intro pins s σ H O v w' u u' I st r1 r2 r3 r4
 obtain⟨h1,h2,h3⟩:=h
 have:=(sH (n:=50) (A:=X.A) (JV 50) (vw S x) (vw S y) (by omega) I (ir st r1 h1) (ir st r2 h2) r3 r4 (by omega)).1
 exact this _ _ _ _ ⟨.bl _,H,I,rfl,QG.here ⟨_,rfl,w⟩ st (.bl _)⟩
theorem Ui(hu:X.A.units+60<cLine)(h:Ep S x y)(w:W (!eqD (vw S x) (vw S y)) S):bK X .NotEq x y S (asB W):=by
 intro pins s σ H O v w' u u' I st r1 r2 r3 r4
 obtain⟨h1,h2,h3⟩:=h
 have:=(sH (n:=50) (A:=X.A) (JV 50) (vw S x) (vw S y) (by omega) I (ir st r1 h1) (ir st r2 h2) r3 r4 (by omega)).2
 exact this _ _ _ _ ⟨.bl _,H,I,rfl,QG.here ⟨_,rfl,w⟩ st (.bl _)⟩
theorem gR:∀{xs:List V}{its:List Value}{i:Nat}{v:V},Vals xs its->xs[i]? =some v->∃y,its[i]? =some y/\RelV v y
 | _,_,_,_,.nil,e=>by simp at e
 | _,_,0,_,.cons a _,e=>by simp at e;subst e;exact⟨_,rfl,a⟩
 | _,_,i+1,v,.cons _ t,e=>by
   obtain⟨y,h1,h2⟩:=gR (i:=i) (v:=v) t (by simpa using e)
   exact⟨y,by simpa using h1,h2⟩
theorem Df{pins:Pins}{s:Shared}{σ:DL.St}{H:Hp}{v w':V}{u u':Value}(hu:X.A.units+60<cLine)(I:Inv X pins σ H s)(sx:Sn X.K H v x)(sy:Sn X.K H w' (.lst ds))(r3:RelV v u)(r4:RelV w' u')(h3:aY ds≤50):
 ∃(l:Addr) (its:List Value) (e:Value->Bool),u'=.ref l/\s.heap.IsList l its.toArray/\(∀y,y∈its.toArray->SeqAt.EqAt X.A.in1 s y u (e y))/\its.toArray.any e=ds.any λ d=>eqD d x:=by
 classical
 cases sy with
 | @lst a xs _ h1 q1=>
   cases r4
   obtain⟨its,rv,pl,hz⟩:=I.list h1
   let e:Value->Bool:=λ y=>decide (∃(v':V) (d:D),RelV v' y/\Sn X.K H v' d/\eqD d x=true)
   have ev:∀(y:Value)(v':V)(d:D),RelV v' y->Sn X.K H v' d->e y=eqD d x:=by
    intro y v' d hr hs
    cases hd:eqD d x with
    | true=>exact decide_eq_true ⟨v',d,hr,hs,hd⟩
    | false=>
      refine decide_eq_false ?_
      rintro⟨v2,d2,hr2,hs2,hd2⟩
      have ev':=hr2.inj hr
      subst ev'
      have:=qY I hs2 hs
      subst this
      rw[hd]at hd2;cases hd2
   refine⟨a,its,e,rfl,pl.isList,?_,?_⟩
   . intro y hy
     have hy':y∈its:=by simpa using hy
     obtain⟨i,hi⟩:=List.getElem?_of_mem hy'
     have hlt:i<xs.length:=by rw[rv.length];exact(z0.mp hi).1
     obtain⟨d,hd⟩:∃d,ds[i]? =some d:=⟨_,y3 (by rw[←q1.length];exact hlt)⟩
     obtain⟨v',hv',hs⟩:=q1.get hd
     obtain⟨y',hy2,hr⟩:=gR rv hv'
     rw[hi]at hy2;cases hy2
     rw[ev y v' d hr hs]
     exact JV 50 d x (Nat.le_trans (dI hd) h3) I hs sx hr r3 (by show X.A.units+1+50<cLine;omega)
   . have hlen:its.length=ds.length:=by rw[←rv.length,q1.length]
     have main:∀(xs:List V)(its:List Value)(ds:List D),Vals xs its->Sns X.K H xs ds->its.any e=ds.any λ d=>eqD d x:=by
      intro xs its ds rv q1
      induction rv generalizing ds with
      | nil=>cases q1;rfl
      | cons hr _ ih=>
        cases q1 with
        | cons hs ht=>rw[List.any_cons,List.any_cons,ev _ _ _ hr hs,ih _ ht]
     rw[List.any_toArray]
     exact main xs its ds rv q1
theorem SJ(hu:X.A.units+60<cLine)(hy:vw S y=.lst ds)(h1:okD (vw S x)=true)(h2:cU ds=true)(h3:aY ds≤50)(w:W (ds.any λ d=>eqD d (vw S x)) S):bK X .In x y S (asB W):=by
 intro pins s σ H O v w' u u' I st r1 r2 r3 r4
 have sy:=ir st r2 (by rw[hy];simpa[okD]using h2)
 rw[hy]at sy
 obtain⟨l,its,e,rfl,hl,he,ha⟩:=Df hu I (ir st r1 h1) sy r3 r4 h3
 refine SeqAt.in_listAt e hl he ?_
 rw[ha]
 exact⟨.bl _,H,I,rfl,QG.here ⟨_,rfl,w⟩ st (.bl _)⟩
theorem RB(hu:X.A.units+60<cLine)(hy:vw S y=.lst ds)(h1:okD (vw S x)=true)(h2:cU ds=true)(h3:aY ds≤50)(w:W (!(ds.any λ d=>eqD d (vw S x))) S):bK X .NotIn x y S (asB W):=by
 intro pins s σ H O v w' u u' I st r1 r2 r3 r4
 have sy:=ir st r2 (by rw[hy];simpa[okD]using h2)
 rw[hy]at sy
 obtain⟨l,its,e,rfl,hl,he,ha⟩:=Df hu I (ir st r1 h1) sy r3 r4 h3
 refine SeqAt.notIn_listAt e hl he ?_
 rw[ha]
 exact⟨.bl _,H,I,rfl,QG.here ⟨_,rfl,w⟩ st (.bl _)⟩
end
end RF
namespace RF
open PySem PySem.Spec L2 DL
open PyProof.Rows
variable {X : Cx}
def isN:D->Bool
 | .non=>true
 | _=>false
theorem QM{a b:Bool}{S:Store}{W:Bool->Store->Prop}(w:W (a==b) S):bK X .Is (.bl a) (.bl b) S (asB W):=by
 intro pins s σ H O v w' u u' I st r1 r2 r3 r4
 cases r1;cases r2;cases r3;cases r4
 refine wpAny_is_plain rfl ?_
 have e:(Value.bool a==Value.bool b)=(a==b):=by cases a<;>cases b<;>rfl
 rw[e]
 exact⟨.bl _,H,I,rfl,QG.here ⟨_,rfl,w⟩ st (.bl _)⟩
theorem Gu{a b:Bool}{S:Store}{W:Bool->Store->Prop}(w:W (!(a==b)) S):bK X .IsNot (.bl a) (.bl b) S (asB W):=by
 intro pins s σ H O v w' u u' I st r1 r2 r3 r4
 cases r1;cases r2;cases r3;cases r4
 refine wpAny_isNot_plain rfl ?_
 have e:(Value.bool a==Value.bool b)=(a==b):=by cases a<;>cases b<;>rfl
 rw[e]
 exact⟨.bl _,H,I,rfl,QG.here ⟨_,rfl,w⟩ st (.bl _)⟩
def bEq(x y:D)(ki:Int->Int->Prop)(kb:Bool->Bool->Prop)(g:Prop):Prop:=match x with
 | .int i=>(match y with
   | .int j=>ki i j
   | _=>g)
 | .bl i=>(match y with
   | .bl j=>kb i j
   | _=>g)
 | _=>g
theorem CW{x y:D}{ki:Int->Int->Prop}{kb:Bool->Bool->Prop}{g:Prop}(h:bEq x y ki kb g):(∃i j,x=.int i/\y=.int j/\ki i j)∨(∃i j,x=.bl i/\y=.bl j/\kb i j)∨g:=by
 cases x<;>first | exact .inr (.inr h) | (cases y<;>first | exact .inr (.inr h) | exact .inl ⟨_,_,rfl,rfl,h⟩ | exact .inr (.inl ⟨_,_,rfl,rfl,h⟩))
def bIs(x y:D)(n:Prop)(kb:Bool->Bool->Prop):Prop:=match y with
 | .non=>n
 | .bl j=>(match x with
   | .bl i=>kb i j
   | _=>False)
 | _=>False
theorem CQ{x y:D}{n:Prop}{kb:Bool->Bool->Prop}(h:bIs x y n kb):(y=.non/\n)∨∃i j,x=.bl i/\y=.bl j/\kb i j:=by
 cases y<;>first | exact h.elim | exact .inl ⟨rfl,h⟩ | (cases x<;>first | exact h.elim | exact .inr ⟨_,_,rfl,rfl,h⟩)
@[irreducible] noncomputable def aZ(op:CmpOp)(x y:D)(S:Store)(W:Bool->Store->Prop):Prop:=match op with
  | .Lt=>bII x y λ i j=>W (decide (i<j)) S
  | .LtE=>bII x y λ i j=>W (decide (i≤j)) S
  | .Gt=>bII x y λ i j=>W (decide (j<i)) S
  | .GtE=>bII x y λ i j=>W (decide (j≤i)) S
  | .Eq=>bEq x y (λ i j=>W (decide (i=j)) S) (λ i j=>W (i==j) S) (Ep S x y/\W (eqD (vw S x) (vw S y)) S)
  | .NotEq=>bEq x y (λ i j=>W (!decide (i=j)) S) (λ i j=>W (!(i==j)) S) ((Ep S x y/\W (!eqD (vw S x) (vw S y)) S)∨(x=y/\au x=true/\deep x≤50/\W false S))
  | .Is=>bIs x y (W (isN x) S) λ i j=>W (i==j) S
  | .IsNot=>bIs x y (W (!isN x) S) λ i j=>W (!(i==j)) S
  | .In=>∃ds,vw S y=.lst ds/\okD (vw S x)=true/\cU ds=true/\aY ds≤50/\W (ds.any λ d=>eqD d (vw S x)) S
  | .NotIn=>∃ds,vw S y=.lst ds/\okD (vw S x)=true/\cU ds=true/\aY ds≤50/\W (!(ds.any λ d=>eqD d (vw S x))) S
theorem cB{op:CmpOp}{x y:D}{S:Store}{W:Bool->Store->Prop}{b:Bool}(h:∀V:WD,V (.bl b) S->bK X op x y S V)(w:W b S):bK X op x y S (asB W):=h (asB W) ⟨b,rfl,w⟩
theorem eH{op:CmpOp}{x y:D}{S:Store}{W:Bool->Store->Prop}(hu:X.A.units+60<cLine)(h:aZ op x y S W):bK X op x y S (asB W):=by
 unfold aZ at h
 cases op with
 | Lt=>obtain⟨i,j,rfl,rfl,h⟩:=dR h;exact cB (λ _=>Vd) h
 | LtE=>obtain⟨i,j,rfl,rfl,h⟩:=dR h;exact cB (λ _=>U4) h
 | Gt=>obtain⟨i,j,rfl,rfl,h⟩:=dR h;exact cB (λ _=>Vg) h
 | GtE=>obtain⟨i,j,rfl,rfl,h⟩:=dR h;exact cB (λ _=>Ve) h
 | Eq=>
   rcases CW h with⟨i,j,rfl,rfl,h⟩ | ⟨i,j,rfl,rfl,h⟩ | h
   . exact cB (λ _=>Sx) h
   . exact cB (λ _=>Tj) h
   . exact Tq hu h.1 h.2
 | NotEq=>
   rcases CW h with⟨i,j,rfl,rfl,h⟩ | ⟨i,j,rfl,rfl,h⟩ | h | ⟨rfl,h1,h2,h3⟩
   . exact cB (λ _=>Th) h
   . exact cB (λ _=>SM) h
   . exact Ui hu h.1 h.2
   . exact Ld hu h1 h2 ⟨false,rfl,h3⟩
 | Is=>
   rcases CQ h with⟨rfl,h⟩ | ⟨i,j,rfl,rfl,h⟩
   . exact cB (λ V w=>Ua w) h
   . exact QM h
 | IsNot=>
   rcases CQ h with⟨rfl,h⟩ | ⟨i,j,rfl,rfl,h⟩
   . refine cB (λ V w=>M9 ?_) h
     cases x<;>exact w
   . exact Gu h
 | In=>obtain⟨ds,h1,h2,h3,h4,h5⟩:=h;exact SJ hu h1 h2 h3 h4 h5
 | NotIn=>obtain⟨ds,h1,h2,h3,h4,h5⟩:=h;exact RB hu h1 h2 h3 h4 h5
section
variable {i j : Int} {a b : Bool} {x y : D} {S : Store} {W : Bool -> Store -> Prop}
theorem cLt(w:W (decide (i<j)) S):aZ .Lt (.int i) (.int j) S W:=by unfold aZ;exact w
theorem cLe(w:W (decide (i≤j)) S):aZ .LtE (.int i) (.int j) S W:=by unfold aZ;exact w
theorem cGt(w:W (decide (j<i)) S):aZ .Gt (.int i) (.int j) S W:=by unfold aZ;exact w
theorem cEqI(w:W (decide (i=j)) S):aZ .Eq (.int i) (.int j) S W:=by unfold aZ;exact w
theorem cNeI(w:W (!decide (i=j)) S):aZ .NotEq (.int i) (.int j) S W:=by unfold aZ;exact w
theorem cIsNot(w:W (!isN x) S):aZ .IsNot x .non S W:=by unfold aZ;cases x<;>exact w
theorem cIn{ds:List D}(h1:vw S y=.lst ds)(h2:okD (vw S x)=true)(h3:cU ds=true)(h4:aY ds≤50)(w:W (ds.any λ d=>eqD d (vw S x)) S):aZ .In x y S W:=by unfold aZ;cases x<;>exact⟨ds,h1,h2,h3,h4,w⟩
end
set_option genInjectivity false in
structure Ex(Ω:Wd) where
 lev:Nat
 chk:Bool->List Str->Nm->Expr->Bool
 wp:Gam->Store->WD->Prop
 sound:∀{X:Cx}{r:Nat}{top:Bool}{N:List Str}{nm:Nm}{e:Expr}{Γ:Gam}{S:Store}{W:WD},At Ω X r top N nm->lev≤r->chk top N nm e=true->wp Γ S W->Ev X Γ S e W
set_option genInjectivity false in
structure Te(Ω:Wd) where
 lev:Nat
 chk:Bool->List Str->Nm->Expr->Bool
 wp:Gam->Store->(Bool->Store->Prop)->Prop
 sound:∀{X:Cx}{r:Nat}{top:Bool}{N:List Str}{nm:Nm}{e:Expr}{Γ:Gam}{S:Store}{W:Bool->Store->Prop},At Ω X r top N nm->lev≤r->chk top N nm e=true->wp Γ S W->Ts X Γ S e W
set_option genInjectivity false in
structure Ar(Ω:Wd) where
 lev:Nat
 chk:Bool->List Str->Nm->List Expr->Bool
 wp:Gam->Store->(List D->Store->Prop)->Prop
 plain:∀{top:Bool}{N:List Str}{nm:Nm}{es:List Expr},chk top N nm es=true->es.all okE=true
 sound:∀{X:Cx}{r:Nat}{top:Bool}{N:List Str}{nm:Nm}{es:List Expr}{Γ:Gam}{S:Store}{W:List D->Store->Prop},At Ω X r top N nm->lev≤r->chk top N nm es=true->wp Γ S W->EvA X Γ S es W
set_option genInjectivity false in
structure Bo(Ω:Wd) where
 lev:Nat
 chk:Bool->List Str->Nm->List Expr->Bool
 wpA:Gam->Store->WD->Prop
 wpO:Gam->Store->WD->Prop
 ne:∀{top:Bool}{N:List Str}{nm:Nm}{es:List Expr},chk top N nm es=true->∃b rest,es=b::rest
 soundA:∀{X:Cx}{r:Nat}{top:Bool}{N:List Str}{nm:Nm}{es:List Expr}{Γ:Gam}{S:Store}{W:WD}{pos:Pos},At Ω X r top N nm->lev≤r->chk top N nm es=true->wpA Γ S W->Ev X Γ S (.BoolOp .And es pos) W
 soundO:∀{X:Cx}{r:Nat}{top:Bool}{N:List Str}{nm:Nm}{es:List Expr}{Γ:Gam}{S:Store}{W:WD}{pos:Pos},At Ω X r top N nm->lev≤r->chk top N nm es=true->wpO Γ S W->Ev X Γ S (.BoolOp .Or es pos) W
set_option genInjectivity false in
structure Bt(Ω:Wd) where
 lev:Nat
 chk:Bool->List Str->Nm->List Expr->Bool
 wpA:Gam->Store->(Bool->Store->Prop)->Prop
 wpO:Gam->Store->(Bool->Store->Prop)->Prop
 ne:∀{top:Bool}{N:List Str}{nm:Nm}{es:List Expr},chk top N nm es=true->∃b rest,es=b::rest
 soundA:∀{X:Cx}{r:Nat}{top:Bool}{N:List Str}{nm:Nm}{es:List Expr}{Γ:Gam}{S:Store}{W:Bool->Store->Prop}{pos:Pos},At Ω X r top N nm->lev≤r->chk top N nm es=true->wpA Γ S W->TsW X Γ S (.BoolOp .And es pos) W
 soundO:∀{X:Cx}{r:Nat}{top:Bool}{N:List Str}{nm:Nm}{es:List Expr}{Γ:Gam}{S:Store}{W:Bool->Store->Prop}{pos:Pos},At Ω X r top N nm->lev≤r->chk top N nm es=true->wpO Γ S W->TsW X Γ S (.BoolOp .Or es pos) W
theorem At.hu{Ω:Wd}{r:Nat}{top:Bool}{N:List Str}{nm:Nm}(A:At Ω X r top N nm):X.A.units+60<cLine:=by have:=A.room.un;omega
theorem lv2{a b r:Nat}(h:max a b≤r):a≤r/\b≤r:=by omega
variable {Ω : Wd}
def Ex.var(i:Nat):Ex Ω where
 lev:=0
 chk _ N nm e:=match e with | .Name x _=>(N[i]? ==some x)&&(vis nm x&&okN x) | _=>false
 wp Γ S W:=match Γ[i]? with | some (some d)=>W d S | _=>False
 sound:=by
  intro X r top N nm e Γ S W A _ hc hw
  cases e with
  | Name x pos=>
    obtain⟨h1,h2⟩:=aa hc
    obtain⟨h2,h3⟩:=aa h2
    obtain⟨d1,d2,_⟩:=gC h3
    have h1:N[i]? =some x:=eq_of_beq h1
    cases hΓ:Γ[i]? with
    | none=>rw[hΓ]at hw;exact hw.elim
    | some o=>
      cases o with
      | none=>rw[hΓ]at hw;exact hw.elim
      | some d=>
        rw[hΓ]at hw
        exact Qi i hΓ hw (by rw[A.n];exact h1) (A.vis h2) d1 d2
  | _=>exact fE hc
def Ex.int(i:Int):Ex Ω where
 lev:=0
 chk _ _ _ e:=match e with | .Constant (.int j) _ _=>j==i | _=>false
 wp _ S W:=W (.int i) S
 sound:=by
  intro X r top N nm e Γ S W A _ hc hw
  cases e with
  | Constant c k pos=>
    cases c with
    | int j=>have e:j=i:=eq_of_beq hc;subst e;exact R1 hw
    | _=>exact fE hc
  | _=>exact fE hc
def Ex.bl(i:Bool):Ex Ω where
 lev:=0
 chk _ _ _ e:=match e with | .Constant (.bool j) _ _=>j==i | _=>false
 wp _ S W:=W (.bl i) S
 sound:=by
  intro X r top N nm e Γ S W A _ hc hw
  cases e with
  | Constant c k pos=>
    cases c with
    | bool j=>have e:j=i:=eq_of_beq hc;subst e;exact Up hw
    | _=>exact fE hc
  | _=>exact fE hc
def Ex.non:Ex Ω where
 lev:=0
 chk _ _ _ e:=match e with | .Constant .none _ _=>true | _=>false
 wp _ S W:=W .non S
 sound:=by
  intro X r top N nm e Γ S W A _ hc hw
  cases e with
  | Constant c k pos=>
    cases c with
    | none=>exact Rj hw
    | _=>exact fE hc
  | _=>exact fE hc
def Ex.gint{x:Str}{i:Int}(h:∃t,Ω.mg x=some (.int i t)):Ex Ω where
 lev:=0
 chk _ _ nm e:=match e with | .Name y _=>(y==x)&&(glb nm x&&okN x) | _=>false
 wp _ S W:=W (.int i) S
 sound:=by
  intro X r top N nm e Γ S W A _ hc hw
  cases e with
  | Name y pos=>
    obtain⟨h1,h2⟩:=aa hc
    obtain⟨h2,h3⟩:=aa h2
    have e:y=x:=eq_of_beq h1
    subst e
    obtain⟨t,h⟩:=h
    exact Jz (by rw[A.g];exact h) hw (A.glb h2) (gC h3).1
  | _=>exact fE hc
def Ex.bin(op:Operator)(a b:Ex Ω):Ex Ω where
 lev:=max a.lev b.lev
 chk top N nm e:=match e with | .BinOp l o r _=>(o==op)&&(a.chk top N nm l&&b.chk top N nm r) | _=>false
 wp Γ S W:=a.wp Γ S λ x S1=>b.wp Γ S1 λ y S2=>Mv op x y S2 W
 sound:=by
  intro X r top N nm e Γ S W A hl hc hw
  obtain⟨l1,l2⟩:=lv2 hl
  cases e with
  | BinOp l o r' pos=>
    obtain⟨h1,h2⟩:=aa hc
    obtain⟨h2,h3⟩:=aa h2
    have e:o=op:=eq_of_beq h1
    subst e
    exact yj ((a.sound A l1 h2 hw).mono λ x S1 q=>(b.sound A l2 h3 q).mono λ y S2 q=>Mh q)
  | _=>exact fE hc
def Ex.cmp(op:CmpOp)(a b:Ex Ω):Ex Ω where
 lev:=max a.lev b.lev
 chk top N nm e:=match e with | .Compare l [o] [r] _=>(o==op)&&(okE r&&(a.chk top N nm l&&b.chk top N nm r)) | _=>false
 wp Γ S W:=a.wp Γ S λ x S1=>b.wp Γ S1 λ y S2=>aZ op x y S2 λ c S3=>W (.bl c) S3
 sound:=by
  intro X r top N nm e Γ S W A hl hc hw
  obtain⟨l1,l2⟩:=lv2 hl
  cases e with
  | Compare l os rs pos=>
    match os,rs,hc with
    | [o],[r'],hc=>
      obtain⟨h1,h2⟩:=aa hc
      obtain⟨h0,h2⟩:=aa h2
      obtain⟨h2,h3⟩:=aa h2
      have e:o=op:=eq_of_beq h1
      subst e
      exact RZ ((a.sound A l1 h2 hw).mono λ x S1 q=>(b.sound A l2 h3 q).mono λ y S2 q=>(eH A.hu q).mono λ d S3 ⟨c,e,w⟩=>by subst e;exact w) (j4 h0)
    | [],_,hc=>exact fE hc
    | [_],[],hc=>exact fE hc
    | [_],_::_::_,hc=>exact fE hc
    | _::_::_,_,hc=>exact fE hc
  | _=>exact fE hc
def Te.cmp(op:CmpOp)(a b:Ex Ω):Te Ω where
 lev:=max a.lev b.lev
 chk top N nm e:=match e with | .Compare l [o] [r] _=>(o==op)&&(okE r&&(a.chk top N nm l&&b.chk top N nm r)) | _=>false
 wp Γ S W:=a.wp Γ S λ x S1=>b.wp Γ S1 λ y S2=>aZ op x y S2 W
 sound:=by
  intro X r top N nm e Γ S W A hl hc hw
  obtain⟨l1,l2⟩:=lv2 hl
  cases e with
  | Compare l os rs pos=>
    match os,rs,hc with
    | [o],[r'],hc=>
      obtain⟨h1,h2⟩:=aa hc
      obtain⟨h0,h2⟩:=aa h2
      obtain⟨h2,h3⟩:=aa h2
      have e:o=op:=eq_of_beq h1
      subst e
      exact Sw ((a.sound A l1 h2 hw).mono λ x S1 q=>(b.sound A l2 h3 q).mono λ y S2 q=>eH A.hu q) (j4 h0)
    | [],_,hc=>exact fE hc
    | [_],[],hc=>exact fE hc
    | [_],_::_::_,hc=>exact fE hc
    | _::_::_,_,hc=>exact fE hc
  | _=>exact fE hc
abbrev Mz(a:Ex Ω)(o1:CmpOp)(b:Ex Ω)(o2:CmpOp)(c:Ex Ω)(Γ:Gam)(S:Store)(W:Bool->Store->Prop):Prop:=
 a.wp Γ S λ x S1=>b.wp Γ S1 λ y S2=>aZ o1 x y S2 λ k S3=>(k=false->W false S3)/\(k=true->c.wp Γ S3 λ t S4=>aZ o2 y t S4 W)
def Ex.ch2(a:Ex Ω)(o1:CmpOp)(b:Ex Ω)(o2:CmpOp)(c:Ex Ω):Ex Ω where
 lev:=max (max a.lev b.lev) c.lev
 chk top N nm e:=match e with | .Compare l [p1,p2] [m,r] _=>(p1==o1)&&((p2==o2)&&(okE r&&(a.chk top N nm l&&(b.chk top N nm m&&c.chk top N nm r)))) | _=>false
 wp Γ S W:=Mz a o1 b o2 c Γ S λ k S1=>W (.bl k) S1
 sound:=by
  intro X r top N nm e Γ S W A hl hc hw
  obtain⟨l1,l3⟩:=lv2 hl
  obtain⟨l1,l2⟩:=lv2 l1
  cases e with
  | Compare l os rs pos=>
    match os,rs,hc with
    | [p1,p2],[m,r'],hc=>
      obtain⟨h1,h2⟩:=aa hc
      obtain⟨h2,h3⟩:=aa h2
      obtain⟨h0,h3⟩:=aa h3
      obtain⟨h3,h4⟩:=aa h3
      obtain⟨h4,h5⟩:=aa h4
      have e:p1=o1:=eq_of_beq h1
      subst e
      have e:p2=o2:=eq_of_beq h2
      subst e
      refine Lj ((a.sound A l1 h3 hw).mono λ x S1 q=>(b.sound A l2 h4 q).mono λ y S2 q=>(eH A.hu q).mono λ d S3 ⟨k,e,w⟩=>⟨k,e,w.1,λ hk=>(c.sound A l3 h5 (w.2 hk)).mono λ t S4 q=>(eH A.hu q).mono λ d S3 ⟨c,e,w⟩=>by subst e;exact w⟩) (j4 h0)
    | [],_,hc=>exact fE hc
    | [_],_,hc=>exact fE hc
    | [_,_],[],hc=>exact fE hc
    | [_,_],[_],hc=>exact fE hc
    | [_,_],_::_::_::_,hc=>exact fE hc
    | _::_::_::_,_,hc=>exact fE hc
  | _=>exact fE hc
def Te.ch2(a:Ex Ω)(o1:CmpOp)(b:Ex Ω)(o2:CmpOp)(c:Ex Ω):Te Ω where
 lev:=max (max a.lev b.lev) c.lev
 chk top N nm e:=match e with | .Compare l [p1,p2] [m,r] _=>(p1==o1)&&((p2==o2)&&(okE r&&(a.chk top N nm l&&(b.chk top N nm m&&c.chk top N nm r)))) | _=>false
 wp Γ S W:=Mz a o1 b o2 c Γ S W
 sound:=by
  intro X r top N nm e Γ S W A hl hc hw
  obtain⟨l1,l3⟩:=lv2 hl
  obtain⟨l1,l2⟩:=lv2 l1
  cases e with
  | Compare l os rs pos=>
    match os,rs,hc with
    | [p1,p2],[m,r'],hc=>
      obtain⟨h1,h2⟩:=aa hc
      obtain⟨h2,h3⟩:=aa h2
      obtain⟨h0,h3⟩:=aa h3
      obtain⟨h3,h4⟩:=aa h3
      obtain⟨h4,h5⟩:=aa h4
      have e:p1=o1:=eq_of_beq h1
      subst e
      have e:p2=o2:=eq_of_beq h2
      subst e
      refine Gr ((a.sound A l1 h3 hw).mono λ x S1 q=>(b.sound A l2 h4 q).mono λ y S2 q=>(eH A.hu q).mono λ d S3 ⟨k,e,w⟩=>⟨k,e,w.1,λ hk=>(c.sound A l3 h5 (w.2 hk)).mono λ t S4 q=>eH A.hu q⟩) (j4 h0)
    | [],_,hc=>exact fE hc
    | [_],_,hc=>exact fE hc
    | [_,_],[],hc=>exact fE hc
    | [_,_],[_],hc=>exact fE hc
    | [_,_],_::_::_::_,hc=>exact fE hc
    | _::_::_::_,_,hc=>exact fE hc
  | _=>exact fE hc
def Te.val(a:Ex Ω):Te Ω where
 lev:=a.lev
 chk top N nm e:=Kl e&&a.chk top N nm e
 wp Γ S W:=a.wp Γ S λ d S1=>match d with | .bl c=>W c S1 | _=>False
 sound:=by
  intro X r top N nm e Γ S W A hl hc hw
  obtain⟨h1,h2⟩:=aa hc
  refine Rw ((a.sound A hl h2 hw).mono λ d S1 q=>?_) (FZ h1 _)
  cases d<;>first | exact⟨_,rfl,q⟩ | exact q.elim
def Te.not(t:Te Ω):Te Ω where
 lev:=t.lev
 chk top N nm e:=match e with | .UnaryOp .Not a _=>t.chk top N nm a | _=>false
 wp Γ S W:=t.wp Γ S λ c S1=>W (!c) S1
 sound:=by
  intro X r top N nm e Γ S W A hl hc hw
  cases e with
  | UnaryOp o a pos=>
    cases o with
    | Not=>exact QJ (t.sound A hl hc hw)
    | _=>exact fE hc
  | _=>exact fE hc
def Bt.one(t:Te Ω):Bt Ω where
 lev:=t.lev
 chk top N nm es:=match es with | [e]=>t.chk top N nm e | _=>false
 wpA Γ S W:=t.wp Γ S W
 wpO Γ S W:=t.wp Γ S W
 ne:=by
  intro top N nm es hc
  match es,hc with
  | [e],_=>exact⟨_,_,rfl⟩
  | [],hc=>exact fE hc
  | _::_::_,hc=>exact fE hc
 soundA:=by
  intro X r top N nm es Γ S W pos A hl hc hw
  match es,hc with
  | [e],hc=>exact tw_and1 (t.sound A hl hc hw)
  | [],hc=>exact fE hc
  | _::_::_,hc=>exact fE hc
 soundO:=by
  intro X r top N nm es Γ S W pos A hl hc hw
  match es,hc with
  | [e],hc=>exact tw_or1 (t.sound A hl hc hw)
  | [],hc=>exact fE hc
  | _::_::_,hc=>exact fE hc
def Bt.cons(t:Te Ω)(r:Bt Ω):Bt Ω where
 lev:=max t.lev r.lev
 chk top N nm es:=match es with | e::es=>t.chk top N nm e&&r.chk top N nm es | _=>false
 wpA Γ S W:=t.wp Γ S λ c S1=>(c=true->r.wpA Γ S1 W)/\(c=false->W false S1)
 wpO Γ S W:=t.wp Γ S λ c S1=>(c=true->W true S1)/\(c=false->r.wpO Γ S1 W)
 ne:=by
  intro top N nm es hc
  match es,hc with
  | _::_,_=>exact⟨_,_,rfl⟩
  | [],hc=>exact fE hc
 soundA:=by
  intro X r' top N nm es Γ S W pos A hl hc hw
  obtain⟨l1,l2⟩:=lv2 hl
  match es,hc with
  | e::es,hc=>
    obtain⟨h1,h2⟩:=aa hc
    obtain⟨b,rest,rfl⟩:=r.ne h2
    exact tw_and (Ts.mono (t.sound A l1 h1 hw) λ c S1 q=>⟨λ hk=>r.soundA A l2 h2 (q.1 hk),q.2⟩)
  | [],hc=>exact fE hc
 soundO:=by
  intro X r' top N nm es Γ S W pos A hl hc hw
  obtain⟨l1,l2⟩:=lv2 hl
  match es,hc with
  | e::es,hc=>
    obtain⟨h1,h2⟩:=aa hc
    obtain⟨b,rest,rfl⟩:=r.ne h2
    exact tw_or (Ts.mono (t.sound A l1 h1 hw) λ c S1 q=>⟨q.1,λ hk=>r.soundO A l2 h2 (q.2 hk)⟩)
  | [],hc=>exact fE hc
def Te.and(l:Bt Ω):Te Ω where
 lev:=l.lev
 chk top N nm e:=match e with | .BoolOp .And es _=>l.chk top N nm es | _=>false
 wp Γ S W:=l.wpA Γ S W
 sound:=by
  intro X r top N nm e Γ S W A hl hc hw
  cases e with
  | BoolOp o es pos=>
    cases o with
    | And=>exact(l.soundA A hl hc hw).ts
    | _=>exact fE hc
  | _=>exact fE hc
def Te.or(l:Bt Ω):Te Ω where
 lev:=l.lev
 chk top N nm e:=match e with | .BoolOp .Or es _=>l.chk top N nm es | _=>false
 wp Γ S W:=l.wpO Γ S W
 sound:=by
  intro X r top N nm e Γ S W A hl hc hw
  cases e with
  | BoolOp o es pos=>
    cases o with
    | Or=>exact(l.soundO A hl hc hw).ts
    | _=>exact fE hc
  | _=>exact fE hc
def Bo.one(t:Ex Ω):Bo Ω where
 lev:=t.lev
 chk top N nm es:=match es with | [e]=>t.chk top N nm e | _=>false
 wpA Γ S W:=t.wp Γ S W
 wpO Γ S W:=t.wp Γ S W
 ne:=by
  intro top N nm es hc
  match es,hc with
  | [e],_=>exact⟨_,_,rfl⟩
  | [],hc=>exact fE hc
  | _::_::_,hc=>exact fE hc
 soundA:=by
  intro X r top N nm es Γ S W pos A hl hc hw
  match es,hc with
  | [e],hc=>exact Hr (t.sound A hl hc hw)
  | [],hc=>exact fE hc
  | _::_::_,hc=>exact fE hc
 soundO:=by
  intro X r top N nm es Γ S W pos A hl hc hw
  match es,hc with
  | [e],hc=>exact Hr (t.sound A hl hc hw)
  | [],hc=>exact fE hc
  | _::_::_,hc=>exact fE hc
def Bo.cons(t:Ex Ω)(r:Bo Ω):Bo Ω where
 lev:=max t.lev r.lev
 chk top N nm es:=match es with | e::es=>t.chk top N nm e&&r.chk top N nm es | _=>false
 wpA Γ S W:=t.wp Γ S λ d S1=>match d with | .bl c=>(c=true->r.wpA Γ S1 W)/\(c=false->W (.bl false) S1) | _=>False
 wpO Γ S W:=t.wp Γ S λ d S1=>match d with | .bl c=>(c=true->W (.bl true) S1)/\(c=false->r.wpO Γ S1 W) | _=>False
 ne:=by
  intro top N nm es hc
  match es,hc with
  | _::_,_=>exact⟨_,_,rfl⟩
  | [],hc=>exact fE hc
 soundA:=by
  intro X r' top N nm es Γ S W pos A hl hc hw
  obtain⟨l1,l2⟩:=lv2 hl
  match es,hc with
  | e::es,hc=>
    obtain⟨h1,h2⟩:=aa hc
    obtain⟨b,rest,rfl⟩:=r.ne h2
    refine Qp ((t.sound A l1 h1 hw).mono λ d S1 q=>?_)
    cases d<;>first | exact⟨_,rfl,λ hk=>r.soundA A l2 h2 (q.1 hk),q.2⟩ | exact q.elim
  | [],hc=>exact fE hc
 soundO:=by
  intro X r' top N nm es Γ S W pos A hl hc hw
  obtain⟨l1,l2⟩:=lv2 hl
  match es,hc with
  | e::es,hc=>
    obtain⟨h1,h2⟩:=aa hc
    obtain⟨b,rest,rfl⟩:=r.ne h2
    refine Us ((t.sound A l1 h1 hw).mono λ d S1 q=>?_)
    cases d<;>first | exact⟨_,rfl,q.1,λ hk=>r.soundO A l2 h2 (q.2 hk)⟩ | exact q.elim
  | [],hc=>exact fE hc
def Ex.and(l:Bo Ω):Ex Ω where
 lev:=l.lev
 chk top N nm e:=match e with | .BoolOp .And es _=>l.chk top N nm es | _=>false
 wp Γ S W:=l.wpA Γ S W
 sound:=by
  intro X r top N nm e Γ S W A hl hc hw
  cases e with
  | BoolOp o es pos=>
    cases o with
    | And=>exact l.soundA A hl hc hw
    | _=>exact fE hc
  | _=>exact fE hc
def Ex.or(l:Bo Ω):Ex Ω where
 lev:=l.lev
 chk top N nm e:=match e with | .BoolOp .Or es _=>l.chk top N nm es | _=>false
 wp Γ S W:=l.wpO Γ S W
 sound:=by
  intro X r top N nm e Γ S W A hl hc hw
  cases e with
  | BoolOp o es pos=>
    cases o with
    | Or=>exact l.soundO A hl hc hw
    | _=>exact fE hc
  | _=>exact fE hc
def Ex.not(a:Ex Ω):Ex Ω where
 lev:=a.lev
 chk top N nm e:=match e with | .UnaryOp .Not b _=>a.chk top N nm b | _=>false
 wp Γ S W:=a.wp Γ S λ d S1=>match d with | .bl c=>W (.bl (!c)) S1 | _=>False
 sound:=by
  intro X r top N nm e Γ S W A hl hc hw
  cases e with
  | UnaryOp o b pos=>
    cases o with
    | Not=>
      refine Qj ((a.sound A hl hc hw).mono λ d S1 q=>?_)
      cases d<;>first | exact⟨_,rfl,q⟩ | exact q.elim
    | _=>exact fE hc
  | _=>exact fE hc
def Ex.neg(a:Ex Ω):Ex Ω where
 lev:=a.lev
 chk top N nm e:=match e with | .UnaryOp .USub b _=>a.chk top N nm b | _=>false
 wp Γ S W:=a.wp Γ S λ d S1=>match d with | .int c=>W (.int (-c)) S1 | _=>False
 sound:=by
  intro X r top N nm e Γ S W A hl hc hw
  cases e with
  | UnaryOp o b pos=>
    cases o with
    | USub=>
      refine Rh ((a.sound A hl hc hw).mono λ d S1 q=>?_)
      cases d<;>first | exact⟨_,rfl,q⟩ | exact q.elim
    | _=>exact fE hc
  | _=>exact fE hc
def Ar.nil:Ar Ω where
 lev:=0
 chk _ _ _ es:=match es with | []=>true | _=>false
 wp _ S W:=W [] S
 plain:=by
  intro top N nm es hc
  match es,hc with
  | [],_=>rfl
  | _::_,hc=>exact fE hc
 sound:=by
  intro X r top N nm es Γ S W A _ hc hw
  match es,hc with
  | [],_=>exact rG hw
  | _::_,hc=>exact fE hc
def Ar.cons(a:Ex Ω)(r:Ar Ω):Ar Ω where
 lev:=max a.lev r.lev
 chk top N nm es:=match es with | e::es=>okE e&&(a.chk top N nm e&&r.chk top N nm es) | _=>false
 wp Γ S W:=a.wp Γ S λ d S1=>r.wp Γ S1 λ ds S2=>W (d::ds) S2
 plain:=by
  intro top N nm es hc
  match es,hc with
  | e::es,hc=>
    obtain⟨h1,h2⟩:=aa hc
    obtain⟨h2,h3⟩:=aa h2
    rw[List.all_cons,h1,r.plain h3];rfl
  | [],hc=>exact fE hc
 sound:=by
  intro X r' top N nm es Γ S W A hl hc hw
  obtain⟨l1,l2⟩:=lv2 hl
  match es,hc with
  | e::es,hc=>
    obtain⟨h1,h2⟩:=aa hc
    obtain⟨h2,h3⟩:=aa h2
    exact gG ((a.sound A l1 h2 hw).mono λ d S1 q=>r.sound A l2 h3 q) (bu h1 _ _)
  | [],hc=>exact fE hc
def Ex.tup(as:Ar Ω):Ex Ω where
 lev:=as.lev
 chk top N nm e:=match e with | .Tuple es _ _=>as.chk top N nm es | _=>false
 wp Γ S W:=as.wp Γ S λ ds S1=>ds.length≤1000000/\W (.tup ds) S1
 sound:=by
  intro X r top N nm e Γ S W A hl hc hw
  cases e with
  | Tuple es k pos=>exact Ro (as.sound A hl hc hw)
  | _=>exact fE hc
def Ex.lst(as:Ar Ω):Ex Ω where
 lev:=as.lev
 chk top N nm e:=match e with | .List es _=>as.chk top N nm es | _=>false
 wp Γ S W:=as.wp Γ S λ ds S1=>ds.length≤1000000/\W (.lst ds) S1
 sound:=by
  intro X r top N nm e Γ S W A hl hc hw
  cases e with
  | List es pos=>exact Q0 (as.sound A hl hc hw)
  | _=>exact fE hc
def Ex.own(as:Ar Ω):Ex Ω where
 lev:=as.lev
 chk top N nm e:=match e with | .List es _=>as.chk top N nm es | _=>false
 wp Γ S W:=as.wp Γ S λ ds S1=>ds.length≤1000000/\W (.loc S1.length) (S1++[ds])
 sound:=by
  intro X r top N nm e Γ S W A hl hc hw
  cases e with
  | List es pos=>exact PX (as.sound A hl hc hw)
  | _=>exact fE hc
def Ex.ix(a b:Ex Ω):Ex Ω where
 lev:=max a.lev b.lev
 chk top N nm e:=match e with | .Subscript l r _=>okE r&&(a.chk top N nm l&&b.chk top N nm r) | _=>false
 wp Γ S W:=a.wp Γ S λ x S1=>b.wp Γ S1 λ y S2=>Li x y S2 W
 sound:=by
  intro X r top N nm e Γ S W A hl hc hw
  obtain⟨l1,l2⟩:=lv2 hl
  cases e with
  | Subscript l r' pos=>
    obtain⟨h1,h2⟩:=aa hc
    obtain⟨h2,h3⟩:=aa h2
    exact TJ ((a.sound A l1 h2 hw).mono λ x S1 q=>(b.sound A l2 h3 q).mono λ y S2 q=>PP q) (LK h1)
  | _=>exact fE hc
set_option genInjectivity false in
structure Po(Ω:Wd) where
 lev:Nat
 chk:Bool->List Str->Nm->Option Expr->Bool
 wp:Gam->Store->(Option Int->Store->Prop)->Prop
 sound:∀{X:Cx}{r:Nat}{top:Bool}{N:List Str}{nm:Nm}{e:Option Expr}{Γ:Gam}{S:Store}{W:Option Int->Store->Prop},At Ω X r top N nm->lev≤r->chk top N nm e=true->wp Γ S W->PoD X Γ S e W
def Po.no:Po Ω where
 lev:=0
 chk _ _ _ e:=match e with | none=>true | _=>false
 wp _ S W:=W none S
 sound:=by
  intro X r top N nm e Γ S W A hl hc hw
  cases e with
  | none=>exact Vb hw
  | some e=>exact fE hc
def Po.so(a:Ex Ω):Po Ω where
 lev:=a.lev
 chk top N nm e:=match e with | some e=>a.chk top N nm e | _=>false
 wp Γ S W:=a.wp Γ S λ d S1=>match d with | .int i=>W (some i) S1 | _=>False
 sound:=by
  intro X r top N nm e Γ S W A hl hc hw
  cases e with
  | some e=>
    refine UL ((a.sound A hl hc hw).mono λ d S1 q=>?_)
    cases d<;>first | exact⟨_,rfl,q⟩ | exact q.elim
  | none=>exact fE hc
theorem PoD.mono{Γ:Gam}{S:Store}{e:Option Expr}{W W':Option Int->Store->Prop}(h:PoD X Γ S e W)(k:∀c S',W c S'->W' c S'):PoD X Γ S e W':=by
 cases e with
 | none=>exact k _ _ h
 | some e=>exact Ev.mono h λ d S1 ⟨i,e,w⟩=>⟨i,e,k _ _ w⟩
def Ex.sl(a:Ex Ω)(lo hi:Po Ω):Ex Ω where
 lev:=max a.lev (max lo.lev hi.lev)
 chk top N nm e:=match e with | .Subscript l (.Slice x y none _) _=>a.chk top N nm l&&(lo.chk top N nm x&&hi.chk top N nm y) | _=>false
 wp Γ S W:=a.wp Γ S λ x S1=>lo.wp Γ S1 λ l S2=>hi.wp Γ S2 λ h S3=>Kw x l h S3 W
 sound:=by
  intro X r top N nm e Γ S W A hl hc hw
  obtain⟨l1,l2⟩:=lv2 hl
  obtain⟨l2,l3⟩:=lv2 l2
  cases e with
  | Subscript l sl pos=>
    cases sl with
    | Slice x y z p2=>
      cases z with
      | none=>
        obtain⟨h1,h2⟩:=aa hc
        obtain⟨h2,h3⟩:=aa h2
        exact J3 ((a.sound A l1 h1 hw).mono λ x S1 q=>PoD.mono (lo.sound A l2 h2 q) λ l S2 q=>PoD.mono (hi.sound A l3 h3 q) λ h S3 q=>Oc q)
      | some _=>exact fE hc
    | _=>exact fE hc
  | _=>exact fE hc
def Ex.call{x:Str}{k n:Nat}{F:Ct}(C:Callee Ω.P Ω.w Ω.K Ω.mg Ω.base x k n F)(as:Ar Ω):Ex Ω where
 lev:=max k as.lev
 chk top N nm e:=match e with | .Call (.Name y _) (a::es) [] _=>(y==x)&&(glb nm x&&(okN x&&as.chk top N nm (a::es))) | _=>false
 wp Γ S W:=as.wp Γ S λ ds S1=>ds.length=n/\F ds S1 W
 sound:=by
  intro X r top N nm e Γ S W A hl hc hw
  obtain⟨l1,l2⟩:=lv2 hl
  cases e with
  | Call f es ks pos=>
    cases f with
    | Name y p=>
      match es,ks,hc with
      | a::es,[],hc=>
        obtain⟨h1,h2⟩:=aa hc
        obtain⟨h2,h3⟩:=aa h2
        obtain⟨h3,h4⟩:=aa h3
        have e:y=x:=eq_of_beq h1
        subst e
        have pl:=as.plain h4
        rw[List.all_cons]at pl
        obtain⟨p1,p2⟩:=aa pl
        have C':Callee X.prog X.w X.K X.mg X.base y k n F:=by rw[A.p,A.w,A.k,A.g,A.b];exact C
        exact Nf C' (A.room.mono l1) (as.sound A l2 h4 hw) (A.glb h2) (gC h3).1 (bu p1 _ _) (qm p2 _ _)
      | [],_,hc=>exact fE hc
      | _::_,_::_,hc=>exact fE hc
    | _=>exact fE hc
  | _=>exact fE hc
set_option genInjectivity false in
structure Bf where
 x:Str
 id:String
 boot:bootBuiltins x=some (.builtin id)
 wp:List D->Store->WD->Prop
 sound:∀{X:Cx}{ds:List D}{S:Store}{W:WD},X.calm=true->Room 0 X.A->wp ds S W->eX X (.builtin id) ds S W
def Ex.blt(b:Bf)(hm:Ω.mg b.x=none)(as:Ar Ω):Ex Ω where
 lev:=as.lev
 chk top N nm e:=match e with | .Call (.Name y _) (a::es) [] _=>(y==b.x)&&(glb nm b.x&&(okN b.x&&as.chk top N nm (a::es))) | _=>false
 wp Γ S W:=as.wp Γ S λ ds S1=>b.wp ds S1 W
 sound:=by
  intro X r top N nm e Γ S W A hl hc hw
  cases e with
  | Call f es ks pos=>
    cases f with
    | Name y p=>
      match es,ks,hc with
      | a::es,[],hc=>
        obtain⟨h1,h2⟩:=aa hc
        obtain⟨h2,h3⟩:=aa h2
        obtain⟨h3,h4⟩:=aa h3
        have e:y=b.x:=eq_of_beq h1
        subst e
        have pl:=as.plain h4
        rw[List.all_cons]at pl
        obtain⟨p1,p2⟩:=aa pl
        exact Kf (EvA.mono (as.sound A hl h4 hw) λ ds S1 q=>b.sound A.calm (A.room.mono (Nat.zero_le _)) q) (by rw[A.g];exact hm) b.boot (A.glb h2) (gC h3).2.2 (gC h3).1 (bu p1 _ _) (qm p2 _ _)
      | [],_,hc=>exact fE hc
      | _::_,_::_,hc=>exact fE hc
    | _=>exact fE hc
  | _=>exact fE hc
set_option genInjectivity false in
structure Bc where
 x:Str
 id:String
 boot:bootBuiltins x=some (.type id)
 wp:List D->Store->WD->Prop
 sound:∀{X:Cx}{ds:List D}{S:Store}{W:WD},X.calm=true->Room 0 X.A->wp ds S W->eX X (.type id) ds S W
def Ex.typ(b:Bc)(hm:Ω.mg b.x=none)(as:Ar Ω):Ex Ω where
 lev:=as.lev
 chk top N nm e:=match e with | .Call (.Name y _) (a::es) [] _=>(y==b.x)&&(glb nm b.x&&(okN b.x&&as.chk top N nm (a::es))) | _=>false
 wp Γ S W:=as.wp Γ S λ ds S1=>b.wp ds S1 W
 sound:=by
  intro X r top N nm e Γ S W A hl hc hw
  cases e with
  | Call f es ks pos=>
    cases f with
    | Name y p=>
      match es,ks,hc with
      | a::es,[],hc=>
        obtain⟨h1,h2⟩:=aa hc
        obtain⟨h2,h3⟩:=aa h2
        obtain⟨h3,h4⟩:=aa h3
        have e:y=b.x:=eq_of_beq h1
        subst e
        have pl:=as.plain h4
        rw[List.all_cons]at pl
        obtain⟨p1,p2⟩:=aa pl
        exact Lx (EvA.mono (as.sound A hl h4 hw) λ ds S1 q=>b.sound A.calm (A.room.mono (Nat.zero_le _)) q) (by rw[A.g];exact hm) b.boot (A.glb h2) (gC h3).2.2 (gC h3).1 (bu p1 _ _) (qm p2 _ _)
      | [],_,hc=>exact fE hc
      | _::_,_::_,hc=>exact fE hc
    | _=>exact fE hc
  | _=>exact fE hc
def Ex.isi(hm:Ω.mg "isinstance"=none)(a:Ex Ω)(T:Ty)(hT:Ω.mg T.nm=none):Ex Ω where
 lev:=a.lev
 chk top N nm e:=iz e λ y es=>two2 es λ b c=>anB (nameV c) λ t=>(y==("isinstance":Str))&&(glb nm "isinstance"&&((t==T.nm)&&(glb nm T.nm&&(okE b&&a.chk top N nm b))))
 wp Γ S W:=a.wp Γ S λ d S1=>W (.bl (isD T d)) S1
 sound:=by
  intro X r top N nm e Γ S W A hl hc hw
  obtain⟨y,p,es,pos,rfl,hc_1⟩:=dG hc
  obtain⟨b,c,rfl,hc_2⟩:=two2_of hc_1
  obtain⟨t,hn,hc_3⟩:=mz hc_2
  obtain⟨q,rfl⟩:=pF hn
  have hc:=hc_3
  . skip
    obtain⟨h1,g2⟩:=aa hc
    obtain⟨h2,g3⟩:=aa g2
    obtain⟨h3,g4⟩:=aa g3
    obtain⟨h4,g5⟩:=aa g4
    obtain⟨h5,h6⟩:=aa g5
    have e:y="isinstance":=eq_of_beq h1
    subst e
    have e:t=T.nm:=eq_of_beq h3
    subst e
    exact RP (Tn:=T.id) ((a.sound A hl h6 hw).mono λ d S1 q=>by rw[Ru];exact q) T.isT T.boot (by rw[A.g];exact hm) (by rw[A.g];exact hT) (A.glb h2) (A.glb h4) T.ok.2 T.ok.1 (bu h5 _ _) (bu (e:=.Name T.nm q) rfl [] _)
end RF
namespace RF
open PySem PySem.Spec L2 DL
open PyProof.Rows
variable {Γ : Gam}
inductive Tg where
 | nm(i:Nat) | tup(is:List Nat)
def setAll:Gam->List Nat->List D->Gam
 | Γ,i::is,d::ds=>setAll (Γ.set i (some d)) is ds
 | Γ,_,_=>Γ
def Tg.wp:Tg->D->Gam->(Gam->Prop)->Prop
 | .nm i,d,Γ,W=>W (Γ.set i (some d))
 | .tup is,.tup ds,Γ,W=>ds.length=is.length/\W (setAll Γ is ds)
 | .tup _,_,_,_=>False
def Tg.slots:Tg->List Nat
 | .nm i=>[i]
 | .tup is=>is
def m6(top:Bool)(N:List Str)(nm:Nm)(i:Nat)(e:Expr):Bool:=match e with | .Name x _=>(N[i]? ==some x)&&lcl top nm x | _=>false
def fL(top:Bool)(N:List Str)(nm:Nm):List Nat->List Expr->Bool
 | [],[]=>true
 | i::is,e::es=>m6 top N nm i e&&fL top N nm is es
 | _,_=>false
def Tg.chk(t:Tg)(top:Bool)(N:List Str)(nm:Nm)(e:Expr):Bool:=match t with
 | .nm i=>m6 top N nm i e
 | .tup is=>match e with | .Tuple es _ _=>fL top N nm is es | _=>false
section
variable {Ω : Wd} {X : Cx} {r : Nat} {top : Bool} {N : List Str} {nm : Nm}
theorem xW(A:At Ω X r top N nm){i:Nat}{e:Expr}{d:D}{Γ:Gam}{S:Store}{W:Gam->Store->Prop}(hc:m6 top N nm i e=true)(hw:W (Γ.set i (some d)) S):BdW X e d Γ S W:=by
 cases e with
 | Name x pos=>
   obtain⟨h1,h2⟩:=aa hc
   have h1:N[i]? =some x:=eq_of_beq h1
   obtain⟨l1,l2⟩:=A.lcl h2
   exact MT i hw (by rw[A.n];exact A.nd) (by rw[A.n];exact h1) l1 l2
 | _=>exact fE hc
theorem xY{i:Nat}{is:List Nat}{es:List Expr}(h:fL top N nm (i::is) es=true):∃x p es',es=.Name x p::es'/\m6 top N nm i (.Name x p)=true/\fL top N nm is es'=true:=by
 cases es with
 | nil=>exact(y6 h).elim
 | cons e es=>
   obtain⟨h1,h2⟩:=aa h
   cases e with
   | Name x p=>exact⟨x,p,es,rfl,h1,h2⟩
   | _=>exact(y6 h1).elim
theorem Dp{es:List Expr}(h:fL top N nm [] es=true):es=[]:=by
 cases es with
 | nil=>rfl
 | cons e es=>exact(y6 h).elim
theorem GQ(A:At Ω X r top N nm){S:Store}{W:Gam->Store->Prop}:∀{is:List Nat}{es:List Expr}{ds:List D}{Γ:Gam},fL top N nm is es=true->ds.length=is.length->W (setAll Γ is ds) S->xF X es ds Γ S W
 | [],es,ds,Γ,hc,hl,hw=>by
   have e:=Dp hc
   subst e
   have e:ds=[]:=by simpa using hl
   subst e
   exact De hw
 | i::is,es,ds,Γ,hc,hl,hw=>by
   obtain⟨x,p,es',rfl,h1,h2⟩:=xY hc
   cases ds with
   | nil=>simp at hl
   | cons d ds=>exact pO (xW A h1 (GQ A h2 (by simpa using hl) hw)) rfl
theorem CT:∀{is:List Nat}{es:List Expr},fL top N nm is es=true->∀env:Env,(assignEach es env).length=is.length/\(assignEach es env).findIdx? (·.1)=none
 | [],es,hc,env=>by
   have e:=Dp hc
   subst e
   exact⟨rfl,rfl⟩
 | i::is,es,hc,env=>by
   obtain⟨x,p,es',rfl,h1,h2⟩:=xY hc
   obtain⟨a,b⟩:=CT h2 env
   have e:assignEach (.Name x p::es') env=(false,assign (.Name x p) env)::assignEach es' env:=rfl
   rw[e]
   refine⟨by simp[a],?_⟩
   rw[List.findIdx?_cons,b]
   rfl
theorem Tg.sound(A:At Ω X r top N nm){t:Tg}{e:Expr}{d:D}{Γ:Gam}{S:Store}{W:Gam->Store->Prop}(hc:t.chk top N nm e=true)(hw:t.wp d Γ λ Γ'=>W Γ' S):BdW X e d Γ S W:=by
 cases t with
 | nm i=>exact xW A hc hw
 | tup is=>
   cases e with
   | Tuple es k pos=>
     have hc:fL top N nm is es=true:=hc
     cases d with
     | tup ds=>
       obtain⟨hl,hw⟩:ds.length=is.length/\W (setAll Γ is ds) S:=hw
       obtain⟨a,b⟩:=CT hc X.env
       exact Gd (GQ A hc hl hw) A.calm (a.trans hl.symm) b
     | _=>exact hw.elim
   | _=>exact fE hc
end
theorem Sub.setAll{Γ:Gam}:∀{is:List Nat}{ds:List D}{Γ':Gam},Sub Γ Γ'->(∀i∈is,Γ[i]? =some none)->Sub Γ (RF.setAll Γ' is ds)
 | [],ds,Γ',h,_=>by cases ds<;>exact h
 | i::is,[],Γ',h,_=>h
 | i::is,d::ds,Γ',h,hi=>show Sub Γ (RF.setAll (Γ'.set i (some d)) is ds)from Sub.setAll (Γ':=Γ'.set i (some d)) (h.set i (some d) (hi i x6)) λ j hj=>hi j (x4 _ hj)
theorem GK{cap:List (Option Nat)}{i:Nat}(h:cap[i]? =some none):(capt cap Γ)[i]? =some none:=by
 unfold capt
 rw[y8,h];rfl
set_option genInjectivity false in
structure Itb(Ω:Wd) where
 lev:Nat
 chk:Bool->List Str->Nm->Expr->Expr->Bool
 wp:Gam->Store->(List D->Store->Prop)->Prop
 sound:∀{X:Cx}{r:Nat}{top:Bool}{N:List Str}{nm:Nm}{tg e:Expr}{Γ:Gam}{S:Store}{W:List D->Store->Prop},At Ω X r top N nm->lev≤r->chk top N nm tg e=true->wp Γ S W->ItW X Γ S tg e W
theorem Qd{X:Cx}{S:Store}{tg e:Expr}{W:List D->Store->Prop}(h:Ev X Γ S e λ d S1=>match d with | .lst ds=>W ds S1 | .tup ds=>W ds S1 | _=>False):ItW X Γ S tg e W:=by
 intro pins s σ H O I env st
 refine thn (h pins s σ H O I env st) λ u s1 hq_=>?_
 obtain⟨v,H1,I1,r1,O1,d,S1,w,st1,ok1,rep⟩:=hq_
 cases rep with
 | @lst a xs ds h1 q1=>
   cases r1
   obtain⟨its,rv,p,hz⟩:=I1.list h1.sq
   refine wpAny_pyIter_list p.isList ?_
   refine⟨s1.heap.objs.size,[s1.heap.objs.size],_,_,H1,rfl,I1.kept (t':=s1.toks) λ b o e=>Heap.get?_push_of_some _ e,mW a _,⟨_,Heap.get?_push_size _ rfl,rfl,rfl⟩,λ b hb=>?_,O1,ds,S1,w,st1,ok1,nY h1 q1⟩
   have e:b=s1.heap.objs.size:=by simpa using hb
   subst e
   exact I1.fpOk (y9 _) (I1.hok.fresh (y9 _))
 | @tup a xs ds h1 q1=>
   cases r1
   obtain⟨its,rv,p,hz⟩:=I1.tuple h1.sq
   refine wpAny_pyIter_tuple (show s1.heap.IsTuple a its.toArray from p) ?_
   refine⟨s1.heap.objs.size,[s1.heap.objs.size],_,_,H1,rfl,I1.kept (t':=s1.toks) λ b o e=>Heap.get?_push_of_some _ e,qD a _,⟨_,Heap.get?_push_size _ rfl,rfl,rfl⟩,λ b hb=>?_,O1,ds,S1,w,st1,ok1,qU h1 q1⟩
   have e:b=s1.heap.objs.size:=by simpa using hb
   subst e
   exact I1.fpOk (y9 _) (I1.hok.fresh (y9 _))
 | _=>exact w.elim
variable {Ω : Wd}
def Itb.seq(a:Ex Ω):Itb Ω where
 lev:=a.lev
 chk top N nm _ e:=a.chk top N nm e
 wp Γ S W:=a.wp Γ S λ d S1=>match d with | .lst ds=>W ds S1 | .tup ds=>W ds S1 | _=>False
 sound:=by
  intro X r top N nm tg e Γ S W A hl hc hw
  exact Qd (a.sound A hl hc hw)
def Itb.rng1(hm:Ω.mg "range"=none)(a:Ex Ω):Itb Ω where
 lev:=a.lev
 chk top N nm _ e:=iz e λ y es=>sV es λ b=>(y==("range":Str))&&(glb nm "range"&&(okE b&&a.chk top N nm b))
 wp Γ S W:=a.wp Γ S λ d S1=>match d with | .int j=>(-(2 ^ 62)≤j/\j<2 ^ 62)/\W (upTo 0 j.toNat) S1 | _=>False
 sound:=by
  intro X r top N nm tg e Γ S W A hl hc hw
  obtain⟨y,p,es,pos,rfl,hc_1⟩:=dG hc
  obtain⟨b,rfl,hc_2⟩:=jr hc_1
  have hc:=hc_2
  . skip
    obtain⟨h1,g2⟩:=aa hc
    obtain⟨h2,g3⟩:=aa g2
    obtain⟨h3,h4⟩:=aa g3
    have e:y="range":=eq_of_beq h1
    subst e
    refine Jc ((a.sound A hl h4 hw).mono λ d S1 q=>?_) (by rw[A.g];exact hm) (A.glb h2) (bu h3 [] _)
    cases d<;>first | exact⟨_,rfl,q.1.1,q.1.2,q.2⟩ | exact q.elim
def Itb.rng2(hm:Ω.mg "range"=none)(a b:Ex Ω):Itb Ω where
 lev:=max a.lev b.lev
 chk top N nm _ e:=iz e λ y es=>two2 es λ l r=>(y==("range":Str))&&(glb nm "range"&&((okE l&&okE r)&&(a.chk top N nm l&&b.chk top N nm r)))
 wp Γ S W:=a.wp Γ S λ d S1=>b.wp Γ S1 λ d' S2=>match d,d' with | .int i,.int j=>(-(2 ^ 62)≤i/\i<2 ^ 62/\ -(2 ^ 62)≤j/\j<2 ^ 62)/\W (upTo i (j-i).toNat) S2 | _,_=>False
 sound:=by
  intro X r top N nm tg e Γ S W A hl hc hw
  obtain⟨l1,l2⟩:=lv2 hl
  obtain⟨y,p,es,pos,rfl,hc_1⟩:=dG hc
  obtain⟨l,r',rfl,hc_2⟩:=two2_of hc_1
  have hc:=hc_2
  . skip
    obtain⟨h1,g2⟩:=aa hc
    obtain⟨h2,g3⟩:=aa g2
    obtain⟨h3,h4⟩:=aa g3
    obtain⟨h5,h6⟩:=aa h3
    obtain⟨h7,h8⟩:=aa h4
    have e:y="range":=eq_of_beq h1
    subst e
    refine Jd ((a.sound A l1 h7 hw).mono λ d S1 q=>(b.sound A l2 h8 q).mono λ d' S2 q=>?_) (by rw[A.g];exact hm) (A.glb h2) (by rw[bu h5,bu h6];rfl) (bu h6 [] _)
    cases d<;>first | exact q.elim | (cases d'<;>first | exact⟨_,_,rfl,rfl,q.1,q.2⟩ | exact q.elim)
set_option genInjectivity false in
structure Cd(Ω:Wd) where
 lev:Nat
 chk:Bool->List Str->Nm->List Expr->Bool
 wp:Gam->Store->(Bool->Store->Prop)->Prop
 sound:∀{X:Cx}{r:Nat}{top:Bool}{N:List Str}{nm:Nm}{es:List Expr}{Γ:Gam}{S:Store}{W:Bool->Store->Prop},At Ω X r top N nm->lev≤r->chk top N nm es=true->wp Γ S W->TsA X Γ S es W
def Cd.no:Cd Ω where
 lev:=0
 chk _ _ _ es:=match es with | []=>true | _=>false
 wp _ S W:=W true S
 sound:=by
  intro X r top N nm es Γ S W A hl hc hw
  match es,hc with
  | [],_=>exact hw
  | _::_,hc=>exact fE hc
def Cd.so(t:Te Ω):Cd Ω where
 lev:=t.lev
 chk top N nm es:=match es with | [e]=>t.chk top N nm e | _=>false
 wp Γ S W:=t.wp Γ S W
 sound:=by
  intro X r top N nm es Γ S W A hl hc hw
  match es,hc with
  | [e],hc=>exact SQ (t.sound A hl hc hw)
  | [],hc=>exact fE hc
  | _::_::_,hc=>exact fE hc
@[irreducible] noncomputable def nq(cap:List (Option Nat))(Γ:Gam)(elt:Ex Ω)(tg:Tg)(cd:Cd Ω)(W:WD)(ds:List D)(C0:Store->Prop)(S1:Store):Prop:=
  ds.length≤1000000/\∃Pv:Nat->List D->Store->Prop,Pv 0 [] S1/\(∀i acc S',Pv i acc S'->C0 S')/\
   (∀i d acc S',ds[i]? =some d->Pv i acc S'->tg.wp d (capt cap Γ) λ Γ2=>cd.wp Γ2 S' λ ok S3=>(ok=true->elt.wp Γ2 S3 λ y S4=>Pv (i+1) (acc++[y]) S4)/\(ok=false->Pv (i+1) acc S3))/\
   ∀acc S',Pv ds.length acc S'->W (.lst acc) S'∨W (.loc S'.length) (S'++[acc])
abbrev jO(cap:List (Option Nat))(Γ:Gam)(elt:Ex Ω)(tg:Tg)(cd:Cd Ω)(W:WD)(ds:List D)(S1:Store):Prop:=nq cap Γ elt tg cd W ds (λ _=>True) S1
theorem yp{cap:List (Option Nat)}{elt:Ex Ω}{tg:Tg}{cd:Cd Ω}{W:WD}{ds:List D}{C0:Store->Prop}{S1:Store}(h:ds.length≤1000000/\∃Pv:Nat->List D->Store->Prop,Pv 0 [] S1/\(∀i acc S',Pv i acc S'->C0 S')/\
 (∀i d acc S',ds[i]? =some d->Pv i acc S'->tg.wp d (capt cap Γ) λ Γ2=>cd.wp Γ2 S' λ ok S3=>(ok=true->elt.wp Γ2 S3 λ y S4=>Pv (i+1) (acc++[y]) S4)/\(ok=false->Pv (i+1) acc S3))/\
 ∀acc S',Pv ds.length acc S'->W (.lst acc) S'∨W (.loc S'.length) (S'++[acc])):nq cap Γ elt tg cd W ds C0 S1:=by unfold nq;exact h
theorem fZ{cap:List (Option Nat)}{elt:Ex Ω}{tg:Tg}{cd:Cd Ω}{W:WD}{ds:List D}{S1:Store}(h:ds.length≤1000000/\∃Pv:Nat->List D->Store->Prop,Pv 0 [] S1/\
 (∀i d acc S',ds[i]? =some d->Pv i acc S'->tg.wp d (capt cap Γ) λ Γ2=>cd.wp Γ2 S' λ ok S3=>(ok=true->elt.wp Γ2 S3 λ y S4=>Pv (i+1) (acc++[y]) S4)/\(ok=false->Pv (i+1) acc S3))/\
 ∀acc S',Pv ds.length acc S'->W (.lst acc) S'):jO cap Γ elt tg cd W ds S1:=by
 obtain⟨hz,Pv,p0,pt,pe⟩:=h
 exact yp ⟨hz,Pv,p0,λ _ _ _ _=>trivial,pt,λ acc S' q=>.inl (pe acc S' q)⟩
def nD(N':List Str)(cap:List (Option Nat))(elt:Ex Ω)(tg:Tg)(it:Itb Ω)(cd:Cd Ω)(top:Bool)(N:List Str)(nm:Nm)(e:Expr):Bool:=match e with
 | .ListComp x [⟨t,i,cs,0⟩] sc _=>(sc.kind==.function)&&(yd sc.names&&(freeOk nm sc.names&&((sc.names.all λ y=>!(y.2==.local)||(sc.names.lookup y.1==some .local))&&(bB N nm N' sc.names cap N'&&
  (okE i&&((tg.slots.all λ j=>cap[j]? ==some none)&&(decide N'.Nodup&&(it.chk top N nm t i&&(tg.chk false N' sc.names t&&(cd.chk false N' sc.names cs&&elt.chk false N' sc.names x))))))))))
 | _=>false
section
variable {X : Cx} {r : Nat} {top : Bool} {N : List Str} {nm : Nm}
theorem ul(A:At Ω X r top N nm){x:Str}(h:nm.lookup x=some .cell∨nm.lookup x=some .free):X.env.scope.names.lookup x=some .cell∨X.env.scope.names.lookup x=some .free:=by
 rcases h with h | h
 . rcases A.look x _ h with q | ⟨q,_⟩
   . exact .inl q
   . exact nomatch q
 . rcases A.look x _ h with q | ⟨_,q⟩
   . exact .inr q
   . exact .inl q
theorem t6(A:At Ω X r top N nm){names:Nm}(h:freeOk nm names=true):freeOk X.env.scope.names names=true:=by
 unfold freeOk
 refine List.all_eq_true.mpr λ y hy=>?_
 by_cases e:y.2=.free
 . have:=ul A (lK h y hy e)
   rcases this with q | q<;>simp[q]
 . simp[e]
theorem jV(A:At Ω X r top N nm){N':List Str}{names':Nm}:∀{cap:List (Option Nat)}{t:List Str},bB N nm N' names' cap t=true->bB X.N X.env.scope.names N' names' cap t=true
 | [],[],_=>rfl
 | [],_::_,h=>by simp[bB]at h
 | none::_,[],h=>by simp[bB]at h
 | some _::_,[],h=>by simp[bB]at h
 | none::r,_::t,h=>by simp only[bB]at h ⊢;exact jV A h
 | some j::r,x::t,h=>by
   simp only[bB,Bool.and_eq_true,Bool.or_eq_true,beq_iff_eq]at h ⊢
   exact⟨⟨⟨by rw[A.n];exact h.1.1.1,ul A h.1.1.2⟩,h.1.2⟩,jV A h.2⟩
theorem Su(A:At Ω X r top N nm){sc:Scope}{N':List Str}{C:Addr}{s:Shared}{H:Hp}{ex:List Addr}{cl:List (Str×Addr)}(hk:sc.kind=.function)(nd:N'.Nodup):At Ω (fC X sc N' C s H ex cl) r false N' sc.names where
 cd:=λ h=>nomatch h
 fr:=λ h=>nomatch h
 p:=A.p
 w:=A.w
 k:=A.k
 g:=A.g
 b:=A.b
 room:=A.room
 xe:=A.xe
 calm:=A.calm
 n:=rfl
 nd:=nd
 kind:=hk
 look:=by
  intro x k h
  show(relabel sc X.env).names.lookup x=some k∨_
  rw[jH,dU,h]
  rcases oY X.env x k with q | ⟨q1,q2⟩
  . exact .inl (congrArg some q)
  . refine .inr ⟨q1,?_⟩
    show(relabel sc X.env).names.lookup x=some .cell
    rw[jH,dU,h]
    exact congrArg some q2
 fn:=λ x h=>by show(sc.names.lookup x==some .cell)=true;rw[h];rfl
theorem qC(A:At Ω X r top N nm){sc:Scope}{N':List Str}{cap:List (Option Nat)}{elt:Ex Ω}{tg:Tg}{cd:Cd Ω}{x t:Expr}{cs:List Expr}{Γ:Gam}{W:WD}{ds:List D}{C0:Store->Prop}{S1:Store}(le:elt.lev≤r)(lc:cd.lev≤r)(hk:sc.kind=.function)(nd:N'.Nodup)(hs:(tg.slots.all λ j=>cap[j]? ==some none)=true)
 (ht:tg.chk false N' sc.names t=true)(hcd:cd.chk false N' sc.names cs=true)(he:elt.chk false N' sc.names x=true)(h:nq cap Γ elt tg cd W ds C0 S1):vO X sc N' cap Γ x t cs W ds C0 S1:=by
 unfold nq at h
 obtain⟨hz,Pv,p0,pC,pt,pe⟩:=h
 refine⟨hz,Pv,p0,pC,λ i d acc S' hd hp C s H ex cl=>?_,pe⟩
 have B:=Su A (C:=C) (s:=s) (H:=H) (ex:=ex) (cl:=cl) hk nd
 have sl:∀j∈tg.slots,(capt cap Γ)[j]? =some none:=λ j hj=>GK (by
  have:=List.all_eq_true.mp hs j hj
  exact eq_of_beq this)
 have base:=pt i d acc S' hd hp
 have go:∀Γ2,(cd.wp Γ2 S' λ ok S3=>(ok=true->elt.wp Γ2 S3 λ y S4=>Pv (i+1) (acc++[y]) S4)/\(ok=false->Pv (i+1) acc S3))->
  TsA (fC X sc N' C s H ex cl) Γ2 S' cs λ ok S3=>(ok=true->Ev (fC X sc N' C s H ex cl) Γ2 S3 x λ y S4=>Pv (i+1) (acc++[y]) S4)/\(ok=false->Pv (i+1) acc S3):=by
  intro Γ2 q
  have:=cd.sound B lc hcd q
  match cs,this with
  | [],this=>exact⟨λ hk=>elt.sound B le he (this.1 hk),this.2⟩
  | [c],this=>exact Ts.mono this λ ok S3 z=>⟨λ hk=>elt.sound B le he (z.1 hk),z.2⟩
  | _::_::_,this=>exact this.elim
 refine Tg.sound B (W:=λ Γ2 S2=>Sub (capt cap Γ) Γ2/\TsA (fC X sc N' C s H ex cl) Γ2 S2 cs λ ok S3=>(ok=true->Ev (fC X sc N' C s H ex cl) Γ2 S3 x λ y S4=>Pv (i+1) (acc++[y]) S4)/\(ok=false->Pv (i+1) acc S3)) ht ?_
 cases tg with
 | nm j=>exact⟨(Sub.refl _).set j _ (sl j (by simp[Tg.slots])),go _ base⟩
 | tup is=>
   cases d with
   | tup es=>exact⟨base.1,Sub.setAll (Sub.refl _) sl,go _ base.2⟩
   | _=>exact base.elim
end
def Ex.comp(N':List Str)(cap:List (Option Nat))(elt:Ex Ω)(tg:Tg)(it:Itb Ω)(cd:Cd Ω):Ex Ω where
 lev:=max elt.lev (max it.lev cd.lev)
 chk top N nm e:=nD N' cap elt tg it cd top N nm e
 wp Γ S W:=it.wp Γ S λ ds S1=>jO cap Γ elt tg cd W ds S1
 sound:=by
  intro X r top N nm e Γ S W A hl hc hw
  obtain⟨l1,l2⟩:=lv2 hl
  obtain⟨l2,l3⟩:=lv2 l2
  unfold nD at hc
  split at hc
  . rename_i x t i cs sc pos
    obtain⟨h1,hc⟩:=aa hc
    obtain⟨h2,hc⟩:=aa hc
    obtain⟨h3,hc⟩:=aa hc
    obtain⟨h4,hc⟩:=aa hc
    obtain⟨h5,hc⟩:=aa hc
    obtain⟨h6,hc⟩:=aa hc
    obtain⟨h7,hc⟩:=aa hc
    obtain⟨h8,hc⟩:=aa hc
    obtain⟨h9,hc⟩:=aa hc
    obtain⟨h10,hc⟩:=aa hc
    obtain⟨h11,h12⟩:=aa hc
    have hk:sc.kind=.function:=eq_of_beq h1
    refine N7 N' cap (ItW.toC (ItW.mono (it.sound A l2 h9 hw) λ ds S1 q=>qC A l1 l3 hk (of_decide_eq_true h8) h7 h10 h11 h12 q)) A.xe A.calm hk h2 (t6 A h3) (λ y hy e=>?_) (jV A h5) (je h6 _)
    . have:=List.all_eq_true.mp h4 y hy
      simpa[e]using this
  . exact fE hc
end RF
namespace RF
open PySem PySem.Spec L2 DL
open PyProof.Rows
variable {Ω : Wd}
theorem Jp{e:Expr}(h:noC e=true)(t:Expr)(l:Nat)(env:Env):swapsWithSole [t] e l env=pure false:=by
 unfold swapsWithSole
 exact qd h (some t) l env
set_option genInjectivity false in
structure Sm(Ω:Wd) where
 lev:Nat
 chk:Bool->List Str->Nm->Stmt->Bool
 wp:Gam->Store->DL.Fin->Prop
 sound:∀{X:Cx}{r:Nat}{top:Bool}{N:List Str}{nm:Nm}{st:Stmt}{Γ:Gam}{S:Store}{W:DL.Fin},At Ω X r top N nm->lev≤r->chk top N nm st=true->wp Γ S W->Rn X Γ S st W
set_option genInjectivity false in
structure Bl(Ω:Wd) where
 lev:Nat
 chk:Bool->List Str->Nm->List Stmt->Bool
 wp:Gam->Store->DL.Fin->Prop
 sound:∀{X:Cx}{r:Nat}{top:Bool}{N:List Str}{nm:Nm}{sts:List Stmt}{Γ:Gam}{S:Store}{W:DL.Fin},At Ω X r top N nm->lev≤r->chk top N nm sts=true->wp Γ S W->Rns X Γ S sts W
def Bl.nil:Bl Ω where
 lev:=0
 chk _ _ _ sts:=match sts with | []=>true | _=>false
 wp Γ S W:=W.nx Γ S
 sound:=by
  intro X r top N nm sts Γ S W A hl hc hw
  match sts,hc with
  | [],_=>exact QF hw
  | _::_,hc=>exact fE hc
def Bl.cons(s:Sm Ω)(b:Bl Ω):Bl Ω where
 lev:=max s.lev b.lev
 chk top N nm sts:=match sts with | st::sts=>s.chk top N nm st&&b.chk top N nm sts | _=>false
 wp Γ S W:=s.wp Γ S {W with nx:=λ Γ1 S1=>b.wp Γ1 S1 W}
 sound:=by
  intro X r top N nm sts Γ S W A hl hc hw
  obtain⟨l1,l2⟩:=lv2 hl
  match sts,hc with
  | st::sts,hc=>
    obtain⟨h1,h2⟩:=aa hc
    exact P0 (Rn.mono (s.sound A l1 h1 hw) (λ G S1 q=>b.sound A l2 h2 q) (λ _ _ q=>q) (λ _ _ q=>q) λ _ _ q=>q)
  | [],hc=>exact fE hc
def Sm.ret(a:Ex Ω):Sm Ω where
 lev:=a.lev
 chk top N nm st:=match st with | .Return (some e) _=>a.chk top N nm e | _=>false
 wp Γ S W:=a.wp Γ S W.rt
 sound:=by
  intro X r top N nm st Γ S W A hl hc hw
  cases st with
  | Return o pos=>
    cases o with
    | some e=>exact TV (a.sound A hl hc hw)
    | none=>exact fE hc
  | _=>exact fE hc
def Sm.expr(a:Ex Ω):Sm Ω where
 lev:=a.lev
 chk top N nm st:=match st with | .Expr e _=>noC e&&a.chk top N nm e | _=>false
 wp Γ S W:=a.wp Γ S λ _ S1=>W.nx Γ S1
 sound:=by
  intro X r top N nm st Γ S W A hl hc hw
  cases st with
  | Expr e pos=>
    obtain⟨h1,h2⟩:=aa hc
    exact RQ (a.sound A hl h2 hw) (qd h1 _ _ _)
  | _=>exact fE hc
def Sm.ite(c:Te Ω)(a b:Bl Ω):Sm Ω where
 lev:=max c.lev (max a.lev b.lev)
 chk top N nm st:=match st with | .If t xs ys _=>c.chk top N nm t&&(a.chk top N nm xs&&b.chk top N nm ys) | _=>false
 wp Γ S W:=c.wp Γ S λ k S1=>(k=true->a.wp Γ S1 W)/\(k=false->b.wp Γ S1 W)
 sound:=by
  intro X r top N nm st Γ S W A hl hc hw
  obtain⟨l1,l2⟩:=lv2 hl
  obtain⟨l2,l3⟩:=lv2 l2
  cases st with
  | If t xs ys pos=>
    obtain⟨h1,h2⟩:=aa hc
    obtain⟨h2,h3⟩:=aa h2
    exact Vj (Ts.mono (c.sound A l1 h1 hw) λ k S1 q=>⟨λ hk=>a.sound A l2 h2 (q.1 hk),λ hk=>b.sound A l3 h3 (q.2 hk)⟩)
  | _=>exact fE hc
def Sm.set(i:Nat)(a:Ex Ω):Sm Ω where
 lev:=a.lev
 chk top N nm st:=setB st λ x e=>(N[i]? ==some x)&&(lcl top nm x&&(noC e&&a.chk top N nm e))
 wp Γ S W:=a.wp Γ S λ d S1=>W.nx (Γ.set i (some d)) S1
 sound:=by
  intro X r top N nm st Γ S W A hl hc hw
  obtain⟨x,xp,e,sp,rfl,hc_1⟩:=Nv hc
  have hc:=hc_1
  . obtain⟨h1,h2⟩:=aa hc
    obtain⟨h2,h3⟩:=aa h2
    obtain⟨h3,h4⟩:=aa h3
    obtain⟨l1,l2⟩:=A.lcl h2
    exact MF i (a.sound A hl h4 hw) (by rw[A.n];exact A.nd) (by rw[A.n];exact eq_of_beq h1) l1 (qd h3 _ _ _) l2
def Sm.setC(i:Nat)(N':List Str)(cap:List (Option Nat))(elt:Ex Ω)(tg:Tg)(it:Itb Ω)(cd:Cd Ω):Sm Ω where
 lev:=max elt.lev (max it.lev cd.lev)
 chk top N nm st:=match st with | .Assign [.Name x p] e _=>(N[i]? ==some x)&&(lcl top nm x&&(top&&(nD N' cap elt tg it cd top N nm e))) | _=>false
 wp Γ S W:=it.wp Γ S λ ds S1=>jO cap Γ elt tg cd (λ d S2=>W.nx (Γ.set i (some d)) S2) ds S1
 sound := by
  intro X r top N nm st Γ S W A hl hc hw
  split at hc
  . rename_i x p e spos
    obtain⟨k1,q1⟩:=aa hc
    obtain⟨k2,q2⟩:=aa q1
    obtain⟨k0,hcomp⟩:=aa q2
    obtain⟨l1,l2⟩:=A.lcl k2
    have hN:X.N[i]? =some x:=by rw[A.n];exact eq_of_beq k1
    have nd:X.N.Nodup:=by rw[A.n];exact A.nd
    have hc2:=hcomp
    obtain⟨le,l3⟩:=lv2 hl
    obtain⟨li,lc⟩:=lv2 l3
    unfold nD at hc2
    split at hc2
    . rename_i x' t i' cs sc pos
      obtain⟨h1,hc⟩:=aa hc2
      obtain⟨h2,hc⟩:=aa hc
      obtain⟨h3,hc⟩:=aa hc
      obtain⟨h4,hc⟩:=aa hc
      obtain⟨h5,hc⟩:=aa hc
      obtain⟨h6,hc⟩:=aa hc
      obtain⟨h7,hc⟩:=aa hc
      obtain⟨h8,hc⟩:=aa hc
      obtain⟨h9,hc⟩:=aa hc
      obtain⟨h10,hc⟩:=aa hc
      obtain⟨h11,h12⟩:=aa hc
      have hk:sc.kind=.function:=eq_of_beq h1
      by_cases hb:(X.env.blockKind==.function&&X.env.kindOf x==some .local&&p.line==(Expr.ListComp x' [⟨t,i',cs,0⟩] sc pos).pos.line&& !(sc.names.any λ(n,k)=>n==x&&(k==.local||k==.cell)))=true
      . refine Ja i N' cap (ItW.toC (ItW.mono (it.sound A li h9 hw) λ ds S1 q=>qC A le lc hk (of_decide_eq_true h8) h7 h10 h11 h12 q)) nd hN l1 ?_ l2 A.xe A.calm hk h2 (t6 A h3) (λ y hy e=>?_) (jV A h5) (je h6 _)
        . show(pure (X.env.blockKind==.function&&X.env.kindOf x==some .local&&p.line==(Expr.ListComp x' [⟨t,i',cs,0⟩] sc pos).pos.line&& !(sc.names.any λ(n,k)=>n==x&&(k==.local||k==.cell))):Sem Bool)=pure true
          rw[hb]
        . have:=List.all_eq_true.mp h4 y hy
          simpa[e]using this
      . have hb:_=false:=Bool.eq_false_iff.mpr hb
        refine MF i ((Ex.comp N' cap elt tg it cd).sound A hl hcomp hw) nd hN l1 ?_ l2
        show(pure (X.env.blockKind==.function&&X.env.kindOf x==some .local&&p.line==(Expr.ListComp x' [⟨t,i',cs,0⟩] sc pos).pos.line&& !(sc.names.any λ(n,k)=>n==x&&(k==.local||k==.cell))):Sem Bool)=pure false
        rw[hb]
    . exact(y6 hc2).elim
  . exact fE hc
def Sm.setIx(o i a:Ex Ω):Sm Ω where
 lev:=max a.lev (max o.lev i.lev)
 chk top N nm st:=match st with | .Assign [.Subscript x y _] e _=>noC e&&(okE y&&(a.chk top N nm e&&(o.chk top N nm x&&i.chk top N nm y))) | _=>false
 wp Γ S W:=a.wp Γ S λ d S1=>o.wp Γ S1 λ x S2=>i.wp Γ S2 λ y S3=>match x,y with | .loc k,.int n=>∃ds j,S3[k]? =some ds/\ixN ds.length n=some j/\W.nx Γ (S3.set k (ds.set j d)) | _,_=>False
 sound:=by
  intro X r top N nm st Γ S W A hl hc hw
  obtain⟨l1,l2⟩:=lv2 hl
  obtain⟨l2,l3⟩:=lv2 l2
  split at hc
  . rename_i x y p e spos
    obtain⟨h1,hc⟩:=aa hc
    obtain⟨h2,hc⟩:=aa hc
    obtain⟨h3,hc⟩:=aa hc
    obtain⟨h4,h5⟩:=aa hc
    refine Ot ((a.sound A l1 h3 hw).mono λ d S1 q=>(o.sound A l2 h4 q).mono λ x S2 q=>(i.sound A l3 h5 q).mono λ y S3 q=>?_) ?_ (Jp h1 _ _ _) ?_ rfl
    . cases x<;>first | exact q.elim | (cases y<;>first | exact q.elim | (obtain⟨ds,j,a,b,c⟩:=q;exact⟨_,_,ds,j,rfl,rfl,a,b,c⟩))
    . intro v
      cases y<;>first | rfl | exact(y6 h2).elim
    . rfl
  . exact fE hc
@[irreducible] noncomputable def iK(Γ:Gam)(tg:Tg)(body:Bl Ω)(W:DL.Fin)(ds:List D)(S1:Store):Prop:=
  ∃Pv:Nat->Gam->Store->Prop,Pv 0 Γ S1/\(∀i d Γ' S',ds[i]? =some d->Pv i Γ' S'->tg.wp d Γ' λ Γ2=>body.wp Γ2 S' {W with nx:=Pv (i+1),ct:=Pv (i+1),bk:=W.nx})/\(∀Γ' S',Pv ds.length Γ' S'->W.nx Γ' S')
theorem bc{Γ:Gam}{tg:Tg}{body:Bl Ω}{W:DL.Fin}{ds:List D}{S1:Store}(h:∃Pv:Nat->Gam->Store->Prop,Pv 0 Γ S1/\(∀i d Γ' S',ds[i]? =some d->Pv i Γ' S'->tg.wp d Γ' λ Γ2=>body.wp Γ2 S' {W with nx:=Pv (i+1),ct:=Pv (i+1),bk:=W.nx})/\(∀Γ' S',Pv ds.length Γ' S'->W.nx Γ' S')):iK Γ tg body W ds S1:=by unfold iK;exact h
def Sm.for(tg:Tg)(it:Itb Ω)(body:Bl Ω):Sm Ω where
 lev:=max it.lev body.lev
 chk top N nm st:=match st with | .For t i b [] _=>okE i&&(tg.chk top N nm t&&(it.chk top N nm t i&&body.chk top N nm b)) | _=>false
 wp Γ S W:=it.wp Γ S λ ds S1=>iK Γ tg body W ds S1
 sound:=by
  intro X r top N nm st Γ S W A hl hc hw
  obtain⟨l1,l2⟩:=lv2 hl
  split at hc
  . rename_i t i b pos
    obtain⟨h1,hc⟩:=aa hc
    obtain⟨h2,hc⟩:=aa hc
    obtain⟨h3,h4⟩:=aa hc
    refine Mu (ItW.mono (it.sound A l1 h3 hw) λ ds S1 q=>?_) (by rw[A.xe];exact PassesOwn.never) A.calm (je h1 _)
    unfold iK at q
    obtain⟨Pv,p0,pt,pe⟩:=q
    refine⟨Pv,p0,λ i d Γ' S' hd hp=>BdW.mono (Tg.sound A (W:=λ Γ2 S2=>body.wp Γ2 S2 {W with nx:=Pv (i+1),ct:=Pv (i+1),bk:=W.nx}) h2 (pt i d Γ' S' hd hp)) λ Γ2 S2 q=>body.sound A l2 h4 q,pe⟩
  . exact fE hc
def TF(N ps:List Str)(sm:Stmt)(k:Nat)(body:Bl Ω):Bool:=
 ((aO sm).kind==.function)&&(!(aO sm).isCoroutine&&(!(aO sm).isGenerator&&(decide N.Nodup&&(decide (N.take ps.length=ps)&&((ps.all λ x=>(aO sm).names.lookup x==some .local||(aO sm).names.lookup x==some .cell)&&
   (((aO sm).names.all λ y=>!(y.2==.free))&&(Nat.ble body.lev k&&body.chk true N (aO sm).names (cF sm))))))))
theorem aF(N0:Ω.cd=none){x qual:Str}{sm:Stmt}{f:Addr}{fd:FuncData}{N ps:List Str}{k:Nat}{F:Ct}(FF:Fun Ω.K x qual sm f fd)(body:Bl Ω)(hc:TF N ps sm k body=true)
 (vc:∀(ds:List D)(S:Store)(W:WD),F ds S W->ds.length=ps.length->body.wp (ds.map some++List.replicate (N.length-ds.length) none) S {nx:=λ _ S1=>W .non S1,rt:=W}):FnOk Ω.P Ω.w Ω.K Ω.mg Ω.base CX0 (k+1) f fd ps (spC Ω.K ps.length F):=by
 obtain⟨h1,hc⟩:=aa hc
 obtain⟨h2,hc⟩:=aa hc
 obtain⟨h3,hc⟩:=aa hc
 obtain⟨h4,hc⟩:=aa hc
 obtain⟨h5,hc⟩:=aa hc
 obtain⟨h6,hc⟩:=aa hc
 obtain⟨h7,hc⟩:=aa hc
 obtain⟨h8,h9⟩:=aa hc
 have nd:N.Nodup:=of_decide_eq_true h4
 have sc:FnScope N ps (aO sm):=⟨eq_of_beq h1,nt h2,nt h3,nd,of_decide_eq_true h5,λ x hx=>by
  have:=List.all_eq_true.mp h6 x hx
  simpa using this,λ y hy e=>by
  have:=List.all_eq_true.mp h7 y hy
  simp[e]at this⟩
 refine Uh FF sc λ cdv A outer s H E ds S W _ hr hl h=>?_
 refine body.sound (r:=k) (top:=true) (N:=N) (nm:=(aO sm).names) ⟨rfl,rfl,rfl,rfl,rfl,hr,rfl,rfl,rfl,nd,sc.kind,λ x kk h=>.inl h,λ _ _=>rfl,λ _ p q=>(nomatch (N0.symm.trans q)),λ _=>⟨rfl,rfl,rfl⟩⟩ (Nat.le_of_ble_eq_true h8) h9 (vc ds S W h hl)
theorem callee{x qual:Str}{sm:Stmt}{f:Addr}{fd:FuncData}{ps:List Str}{k n:Nat}{F:Ct}(FF:Fun Ω.K x qual sm f fd)(h:FnOk Ω.P Ω.w Ω.K Ω.mg Ω.base CX0 k f fd ps (spC Ω.K n F))(hm:Ω.mg x=some (.ref f))(b:Binds Ω.K fd ps []):Callee Ω.P Ω.w Ω.K Ω.mg Ω.base x k n F:=⟨f,fd,ps,h,hm,FF.kp,b⟩
end RF
namespace RF
open PySem PySem.Spec L2 DL
open PyProof.Rows
def b8:Bf where
 x:="len"
 id:="len"
 boot:=by decide+kernel
 wp ds S W:=match ds with
  | [.tup ds]=>W (.int ds.length) S
  | [.lst ds]=>W (.int ds.length) S
  | [.loc k]=>∃ds,S[k]? =some ds/\W (.int ds.length) S
  | _=>False
 sound:=by
  intro X ds S W hc hr h
  split at h
  . exact QX h
  . exact R8 h
  . obtain⟨ds,h1,h2⟩:=h;exact RV h1 h2
  . exact h.elim
def fP:Bf where
 x:="all"
 id:="all"
 boot:=by decide+kernel
 wp ds S W:=match ds with
  | [.lst ds]=>∃bs:List Bool,ds=bs.map .bl/\W (.bl (bs.all id)) S
  | _=>False
 sound:=by
  intro X ds S W hc hr h
  split at h
  . obtain⟨bs,rfl,h⟩:=h;exact k_all h hc
  . exact h.elim
def QV:Bf where
 x:="abs"
 id:="abs"
 boot:=by decide+kernel
 wp ds S W:=match ds with
  | [.int i]=>W (.int (if i<0 then-i else i)) S
  | _=>False
 sound:=by
  intro X ds S W hc hr h
  split at h
  . refine cP K8 λ O H vs st r=>?_
    obtain⟨v,rfl,r'⟩:=dY r
    cases r'
    exact⟨_,rfl,QG.here h st (.int _)⟩
  . exact h.elim
theorem Mr{K:PySem.W.Frag}{O:Own}{H:Hp}{vs:List V}{d e:D}(r:Reps K O H vs [d,e]):∃v w,vs=[v,w]/\Rep K O H v d/\Rep K O H w e:=by
 cases r with
 | cons a t=>
   cases t with
   | cons b t=>cases t;exact⟨_,_,rfl,a,b⟩
def Rm:Bf where
 x:="min"
 id:="min"
 boot:=by decide+kernel
 wp ds S W:=match ds with
  | [.int i,.int j]=>W (.int (if j<i then j else i)) S
  | _=>False
 sound:=by
  intro X ds S W hc hr h
  split at h
  . refine cP (G7 hc) λ O H vs st r=>?_
    obtain⟨v,w,rfl,r1,r2⟩:=Mr r
    cases r1
    cases r2
    exact⟨_,_,rfl,QG.here h st (.int _)⟩
  . exact h.elim
def UT:Bf where
 x:="max"
 id:="max"
 boot:=by decide+kernel
 wp ds S W:=match ds with
  | [.int i,.int j]=>W (.int (if j>i then j else i)) S
  | _=>False
 sound:=by
  intro X ds S W hc hr h
  split at h
  . refine cP (Hn hc) λ O H vs st r=>?_
    obtain⟨v,w,rfl,r1,r2⟩:=Mr r
    cases r1
    cases r2
    exact⟨_,_,rfl,QG.here h st (.int _)⟩
  . exact h.elim
def bA:Bc where
 x:="tuple"
 id:="tuple"
 boot:=by decide+kernel
 wp ds S W:=match ds with
  | [.lst ds]=>W (.tup ds) S
  | [.loc k]=>∃ds,S[k]? =some ds/\W (.tup ds) S
  | _=>False
 sound:=by
  intro X ds S W hc hr h
  split at h
  . exact Qw h
  . obtain⟨ds,h1,h2⟩:=h;exact Sg h1 h2
  . exact h.elim
def Vf:Bc where
 x:="int"
 id:="int"
 boot:=by decide+kernel
 wp ds S W:=match ds with
  | [.int i]=>W (.int i) S
  | [.bl k]=>W (.int (if k then 1 else 0)) S
  | _=>False
 sound:=by
  intro X ds S W hc hr h
  split at h
  . refine cP uJ λ O H vs st r=>?_
    obtain⟨v,rfl,r'⟩:=dY r
    cases r'
    exact .inl ⟨_,rfl,QG.here h st (.int _)⟩
  . refine cP uJ λ O H vs st r=>?_
    obtain⟨v,rfl,r'⟩:=dY r
    cases r'
    exact .inr ⟨_,rfl,QG.here h st (.int _)⟩
  . exact h.elim
section
variable {X : Cx} {Γ : Gam} {S : Store} {e : Expr} {pos : Pos}
theorem Ng{elts:List Expr}{k:Nat}{tp p:Pos}{W:List D->Store->Prop}(h:Ev X Γ S e λ d S1=>match d with | .lst ds=>W (ds.mapIdx λ i d=>.tup [.int i,d]) S1 | .tup ds=>W (ds.mapIdx λ i d=>.tup [.int i,d]) S1 | _=>False)(hm:X.mg "enumerate"=none)(hg:Gl X "enumerate")(hs:starEach [e] X.env=[(false,eval e X.env)]):
 ItW X Γ S (.Tuple elts k tp) (.Call (.Name "enumerate" p) [e] [] pos) W:=by
 intro pins s σ H O I env st
 refine Call_ (cO I hg hm boot_enumerate (PyProof.Rows.callWith_type1 (thn (nu h.pe yq hs pos pins s σ H (λ vs H'=>∃v,vs=[v]/\QG X.K O H (λ d S1=>match d with | .lst ds=>W (ds.mapIdx λ i d=>.tup [.int i,d]) S1 | .tup ds=>W (ds.mapIdx λ i d=>.tup [.int i,d]) S1 | _=>False) v H') I ⟨O,env,st,λ v H' q=>⟨v,rfl,q⟩⟩) λ us s1 hq_=>?_) hs rfl))
 obtain⟨vs,H1,I1,r1,v,ev,O1,d,S1,w,st1,ok1,rep⟩:=hq_
 subst ev
 obtain⟨u,rfl,ru⟩:=vals1 r1
 cases rep with
 | @lst a xs ds h1 q1=>
   cases ru
   obtain⟨its,rv,pl,hz⟩:=I1.list h1.sq
   refine call_enumerate_list pl.isList λ h' he hi _ kp=>Bh (Ti X.prog X.w X.K) I1 he hi kp ⟨O1,_,S1,w,st1,ok1,oA _ λ O' H' cv=>⟨xs,(h1.conv cv).sq,q1.conv cv⟩⟩
 | @tup a xs ds h1 q1=>
   cases ru
   obtain⟨its,rv,pl,hz⟩:=I1.tuple h1.sq
   obtain⟨⟨c,dct,dt,sl⟩,hl,hc,n,hd⟩:=pl
   replace hc:c=.type "tuple":=hc
   replace hd:dt=.seq its.toArray n:=hd
   subst hc hd
   refine callType_new F.called_enumerate (by decide) (F.typeCall_enumerate_1 _) (F.newCall_enumerate_1 _) (λ obj=>F.args_object_init_2 obj _) F.entry_enumerate_new (HX a its.toArray n dct sl) ⟨hl,?_⟩
   have hz:(s1.heap.push {cls:=.type "tuple_iterator",data:=.fields #[.ref a,.int 0 0]}).objs.size=s1.heap.objs.size+1:=Heap.size_push ..
   show _/\_
   rw[hz]
   have he:IsEnum ((s1.heap.push {cls:=.type "tuple_iterator",data:=.fields #[.ref a,.int 0 0]}).push {cls:=.type "enumerate",data:=.fields #[.none,.bool false,.ref s1.heap.objs.size,rawInt 0,.none,.none]}) (s1.heap.objs.size+1) s1.heap.objs.size 0 .none:=by
    have:=Heap.get?_push_size (s1.heap.push {cls:=.type "tuple_iterator",data:=.fields #[.ref a,.int 0 0]}) (o:={cls:=.type "enumerate",data:=.fields #[.none,.bool false,.ref s1.heap.objs.size,rawInt 0,.none,.none]}) rfl
    rw[hz]at this
    exact this
   have hi:Heap.IsTupleIter ((s1.heap.push {cls:=.type "tuple_iterator",data:=.fields #[.ref a,.int 0 0]}).push {cls:=.type "enumerate",data:=.fields #[.none,.bool false,.ref s1.heap.objs.size,rawInt 0,.none,.none]}) s1.heap.objs.size a 0:=
    ⟨_,Heap.get?_push_of_some _ (Heap.get?_push_size _ rfl),rfl,rfl⟩
   exact⟨⟨_,he,rfl⟩,Bh (Ka X.prog X.w X.K) I1 he hi (λ b o e=>Heap.get?_push_of_some _ (Heap.get?_push_of_some _ e)) ⟨O1,_,S1,w,st1,ok1,oA _ λ O' H' cv=>⟨xs,(h1.conv cv).sq,q1.conv cv⟩⟩⟩
 | _=>exact w.elim
end
variable {Ω : Wd}
def Itb.enm(hm:Ω.mg "enumerate"=none)(a:Ex Ω):Itb Ω where
 lev:=a.lev
 chk top N nm tg e:=Dt tg&&iz e λ y es=>sV es λ b=>(y==("enumerate":Str))&&(glb nm "enumerate"&&(okE b&&a.chk top N nm b))
 wp Γ S W:=a.wp Γ S λ d S1=>match d with | .lst ds=>W (ds.mapIdx λ i d=>.tup [.int i,d]) S1 | .tup ds=>W (ds.mapIdx λ i d=>.tup [.int i,d]) S1 | _=>False
 sound:=by
  intro X r top N nm tg e Γ S W A hl hc hw
  obtain⟨h0,hc_1⟩:=aa hc
  obtain⟨ts,k,tp,rfl⟩:=Cg h0
  obtain⟨y,p,es,pos,rfl,hc_2⟩:=dG hc_1
  obtain⟨b,rfl,hc_3⟩:=jr hc_2
  have hc:=hc_3
  . obtain⟨h1,h2⟩:=aa hc
    obtain⟨h2,h3⟩:=aa h2
    obtain⟨h3,h4⟩:=aa h3
    have e:=eq_of_beq h1
    subst e
    exact Ng (a.sound A hl h4 hw) (by rw[A.g];exact hm) (A.glb h2) (bu h3 [] _)
def Itb.zip(hm:Ω.mg "zip"=none)(a b:Ex Ω):Itb Ω where
 lev:=max a.lev b.lev
 chk top N nm tg e:=Dt tg&&iz e λ y es=>two2 es λ l r=>(y==("zip":Str))&&(glb nm "zip"&&((okE l&&okE r)&&(a.chk top N nm l&&b.chk top N nm r)))
 wp Γ S W:=a.wp Γ S λ d S1=>b.wp Γ S1 λ d' S2=>match d,d' with | .tup ds,.tup es=>W (List.zipWith (λ x y=>.tup [x,y]) ds es) S2 | _,_=>False
 sound:=by
  intro X r top N nm tg e Γ S W A hl hc hw
  obtain⟨l1,l2⟩:=lv2 hl
  obtain⟨h0,hc_1⟩:=aa hc
  obtain⟨ts,k,tp,rfl⟩:=Cg h0
  obtain⟨y,p,es,pos,rfl,hc_2⟩:=dG hc_1
  obtain⟨l',r',rfl,hc_3⟩:=two2_of hc_2
  have hc:=hc_3
  . obtain⟨h1,h2⟩:=aa hc
    obtain⟨h2,h3⟩:=aa h2
    obtain⟨h3,h4⟩:=aa h3
    obtain⟨h5,h6⟩:=aa h3
    obtain⟨h7,h8⟩:=aa h4
    have e:=eq_of_beq h1
    subst e
    refine K3 ((a.sound A l1 h7 hw).mono λ d S1 q=>(b.sound A l2 h8 q).mono λ d' S2 q=>?_) (by rw[A.g];exact hm) (A.glb h2) (bu h5 _ _) (bu h6 [] _)
    cases d<;>first | exact q.elim | (cases d'<;>first | exact⟨_,_,rfl,rfl,q⟩ | exact q.elim)
end RF
namespace RF
theorem ff{P:Prop}(h:false=true):P:=(y6 h).elim
theorem tf{P:Prop}(h:true=false):P:=(y6 h.symm).elim
open PySem PySem.Spec L2 DL
open PyProof.Rows
abbrev Cal(Ω:Wd)(x:Str)(k n:Nat)(F:Ct):Prop:=Callee Ω.P Ω.w Ω.K Ω.mg Ω.base x k n F
abbrev Ok(Ω:Wd)(k:Nat)(f:Addr)(fd:FuncData)(ps:List Str)(F:Ct):Prop:=FnOk Ω.P Ω.w Ω.K Ω.mg Ω.base CX0 k f fd ps (spC Ω.K ps.length F)
def m7:Ct:=λ ds S W=>∃ns,ds=[.lst (List.map .int ns)]/\ns.length≤63/\(∀S',W (.bl true) S')/\S=[]
theorem QS{K:PySem.W.Frag}{H:Hp}{a:Addr}{ns:List Int}{E:XK}(hl:ns.length≤63)(hS:SqL K H a (ns.map V.int)):spC K 1 m7 [.ref a] H (λ v _=>v=.bl true) E:=by
 refine⟨⟨[],[]⟩,[.lst (ns.map .int)],[],λ d _=>d=.bl true,rfl,.cons (.lst (xs:=ns.map V.int) ?_ (Reps.of_ints ns)) .nil,?_,⟨ns,rfl,hl,λ _=>rfl,rfl⟩,λ v H' q=>?_⟩
 . rcases hS with h | h
   . exact .inl ⟨λ z=>by rcases z with z | z<;>exact absurd (show a∈([]:List Addr)from z) (by simp),h⟩
   . exact .inr (.inr h)
 . exact⟨List.nodup_nil,rfl,λ k a ds e=>by simp at e,λ k a ds e=>by simp at e,λ a h=>absurd (show a∈([]:List Addr)from h) (by simp),λ a h=>absurd (show a∈([]:List Addr)from h) (by simp)⟩
 . obtain⟨O',d,S',w,_,_,r⟩:=q
   subst w
   cases r
   rfl
theorem walk{lev:Nat}{x:Str}{l:PySem.W.OpenLaw}{q:Program}{loose:List Str}{XP:(Str->Option Value)->Heap->Prop}{YP:World->Heap->Prop}{d:DefRec}{K:Params->PySem.W.Frag}(hn:l.most=some 63)(hdf:d.params.defaults=[])(hr:Room lev callerA)
 (hY:∀(w:World)(h:Heap),YP w h->(K w.params).In h)
 (F:∀(w:World)(mg:Str->Option Value)(fa:Addr)(h:Heap),(K w.params).In h->h.Ns mainGlobals mg->mg d.name=some (.ref fa)->
  ∃fd:FuncData,(∀(s:Shared)(u:Value),BindsTo s fd ⟨[u],[]⟩ [(x,u)])/\∀base:Heap,(K w.params).In base->base.Ns mainGlobals mg->FnOk l.prog w (K w.params) mg base CX0 lev fa fd [x] (spC (K w.params) 1 m7)):
 PySem.W.WalkO q loose XP YP l.row.toRowW d [] (λ f vs=>PySem.call f vs):=
 L2.walk_of (n:=63) (k:=lev) (x:=x) (CX:=λ _=>CX0) (sp:=λ w=>spC (K w.params) 1 m7) hn (by decide) hdf hr hY F (λ _ _ a ns hl _ hS=>QS hl hS) λ _ _ _ _ _ z=>z
theorem Tg.mono{t:Tg}{d:D}{Γ:Gam}{W W':Gam->Prop}(h:t.wp d Γ W)(k:∀G,W G->W' G):t.wp d Γ W':=by
 cases t with
 | nm i=>exact k _ h
 | tup is=>
   cases d with
   | tup ds=>exact⟨h.1,k _ h.2⟩
   | _=>exact h.elim
section
variable {Ω : Wd} {cap : List (Option Nat)} {Γ : Gam} {elt : Ex Ω} {tg : Tg} {cd : Cd Ω} {W : WD} {ds : List D} {S1 : Store}
theorem cY(f:D->D)(hz:ds.length≤1000000)(h:∀(i:Nat)(d:D),ds[i]? =some d->∀Q:WD,Q (f d) S1->tg.wp d (capt cap Γ) λ Γ2=>elt.wp Γ2 S1 Q)(w:W (.lst (ds.map f)) S1):jO cap Γ elt tg (Cd.no (Ω:=Ω)) W ds S1:=by
 refine fZ ⟨hz,λ i acc S'=>acc=(ds.take i).map f/\S'=S1,⟨rfl,rfl⟩,?_,?_⟩
 . rintro i d acc S' hd ⟨rfl,rfl⟩
   refine Tg.mono (h i d hd (λ y S4=>(ds.take i).map f++[y]=(ds.take (i+1)).map f/\S4=S') ⟨?_,rfl⟩) λ G q=>⟨λ _=>q,λ z=>tf z⟩
   rw[bj hd,List.map_append];rfl
 . rintro acc S' ⟨rfl,rfl⟩
   rw[List.take_length];exact w
theorem Tr(p:D->Bool)(f:D->D)(hz:ds.length≤1000000)(h:∀(i:Nat)(d:D),ds[i]? =some d->∀(Q:WD)(Q':Store->Prop),(p d=true->Q (f d) S1)->(p d=false->Q' S1)->tg.wp d (capt cap Γ) λ Γ2=>cd.wp Γ2 S1 λ ok S3=>(ok=true->elt.wp Γ2 S3 Q)/\(ok=false->Q' S3))
 (w:W (.lst ((ds.filter p).map f)) S1):jO cap Γ elt tg cd W ds S1:=by
 refine fZ ⟨hz,λ i acc S'=>acc=((ds.take i).filter p).map f/\S'=S1,⟨rfl,rfl⟩,?_,?_⟩
 . rintro i d acc S' hd ⟨rfl,rfl⟩
   refine h i d hd (λ y S4=>((ds.take i).filter p).map f++[y]=((ds.take (i+1)).filter p).map f/\S4=S') (λ S4=>((ds.take i).filter p).map f=((ds.take (i+1)).filter p).map f/\S4=S') (λ hp=>⟨?_,rfl⟩) (λ hp=>⟨?_,rfl⟩)
   . rw[bj hd,List.filter_append];simp[hp]
   . rw[bj hd,List.filter_append];simp[hp]
 . rintro acc S' ⟨rfl,rfl⟩
   rw[List.take_length];exact w
theorem lQ(P:Nat->D->Prop)(Q:Store->Prop)(hz:ds.length≤1000000)(q0:Q S1)(h:∀(i:Nat)(d:D)(S':Store),ds[i]? =some d->Q S'->∀R:WD,(∀y S4,P i y->Q S4->R y S4)->tg.wp d (capt cap Γ) λ Γ2=>elt.wp Γ2 S' R)
 (w:∀(ys:List D)(S':Store),ys.length=ds.length->(∀i y,ys[i]? =some y->P i y)->Q S'->W (.lst ys) S'):jO cap Γ elt tg (Cd.no (Ω:=Ω)) W ds S1:=by
 refine fZ ⟨hz,λ i acc S'=>(acc.length=i/\∀j y,acc[j]? =some y->P j y)/\Q S',⟨⟨rfl,λ j y e=>by simp at e⟩,q0⟩,?_,λ acc S' h=>w acc S' h.1.1 h.1.2 h.2⟩
 rintro i d acc S' hd ⟨⟨hl,ha⟩,q⟩
 refine Tg.mono (h i d S' hd q (λ y S4=>((acc++[y]).length=i+1/\∀j y',(acc++[y])[j]? =some y'->P j y')/\Q S4) λ y S4 hy q4=>⟨⟨by simp[hl],λ j y' e=>?_⟩,q4⟩) λ G q=>⟨λ _=>q,λ z=>tf z⟩
 by_cases hj:j<acc.length
 . rw[x9 hj]at e;exact ha j y' e
 . rw[List.getElem?_append_right (by omega)]at e
   have:j-acc.length=0:=by
    have:=(z0.mp e).1
    simp at this;omega
   rw[this]at e
   simp at e
   subst e
   have:j=i:=by omega
   rw[this];exact hy
end
theorem bT{A B:Prop}(h:A):(true=true->A)/\(true=false->B):=⟨λ _=>h,λ z=>tf z⟩
theorem bF{A B:Prop}(h:B):(false=true->A)/\(false=false->B):=⟨λ z=>ff z,λ _=>h⟩
variable {ds : List D} {W : WD} {S : Store} {i : Int}
mutual
theorem cW{K:PySem.W.Frag}{O O':Own}{H:Hp}(h:∀a,¬O.has a->¬O'.has a):∀{v:V}{d:D},au d=true->Rep K O H v d->Rep K O' H v d
 | _,_,_,.non=>.non
 | _,_,_,.bl b=>.bl b
 | _,_,_,.int i=>.int i
 | _,_,_,.str x=>.str x
 | _,_,n,.tup h1 r=>.tup ⟨h _ h1.1,h1.2⟩ (dg h (by simpa[au]using n) r)
 | _,_,n,.lst h1 r=>.lst (h1.imp (λ q=>⟨h _ q.1,q.2⟩) id) (dg h (by simpa[au]using n) r)
 | _,_,n,.loc _=>by simp[au]at n
 | _,_,n,.dlo _ _=>by simp[au]at n
 | _,_,_,.dic h1 e=>.dic (h _ h1) e
theorem dg{K:PySem.W.Frag}{O O':Own}{H:Hp}(h:∀a,¬O.has a->¬O'.has a):∀{vs:List V}{ds:List D},ao ds=true->Reps K O H vs ds->Reps K O' H vs ds
 | _,_,_,.nil=>.nil
 | _,_,n,.cons r t=>by
   simp only[ao,Bool.and_eq_true]at n
   exact .cons (cW h n.1 r) (dg h n.2 t)
end
theorem wZ{K:PySem.W.Frag}{O O':Own}{H:Hp}(h:∀a,¬O.has a->¬O'.has a):∀{vs:List (List Key×V)}{ds:List D},ao ds=true->Kps K O H vs ds->Kps K O' H vs ds
 | _,_,_,.nil=>.nil
 | _,_,n,.cons r t=>by
   simp only[ao,au,Bool.and_eq_true]at n
   exact .cons (cW h n.1.2.1 r) (wZ h n.2 t)
theorem qb{K:PySem.W.Frag}{O O':Own}{H:Hp}(h:∀a,¬O.has a->¬O'.has a):∀{vs:Cy}{ds:List D},ao ds=true->Kcs K O H vs ds->Kcs K O' H vs ds
 | _,_,_,.nil=>.nil
 | _,_,n,.cons e rk rv r t=>by
   simp only[ao,au,Bool.and_eq_true]at n
   exact .cons e (cW h n.1.1 rk) rv (cW h n.1.2.1 r) (qb h n.2 t)
theorem v5{K:PySem.W.Frag}{O O':Own}{H:Hp}(h:∀a,¬O.has a->¬O'.has a):∀{vs:Oy}{ds:List D},ao ds=true->Kos K O H vs ds->Kos K O' H vs ds
 | _,_,_,.nil=>.nil
 | _,_,n,.cons e rv r t=>by
   simp only[ao,au,Bool.and_eq_true]at n
   exact .cons e rv (cW h n.1.2.1 r) (v5 h n.2 t)
theorem JW{K:PySem.W.Frag}{O O':Own}{H:Hp}{a:Addr}(h:∀a,¬O.has a->¬O'.has a)(n:ao ds=true)(b:DOb K O H a ds):DOb K O' H a ds:=by
 cases b with
 | t kvs e r=>exact .t kvs e (wZ h n r)
 | c ys z e r=>exact .c ys z e (qb h n r)
 | o ys z e r=>exact .o ys z e (v5 h n r)
 | m ys d' hd e r=>subst hd;exact .m ys d' rfl e (qb h (by simpa[ao,au]using n) r)
 | p ps z b l c y q k e hd g=>exact .p ps z b l c y q k e hd (g.imp id λ⟨g1,x,g2,g3,g4⟩=>⟨g1,x,g2,h _ g3,g4⟩)
def flat(S:Store):Prop:=∀l∈S,ao l=true
theorem oJ{A:List (Addr×Bool)}{n:Nat}{a:Addr}(h:a∈adr (A.take n)):a∈adr A:=by
 obtain⟨x,hx,rfl⟩:=List.mem_map.mp h
 exact List.mem_map.mpr ⟨x,List.mem_of_mem_take hx,rfl⟩
theorem jA{K:PySem.W.Frag}{O O':Own}{H H':Hp}{S':Store}{J:List (List D)}(st:Step O O' H H')(ok:StOk K O' H' (S'++J))(hl:O.A.length≤S'.length)(hS:flat S'):
 Step O ⟨O'.A.take S'.length,O'.B⟩ H H'/\StOk K ⟨O'.A.take S'.length,O'.B⟩ H' S'/\(∀b,¬O'.has b->¬(⟨O'.A.take S'.length,O'.B⟩:Own).has b)/\∀j a,S'.length≤j->∀{q:Bool},O'.A[j]? =some (a,q)->¬(⟨O'.A.take S'.length,O'.B⟩:Own).has a:=by
 obtain⟨N,eA,fN⟩:=st.ext
 have len:O'.A.length=S'.length+J.length:=by have:=ok.len;simpa using this
 have sub:∀b,¬O'.has b->¬(⟨O'.A.take S'.length,O'.B⟩:Own).has b:=λ b hb z=>hb (z.imp oJ id)
 have nd:(adr (O'.A.take S'.length)).Nodup:=by
  show(List.map _ (List.take _ _)).Nodup
  rw[List.map_take]
  exact ok.nd.sublist (List.take_sublist _ _)
 refine⟨⟨st.kept,st.dom,⟨N.take (S'.length-O.A.length),by
  show O'.A.take S'.length=_
  rw[eA,List.take_append,List.take_of_length_le (by omega)],λ b hb=>fN b (oJ hb)⟩,st.hid⟩,⟨nd,by simp[len],λ k b es e1 e2=>?_,λ k b es e1 e2=>?_,λ b hb=>ok.apart b (oJ hb),ok.hidden⟩,sub,λ j a hj q ha z=>?_⟩
 . have hk:k<S'.length:=(z0.mp e2).1
   have e1':(O'.A.take S'.length)[k]? =some (b,false):=e1
   rw[List.getElem?_take,if_pos hk]at e1'
   obtain⟨ys,hy,r'⟩:=ok.obj k b es e1' (by rw[x9 hk];exact e2)
   exact⟨ys,hy,dg sub (hS es (y4 e2)) r'⟩
 . have hk:k<S'.length:=(z0.mp e2).1
   have e1':(O'.A.take S'.length)[k]? =some (b,true):=e1
   rw[List.getElem?_take,if_pos hk]at e1'
   exact JW sub (hS es (y4 e2)) (ok.dob k b es e1' (by rw[x9 hk];exact e2))
 . rcases z with z | z
   . obtain⟨⟨a',q'⟩,hm,rfl⟩:=List.mem_map.mp z
     obtain⟨i,hi⟩:=List.getElem?_of_mem hm
     rw[List.getElem?_take]at hi
     split at hi
     . rename_i hlt
       exact Er ok.nd hi ha (by omega) rfl
     . cases hi
   . exact ok.apart a (gY ha) z
def Frz(n:Nat)(W:WD):WD:=λ d S1=>W d S1∨∃ds S',d=.loc S'.length/\S1=S'++[ds]/\n≤S'.length/\ao ds=true/\flat S'/\W (.lst ds) S'
theorem QG.frz{K:PySem.W.Frag}{O:Own}{H H':Hp}{v:V}{n:Nat}(hn:O.A.length=n)(q:QG K O H (Frz n W) v H'):QG K O H W v H':=by
 obtain⟨O',d,S1,w,st,ok,r⟩:=q
 rcases w with w | ⟨ds,S',rfl,rfl,hl,hd,hS,w⟩
 . exact⟨O',d,S1,w,st,ok,r⟩
 . obtain⟨st2,ok2,sub,na⟩:=jA st ok (by omega) hS
   cases r with
   | @loc a _ ha=>
     obtain⟨xs,hx,q1⟩:=ok.obj S'.length a ds ha (by simp)
     exact⟨_,.lst ds,S',w,st2,ok2,.lst (.inl ⟨na _ a (y9 _) ha,.inl hx⟩) (dg sub hd q1)⟩
theorem Oh{X:Cx}{Γ:Gam}{sts:List Stmt}{W:DL.Fin}(h:Rns X Γ S sts {W with rt:=Frz S.length W.rt}):Rns X Γ S sts W:=λ pins s σ H O I env ok=>
 thn (h pins s σ H O I env ok) λ f s' q=>by
  cases f with
  | next=>exact q
  | brk=>exact q
  | cont=>exact q
  | ret u=>obtain⟨v,σ',H',I',r,q⟩:=q;exact⟨v,σ',H',I',r,QG.frz ok.len q⟩
variable {Ω : Wd}
def Bl.frz(b:Bl Ω):Bl Ω where
 lev:=b.lev
 chk:=b.chk
 wp Γ S W:=b.wp Γ S {W with rt:=Frz S.length W.rt}
 sound:=by
  intro X r top N nm sts Γ S W A hl hc hw
  exact Oh (b.sound A hl hc hw)
def hand(W:WD)(ds:List D)(S:Store):Prop:=W (.lst ds) S∨W (.loc S.length) (S++[ds])
theorem jK(h:hand W ds S)(hd:ao ds=true)(hS:flat S):Frz S.length W (.loc S.length) (S++[ds]):=by
 rcases h with h | h
 . exact .inr ⟨ds,S,rfl,rfl,y9 _,hd,hS,h⟩
 . exact .inl h
theorem Io{X:Cx}{Γ:Gam}{o e:Expr}{apos cpos:Pos}(h:Ev X Γ S o λ x S1=>∃k,x=.loc k/\Ev X Γ S1 e λ d S2=>∃ds,S2[k]? =some ds/\ds.length<1000000/\W .non (S2.set k (ds++[d])))
 (hbase:attributeBase o "append" X.env (eval o X.env)=eval o X.env)(hs:starEach [e] X.env=[(false,eval e X.env)])(hline:(apos.endLine==cpos.line)=true):Ev X Γ S (.Call (.Attribute o "append" apos) [e] [] cpos) W:=by
 intro pins s σ H O I env st
 have hty:∀(O1:Own)(x:D)(v:V)(H1:Hp)(S1:Store),(∃k,x=.loc k)->StOk X.K O1 H1 S1->Rep X.K O1 H1 v x->tyV X.K "list" v H1:=by
  rintro O1 x v H1 S1 ⟨k,rfl⟩ ok r
  cases r with
  | @loc a _ ha=>
    have hl:k<S1.length:=by rw[←ok.len];exact(z0.mp ha).1
    obtain⟨xs,hx,_⟩:=ok.obj k a S1[k] ha (y3 hl)
    exact .inl ⟨rfl,xs,SqL.of hx⟩
 have hA:PA X [e] (λ σ H Q=>∃O Γ S W',EnvOk X.K O H σ Γ/\StOk X.K O H S/\Ev X Γ S e W'/\∀v H',QG X.K O H W' v H'->Q [v] H'):=by
  rintro pos pins s σ H Q I ⟨O,Γ,S,W',env,st,he,k⟩
  rw[hs]
  show wpAny _ _ (spliced ((false,eval e X.env)::backTo pos (starEach [] X.env))) _ _ s
  refine Calls.spliced_cons (thn (he pins s σ H O I env st) λ u s1 hq_=>?_)
  obtain⟨v,H1,I1,r1,q⟩:=hq_
  exact Calls.spliced_nil ⟨[v],H1,I1,.cons r1 .nil,k v H1 q⟩
 refine Ut (T:="list") PySem.F.plainAttrs_list PySem.F.slot_list_append PySem.F.type_list_append ug (h.pe) hA hbase (by rw[hs];rfl) hline hs rfl pins s σ H _ I ⟨O,env,st,λ v H' q=>?_⟩
 obtain⟨O1,x,S1,⟨k,rfl,he⟩,st1,ok1,rep1⟩:=q
 refine⟨hty O1 _ v H' S1 ⟨k,rfl⟩ ok1 rep1,O1,Γ,S1,_,env.mono st1,ok1,he,λ v2 H2 q2=>?_⟩
 obtain⟨O2,d,S2,⟨ds,hk,hz,w⟩,st2,ok2,rep2⟩:=q2
 have r:=rep1.mono st2
 cases r with
 | @loc a _ ha=>
   obtain⟨xs,hx,q1⟩:=ok2.obj k a ds ha hk
   exact⟨a,xs,v2,rfl,rfl,hx,by rw[q1.length];exact w9 hz (by decide),O2,.non,_,w,(st1.trans st2).trans (Step.put (gY ha) _),ok2.put ha (q1.append (.cons rep2 .nil)),.non⟩
def nameE:Expr->Bool
 | .Name .. =>true
 | _=>false
def Ex.m_append(o a:Ex Ω):Ex Ω where
 lev:=max o.lev a.lev
 chk top N nm e:=match e with | .Call (.Attribute x m p) [y] [] q=>(m==("append":Str))&&(nameE x&&((p.endLine==q.line)&&(okE y&&(o.chk top N nm x&&a.chk top N nm y)))) | _=>false
 wp Γ S W:=o.wp Γ S λ x S1=>match x with | .loc k=>a.wp Γ S1 λ d S2=>∃ds,S2[k]? =some ds/\ds.length<1000000/\W .non (S2.set k (ds++[d])) | _=>False
 sound:=by
  intro X r top N nm e Γ S W A hl hc hw
  obtain⟨l1,l2⟩:=lv2 hl
  split at hc
  . rename_i x m p y q
    obtain⟨h1,g⟩:=aa hc
    obtain⟨h2,g⟩:=aa g
    obtain⟨h3,g⟩:=aa g
    obtain⟨h4,g⟩:=aa g
    obtain⟨h5,h6⟩:=aa g
    have e:=eq_of_beq h1
    subst e
    refine Io ((o.sound A l1 h5 hw).mono λ x S1 q=>?_) ?_ (bu h4 [] _) h3
    . cases x<;>first | exact q.elim | exact⟨_,rfl,a.sound A l2 h6 q⟩
    . cases x<;>first | rfl | exact ff h2
  . exact ff hc
def Sm.never:Sm Ω where
 lev:=0
 chk _ _ _ st:=match st with | .Raise _ _ _=>true | _=>false
 wp _ _ _:=False
 sound:=λ _ _ _ h=>h.elim
theorem bL(S:Store)(x:List D):(S++[x])[S.length]? =some x:=by simp
theorem cj(S:Store)(x y:List D):(S++[x]).set S.length y=S++[y]:=by simp
theorem cG{α β:Type}{xs:List α}{f:α->β}{i:Nat}{e:β}(h:(xs.map f)[i]? =some e):∃x,xs[i]? =some x/\e=f x:=by
 rw[y8]at h
 cases e1:xs[i]? with
 | none=>rw[e1]at h;cases h
 | some x=>rw[e1]at h;cases h;exact⟨x,rfl,rfl⟩
theorem Ce{α β:Type}{xs:List α}{f:Nat->α->β}{i:Nat}{e:β}(h:(xs.mapIdx f)[i]? =some e):∃x,xs[i]? =some x/\e=f i x:=by
 rw[List.getElem?_mapIdx]at h
 cases e1:xs[i]? with
 | none=>rw[e1]at h;cases h
 | some x=>rw[e1]at h;cases h;exact⟨x,rfl,rfl⟩
theorem d9{cap:List (Option Nat)}{Γ:Gam}{elt:Ex Ω}{tg:Tg}{S1:Store}{α:Type}{xs:List α}{enc:α->D}(f:α->D)(hz:xs.length≤1000000)(h:∀(i:Nat)(x:α),xs[i]? =some x->∀Q:WD,Q (f x) S1->tg.wp (enc x) (capt cap Γ) λ Γ2=>elt.wp Γ2 S1 Q)
 (w:W (.lst (xs.map f)) S1):jO cap Γ elt tg (Cd.no (Ω:=Ω)) W (xs.map enc) S1:=by
 refine fZ ⟨by rw[y7];exact hz,λ i acc S'=>acc=(xs.take i).map f/\S'=S1,⟨rfl,rfl⟩,?_,?_⟩
 . rintro i d acc S' hd ⟨rfl,rfl⟩
   obtain⟨x,hx,rfl⟩:=cG hd
   refine Tg.mono (h i x hx (λ y S4=>(xs.take i).map f++[y]=(xs.take (i+1)).map f/\S4=S') ⟨?_,rfl⟩) λ G q=>⟨λ _=>q,λ z=>tf z⟩
   rw[bj hx,List.map_append];rfl
 . rintro acc S' ⟨rfl,rfl⟩
   rw[y7,List.take_length];exact w
theorem wM1{j:Int}{P:Prop}(h:L2.CMul i j)(p:P):L2.CMul i j/\P:=⟨h,p⟩
theorem wM2{j:Int}{P:Prop}(h:L2.CPow i j)(p:P):L2.CPow i j/\P:=⟨h,p⟩
theorem wM3{j:Int}{P:Prop}(h:0<i/\i<j)(p:P):(0<i/\i<j)/\P:=⟨h,p⟩
theorem wM4{P:Prop}(h:0<i)(p:P):0<i/\P:=⟨h,p⟩
theorem wM5{α:Type}{l:List α}{P:Prop}(h:l.length≤1000000)(p:P):l.length≤1000000/\P:=⟨h,p⟩
theorem wM6{α β:Type}{l:List α}{k:List β}{P:Prop}(h:l.length+k.length≤1000000)(p:P):l.length+k.length≤1000000/\P:=⟨h,p⟩
theorem wM7{k j:Nat}{n:Int}{Q:List D->Nat->Prop}(h:S[k]? =some ds)(g:L2.ixN ds.length n=some j)(q:Q ds j):∃ds j,S[k]? =some ds/\L2.ixN ds.length n=some j/\Q ds j:=⟨ds,j,h,g,q⟩
theorem wM8{k:Nat}{n:Int}{d:D}{Q:List D->D->Prop}(h:S[k]? =some ds)(g:L2.atI ds n=some d)(q:Q ds d):∃ds d,S[k]? =some ds/\L2.atI ds n=some d/\Q ds d:=⟨ds,d,h,g,q⟩
theorem wM9{n:Int}{d:D}{Q:D->Prop}(g:L2.atI ds n=some d)(q:Q d):∃d,L2.atI ds n=some d/\Q d:=⟨d,g,q⟩
end RF
namespace RF
open PySem PySem.Spec L2 DL
open PyProof.Rows
section
variable {prog : Program} {w : World} {A : Around} {E : Value -> Shared -> Prop} {s : Shared}
def ltF(fin:Bool):List Int->List Int->Bool
 | x::xs,y::ys=>if x=y then ltF fin xs ys else decide (x<y)
 | _,_=>fin
def ltI(xs ys:List Int):Bool:=ltF (decide (xs.length<ys.length)) xs ys
theorem NT{flag:Bool}{a b:Int}{t u:Tok}{Q:Bool->Shared->Prop}(h:Q (decide (a<b)) s):wpAny (model prog w) A (oneLt' flag (.int a t) (.int b u)) Q E s:=by
 cases flag with
 | true=>exact oneLt_int h
 | false=>exact PySem.W.kat_one _ _ (wpAny_lt_int h)
def bR(h:Heap)(v:Value)(ns:List Int):Prop:=∃b o xs k,v=.ref b/\h.get? b=some o/\o.cls=.type "tuple"/\o.data=.seq xs k/\IntsAre xs.toList ns
end
def rJ(k:Nat)(ds:List D):Option D->Option D
 | some (.loc j)=>if j=k then some (.lst ds)else some (.loc j)
 | o=>o
def atTop(Γ:Gam):Prop:=∀(i:Nat)(d:D),Γ[i]? =some (some d)->au d=true∨∃j,d=.loc j
def Rt(n:Nat)(W:Gam->Store->Prop):Gam->Store->Prop:=λ Γ S1=>W Γ S1∨∃ds S',S1=S'++[ds]/\n≤S'.length/\ao ds=true/\flat S'/\atTop Γ/\W (Γ.map (rJ S'.length ds)) S'
theorem QN.frz {K:PySem.W.Frag}{O:Own}{H H':Hp}{W:Gam->Store->Prop}{σ:DL.St}{n:Nat}(hn:O.A.length=n)(q:QN K O H (Rt n W) σ H'):QN K O H W σ H':=by
 obtain⟨O',Γ,S1,w,st,ok,r⟩:=q
 rcases w with w | ⟨ds,S',rfl,hl,hd,hS,ht,w⟩
 . exact⟨O',Γ,S1,w,st,ok,r⟩
 . obtain ⟨st2,ok2,sub,na⟩:=jA st ok (by omega) hS
   have len:O'.A.length=S'.length+1:=by have:=ok.len;simpa using this
   refine⟨⟨O'.A.take S'.length,O'.B⟩,_,S',w,st2,ok2,⟨by rw[y7];exact r.len,λ i d e=>?_⟩⟩
   . rw [y8] at e
     cases e1:Γ[i]? with
     | none=>rw[e1]at e;cases e
     | some o=>
       rw[e1]at e
       cases o with
       | none=>cases e
       | some d0=>
         obtain⟨v,hv,rv⟩:=r.at_ i d0 e1
         rcases ht i d0 e1 with nl | ⟨j,rfl⟩
         . have e2:d0=d:=by
            cases d0 with
            | loc j=>simp[au]at nl
            | _=>simpa[rJ]using e
           subst e2
           exact⟨v,hv,cW sub nl rv⟩
         . cases rv with
           | @loc a _ ha=>
             by_cases hj:j=S'.length
             . subst hj
               have e2:d=.lst ds:=by simpa[rJ]using e.symm
               subst e2
               obtain⟨xs,hx,q1⟩:=ok.obj S'.length a ds ha (by simp)
               exact⟨_,hv,.lst (.inl ⟨na _ a (y9 _) ha,.inl hx⟩) (dg sub hd q1)⟩
             . have e2:d=.loc j:=by simpa[rJ,hj]using e.symm
               subst e2
               refine⟨_,hv,.loc ?_⟩
               have:j<O'.A.length:=(z0.mp ha).1
               show(O'.A.take S'.length)[j]? =some (a,false)
               rw[List.getElem?_take,if_pos (by omega)];exact ha
section
variable {Ω : Wd}
def Bl.fzl(b:Bl Ω):Bl Ω where
 lev:=b.lev
 chk:=b.chk
 wp Γ S W:=b.wp Γ S {W with nx:=Rt S.length W.nx}
 sound:=by
  intro X r top N nm sts Γ S W A hl hc hw pins s σ H O I env ok
  refine thn (b.sound A hl hc hw pins s σ H O I env ok) λ f s' q=>?_
  cases f with
  | next=>obtain⟨σ,H',I,q⟩:=q;exact⟨σ,H',I,QN.frz ok.len q⟩
  | brk=>exact q
  | cont=>exact q
  | ret u=>exact q
end
theorem DX{K:PySem.W.Frag}{O:Own}{H:Hp}{a:Addr}{k:Nat}{ds:List D}(h:O.A[k]? =some (a,false)):rn K (Itl K a) O H (λ S=>S[k]? =some ds) ds:=by
 intro O' H' S' st ok hS i
 have h':O'.A[k]? =some (a,false):=st.lc k _ h
 obtain⟨xs,hx,r⟩:=ok.obj k a ds h' hS
 have hq:SqL K H' a xs:=SqL.of hx
 refine⟨λ d hd=>?_,λ hi=>⟨xs,hq,by rw[r.length];exact Nat.le_of_eq hi.symm⟩⟩
 obtain⟨v,hv,rv⟩:=r.get hd
 refine⟨⟨xs,v,hq,hv⟩,λ x H'' y=>?_⟩
 obtain⟨e,y⟩:=y
 subst e
 have e:=y xs hq
 rw[hv]at e
 cases e
 exact⟨dH.refl _,rv⟩
abbrev itC(W:List D->(Store->Prop)->Store->Prop):WD:=λ d S1=>match d with
 | .lst ds=>W ds (λ _=>True) S1
 | .tup ds=>W ds (λ _=>True) S1
 | .loc k=>∃ds,S1[k]? =some ds/\W ds (λ S=>S[k]? =some ds) S1
 | _=>False
theorem RM{X:Cx}{Γ:Gam}{S:Store}{tg e:Expr}{W:List D->(Store->Prop)->Store->Prop}(h:Ev X Γ S e (itC W)):ItC X Γ S tg e W:=by
 intro pins s σ H O I env st
 refine thn (h pins s σ H O I env st) λ u s1 hq_=>?_
 obtain⟨v,H1,I1,r1,O1,d,S1,w,st1,ok1,rep⟩:=hq_
 cases rep with
 | @lst a xs ds h1 q1=>
   cases r1
   obtain⟨its,rv,p,hz⟩:=I1.list h1.sq
   refine wpAny_pyIter_list p.isList ?_
   refine⟨s1.heap.objs.size,[s1.heap.objs.size],_,_,H1,rfl,I1.kept (t':=s1.toks) λ b o e=>Heap.get?_push_of_some _ e,mW a _,⟨_,Heap.get?_push_size _ rfl,rfl,rfl⟩,λ b hb=>?_,O1,ds,_,S1,w,st1,ok1,qe (nY h1 q1)⟩
   have e:b=s1.heap.objs.size:=by simpa using hb
   subst e
   exact I1.fpOk (y9 _) (I1.hok.fresh (y9 _))
 | @tup a xs ds h1 q1=>
   cases r1
   obtain⟨its,rv,p,hz⟩:=I1.tuple h1.sq
   refine wpAny_pyIter_tuple (show s1.heap.IsTuple a its.toArray from p) ?_
   refine⟨s1.heap.objs.size,[s1.heap.objs.size],_,_,H1,rfl,I1.kept (t':=s1.toks) λ b o e=>Heap.get?_push_of_some _ e,qD a _,⟨_,Heap.get?_push_size _ rfl,rfl,rfl⟩,λ b hb=>?_,O1,ds,_,S1,w,st1,ok1,qe (qU h1 q1)⟩
   have e:b=s1.heap.objs.size:=by simpa using hb
   subst e
   exact I1.fpOk (y9 _) (I1.hok.fresh (y9 _))
 | @loc a k h1=>
   cases r1
   obtain⟨ds,hk,w⟩:=w
   obtain⟨xs,hx,q1⟩:=ok1.obj k a ds h1 hk
   obtain⟨its,rv,p,hz⟩:=I1.list (SqL.of hx)
   refine wpAny_pyIter_list p.isList ?_
   refine⟨s1.heap.objs.size,[s1.heap.objs.size],_,_,H1,rfl,I1.kept (t':=s1.toks) λ b o e=>Heap.get?_push_of_some _ e,mW a _,⟨_,Heap.get?_push_size _ rfl,rfl,rfl⟩,λ b hb=>?_,O1,ds,_,S1,w,st1,ok1,DX h1⟩
   have e:b=s1.heap.objs.size:=by simpa using hb
   subst e
   exact I1.fpOk (y9 _) (I1.hok.fresh (y9 _))
 | _=>exact w.elim
theorem Ra{X:Cx}{Γ:Gam}{S:Store}{W:DL.Fin}{pos:Pos}{tg iter:Expr}{body:List Stmt}(h:ItC X Γ S tg iter λ ds C S1=>∃Pv:Nat->Gam->Store->Prop,Pv 0 Γ S1/\(∀i Γ' S',Pv i Γ' S'->C S')/\
 (∀i d Γ' S',ds[i]? =some d->Pv i Γ' S'->BdW X tg d Γ' S' λ Γ2 S2=>Rns X Γ2 S2 body {W with nx:=Pv (i+1),ct:=Pv (i+1),bk:=W.nx})/\(∀Γ' S',Pv ds.length Γ' S'->W.nx Γ' S'))
 (hp:PassesOwn (model X.prog X.w) X.A X.env X.xe)(hc:X.calm=true)(hs:∀x,foldedSetIterable iter X.env x=pure x):Rn X Γ S (.For tg iter body [] pos) W:=by
 intro pins s σ H O I env ok
 let WI:List D->(Store->Prop)->Store->Prop:=λ ds C S1=>∃Pv:Nat->Gam->Store->Prop,Pv 0 Γ S1/\(∀i Γ' S',Pv i Γ' S'->C S')/\
     (∀i d Γ' S',ds[i]? =some d->Pv i Γ' S'->BdW X tg d Γ' S' λ Γ2 S2=>Rns X Γ2 S2 body {W with nx:=Pv (i+1),ct:=Pv (i+1),bk:=W.nx})/\(∀Γ' S',Pv ds.length Γ' S'->W.nx Γ' S')
 have hI:PI X tg iter (λ σ H R=>∃O,EnvOk X.K O H σ Γ/\StOk X.K O H S/\∀J H',QIc X.K O H WI J H'->R J H'):=λ pins s σ H R I hh=>by
  obtain⟨O,env,st,k⟩:=hh
  refine thn (h pins s σ H O I env st) λ _ _ q=>thn q λ _ _ q2=>?_
  obtain⟨it,fp,tn,J,H',e1,e2,e3,e4,e5,e6⟩:=q2
  exact⟨it,fp,tn,J,H',e1,e2,e3,e4,e5,k J H' e6⟩
 have hG:PG X tg (λ v σ H Q=>∃O d Γ S W',EnvOk X.K O H σ Γ/\StOk X.K O H S/\Rep X.K O H v d/\BdW X tg d Γ S W'/\∀σ' H',QN X.K O H W' σ' H'->Q σ' H'):=λ pins s σ H v u Q I ru hh=>by
  obtain⟨O,d,Γ,S,W',env,st,r,b,k⟩:=hh
  refine thn (b pins s σ H O v u I env st r ru) λ _ _ q2=>?_
  obtain⟨σ',H',I',q⟩:=q2
  exact⟨σ',H',I',k σ' H' q⟩
 have hB:PSs X body (λ D σ H=>∃O Γ S W',EnvOk X.K O H σ Γ/\StOk X.K O H S/\Rns X Γ S body W'/\(∀σ' H',QN X.K O H W'.nx σ' H'->D.nx σ' H')/\(∀v H',QG X.K O H W'.rt v H'->D.rt v H')/\(∀σ' H',QN X.K O H W'.bk σ' H'->D.bk σ' H')/\∀σ' H',QN X.K O H W'.ct σ' H'->D.ct σ' H'):=
  λ pins s σ H D I hh=>by
   obtain⟨O,Γ,S,W',env,st,b,k1,k2,k3,k4⟩:=hh
   refine thn (b pins s σ H O I env st) λ f s' q=>?_
   cases f with
   | next=>obtain⟨σ',H',I',q⟩:=q;exact⟨σ',H',I',k1 σ' H' q⟩
   | brk=>obtain⟨σ',H',I',q⟩:=q;exact⟨σ',H',I',k3 σ' H' q⟩
   | cont=>obtain⟨σ',H',I',q⟩:=q;exact⟨σ',H',I',k4 σ' H' q⟩
   | ret u=>obtain⟨v,σ',H',I',r,q⟩:=q;exact⟨v,σ',H',I',r,k2 v H' q⟩
 refine Ib hp hc hI hG hB hs pins s σ H _ I ⟨O,env,ok,λ J H1 q=>?_⟩
 obtain⟨O1,ds,C,S1,⟨Pv,p0,pC,pt,pe⟩,st1,ok1,yl⟩:=q
 refine⟨λ i m σ' H'=>m=ds.length-i/\i≤ds.length/\∃O' Γ' S',Pv i Γ' S'/\Step O1 O' H1 H'/\StOk X.K O' H' S'/\EnvOk X.K O' H' σ' Γ',⟨ds.length,by simp,Nat.zero_le _,O1,Γ,S1,p0,Step.refl _ _,ok1,env.mono st1⟩,?_⟩
 rintro i m σ2 H2 ⟨rfl,hi,O2,Γ2,S2,p2,st2,ok2,env2⟩
 obtain⟨y1,y2⟩:=yl O2 H2 S2 st2.conv ok2 (pC _ _ _ p2) i
 by_cases hlt:i<ds.length
 . obtain⟨go,yy⟩:=y1 ds[i] (y3 hlt)
   refine .inr ⟨go,λ σ' H'=>i+1≤ds.length/\∃O' Γ' S',Pv (i+1) Γ' S'/\Step O1 O' H1 H'/\StOk X.K O' H' S'/\EnvOk X.K O' H' σ' Γ',λ σ' H' q=>⟨ds.length-(i+1),by omega,rfl,q.1,q.2⟩,λ x H3 y=>?_⟩
   obtain⟨sm,rx⟩:=yy x H3 y
   have st3:=Step.same (O:=O2) sm
   refine⟨O2,ds[i],Γ2,S2,_,env2.mono st3,ok2.same sm,rx,pt i ds[i] Γ2 S2 (y3 hlt) p2,λ σ4 H4 q4=>?_⟩
   obtain⟨O4,Γ4,S4,w4,st4,ok4,env4⟩:=q4
   have stA:=(st2.trans st3).trans st4
   refine⟨O4,Γ4,S4,_,env4,ok4,w4,?_,?_,?_,?_⟩
   . rintro σ5 H5 ⟨O5,Γ5,S5,w5,st5,ok5,env5⟩
     exact⟨hlt,O5,Γ5,S5,w5,stA.trans st5,ok5,env5⟩
   . exact λ v H' q=>QG.pre (st1.trans stA) q
   . exact λ σ' H' q=>QN.pre (st1.trans stA) q
   . rintro σ5 H5 ⟨O5,Γ5,S5,w5,st5,ok5,env5⟩
     exact⟨hlt,O5,Γ5,S5,w5,stA.trans st5,ok5,env5⟩
 . have e:i=ds.length:=by omega
   subst e
   exact .inl ⟨y2 rfl,O2,Γ2,S2,pe Γ2 S2 p2,st1.trans st2,ok2,env2⟩
section
variable {Ω : Wd}
@[irreducible] noncomputable def Qq(Γ:Gam)(tg:Tg)(body:Bl Ω)(W:DL.Fin)(k:Nat)(ds:List D)(S1:Store):Prop:=
  ∃Pv:Nat->Gam->Store->Prop,Pv 0 Γ S1/\(∀i Γ' S',Pv i Γ' S'->S'[k]? =some ds)/\(∀i d Γ' S',ds[i]? =some d->Pv i Γ' S'->tg.wp d Γ' λ Γ2=>body.wp Γ2 S' {W with nx:=Pv (i+1),ct:=Pv (i+1),bk:=W.nx})/\(∀Γ' S',Pv ds.length Γ' S'->W.nx Γ' S')
def Sm.forL(tg:Tg)(it:Ex Ω)(body:Bl Ω):Sm Ω where
 lev:=max it.lev body.lev
 chk top N nm st:=match st with | .For t i b [] _=>okE i&&(tg.chk top N nm t&&(it.chk top N nm i&&body.chk top N nm b)) | _=>false
 wp Γ S W:=it.wp Γ S λ d S1=>match d with
  | .lst ds=>iK Γ tg body W ds S1
  | .tup ds=>iK Γ tg body W ds S1
  | .loc k=>∃ds,S1[k]? =some ds/\Qq Γ tg body W k ds S1
  | _=>False
 sound:=by
  intro X r top N nm st Γ S W A hl hc hw
  obtain⟨l1,l2⟩:=lv2 hl
  split at hc
  . rename_i t i b pos
    obtain⟨h1,hc⟩:=aa hc
    obtain⟨h2,hc⟩:=aa hc
    obtain⟨h3,h4⟩:=aa hc
    have step:∀(Pv:Nat->Gam->Store->Prop)(ds:List D),(∀i d Γ' S',ds[i]? =some d->Pv i Γ' S'->tg.wp d Γ' λ Γ2=>body.wp Γ2 S' {W with nx:=Pv (i+1),ct:=Pv (i+1),bk:=W.nx})->∀i d Γ' S',ds[i]? =some d->Pv i Γ' S'->BdW X t d Γ' S' λ Γ2 S2=>Rns X Γ2 S2 b {W with nx:=Pv (i+1),ct:=Pv (i+1),bk:=W.nx}:=
     λ Pv ds pt i d Γ' S' hd hp=>BdW.mono (Tg.sound A (W:=λ Γ2 S2=>body.wp Γ2 S2 {W with nx:=Pv (i+1),ct:=Pv (i+1),bk:=W.nx}) h2 (pt i d Γ' S' hd hp)) λ Γ2 S2 q=>body.sound A l2 h4 q
    refine Ra (RM (Ev.mono (it.sound A l1 h3 hw) λ d S1 q=>?_)) (by rw[A.xe];exact PassesOwn.never) A.calm (je h1 _)
    cases d with
    | lst ds=>
      have q:iK Γ tg body W ds S1:=q
      unfold iK at q
      obtain⟨Pv,p0,pt,pe⟩:=q
      exact⟨Pv,p0,λ _ _ _ _=>trivial,step Pv ds pt,pe⟩
    | tup ds=>
      have q:iK Γ tg body W ds S1:=q
      unfold iK at q
      obtain⟨Pv,p0,pt,pe⟩:=q
      exact⟨Pv,p0,λ _ _ _ _=>trivial,step Pv ds pt,pe⟩
    | loc k=>
      obtain⟨ds,hk,q⟩:=q
      unfold Qq at q
      obtain⟨Pv,p0,pC,pt,pe⟩:=q
      exact⟨ds,hk,Pv,p0,pC,step Pv ds pt,pe⟩
    | _=>exact(show False from q).elim
  . exact fE hc
end
theorem Cp{Ω:Wd}{cap:List (Option Nat)}{Γ:Gam}{elt:Ex Ω}{tg:Tg}{W:WD}{S1:Store}{C0:Store->Prop}{α:Type}{xs:List α}{enc:α->D}(f:α->D)(hz:xs.length≤1000000)(hC:C0 S1)(h:∀(i:Nat)(x:α),xs[i]? =some x->∀Q:WD,Q (f x) S1->tg.wp (enc x) (capt cap Γ) λ Γ2=>elt.wp Γ2 S1 Q)
 (w:W (.lst (xs.map f)) S1∨W (.loc S1.length) (S1++[xs.map f])):nq cap Γ elt tg (Cd.no (Ω:=Ω)) W (xs.map enc) C0 S1:=by
 refine yp ⟨by rw[y7];exact hz,λ i acc S'=>acc=(xs.take i).map f/\S'=S1,⟨rfl,rfl⟩,λ i acc S' q=>by rw[q.2];exact hC,?_,?_⟩
 . rintro i d acc S' hd ⟨rfl,rfl⟩
   obtain⟨x,hx,rfl⟩:=cG hd
   refine Tg.mono (h i x hx (λ y S4=>(xs.take i).map f++[y]=(xs.take (i+1)).map f/\S4=S') ⟨?_,rfl⟩) λ G q=>⟨λ _=>q,λ z=>tf z⟩
   rw[bj hx,List.map_append];rfl
 . rintro acc S' ⟨rfl,rfl⟩
   rw[y7,List.take_length];exact w
variable {ds : List D}
def pg(S:Store):D->Option (List D)
 | .lst ds=>some ds
 | .loc k=>S[k]?
 | _=>none
def putL(own:Bool)(W:WD)(ds:List D)(S:Store):Prop:=match own with
 | true=>W (.loc S.length) (S++[ds])
 | false=>W (.lst ds) S
section
variable {X : Cx} {S : Store} {W : WD}
theorem Ej{pins:Pins}{s:Shared}{σ:DL.St}{H:Hp}{O:Own}{v:V}{d:D}(st:StOk X.K O H S)(r:Rep X.K O H v d)(h:pg S d=some ds):∃a xs,v=.ref a/\SqL X.K H a xs/\Reps X.K O H xs ds:=by
 cases r with
 | @lst a xs _ h1 q1=>cases h;exact⟨a,xs,rfl,h1.sq,q1⟩
 | @loc a k h1=>
   obtain⟨xs,hx,q1⟩:=st.obj k a ds h1 h
   exact⟨a,xs,rfl,SqL.of hx,q1⟩
 | _=>cases h
theorem IW{own:Bool}{K:PySem.W.Frag}{O:Own}{H:Hp}{p:Addr}{xs:List V}(w:putL own W ds S)(st:StOk K O H S)(h:H p=none)(r:Reps K O H xs ds):QG K O H W (.ref p) (upd H p (.lst xs)):=by
 cases own with
 | true=>exact Jh w st h r
 | false=>exact gA w st h r
theorem Qu{own:Bool}{x y:D}{es:List D}(hx:pg S x=some ds)(hy:pg S y=some es)(hz:ds.length+es.length≤1000000)(w:putL own W (ds++es) S):du X .Add x y S W:=by
 intro pins s σ H O v w' u u' I st r1 r2 r3 r4
 obtain⟨a,xs,rfl,h1,q1⟩:=Ej (pins:=pins) (s:=s) (σ:=σ) st r1 hx
 obtain⟨b,ys,rfl,h2,q2⟩:=Ej (pins:=pins) (s:=s) (σ:=σ) st r2 hy
 cases r3
 cases r4
 obtain⟨its,v1,p1,_⟩:=I.list h1
 obtain⟨its2,v2,p2,_⟩:=I.list h2
 obtain⟨⟨cls,dd,data,sl⟩,n,ho,hc,hdd,hd⟩:=id p1
 obtain⟨⟨cls2,dd2,data2,sl2⟩,n2,ho2,hc2,hdd2,hd2⟩:=id p2
 simp only at hc hd hc2 hd2
 subst hc hd hc2 hd2
 have z:its.length+its2.length≤sizeLine:=by rw[←v1.length,←v2.length,q1.length,q2.length];exact small hz
 refine concat_meets ⟨_,ho,rfl⟩ ⟨_,ho2,rfl⟩ noFill_list_add seq_list_add PySem.F.slot_list_add PySem.F.entry_list_add (PySem.F.args_list_add_2 _ _)
  (list_addW a b its.toArray its2.toArray n n2 dd dd2 sl sl2 (by simpa using z)) ⟨ho,ho2,?_⟩
 have ea:its.toArray++its2.toArray=(its++its2).toArray:=by simp
 rw[ea]
 exact⟨.ref s.heap.objs.size,_,I.lnew (t':=s.toks) (v1.append v2) (by rw[x8,q1.length,q2.length];exact small hz),rfl,IW w st I.fresh (q1.append q2)⟩
theorem Qm{own:Bool}{x:D}{k:Int}(hx:pg S x=some ds)(hk: -(2 ^ 63)≤k/\k<2 ^ 63)(hz:ds.length*k.toNat≤1000000)(w:putL own W (List.replicate k.toNat ds).flatten S):du X .Mult x (.int k) S W:=by
 intro pins s σ H O v w' u u' I st r1 r2 r3 r4
 obtain⟨a,xs,rfl,h1,q1⟩:=Ej (pins:=pins) (s:=s) (σ:=σ) st r1 hx
 cases r2
 cases r3
 obtain⟨t,rfl⟩:=r4
 obtain⟨its,v1,p1,_⟩:=I.list h1
 obtain⟨⟨cls,dd,data,sl⟩,n,ho,hc,hdd,hd⟩:=id p1
 simp only at hc hd
 subst hc hd
 have l1:its.length=ds.length:=by rw[←v1.length,q1.length]
 have big:its.length*k.toNat≤1000000:=by rw[l1];exact hz
 have sz:(1000000:Nat)≤sizeLine:=by decide
 refine PySem.wpAny_binaryOp_repeat_ref (T:="list") (U:="int") (by decide) ⟨_,ho,rfl⟩ (λ s'=>typeIs_int s' k t) PySem.noFill_list_mul F.fills_int_mul F.slot_int_rmul PySem.repeat_list F.slot_int_index.lookup
  (call_meets F.slot_int_rmul (typeIs_int s k t) F.entry_int_rmul (F.args_int_rmul_2 _ _) (PySem.lm_int_rmul_list_any k t a its.toArray n dd sl) ⟨ho,rfl,⟨_,ho,rfl⟩,?_⟩)
 refine call_meets F.slot_list_mul ⟨_,ho,rfl⟩ F.entry_list_mul (F.args_list_mul_2 _ _) (PySem.lm_list_mul_any a its.toArray n dd sl k t ?_ ?_ ?_) ⟨ho,?_⟩
 . have c1:Builtin.List.listFitsIndex k=true:=by
    unfold Builtin.List.listFitsIndex
    rw[decide_eq_true (by omega),decide_eq_true (by omega)];rfl
   rw[c1];decide
 . rw[x5];omega
 . rw[x5]
   unfold Builtin.List.listTooLong
   rw[decide_eq_true_eq];omega
 . have ez:(List.replicate (if its.toArray.isEmpty=true then 0 else k.toNat) its.toArray).foldl (λ x1 x2=>x1++x2) #[]=(List.replicate k.toNat its).flatten.toArray:=by
    have fz:∀m:Nat,(List.replicate m its.toArray).foldl (λ x1 x2=>x1++x2) #[]=(List.replicate m its).flatten.toArray:=λ m=>by
     have:=foldl_rep its m []
     rw[List.nil_append]at this
     exact this
    rw[fz]
    by_cases e:its=[]
    . subst e;simp
    . have:its.toArray.isEmpty=false:=by simpa using e
      rw[this];rfl
   rw[ez]
   exact⟨.ref s.heap.objs.size,_,I.lnew (t':=s.toks) (v1.rep _) (by rw[len_rep,q1.length,Nat.mul_comm];exact small hz),rfl,IW w st I.fresh (Reps.rep q1 _)⟩
theorem Qz{ns:List Int}(w:W (.int ns.sum) S)(hc:X.calm=true):eX X (.builtin "sum") [.tup (ns.map .int)] S W:=by
 intro pins s σ H O vs us I st r ru
 obtain⟨v,rfl,r'⟩:=dY r
 obtain⟨u,rfl,ru'⟩:=vals1 ru
 cases r' with
 | @tup a xs _ h1 q1=>
   cases ru'
   obtain⟨its,rv,pl,hz⟩:=I.tuple h1.sq
   have ex:=q1.ints
   subst ex
   have hi:IntsAre its ns:=intsAre_of rv
   obtain⟨zs,ez⟩:=hi.allInts.items
   have hT:s.heap.IsTuple a its.toArray:=pl
   rw[ez]at hT
   have hlt:a<s.heap.objs.size:=by obtain⟨_,e,_⟩:=hT;exact Heap.lt_size e
   refine call_sum_walkG (wpAny_pyIter_tuple hT ?_)
   refine⟨_,_,_,_,_,_,numAt zs,rfl,Walks.tuple (A:=X.A.in1) (I.ok.hd hc) _ a (v3 hlt) (intItems zs),⟨⟨_,Heap.get?_push_size _ rfl,rfl,rfl⟩,hT.push _⟩,(λ b hb=>?_),(λ _ _=>intItems_at),λ h' tk t' hk=>?_⟩
   . show b<(s.heap.push _).objs.size
     rw[Heap.size_push]
     rcases List.mem_cons.mp hb with rfl | hb
     . exact Nat.lt_succ_self _
     . rcases List.mem_cons.mp hb with rfl | hb
       . exact Nat.lt_succ_of_lt hlt
       . cases hb
   . have e:preSum (numAt zs) (intItems zs).size=ns.sum:=by
      rw[show(intItems zs).size=zs.size by simp[intItems],preSum_eq,List.take_of_length_le (by simp),←nums_intItems,←ez]
      exact congrArg List.sum hi.numsOf
     rw[e]
     refine⟨.int _,H,I.kept (λ b o q=>hk b o (λ z=>?_) (Heap.get?_push_of_some _ q)),⟨_,rfl⟩,QG.here w st (.int _)⟩
     have z':b=s.heap.objs.size:=by simpa using z
     exact absurd (Heap.lt_size q) (by rw[z'];exact Nat.lt_irrefl _)
end
def vP:Bf where
 x:="sum"
 id:="sum"
 boot:=by decide+kernel
 wp ds S W:=match ds with
  | [.lst ds]=>∃ns:List Int,ds=ns.map .int/\W (.int ns.sum) S
  | [.tup ds]=>∃ns:List Int,ds=ns.map .int/\W (.int ns.sum) S
  | _=>False
 sound:=by
  intro X ds S W hc hr h
  split at h
  . obtain⟨bs,rfl,h⟩:=h;exact Tv h hc
  . obtain⟨bs,rfl,h⟩:=h;exact Qz h hc
  . exact h.elim
def yX(own:Bool)(op:Operator)(x y:D)(S:Store)(W:WD):Prop:=match op with
 | .Add=>∃ds es,pg S x=some ds/\pg S y=some es/\ds.length+es.length≤1000000/\putL own W (ds++es) S
 | .Mult=>∃ds k,pg S x=some ds/\y=.int k/\(-(2 ^ 63)≤k/\k<2 ^ 63)/\ds.length*k.toNat≤1000000/\putL own W (List.replicate k.toNat ds).flatten S
 | _=>False
theorem Gp{X:Cx}{own:Bool}{op:Operator}{x y:D}{S:Store}{W:WD}(h:yX own op x y S W):du X op x y S W:=by
 unfold yX at h
 split at h
 . obtain⟨ds,es,h1,h2,h3,h4⟩:=h;exact Qu h1 h2 h3 h4
 . obtain⟨ds,k,h1,rfl,h3,h4,h5⟩:=h;exact Qm h1 h3 h4 h5
 . exact h.elim
section
variable {Ω : Wd}
def Ex.binL(own:Bool)(op:Operator)(a b:Ex Ω):Ex Ω where
 lev:=max a.lev b.lev
 chk top N nm e:=match e with | .BinOp l o r _=>(o==op)&&(a.chk top N nm l&&b.chk top N nm r) | _=>false
 wp Γ S W:=a.wp Γ S λ x S1=>b.wp Γ S1 λ y S2=>yX own op x y S2 W
 sound:=by
  intro X r top N nm e Γ S W A hl hc hw
  obtain⟨l1,l2⟩:=lv2 hl
  cases e with
  | BinOp l o r' pos=>
    obtain⟨h1,h2⟩:=aa hc
    obtain⟨h2,h3⟩:=aa h2
    have e:o=op:=eq_of_beq h1
    subst e
    exact yj ((a.sound A l1 h2 hw).mono λ x S1 q=>(b.sound A l2 h3 q).mono λ y S2 q=>Gp q)
  | _=>exact fE hc
def Ex.fdiv(a b:Ex Ω):Ex Ω where
 lev:=max a.lev b.lev
 chk top N nm e:=match e with | .BinOp l o r _=>(o==.FloorDiv)&&(a.chk top N nm l&&b.chk top N nm r) | _=>false
 wp Γ S W:=a.wp Γ S λ x S1=>b.wp Γ S1 λ y S2=>match x,y with
  | .int i,.int j=>(0<j/\j<1000000000000000000000000000000000000000000000000000000000000)/\W (.int (i/j)) S2
  | _,_=>False
 sound:=by
  intro X r top N nm e Γ S W A hl hc hw
  obtain⟨l1,l2⟩:=lv2 hl
  cases e with
  | BinOp l o r' pos=>
    obtain⟨h1,h2⟩:=aa hc
    obtain⟨h2,h3⟩:=aa h2
    have e:o=.FloorDiv:=eq_of_beq h1
    subst e
    refine yj ((a.sound A l1 h2 hw).mono λ x S1 q=>(b.sound A l2 h3 q).mono λ y S2 q=>?_)
    split at q
    . rename_i i j
      refine ju (C:=λ _ j=>0<j/\j<1000000000000000000000000000000000000000000000000000000000000) (g:=λ i j=>i/j) (opI λ i j _ _ _ _ _ hc q=>?_) q.1 q.2
      have h1:(0:Int)<j:=hc.1
      have h2:j<1000000000000000000000000000000000000000000000000000000000000:=hc.2
      refine floordiv_int (by omega) (by rw[Int.fdiv_eq_ediv_of_nonneg i (by omega)];exact q) (.inl (PyProof.noPylong_of_log2 ?_))
      have h3:j.natAbs<2 ^ 200:=by omega
      have:j.natAbs.log2<200:=(Nat.log2_lt (by omega)).mpr h3
      omega
    . exact q.elim
  | _=>exact fE hc
end
end RF
namespace RF
open PySem PySem.Spec L2 DL
open PyProof.Rows
def iI(n:Nat)(J:List (List D)):Option D->Option D
 | some (.loc j)=>if j<n then some (.loc j)else(J[j-n]?).map .lst
 | o=>o
def wL(n:Nat)(W:Gam->Store->Prop):Gam->Store->Prop:=λ Γ S1=>W Γ S1∨∃J S',S1=S'++J/\n≤S'.length/\flat J/\flat S'/\atTop Γ/\W (Γ.map (iI S'.length J)) S'
theorem QN.frzJ{K:PySem.W.Frag}{O:Own}{H H':Hp}{W:Gam->Store->Prop}{σ:DL.St}{n:Nat}(hn:O.A.length=n)(q:QN K O H (wL n W) σ H'):QN K O H W σ H':=by
 obtain⟨O',Γ,S1,w,st,ok,r⟩:=q
 rcases w with w | ⟨J,S',rfl,hl,hd,hS,ht,w⟩
 . exact⟨O',Γ,S1,w,st,ok,r⟩
 . obtain ⟨st2,ok2,sub,na⟩:=jA st ok (by omega) hS
   refine⟨_,_,S',w,st2,ok2,⟨by rw[y7];exact r.len,λ i d e=>?_⟩⟩
   rw[y8]at e
   cases e1:Γ[i]? with
   | none=>rw[e1]at e;cases e
   | some o=>
     rw[e1]at e
     cases o with
     | none=>cases e
     | some d0 =>
       obtain⟨v,hv,rv⟩:=r.at_ i d0 e1
       rcases ht i d0 e1 with nl | ⟨j,rfl⟩
       . have e2:d0=d:=by
          cases d0 with
          | loc j=>simp[au]at nl
          | _=>simpa[iI]using e
         subst e2
         exact⟨v,hv,cW sub nl rv⟩
       . cases rv with
         | @loc a _ ha=>
           by_cases hj:j<S'.length
           . have e2:d=.loc j:=by simpa[iI,hj]using e.symm
             subst e2
             refine⟨_,hv,.loc ?_⟩
             show(O'.A.take S'.length)[j]? =some (a,false)
             rw[List.getElem?_take,if_pos hj];exact ha
           . cases e3:J[j-S'.length]? with
             | none=>simp[iI,hj,e3]at e
             | some ds=>
               have e2:d=.lst ds:=by simpa[iI,hj,e3]using e.symm
               subst e2
               obtain⟨xs,hx,q1⟩:=ok.obj j a ds ha (by rw[List.getElem?_append_right (by omega)];exact e3)
               exact⟨_,hv,.lst (.inl ⟨na j a (by omega) ha,.inl hx⟩) (dg sub (hd ds (y4 e3)) q1)⟩
def Drp(n:Nat)(W:WD):WD:=λ d S1=>W d S1∨∃J S',S1=S'++J/\n≤S'.length/\au d=true/\flat S'/\W d S'
theorem QG.drp{K:PySem.W.Frag}{O:Own}{H H':Hp}{W:WD}{v:V}{n:Nat}(hn:O.A.length=n)(q:QG K O H (Drp n W) v H'):QG K O H W v H':=by
 obtain⟨O',d,S1,w,st,ok,r⟩:=q
 rcases w with w | ⟨J,S',rfl,hl,hd,hS,w⟩
 . exact⟨O',d,S1,w,st,ok,r⟩
 . obtain⟨st2,ok2,sub,na⟩:=jA st ok (by omega) hS
   exact⟨_,d,S',w,st2,ok2,cW sub hd r⟩
section
variable {Ω : Wd}
def Bl.fza(b:Bl Ω):Bl Ω where
 lev:=b.lev
 chk:=b.chk
 wp Γ S W:=b.wp Γ S {W with nx:=wL S.length W.nx}
 sound:=by
  intro X r top N nm sts Γ S W A hl hc hw pins s σ H O I env ok
  refine thn (b.sound A hl hc hw pins s σ H O I env ok) λ f s' q=>?_
  cases f with
  | next=>obtain⟨σ,H',I,q⟩:=q;exact⟨σ,H',I,QN.frzJ ok.len q⟩
  | brk=>exact q
  | cont=>exact q
  | ret u=>exact q
def Bl.drp(b:Bl Ω):Bl Ω where
 lev:=b.lev
 chk:=b.chk
 wp Γ S W:=b.wp Γ S {W with rt:=Drp S.length W.rt}
 sound:=by
  intro X r top N nm sts Γ S W A hl hc hw pins s σ H O I env ok
  refine thn (b.sound A hl hc hw pins s σ H O I env ok) λ f s' q=>?_
  cases f with
  | next=>exact q
  | brk=>exact q
  | cont=>exact q
  | ret u=>obtain⟨v,σ',H',I',r,q⟩:=q;exact⟨v,σ',H',I',r,QG.drp ok.len q⟩
end
variable {v : Value} {c : Int × List Int} {b : Addr} {ns : List Int} {n : Nat} {Q : Bool -> Shared -> Prop}
def bw(h:Heap)(v:Value)(c:Int×List Int):Prop:=
 ∃b o k tk u,v=.ref b/\h.get? b=some o/\o.cls=.type "tuple"/\o.data=.seq #[.int c.1 tk,u] k/\bR h u c.2
theorem bw.keep{h h':Heap}(k:∀b o,h.get? b=some o->o.cls=.type "tuple"->h'.get? b=some o)(hc:bw h v c):bw h' v c:=by
 obtain⟨b,o,n,tk,u,e1,e2,e3,e4,b',o',xs,n',e5,e6,e7,e8,e9⟩:=hc
 exact⟨b,o,n,tk,u,e1,k _ _ e2 e3,e3,e4,b',o',xs,n',e5,k _ _ e6 e7,e7,e8,e9⟩
section
variable {prog : Program} {w : World} {A : Around} {E : Value -> Shared -> Prop} {s : Shared}
theorem j6:∀{vs:List Value}{ns:List Int},IntsAre vs ns->ItemsAre (intKind prog w) ns vs
 | _,_,.nil=>.nil
 | _,_,.cons n t r=>.cons (intKind_is _ _ _ _) (j6 r)
theorem qG{h:Heap}(ht:bR h (.ref b) ns):IsTupleKey (intKind prog w) h ns b:=by
 obtain⟨b',o,xs,k,e,e1,e2,e3,e4⟩:=ht
 cases e
 exact⟨o,xs,k,e1,e2,e3,j6 e4⟩
theorem ou:∀{vs:List Value}{ns ms:List Int},IntsAre vs ns->IntsAre vs ms->ns=ms
 | _,_,_,.nil,.nil=>rfl
 | _,_,_,.cons _ _ r,.cons _ _ r'=>by rw[ou r r']
theorem JP{h:Heap}{ms:List Int}(x:bR h v ns)(y:bR h v ms):ns=ms:=by
 obtain⟨b,o,xs,k,rfl,e1,e2,e3,e4⟩:=x
 obtain⟨b',o',xs',k',e,e1',e2',e3',e4'⟩:=y
 cases e
 obtain rfl:o=o':=Option.some.inj (e1.symm.trans e1')
 have e5:=e3.symm.trans e3'
 injection e5 with e5 _
 subst e5
 exact ou e4 e4'
def hC(prog:Program)(w:World)(c:Int×List Int):Int:=reduceHash (Builtin.Tuple.tupleHashOf [(intKind prog w).hash c.1,tupleKeyHash (intKind prog w) c.2])
theorem Ia{Q:Int->Shared->Prop}(hu:A.units+5<cLine)(hc:bw s.heap v c)(h:Q (hC prog w c) {s with toks:=s.toks+(c.2.length+3)}):wpAny (model prog w) A (pyHash v) Q E s:=by
 obtain⟨a,o,n,tk,u,rfl,ho,hcl,hd,hu'⟩:=hc
 have hT:s.TypeIs (.ref a) "tuple":=⟨o,ho,hcl⟩
 have hk:∀b,u=.ref b->IsTupleKey (intKind prog w) s.heap c.2 b:=λ b e=>qG (e▸hu')
 obtain⟨b,_,_,_,rfl,_⟩:=id hu'
 have hk:=hk b rfl
 unfold pyHash
 first | unfold pyHashByItsType | skip
 first | refine wpAny_bind (wpAny_cRoomFor_or (.inr (by omega)) ?_) | skip
 refine wpAny_bind (wpAny_specialOf hT F.slot_tuple_hash.lookup ?_)
 show wpAny _ _ (if(some (Value.builtin "tuple.__hash__")==some Value.none)=true then _ else _) Q E s
 rw[if_neg (by rw[beq_builtin_none];exact y6)]
 refine wpAny_bind (wpAny_specialOf hT F.slot_tuple_hash.lookup ?_)
 show wpAny _ _ (callSpecialIfBoundUnlessNone? (.ref a) "__hash__" _>>=_) Q E s
 refine wpAny_bind (wpAny_callSpecialIfBoundUnlessNone?_slot hT F.slot_tuple_hash (wpAny_call_entry F.slot_tuple_hash hT F.entry_tuple_hash ?_ (F.args_tuple_hash_1 _)))
 show wpAny _ _ (Builtin.Tuple.tupleItemsOf (.ref a)>>=_) _ _ s
 refine wpAny_bind (wpAny_tupleItemsOf ho hd ?_)
 refine wpAny_bind ?_
 rw[←Array.forIn_toList]
 refine wpAny_forIn_list _
  (λ rest (b':Array Int) s'=>∃n,s'={s with toks:=s.toks+n}/\((rest=[.int c.1 tk,.ref b]/\b'=#[]/\n=0)∨(rest=[.ref b]/\b'=#[(intKind prog w).hash c.1]/\n=1)∨(rest=[]/\n=c.2.length+2/\b'=#[(intKind prog w).hash c.1,tupleKeyHash (intKind prog w) c.2])))
  _ ?_ ?_ _ _ ⟨0,rfl,.inl ⟨rfl,rfl,rfl⟩⟩
 . rintro x rest b' s' ⟨n,rfl,⟨e,rfl,rfl⟩ | ⟨e,rfl,rfl⟩ | ⟨e,rfl,rfl⟩⟩
   . cases e
     refine wpAny_bind ((intKind prog w).pyHash (intKind_is _ _ _ _) ?_)
     first
      | exact wpAny_pure ⟨1,rfl,.inr (.inl ⟨rfl,rfl,rfl⟩)⟩
      | exact wpAny_bind (wpAny_pure (wpAny_pure ⟨1,rfl,.inr (.inl ⟨rfl,rfl,rfl⟩)⟩))
   . cases e
     refine wpAny_bind (wpAny_pyHash_tuple (knd:=intKind prog w) ?_ hk ?_)
     . show A.units+1<cLine
       omega
     . first
       | exact wpAny_pure ⟨1+(c.2.length+1),by simp[Nat.add_assoc],.inr (.inr ⟨rfl,by omega,rfl⟩)⟩
       | exact wpAny_bind (wpAny_pure (wpAny_pure ⟨1+(c.2.length+1),by simp[Nat.add_assoc],.inr (.inr ⟨rfl,by omega,rfl⟩)⟩))
   . cases e
 . rintro b' s' ⟨n,rfl,⟨e,rfl,rfl⟩ | ⟨e,rfl,rfl⟩ | ⟨e,rfl,rfl⟩⟩
   . cases e
   . cases e
   show wpAny _ _ (retInt (Builtin.Tuple.tupleHashOf [(intKind prog w).hash c.1,tupleKeyHash (intKind prog w) c.2])) _ _ _
   refine wpAny_ret_mkInt ?_
   show wpAny _ _ (if(decide (-(2:Int) ^ 63≤Builtin.Tuple.tupleHashOf _)&&decide (Builtin.Tuple.tupleHashOf _<2 ^ 63))=true then _ else _) Q E _
   unfold hC reduceHash at h
   split
   . rename_i hr
     rw[if_pos hr]at h
     exact wpAny_pure h
   . rename_i hr
     rw[if_neg hr]at h
     exact wpAny_bind (wpAny_rule (wpAny_pure h))
theorem yw{Q:Int->Shared->Prop}(hu:A.units+5<cLine)(hc:bw s.heap v c)(h:∀n,Q (hC prog w c) {s with toks:=s.toks+n}):wpAny (model prog w) A (pyHash v) Q E s:=Ia hu hc (h _)
theorem mV{h:Heap}(ht:bR h (.ref b) ns):∃o xs k,h.get? b=some o/\o.cls=.type "tuple"/\o.data=.seq xs k/\∀v∈xs.toList,∃i t,v=Value.int i t:=by
 obtain⟨b',o,xs,k,e,e1,e2,e3,e4⟩:=ht
 cases e
 refine⟨o,xs,k,e1,e2,e3,λ v hv=>?_⟩
 obtain⟨i,hi⟩:=List.getElem?_of_mem hv
 obtain⟨t,e⟩:=IntsAre.int_at e4 i v hi
 exact⟨_,t,e⟩
theorem lH(ht:bR s.heap (.ref b) ns)(h:Q true s):wpAny (model prog w) A (eqIsQuiet (n+1) (.ref b)) Q E s:=by
 obtain⟨o,xs,k,ho,hc,hd,hi⟩:=mV ht
 have hT:s.TypeIs (.ref b) "tuple":=⟨o,ho,hc⟩
 unfold eqIsQuiet
 refine wpAny_bind (wpAny_specialOf hT F.slot_tuple_eq.lookup ?_)
 show wpAny _ _ (isInstance (.ref b) (.type "tuple")>>=_) _ _ s
 refine wpAny_bind (wpAny_isInstance hT isSubtype_tuple_tuple ?_)
 simp only[Bool.not_true,Bool.false_eq_true,if_false]
 refine wpAny_bind (wpAny_seqItems ho hd ?_)
 refine wpAny_bind ?_
 show wpAny _ _ (forIn xs _ _) _ _ s
 rw[←Array.forIn_toList]
 refine wpAny_forIn_list _ (λ rest r s'=>r.1=none/\s'=s/\∀v∈rest,∃i t,v=Value.int i t) _ ?_ ?_ _ _ ⟨rfl,rfl,hi⟩
 . rintro v rest r s' ⟨hr,rfl,hall⟩
   obtain⟨i,t,rfl⟩:=hall v x6
   rw[eqIsQuiet_byValue _ (by rfl)]
   refine wpAny_bind (wpAny_pure ?_)
   simp only[Bool.not_true,Bool.false_eq_true,if_false]
   exact wpAny_pure ⟨rfl,rfl,λ u hu'=>hall u (x4 _ hu')⟩
 . rintro⟨r1,r2⟩ s' ⟨hr,rfl,_⟩
   simp only at hr
   subst hr
   exact wpAny_pure h
theorem uo(ht:bw s.heap (.ref b) c)(h:Q true s):wpAny (model prog w) A (eqIsQuiet (n+2) (.ref b)) Q E s:=by
 obtain⟨a,o,k,tk,u,e,ho,hc,hd,hu'⟩:=ht
 cases e
 obtain⟨b',_,_,_,rfl,_⟩:=id hu'
 have hT:s.TypeIs (.ref b) "tuple":=⟨o,ho,hc⟩
 unfold eqIsQuiet
 refine wpAny_bind (wpAny_specialOf hT F.slot_tuple_eq.lookup ?_)
 show wpAny _ _ (isInstance (.ref b) (.type "tuple")>>=_) _ _ s
 refine wpAny_bind (wpAny_isInstance hT isSubtype_tuple_tuple ?_)
 simp only[Bool.not_true,Bool.false_eq_true,if_false]
 refine wpAny_bind (wpAny_seqItems ho hd ?_)
 refine wpAny_bind ?_
 show wpAny _ _ (forIn #[Value.int c.1 tk,.ref b'] _ _) _ _ s
 rw[←Array.forIn_toList]
 refine wpAny_forIn_list _ (λ rest r s'=>r.1=none/\s'=s/\∀v∈rest,v=Value.int c.1 tk∨v=.ref b') _ ?_ ?_ _ _ ⟨rfl,rfl,by simp⟩
 . rintro v rest r s' ⟨hr,rfl,hall⟩
   rcases hall v x6 with rfl | rfl
   . rw[eqIsQuiet_byValue _ (by rfl)]
     refine wpAny_bind (wpAny_pure ?_)
     simp only[Bool.not_true,Bool.false_eq_true,if_false]
     exact wpAny_pure ⟨rfl,rfl,λ u hu'=>hall u (x4 _ hu')⟩
   . refine wpAny_bind (lH hu' ?_)
     simp only[Bool.not_true,Bool.false_eq_true,if_false]
     exact wpAny_pure ⟨rfl,rfl,λ u hu'=>hall u (x4 _ hu')⟩
 . rintro⟨r1,r2⟩ s' ⟨hr,rfl,_⟩
   simp only at hr
   subst hr
   exact wpAny_pure h
theorem CG(n:Nat)(i:Int)(t:Tok):hashByValue n (.int i t)=pure true:=by cases n<;>rfl
theorem Bu(ht:bR s.heap (.ref b) ns)(h:Q true s):wpAny (model prog w) A (hashByValue (n+1) (.ref b)) Q E s:=by
 obtain⟨o,xs,k,ho,hc,hd,hi⟩:=mV ht
 have hT:s.TypeIs (.ref b) "tuple":=⟨o,ho,hc⟩
 unfold hashByValue
 refine wpAny_bind (wpAny_specialOf hT F.slot_tuple_hash.lookup ?_)
 show wpAny _ _ (seqItems? (.ref b)>>=_) _ _ s
 refine wpAny_bind (wpAny_seqItems ho hd ?_)
 refine wpAny_bind ?_
 show wpAny _ _ (forIn xs _ _) _ _ s
 rw[←Array.forIn_toList]
 refine wpAny_forIn_list _ (λ rest r s'=>r.1=none/\s'=s/\∀v∈rest,∃i t,v=Value.int i t) _ ?_ ?_ _ _ ⟨rfl,rfl,hi⟩
 . rintro v rest r s' ⟨hr,rfl,hall⟩
   obtain⟨i,t,rfl⟩:=hall v x6
   rw[CG]
   refine wpAny_bind (wpAny_pure ?_)
   simp only[Bool.not_true,Bool.false_eq_true,if_false]
   exact wpAny_pure ⟨rfl,rfl,λ u hu'=>hall u (x4 _ hu')⟩
 . rintro⟨r1,r2⟩ s' ⟨hr,rfl,_⟩
   simp only at hr
   subst hr
   exact wpAny_pure h
theorem sZ(ht:bw s.heap (.ref b) c)(h:Q true s):wpAny (model prog w) A (hashByValue (n+2) (.ref b)) Q E s:=by
 obtain⟨a,o,k,tk,u,e,ho,hc,hd,hu'⟩:=ht
 cases e
 obtain⟨b',_,_,_,rfl,_⟩:=id hu'
 have hT:s.TypeIs (.ref b) "tuple":=⟨o,ho,hc⟩
 unfold hashByValue
 refine wpAny_bind (wpAny_specialOf hT F.slot_tuple_hash.lookup ?_)
 show wpAny _ _ (seqItems? (.ref b)>>=_) _ _ s
 refine wpAny_bind (wpAny_seqItems ho hd ?_)
 refine wpAny_bind ?_
 show wpAny _ _ (forIn #[Value.int c.1 tk,.ref b'] _ _) _ _ s
 rw[←Array.forIn_toList]
 refine wpAny_forIn_list _ (λ rest r s'=>r.1=none/\s'=s/\∀v∈rest,v=Value.int c.1 tk∨v=.ref b') _ ?_ ?_ _ _ ⟨rfl,rfl,by simp⟩
 . rintro v rest r s' ⟨hr,rfl,hall⟩
   rcases hall v x6 with rfl | rfl
   . rw[CG]
     refine wpAny_bind (wpAny_pure ?_)
     simp only[Bool.not_true,Bool.false_eq_true,if_false]
     exact wpAny_pure ⟨rfl,rfl,λ u hu'=>hall u (x4 _ hu')⟩
   . refine wpAny_bind (Bu hu' ?_)
     simp only[Bool.not_true,Bool.false_eq_true,if_false]
     exact wpAny_pure ⟨rfl,rfl,λ u hu'=>hall u (x4 _ hu')⟩
 . rintro⟨r1,r2⟩ s' ⟨hr,rfl,_⟩
   simp only at hr
   subst hr
   exact wpAny_pure h
theorem BX(n:Nat)(i:Int)(t:Tok):ofAClassStatement n (.int i t)=pure false:=by cases n<;>rfl
theorem rB(ht:bR s.heap (.ref b) ns)(h:Q false s):wpAny (model prog w) A (ofAClassStatement (n+1) (.ref b)) Q E s:=by
 obtain⟨o,xs,k,ho,hc,hd,hi⟩:=mV ht
 have hT:s.TypeIs (.ref b) "tuple":=⟨o,ho,hc⟩
 unfold ofAClassStatement
 refine wpAny_bind (wpAny_typeOf hT ?_)
 show wpAny _ _ ((pure true:Sem Bool)>>=_) _ _ s
 refine wpAny_bind (wpAny_pure ?_)
 simp only[Bool.not_true,Bool.false_eq_true,if_false]
 refine wpAny_bind (wpAny_seqItems ho hd ?_)
 refine wpAny_bind ?_
 show wpAny _ _ (forIn xs _ _) _ _ s
 rw[←Array.forIn_toList]
 refine wpAny_forIn_list _ (λ rest r s'=>r.1=none/\s'=s/\∀v∈rest,∃i t,v=Value.int i t) _ ?_ ?_ _ _ ⟨rfl,rfl,hi⟩
 . rintro v rest r s' ⟨hr,rfl,hall⟩
   obtain⟨i,t,rfl⟩:=hall v x6
   rw[BX]
   refine wpAny_bind (wpAny_pure ?_)
   simp only[Bool.false_eq_true,if_false]
   exact wpAny_pure ⟨rfl,rfl,λ u hu'=>hall u (x4 _ hu')⟩
 . rintro⟨r1,r2⟩ s' ⟨hr,rfl,_⟩
   simp only at hr
   subst hr
   exact wpAny_pure h
theorem Br(ht:bw s.heap (.ref b) c)(h:Q false s):wpAny (model prog w) A (ofAClassStatement (n+2) (.ref b)) Q E s:=by
 obtain⟨a,o,k,tk,u,e,ho,hc,hd,hu'⟩:=ht
 cases e
 obtain⟨b',_,_,_,rfl,_⟩:=id hu'
 have hT:s.TypeIs (.ref b) "tuple":=⟨o,ho,hc⟩
 unfold ofAClassStatement
 refine wpAny_bind (wpAny_typeOf hT ?_)
 show wpAny _ _ ((pure true:Sem Bool)>>=_) _ _ s
 refine wpAny_bind (wpAny_pure ?_)
 simp only[Bool.not_true,Bool.false_eq_true,if_false]
 refine wpAny_bind (wpAny_seqItems ho hd ?_)
 refine wpAny_bind ?_
 show wpAny _ _ (forIn #[Value.int c.1 tk,.ref b'] _ _) _ _ s
 rw[←Array.forIn_toList]
 refine wpAny_forIn_list _ (λ rest r s'=>r.1=none/\s'=s/\∀v∈rest,v=Value.int c.1 tk∨v=.ref b') _ ?_ ?_ _ _ ⟨rfl,rfl,by simp⟩
 . rintro v rest r s' ⟨hr,rfl,hall⟩
   rcases hall v x6 with rfl | rfl
   . rw[BX]
     refine wpAny_bind (wpAny_pure ?_)
     simp only[Bool.false_eq_true,if_false]
     exact wpAny_pure ⟨rfl,rfl,λ u hu'=>hall u (x4 _ hu')⟩
   . refine wpAny_bind (rB hu' ?_)
     simp only[Bool.false_eq_true,if_false]
     exact wpAny_pure ⟨rfl,rfl,λ u hu'=>hall u (x4 _ hu')⟩
 . rintro⟨r1,r2⟩ s' ⟨hr,rfl,_⟩
   simp only at hr
   subst hr
   exact wpAny_pure h
theorem Kq{x:Value}{ys:List Value}(hx:bw s.heap x c)(hy:∀y∈ys,∃d,bw s.heap y d)(h:Q false s):wpAny (model prog w) A (searchCouldBeSeen x ys) Q E s:=by
 have hx0:=hx
 obtain⟨a,_,_,_,_,rfl,_⟩:=hx
 unfold searchCouldBeSeen
 refine wpAny_bind ?_
 refine wpAny_forIn_list _ (λ rest r s'=>r.1=none/\s'=s/\∀v∈rest,∃d,bw s.heap v d) _ ?_ ?_ _ _ ⟨rfl,rfl,hy⟩
 . rintro v rest r s' ⟨hr,rfl,hall⟩
   obtain⟨d,hd⟩:=hall v x6
   have hd0:=hd
   obtain⟨b,_,_,_,_,rfl,_⟩:=hd
   have tl:∀v∈rest,∃d,bw s'.heap v d:=λ u hu'=>hall u (x4 _ hu')
   dsimp only
   split
   . exact wpAny_pure ⟨rfl,rfl,tl⟩
   . refine wpAny_bind (uo hx0 ?_)
     simp only[Bool.not_true,Bool.false_eq_true,if_false]
     refine wpAny_bind (uo hd0 ?_)
     simp only[Bool.not_true,Bool.false_eq_true,if_false]
     refine wpAny_bind (Br hx0 ?_)
     simp only[Bool.false_eq_true,if_false]
     refine wpAny_bind (Br hd0 ?_)
     simp only[Bool.false_eq_true,if_false]
     exact wpAny_pure ⟨rfl,rfl,tl⟩
 . rintro⟨r1,r2⟩ s' ⟨hr,rfl,_⟩
   simp only at hr
   subst hr
   exact wpAny_pure h
theorem oV{u:Value}{ms:List Int}(hu:A.units<cLine)(hx:bR s.heap u ns)(hy:bR s.heap v ms):SeqAt.EqAt A s u v (decide (ns=ms)):=by
 intro prog w E Q h
 obtain⟨a,_,_,_,rfl,_⟩:=id hx
 obtain⟨b,_,_,_,rfl,_⟩:=id hy
 exact wpAny_eqBool_tuple (knd:=intKind prog w) hu (qG hx) (qG hy) h
theorem Lf{u:Value}{d:Int×List Int}(hu:A.units+2<cLine)(hx:bw s.heap u c)(hy:bw s.heap v d):SeqAt.EqAt A s u v (decide (c=d)):=by
 obtain⟨a,o,k,tk,u,rfl,ho,hc,hd,hu'⟩:=hx
 obtain⟨a2,o2,k2,tk2,u2,rfl,ho2,hc2,hd2,hu2⟩:=hy
 by_cases e:a=a2
 . subst e
   obtain rfl:o=o2:=Option.some.inj (ho.symm.trans ho2)
   have e1:=hd.symm.trans hd2
   injection e1 with e1 _
   have e2:[Value.int c.1 tk,u]=[Value.int d.1 tk2,u2]:=congrArg Array.toList e1
   injection e2 with e3 e4
   injection e3 with e3 _
   injection e4 with e4 _
   subst e4
   obtain⟨b,_,_,_,rfl,_⟩:=id hu'
   have e5:c.2=d.2:=JP hu' hu2
   have e6:c=d:=Prod.ext e3 e5
   rw[decide_eq_true e6]
   exact SeqAt.EqAt.same _
 . have key:=SeqAt.RcAt.tuples (A:=A) (s:=s) (e:=λ j=>if j=0 then decide (c.1=d.1)else decide (c.2=d.2)) ⟨o,ho,hc,k,hd⟩ ⟨o2,ho2,hc2,k2,hd2⟩ (by omega) (λ j h1 h2=>by
    match j,h1,h2 with
    | 0,_,_=>
      have:=SeqAt.EqAt.int_int (A:=A.in1) (s:=s) c.1 tk d.1 tk2
      rw[show(c.1==d.1)=decide (c.1=d.1)from by rw[Bool.eq_iff_iff];simp]at this
      exact this
    | 1,_,_=>exact oV (by show A.units+1<_;omega) hu' hu2
    | j+2,h1,_=>exact absurd h1 (by simp))
   have e2:((List.range (min #[Value.int c.1 tk,u].size #[Value.int d.1 tk2,u2].size)).all (λ j=>if j=0 then decide (c.1=d.1)else decide (c.2=d.2))&&#[Value.int c.1 tk,u].size==#[Value.int d.1 tk2,u2].size)=decide (c=d):=by
    rw[Bool.eq_iff_iff]
    simp[List.range_succ,Prod.ext_iff]
   rw[e2]at key
   exact SeqAt.EqAt.of_refs e key
end
end RF
namespace RF
open PySem PySem.Spec L2 DL
open PyProof.Rows
variable {ps : List Nat} {j0 ep : Nat} {h : Int} {a : Addr} {v v0 : Value} {c c0 : Int × List Int}
abbrev tbl(led:Bool)(ps:List Nat):SetTable:={mask:=7,place:=ps.toArray,dummies:=#[],finger:=0,led:=led,moves:=0,plain:=true}
abbrev cg(led:Bool)(es:List (Int×Value))(ps:List Nat)(ep:Nat):Obj:={cls:=.type "set",dict:=none,data:=.set es.toArray ep (tbl led ps),slots:=#[]}
theorem qL(j0 j:Nat):SetTable.below #[j0] j=if j0<j then 1 else 0:=by
 simp[SetTable.below,SetTable.below.go]
theorem pH(led:Bool)(j0 j:Nat):(tbl led [j0]).slot j=if j=j0 then .live 0 else .empty:=by
 unfold SetTable.slot
 show(if(#[j0][SetTable.below #[j0] j]? ==some j)=true then SetTable.Slot.live (SetTable.below #[j0] j)else if SetTable.has #[] j=true then .dummy else .empty)=_
 rw[qL]
 by_cases h:j=j0
 . subst h
   rw[if_neg (Nat.lt_irrefl _),if_pos rfl,if_pos (by simp)]
 . rw[if_neg h]
   have hd:SetTable.has #[] j=false:=rfl
   rw[hd]
   by_cases h2:j0<j
   . rw[if_pos h2];simp
   . rw[if_neg h2]
     have:¬j0=j:=λ e=>h e.symm
     simp[this]
structure Std(p:SetTable.Probe)(k:Nat):Prop where
 ji:p.j=p.i
 lt:p.i<8
 more:p.more=0
 dummy:p.dummy=none
 small:p.perturb<32 ^ k
theorem JZ(i:Nat):SetTable.runEnd 7 i=i:=by unfold SetTable.runEnd;rw[if_neg (by omega)]
theorem t7(led:Bool)(ps:List Nat)(h:Int):Std ((tbl led ps).probeStart h) 13:=by
 have hb:SetTable.bits h<2 ^ 64:=by
  unfold SetTable.bits
  have h1:=Int.emod_nonneg h (b:=2 ^ 64) (by decide)
  have h2:=Int.emod_lt_of_pos h (b:=2 ^ 64) (by decide)
  omega
 refine⟨rfl,Nat.mod_lt _ (Nat.succ_pos _),?_,rfl,?_⟩
 . show SetTable.runEnd 7 _-_=0
   rw[JZ];omega
 . show SetTable.bits h<32 ^ 13
   exact w9 hb (by decide)
theorem yg{led:Bool}{p:SetTable.Probe}{k:Nat}(s:Std p (k+1)):Std ((tbl led ps).advance p) k:=by
 unfold SetTable.advance
 rw[if_neg (by rw[s.more];exact Nat.lt_irrefl _)]
 refine⟨rfl,Nat.mod_lt _ (Nat.succ_pos _),?_,s.dummy,?_⟩
 . show SetTable.runEnd 7 _-_=0
   rw[JZ];omega
 . show p.perturb/32<32 ^ k
   have:=s.small
   rw[Nat.pow_succ]at this
   exact Nat.div_lt_of_lt_mul (by omega)
theorem xm{led:Bool}{p:SetTable.Probe}(s:Std p 0):Std ((tbl led ps).advance p) 0/\((tbl led ps).advance p).j≠p.j:=by
 have hp:p.perturb=0:=by have:=s.small;simpa using this
 unfold SetTable.advance
 rw[if_neg (by rw[s.more];exact Nat.lt_irrefl _)]
 refine⟨⟨rfl,Nat.mod_lt _ (Nat.succ_pos _),?_,s.dummy,?_⟩,?_⟩
 . show SetTable.runEnd 7 _-_=0
   rw[JZ];omega
 . show p.perturb/32<32 ^ 0
   rw[hp];decide
 . show(p.i*5+1+p.perturb/32) % (7+1)≠p.j
   rw[s.ji,hp]
   have:=s.lt
   omega
theorem jt{led:Bool}{n:Nat}{hs:Nat->Int}{p:SetTable.Probe}(hj:p.j≠j0):SetTable.probe.go (tbl led [j0]) hs h (n+1) p=some (.empty p.j p.dummy):=by
 unfold SetTable.probe.go
 rw[pH,if_neg hj]
theorem jh{led:Bool}{n:Nat}{hs:Nat->Int}{p:SetTable.Probe}(hj:p.j=j0):SetTable.probe.go (tbl led [j0]) hs h (n+1) p=if hs 0==h then some (.candidate p.j 0 ((tbl led [j0]).advance p))else SetTable.probe.go (tbl led [j0]) hs h n ((tbl led [j0]).advance p):=by
 conv=>lhs;unfold SetTable.probe.go
 rw[pH,if_pos hj]
theorem xP{led:Bool}{j0:Nat}{hs:Nat->Int}{h:Int}(hne:(hs 0==h)=false):∀(k n:Nat)(p:SetTable.Probe),Std p k->k+2≤n->∃j,j≠j0/\j<8/\SetTable.probe.go (tbl led [j0]) hs h n p=some (.empty j none)
 | k,0,p,s,hn=>by omega
 | 0,n+1,p,s,hn=>by
   by_cases hj:p.j=j0
   . obtain⟨s1,ne⟩:=xm (led:=led) (ps:=[j0]) s
     obtain⟨m,rfl⟩:∃m,n=m+1:=⟨n-1,by omega⟩
     refine⟨((tbl led [j0]).advance p).j,by rw[←hj];exact ne,by rw[s1.ji];exact s1.lt,?_⟩
     rw[jh hj,hne]
     show SetTable.probe.go _ _ _ _ _=_
     rw[jt (by rw[←hj];exact ne),s1.dummy]
   . exact⟨p.j,hj,by rw[s.ji];exact s.lt,by rw[jt hj,s.dummy]⟩
 | k +1,n+1,p,s,hn=>by
   by_cases hj:p.j=j0
   . obtain⟨j,h1,h2,h3⟩:=xP hne k n _ (yg (led:=led) (ps:=[j0]) s) (by omega)
     refine⟨j,h1,h2,?_⟩
     rw[jh hj,hne]
     exact h3
   . exact⟨p.j,hj,by rw[s.ji];exact s.lt,by rw[jt hj,s.dummy]⟩
theorem K1{led:Bool}{hs:Nat->Int}{n:Nat}{p:SetTable.Probe}(hne:(hs 0==h)=false):SetTable.probe.go (tbl led [j0]) hs h n p=SetTable.probe.go (tbl led [j0]) (λ _=>h+1) h n p:=by
 induction n generalizing p with
 | zero=>rfl
 | succ n ih=>
   by_cases hj:p.j=j0
   . have h1:(h+1==h)=false:=by simp;omega
     rw[jh hj,jh hj,hne,h1]
     exact ih
   . rw[jt hj,jt hj]
section
variable {prog : Program} {w : World} {A : Around} {E : Value -> Shared -> Prop} {s : Shared}
theorem gU{led:Bool}{es:List (Int×Value)}(h:ps.length=es.length)(h7:ps.length≤7):(tbl led ps).fits es.toArray.size=true:=by
 unfold SetTable.fits SetTable.fill
 simp[h]
 omega
theorem bW{led:Bool}{es:List (Int×Value)}{Q:(Array (Int×Value)×Nat×SetTable)->Shared->Prop}(ho:s.heap.get? a=some (cg led es ps ep))(h:ps.length=es.length)(h7:ps.length≤7)(hq:Q (es.toArray,ep,tbl led ps) s):
 wpAny (model prog w) A (setState a) Q E s:=wpAny_setState_of ho rfl (gU h h7) hq
theorem pL{M:Model}{b:Addr}{Q:Bool->Shared->Prop}(h:Q true s):wpAny M A (isSame (.ref b) (.ref b)) Q E s:=by
 unfold isSame
 dsimp only
 rw[if_pos (beq_self_eq_true b)]
 exact wpAny_pure h
theorem iH{led:Bool}{m:Nat}{st:Option SetTable.Probe}{Q:SetFound->Shared->Prop}(hu:A.units+2<cLine)(ho:s.heap.get? a=some (cg led [(h,v0)] [j0] ep))(hv:bw s.heap v c)(hv0:bw s.heap v0 c0)
 (hd:(st.getD ((tbl led [j0]).probeStart h)).dummy=none)
 (h0:(st.getD ((tbl led [j0]).probeStart h)).j≠j0->Q (.free (st.getD ((tbl led [j0]).probeStart h)).j false) s)
 (h1:c=c0->Q (.there none) s)
 (h2:c≠c0->(st.getD ((tbl led [j0]).probeStart h)).j=j0->wpAny (model prog w) A (setSearchFrom a v h true m (some ((tbl led [j0]).advance (st.getD ((tbl led [j0]).probeStart h))))) Q E s):
 wpAny (model prog w) A (setSearchFrom a v h true (m+1) st) Q E s:=by
 have hv1:=hv0
 obtain⟨b0,_,_,_,_,rfl,_⟩:=hv1
 have state:∀{Q:(Array (Int×Value)×Nat×SetTable)->Shared->Prop},Q ([(h,Value.ref b0)].toArray,ep,tbl led [j0]) s->wpAny (model prog w) A (setState a) Q E s:=λ hq=>bW ho rfl (Nat.le_of_ble_eq_true rfl) hq
 unfold setSearchFrom
 refine wpAny_bind (state ?_)
 dsimp only
 rw[if_neg (show ¬(SetTable.gaveWay (tbl led [j0])=true)from by simp[SetTable.gaveWay])]
 unfold SetTable.probe
 rw[show 10*SetTable.turns (tbl led [j0]).mask=219+1 from rfl]
 by_cases hj:(st.getD ((tbl led [j0]).probeStart h)).j=j0
 . rw [jh hj,if_pos (by show(h==h)=true;exact beq_self_eq_true h)]
   dsimp only
   have hs:∀y∈List.map (λ x:Int×Value=>x.2) (Array.filter (λ x=>x.fst==h) #[(h,Value.ref b0)]).toList,∃d,bw s.heap y d:=by
    intro y hy
    rw[List.mem_map]at hy
    obtain⟨e,he,rfl⟩:=hy
    have:e∈#[(h,Value.ref b0)]:=(Array.mem_filter.mp (Array.mem_toList_iff.mp he)).1
    have:e=(h,Value.ref b0):=by simpa using this
    subst this
    exact⟨c0,hv0⟩
   have eqq:SeqAt.EqAt A s (Value.ref b0) v (decide (c0=c)):=Lf hu hv0 hv
   have slq:(tbl led [j0]).slot (st.getD ((tbl led [j0]).probeStart h)).j=.live 0:=by rw[pH,if_pos hj]
   cases led
   . rw[if_pos (show(!false)=true from rfl)]
     refine wpAny_bind (Kq hv hs ?_)
     rw[if_neg y6]
     have e0:#[(h,Value.ref b0)][0]? =some (h,Value.ref b0):=rfl
     rw[e0]
     dsimp only
     refine wpAny_bind (wpAny_holding (eqq prog w E _ ?_))
     refine wpAny_bind (state ?_)
     by_cases ec:c0=c
     . rw[decide_eq_true ec]
       exact wpAny_pure (h1 ec.symm)
     . rw[decide_eq_false ec]
       dsimp only
       rw[if_neg (show ¬((true&&false)=true)from y6)]
       have e1:SetTable.sameMemory (tbl false [j0]) 0 7=some true:=rfl
       rw[e1]
       dsimp only
       rw[if_pos rfl,slq]
       dsimp only
       rw[e0]
       dsimp only
       refine wpAny_bind (pL ?_)
       refine wpAny_bind (wpAny_pure ?_)
       exact h2 (λ e=>ec e.symm) hj
   . rw[if_neg (show ¬(!true)=true from y6)]
     have e0:#[(h,Value.ref b0)][0]? =some (h,Value.ref b0):=rfl
     rw[e0]
     dsimp only
     refine wpAny_bind (wpAny_holding (eqq prog w E _ ?_))
     refine wpAny_bind (state ?_)
     by_cases ec:c0=c
     . rw[decide_eq_true ec]
       exact wpAny_pure (h1 ec.symm)
     . rw[decide_eq_false ec]
       dsimp only
       rw[if_neg (show ¬((true&&false)=true)from y6)]
       have e1:SetTable.sameMemory (tbl true [j0]) 0 7=some true:=rfl
       rw[e1]
       dsimp only
       rw[if_pos rfl,slq]
       dsimp only
       rw[e0]
       dsimp only
       refine wpAny_bind (pL ?_)
       refine wpAny_bind (wpAny_pure ?_)
       exact h2 (λ e=>ec e.symm) hj
 . rw[jt hj,hd]
   dsimp only
   exact wpAny_pure (h0 hj)
theorem zO{led:Bool}{Q:SetFound->Shared->Prop}(hu:A.units+2<cLine)(ho:s.heap.get? a=some (cg led [(h,v0)] [j0] ep))(hv:bw s.heap v c)(hv0:bw s.heap v0 c0)
 (h1:c=c0->Q (.there none) s)(h2:c≠c0->∀j,j≠j0->j<8->Q (.free j false) s)(ne:c=c0->((tbl led [j0]).probeStart h).j=j0):
 ∀(k fuel:Nat)(st:Option SetTable.Probe),Std (st.getD ((tbl led [j0]).probeStart h)) k->(st.isSome=true->c≠c0)->k+2≤fuel->wpAny (model prog w) A (setSearchFrom a v h true fuel st) Q E s:=by
 intro k
 induction k with
 | zero=>
   intro fuel st sd hst hf
   obtain⟨m,rfl⟩:∃m,fuel=m+1+1:=⟨fuel-2,by omega⟩
   refine iH hu ho hv hv0 sd.dummy (λ hj=>?_) h1 λ nc hj=>?_
   . by_cases ec:c=c0
     . cases st with
       | none=>exact absurd (ne ec) hj
       | some p=>exact absurd ec (hst rfl)
     . exact h2 ec _ hj (by rw[sd.ji];exact sd.lt)
   . obtain⟨s1,ne⟩:=xm (led:=led) (ps:=[j0]) sd
     rw[hj]at ne
     exact iH hu ho hv hv0 s1.dummy (λ hj=>h2 nc _ hj (by rw[Option.getD_some,s1.ji];exact s1.lt)) h1 λ _ hj=>absurd hj ne
 | succ k ih=>
   intro fuel st sd hst hf
   obtain⟨m,rfl⟩:∃m,fuel=m+1:=⟨fuel-1,by omega⟩
   refine iH hu ho hv hv0 sd.dummy (λ hj=>?_) h1 λ nc hj=>?_
   . by_cases ec:c=c0
     . cases st with
       | none=>exact absurd (ne ec) hj
       | some p=>exact absurd ec (hst rfl)
     . exact h2 ec _ hj (by rw[sd.ji];exact sd.lt)
   . exact ih m _ (yg sd) (λ _=>nc) (by omega)
theorem zT{led:Bool}{h0:Int}{Q:SetFound->Shared->Prop}(hu:A.units+2<cLine)(hj0:j0=SetTable.bits h0 % 8)(hh:c=c0->h0=h)(ho:s.heap.get? a=some (cg led [(h0,v0)] [j0] ep))(hv:bw s.heap v c)(hv0:bw s.heap v0 c0)
 (h1:c=c0->Q (.there none) s)(h2:c≠c0->∀j,j≠j0->j<8->Q (.free j false) s):wpAny (model prog w) A (setSearch a v h true) Q E s:=by
 unfold setSearch
 generalize hf:(100000:Nat)=fuel
 by_cases he:h0=h
 . subst he
   exact zO hu ho hv hv0 h1 h2 (λ _=>hj0.symm) 13 fuel none (t7 _ _ _) (λ h=>nomatch h) (by omega)
 . have nc:c≠c0:=λ e=>he (hh e)
   obtain⟨m,rfl⟩:∃m,fuel=m+1:=⟨fuel-1,by omega⟩
   unfold setSearchFrom
   refine wpAny_bind (bW ho rfl (Nat.le_of_ble_eq_true rfl) ?_)
   dsimp only
   rw[if_neg (show ¬(SetTable.gaveWay (tbl led [j0])=true)from by simp[SetTable.gaveWay])]
   unfold SetTable.probe
   rw[K1 (by show(h0==h)=false;simpa using he)]
   obtain⟨j,h3,h4,h5⟩:=xP (led:=led) (j0:=j0) (hs:=λ _=>h+1) (h:=h) (by simp;omega) 13 (10*SetTable.turns (tbl led [j0]).mask) _ (t7 led [j0] h) (by show 15≤220;decide)
   simp only[Option.getD_none]
   rw[h5]
   exact wpAny_pure (h2 nc j h3 h4)
theorem Eu{led:Bool}{Q:SetFound->Shared->Prop}(ho:s.heap.get? a=some (cg led [] [] ep))
 (h1:Q (.free (SetTable.bits h % 8) false) s):wpAny (model prog w) A (setSearch a v h true) Q E s:=by
 unfold setSearch
 generalize hf:(100000:Nat)=fuel
 obtain⟨m,rfl⟩:∃m,fuel=m+1:=⟨fuel-1,by omega⟩
 unfold setSearchFrom
 refine wpAny_bind (bW ho rfl (Nat.zero_le _) ?_)
 dsimp only
 rw[if_neg (show ¬(SetTable.gaveWay (tbl led [])=true)from by simp[SetTable.gaveWay])]
 exact wpAny_pure h1
theorem lF{led:Bool}{es:List (Int×Value)}{es':List (Int×Value)}{ps':List Nat}{Q:Unit->Shared->Prop}(ho:s.heap.get? a=some (cg led es ps ep))(hz:es'.length≤7)
 (h:∀h',Heap.SameBut a s.heap h'->h'.get? a=some (cg led es' ps' (ep+1))->Q () {s with heap:=h'}):wpAny (model prog w) A (storeSet a es'.toArray (tbl led ps')) Q E s:=by
 refine wpAny_storeSet_of ho rfl (h _ (Heap.SameBut.update s.heap a _) ?_) (Nat.le_trans (by rw[x5];exact hz) (by decide:7≤sizeLine))
 have:=Heap.get?_update_self (Obj.putSet es'.toArray (tbl led ps')) ho (by rw[putSet_of _ _ rfl];rfl)
 rw[putSet_of _ _ rfl]at this
 exact this
theorem NK{led:Bool}{Q:Bool->Shared->Prop}(hu:A.units+5<cLine)(ho:s.heap.get? a=some (cg led [] [] ep))(hv:bw s.heap v c)
 (h:∀h' tk b,Heap.SameBut a s.heap h'->h'.get? a=some (cg led [(hC prog w c,v)] [SetTable.bits (hC prog w c) % 8] (ep+1))->Q b {s with heap:=h',toks:=s.toks+tk}):
 wpAny (model prog w) A (setAdd a v) Q E s:=by
 unfold setAdd
 refine wpAny_holding (wpAny_bind (yw hu hv λ n=>?_))
 unfold setAddHashed
 refine wpAny_holding ?_
 generalize hf:(100000:Nat)=fuel
 obtain⟨m,rfl⟩:∃m,fuel=m+1:=⟨fuel-1,by omega⟩
 unfold setAddHashedIn
 refine wpAny_bind (bW (s:={s with toks:=s.toks+n}) ho rfl (Nat.zero_le _) ?_)
 have hv1:=hv
 obtain⟨b0,_,_,_,_,rfl,_⟩:=hv1
 dsimp only
 rw[if_neg (show ¬(byScan (.ref b0) _=true)from y6)]
 refine wpAny_bind (Eu (s:={s with toks:=s.toks+n}) ho ?_)
 dsimp only
 refine wpAny_bind (bW (s:={s with toks:=s.toks+n}) ho rfl (Nat.zero_le _) ?_)
 have e1:(tbl led []).put (SetTable.bits (hC prog w c) % 8)=(tbl led [SetTable.bits (hC prog w c) % 8],0):=rfl
 rw[e1]
 dsimp only
 rw[if_pos rfl]
 refine wpAny_bind (sZ (s:={s with toks:=s.toks+n}) (n:=6) hv ?_)
 rw[if_pos rfl]
 refine wpAny_bind (lF (s:={s with toks:=s.toks+n}) (es':=[(hC prog w c,Value.ref b0)]) ho (by simp) λ h' k1 k2=>?_)
 rw[if_neg (by simp[SetTable.tooFull,SetTable.fill])]
 exact wpAny_pure (h h' n true k1 k2)
theorem Pn(led:Bool)(j0 j:Nat)(hj:j≠j0):(tbl led [j0]).put j=if j0<j then(tbl led [j0,j],1)else(tbl led [j,j0],0):=by
 unfold SetTable.put
 show((⟨7,SetTable.insertAt #[j0] (SetTable.below #[j0] j) j,if SetTable.has #[] j=true then _ else #[],0,led,0,true⟩:SetTable),SetTable.below #[j0] j)=_
 rw[if_neg (show ¬SetTable.has #[] j=true from y6),qL]
 by_cases h:j0<j
 . rw[if_pos h,if_pos h];rfl
 . rw[if_neg h,if_neg h];rfl
theorem Py{led:Bool}{Q:Bool->Shared->Prop}(hu:A.units+5<cLine)(ho:s.heap.get? a=some (cg led [(hC prog w c0,v0)] [SetTable.bits (hC prog w c0) % 8] ep))(hv:bw s.heap v c)(hv0:bw s.heap v0 c0)
 (h1:c=c0->∀tk b,Q b {s with toks:=s.toks+tk})
 (h2:c≠c0->∀h' tk b es ps,Heap.SameBut a s.heap h'->h'.get? a=some (cg led es ps (ep+1))->(∃e1 e2 v1 v2 j1 j2,es=[(e1,v1),(e2,v2)]/\ps=[j1,j2]/\j1<j2/\j2<8/\(v1=v0/\v2=v∨v1=v/\v2=v0))->Q b {s with heap:=h',toks:=s.toks+tk}):
 wpAny (model prog w) A (setAdd a v) Q E s:=by
 unfold setAdd
 refine wpAny_holding (wpAny_bind (yw hu hv λ n=>?_))
 unfold setAddHashed
 refine wpAny_holding ?_
 generalize hf:(100000:Nat)=fuel
 obtain⟨m,rfl⟩:∃m,fuel=m+1:=⟨fuel-1,by omega⟩
 have hh:c=c0->hC prog w c0=hC prog w c:=λ e=>by rw[e]
 generalize hC prog w c=h at hh ⊢
 generalize hC prog w c0=h0 at hh ho ⊢
 unfold setAddHashedIn
 refine wpAny_bind (bW (s:={s with toks:=s.toks+n}) ho rfl (Nat.le_of_ble_eq_true rfl) ?_)
 have hv1:=hv
 obtain⟨b0,_,_,_,_,rfl,_⟩:=hv1
 dsimp only
 rw[if_neg (show ¬(byScan (.ref b0) _=true)from y6)]
 refine wpAny_bind (zT (s:={s with toks:=s.toks+n}) (by omega) rfl hh ho hv hv0 (λ e=>?_) λ nc j hj h8=>?_)
 . exact wpAny_pure (h1 e n false)
 dsimp only
 refine wpAny_bind (bW (s:={s with toks:=s.toks+n}) ho rfl (Nat.le_of_ble_eq_true rfl) ?_)
 have hb0:SetTable.bits h0 % 8<8:=Nat.mod_lt _ (by decide)
 generalize SetTable.bits h0 % 8=j0 at ho hj hb0 ⊢
 dsimp only
 rw[Pn led j0 j hj]
 by_cases hlt:j0<j
 . rw[if_pos hlt]
   dsimp only
   rw[if_pos rfl]
   refine wpAny_bind (sZ (s:={s with toks:=s.toks+n}) (n:=6) hv ?_)
   rw[if_pos rfl]
   refine wpAny_bind (lF (s:={s with toks:=s.toks+n}) (es':=[(h0,v0),(h,Value.ref b0)]) ho (by simp) λ h' k1 k2=>?_)
   rw[if_neg (by simp[SetTable.tooFull,SetTable.fill])]
   exact wpAny_pure (h2 nc h' n true _ _ k1 k2 ⟨_,_,_,_,_,_,rfl,rfl,hlt,h8,.inl ⟨rfl,rfl⟩⟩)
 . rw[if_neg hlt]
   dsimp only
   rw[if_pos rfl]
   refine wpAny_bind (sZ (s:={s with toks:=s.toks+n}) (n:=6) hv ?_)
   rw[if_pos rfl]
   refine wpAny_bind (lF (s:={s with toks:=s.toks+n}) (es':=[(h,Value.ref b0),(h0,v0)]) ho (by simp) λ h' k1 k2=>?_)
   rw[if_neg (by simp[SetTable.tooFull,SetTable.fill])]
   exact wpAny_pure (h2 nc h' n true _ _ k1 k2 ⟨_,_,_,_,_,_,rfl,rfl,by omega,hb0,.inr ⟨rfl,rfl⟩⟩)
end
end RF
namespace RF
open PySem PySem.Spec L2 DL
open PyProof.Rows
section
variable {prog : Program} {w : World} {A : Around} {R : Result -> Shared -> Prop} {I : Addr} {fp wr : List Addr} {G : Array GenState -> Array GenState -> Prop} {n : Nat} {P : Nat -> Value -> Prop} {St : Nat -> Shared -> Prop}
theorem xV(W:WalksS prog w A.in1 I fp wr G n P St)(S:Addr)(hSf:S∉fp)(SS:Nat->Heap->Prop)
 (hframe:∀i h h',SS i h->(∀b o,b∉wr->h.get? b=some o->h'.get? b=some o)->SS i h')
 (hadd:∀i v(s:Shared)(Q:Bool->Shared->Prop)(E:Value->Shared->Prop),i<n->P i v->SS i s.heap->(∀b h' tk,Heap.SameBut S s.heap h'->SS (i+1) h'->Q b {s with heap:=h',toks:=s.toks+tk})->wpAny (model prog w) A.in1 (setAdd S v) Q E s):
 ∀ (k i:Nat)(s:Shared),n-i=k->i≤n->St i s->SS i s.heap->
   (∀s',Moved (S::wr) G s s'->SS n s'.heap->R (.ok (.ret .none)) s')->
   codeAny (model prog w) A (.builtin "set.update.loop" ⟨[.ref S,.ref I],[]⟩) R s:=by
 have hSw:S∉wr:=λ h=>hSf (W.sub _ h)
 have hsub:∀b∈wr,b∈S::wr:=λ b hb=>x4 _ hb
 intro k
 induction k with
 | zero=>
   intro i s hk hi hst hS hR
   have hin:i=n:=by omega
   subst hin
   refine codeAny_builtin F.entry_set_update_loop ?_
   rw[Around.under_plainId F.plain_set_update_loop _]
   show wpAny _ A.in1 (pyNext (.ref I)>>=_) _ _ s
   refine wpAny_bind (W.done s _ _ hst λ s' hm=>?_)
   show wpAny _ A.in1 (ret Value.none) _ _ s'
   exact wpAny_pure (hR s' (hm.mono hsub) (hframe _ _ _ hS hm.heap))
 | succ k ih=>
   intro i s hk hi hst hS hR
   have hlt:i<n:=by omega
   refine codeAny_builtin F.entry_set_update_loop ?_
   rw[Around.under_plainId F.plain_set_update_loop _]
   show wpAny _ A.in1 (pyNext (.ref I)>>=_) _ _ s
   refine wpAny_bind (W.item i s _ _ hlt hst λ v s' hP hst' hm=>?_)
   have hS':=hframe _ _ _ hS hm.heap
   show wpAny _ A.in1 (holding [v] (setAdd S v)>>=_) _ _ s'
   refine wpAny_bind (wpAny_holding (hadd i v s' _ _ hlt hP hS' λ b h' tk hsb hS2=>?_))
   refine wpAny_pure ⟨plainId_quiet F.plain_set_update_loop _,ih (i+1) _ (by omega) hlt (W.frame _ s' _ _ hst' (Nat.le_add_right _ _) λ b hb o e=>?_) hS2 λ s'' hm'' hS''=>?_⟩
   . rw[hsb.2 b (λ h:b=S=>hSf (by rw[←h];exact hb))];exact e
   . refine hR s'' (Moved.trans W.gtrans ((hm.mono hsub).then_heap (Nat.le_add_right _ _) λ b o hb e=>?_) hm'') hS''
     rw[hsb.2 b (λ h:b=S=>hb (by rw[h];exact x6))];exact e
end
def Lies(prog:Program)(w:World)(its:List Value)(cs:List (Int×List Int))(i:Nat)(es:List (Int×Value))(ps:List Nat):Prop:=
 match i with
 | 0=>es=[]/\ps=[]
 | 1=>∃v c,its[0]? =some v/\cs[0]? =some c/\es=[(hC prog w c,v)]/\ps=[SetTable.bits (hC prog w c) % 8]
 | _ =>∃v0 v c0 c,its=[v0,v]/\cs=[c0,c]/\((c=c0/\es=[(hC prog w c0,v0)]/\ps=[SetTable.bits (hC prog w c0) % 8])∨
     (c≠c0/\∃e1 e2 v1 v2 j1 j2,es=[(e1,v1),(e2,v2)]/\ps=[j1,j2]/\j1<j2/\j2<8/\(v1=v0/\v2=v∨v1=v/\v2=v0)))
section
variable {prog : Program} {w : World} {A : Around} {E : Value -> Shared -> Prop} {s : Shared}
abbrev bG(w:World):Bool:=!(w.params.followText "set-order")
theorem mU(a:Value){Q₁:Value->Shared->Prop}
 (h:Q₁ (.ref s.heap.objs.size) {s with heap:=s.heap.push {cls:=.type "set",dict:=none,data:=.set #[] 0 (.fresh 0 0 (bG w))}}):
 codeAny (model prog w) A (.call (.builtin "set.__new__") ⟨[.type "set",a],[]⟩) (wants Q₁ E) s:=by
 refine codeAny_of_tree ?_
 show wpAny _ A.in1 (do checkBuiltinCall "set.__new__" ⟨[.type "set",a],[]⟩;again (.builtin "set.__new__" ⟨[.type "set",a],[]⟩)) _ _ s
 refine wpAny_bind (wpAny_of_eq (F.newCall_set_1 a) (wpAny_pure ⟨plainId_quiet F.plain_set_new _,codeAny_builtin F.entry_set_new ?_⟩))
 rw[Around.under_plainId F.plain_set_new _]
 unfold Builtin.«set.__new__» Builtin.Frozenset.newClass
 have hsub:=sub_set_self
 obtain⟨hp,g,d,tk,os⟩:=s
 dsimp only
 wp_walk
 refine wpAny_askSetting (wpAny_pure ?_)
 dsimp only
 simp only[newObj]
 refine wpAny_bind (wpAny_alloc (wpAny_pure ?_))
 exact wpAny_pure h
theorem two_at{α:Type}{l:List α}{a b:α}(h:l.length≤2)(h0:l[0]? =some a)(h1:l[1]? =some b):l=[a,b]:=by
 cases l with
 | nil=>cases h0
 | cons x l=>cases l with
   | nil=>cases h1
   | cons y l=>cases l with
     | nil=>cases h0;cases h1;rfl
     | cons=>simp at h
theorem M5{α:Type}{l:List α}(h:l.length=2):∃a b,l=[a,b]:=by
 cases l with
 | nil=>cases h
 | cons x l=>cases l with
   | nil=>cases h
   | cons y l=>cases l with
     | nil=>exact⟨x,y,rfl⟩
     | cons=>simp at h
set_option maxHeartbeats 8000000 in
theorem yM {l:Addr}{its:List Value}{cs:List (Int×List Int)}{Q:Value->Shared->Prop}
 (hh:A.handled=none)(hu:A.units+12<cLine)(hl:s.heap.IsList l its.toArray)(hlen:its.length=cs.length)(hc:∀(i:Nat)(v:Value)(c:Int×List Int),its[i]? =some v->cs[i]? =some c->bw s.heap v c)(hb:its.length≤2)
 (h:∀(h':Heap)(tk:Nat)(es:List (Int×Value))(ps:List Nat)(ep:Nat),h'.get? s.heap.objs.size=some (cg (bG w) es ps ep)->Lies prog w its cs its.length es ps->
  (∀b o,b<s.heap.objs.size->s.heap.get? b=some o->h'.get? b=some o)->Q (.ref s.heap.objs.size) {s with heap:=h',toks:=tk}):
 wpAny (model prog w) A (call (.type "set") [.ref l]) Q E s:=by
 obtain⟨c,tl,hmro⟩:=F.called_set.mro
 have hmade:=F.called_set.made
 have hsub:=F.called_set.sub
 refine wpAny_call (codeAny_of_tree ?_)
 show wpAny _ _ (callAny (.type "set") _) _ _ _
 refine wpAny_pure ⟨Code.quiet_builtin _ (by decide+kernel),codeAny_builtin F.entry_type_call ?_⟩
 rw[Around.under_plain (weight_type_call_type "set" [.ref l] []) rfl]
 have h1:=F.called_set.notType
 have h2:=F.called_set.canCreate
 have hct:=F.typeCall_set_1 (.ref l)
 repeat(any_goals (first | assumption | wp_step))
 refine codeAny_mono (mU (.ref l) (E:=E) (Q₁:=λ obj s₁=>∃led:Bool,led=bG w/\obj=.ref s.heap.objs.size/\s₁={s with heap:=s.heap.push {cls:=.type "set",dict:=none,data:=.set #[] 0 (.fresh 0 0 led)}}) ⟨_,rfl,rfl,rfl⟩) λ r s₁ hr=>?_
 cases r with
 | error e=>exact hr
 | ok fl =>
   cases fl with
   | next=>exact hr.elim
   | brk=>exact hr.elim
   | cont=>exact hr.elim
   | ret obj=>
     obtain⟨led,hled,rfl,rfl⟩:=hr
     have hS:(s.heap.push {cls:=.type "set",dict:=none,data:=.set #[] 0 (.fresh 0 0 led)}).get? s.heap.objs.size=some {cls:=.type "set",dict:=none,data:=.set #[] 0 (.fresh 0 0 led)}:=Heap.get?_push_size _ rfl
     have hT:Shared.TypeIs {s with heap:=s.heap.push {cls:=.type "set",dict:=none,data:=.set #[] 0 (.fresh 0 0 led)}} (.ref s.heap.objs.size) "set":=⟨_,hS,rfl⟩
     have hli:=F.called_set.init.lookup
     have hbi:=F.called_set.init.bind (.ref s.heap.objs.size)
     repeat(any_goals (first | assumption | wp_step))
     refine codeAny_mono (codeAny_call_builtin (R:=wants (λ r s₂=>r=.none/\∃h' tk es ps ep,s₂={s with heap:=h',toks:=tk}/\
      h'.get? s.heap.objs.size=some (cg led es ps ep)/\Lies prog w its cs its.length es ps/\
      (∀b o,b<s.heap.objs.size->s.heap.get? b=some o->h'.get? b=some o)) E) F.called_set.init.plain F.entry_set_init (check_set_init_1 hT ?_)) λ r₂ s₂ hr₂=>?_
     . obtain⟨ol,hol,hcl,nl,hdl⟩:=hl
       obtain⟨ocls,odict,odata,oslots⟩:=ol
       simp only at hcl hdl
       subst hcl;subst hdl
       have hol':(s.heap.push {cls:=.type "set",dict:=none,data:=.set #[] 0 (.fresh 0 0 led)}).get? l=some {cls:=.type "list",dict:=odict,data:=.seq its.toArray nl,slots:=oslots}:=Heap.get?_push_of_some _ hol
       have hsls:=F.sub_list_set
       have hslf:=F.sub_list_frozenset
       have hne:(Value.type "list"==Value.type "dict")=false:=by decide
       have hl1:(s.heap.push {cls:=.type "set",dict:=none,data:=.set #[] 0 (.fresh 0 0 led)}).IsList l its.toArray:=⟨_,hol',rfl,nl,rfl⟩
       unfold Builtin.«set.__init__» noKeywords Builtin.Frozenset.updateFrom
       generalize hPI:pyIter=PI
       wp_walk
       subst hPI
       refine wpAny_pyIter_list hl1 ?_
       refine wpAny_bind (wpAny_runValue ?_)
       have hlS:l<s.heap.objs.size:=Heap.lt_size hol
       have hh3:A.in1.in1.in1.handled=none:=by simp[hh]
       have hneI:l≠(s.heap.push {cls:=.type "set",dict:=none,data:=.set #[] 0 (.fresh 0 0 led)}).objs.size:=by
        rw[Heap.size_push];exact v3 (Nat.lt_succ_of_lt hlS)
       have hSf:s.heap.objs.size∉[(s.heap.push {cls:=.type "set",dict:=none,data:=.set #[] 0 (.fresh 0 0 led)}).objs.size,l]:=by
        rw[Heap.size_push];simp only[List.mem_cons,List.mem_singleton,List.not_mem_nil,or_false,not_or]
        exact⟨v3 (Nat.lt_succ_self _),Nat.ne_of_gt hlS⟩
       have hI:(s.heap.push {cls:=.type "set",dict:=none,data:=.set #[] 0 (.fresh 0 0 led)}).objs.size=s.heap.objs.size+1:=by rw[Heap.size_push]
       refine xV ((Walks.list hh3 _ l hneI its.toArray).toS) s.heap.objs.size hSf
        (λ i h'=>(∀b o,b<s.heap.objs.size->s.heap.get? b=some o->h'.get? b=some o)/\∃es ps ep,h'.get? s.heap.objs.size=some (cg led es ps ep)/\Lies prog w its cs i es ps)
        ?hfr ?hadd (its.toArray.size-0) 0 _ (by omega) (Nat.zero_le _)
        ⟨⟨_,Heap.get?_push_size _ rfl,rfl,rfl⟩,(hl1.push _)⟩ ?hS0 ?hR
       case hfr=>
        rintro i h1 h2 ⟨k1,es,ps,ep,k2,k3⟩ k
        refine⟨λ b o hb e=>k b o ?_ (k1 b o hb e),es,ps,ep,k _ _ ?_ k2,k3⟩
        . intro z;have:=List.mem_singleton.mp z;rw[hI]at this;exact absurd this (v3 (Nat.lt_succ_of_lt hb))
        . intro z;have:=List.mem_singleton.mp z;rw[hI]at this;exact absurd this (v3 (Nat.lt_succ_self _))
       case hadd=>
        rintro i v s1 Q1 E1 hi hv ⟨k1,es,ps,ep,k2,k3⟩ hq
        have hi':i<its.length:=by simpa using hi
        have hv':its[i]? =some v:=by simpa using hv
        obtain⟨c,hci⟩:∃c,cs[i]? =some c:=⟨_,y3 (by omega)⟩
        have cel:∀(i:Nat)(v:Value)(c:Int×List Int),its[i]? =some v->cs[i]? =some c->bw s1.heap v c:=λ i v c e1 e2=>(hc i v c e1 e2).keep λ b o e _=>k1 b o (Heap.lt_size e) e
        have hu1:A.in1.in1.in1.in1.units+5<cLine:=by show A.units+1+1+1+1+5<cLine;omega
        match i,hi',k3 with
        | 0,_,k3=>
          obtain⟨rfl,rfl⟩:=k3
          refine NK (by first | exact hu1 | (show A.units+1+1+1+5<cLine;omega)) k2 (cel 0 v c hv' hci) λ h' tk b sb g=>hq b h' tk sb ⟨λ b' o' hb' e'=>?_,_,_,_,g,v,c,hv',hci,rfl,rfl⟩
          rw[sb.2 b' (v3 hb')];exact k1 b' o' hb' e'
        | 1,hi',k3=>
          obtain⟨v0,c0,e1,e2,rfl,rfl⟩:=k3
          have e3:its=[v0,v]:=two_at (by simpa using hb) e1 hv'
          have e4:cs=[c0,c]:=by
           have:cs.length=2:=by rw[←hlen,e3];rfl
           exact two_at (Nat.le_of_eq this) e2 hci
          refine Py (by first | exact hu1 | (show A.units+1+1+1+5<cLine;omega)) k2 (cel 1 v c hv' hci) (cel 0 v0 c0 e1 e2) (λ ec tk b=>?_) λ nc h' tk b es ps sb g z=>?_
          . exact hq b s1.heap tk (Heap.SameBut.refl _ _) ⟨k1,_,_,_,k2,v0,v,c0,c,e3,e4,.inl ⟨ec,rfl,rfl⟩⟩
          . refine hq b h' tk sb ⟨λ b' o' hb' e'=>?_,_,_,_,g,v0,v,c0,c,e3,e4,.inr ⟨nc,z⟩⟩
            rw[sb.2 b' (v3 hb')];exact k1 b' o' hb' e'
        | i+2,hi',_=>omega
       case hS0=>
        refine⟨λ b o hb e=>Heap.get?_push_of_some _ (Heap.get?_push_of_some _ e),[],[],0,Heap.get?_push_of_some _ hS,rfl,rfl⟩
       case hR=>
        intro s' hm hS'
        obtain⟨h',g',d',tk',os'⟩:=s'
        have eg:g'=s.gens:=hm.gens
        have ed:d'=s.drawn:=hm.drawn
        have eo:os'=s.os:=hm.os
        subst eg;subst ed;subst eo
        obtain⟨k1,es,ps,ep,k2,k3⟩:=hS'
        show wpAny _ _ _ _ _ _
        refine wpAny_pure ?_
        show wpAny _ _ (ret Value.none) _ _ _
        refine wpAny_pure ⟨rfl,h',tk',es,ps,ep,rfl,k2,by simpa using k3,k1⟩
     . cases r₂ with
       | error e=>exact hr₂
       | ok fl₂=>
         cases fl₂ with
         | next=>exact hr₂.elim
         | brk=>exact hr₂.elim
         | cont=>exact hr₂.elim
         | ret r=>
           obtain⟨rfl,h',tk,es,ps,ep,rfl,k2,k3,k1⟩:=hr₂
           repeat(any_goals (first | assumption | wp_step))
           exact h _ _ _ _ _ (hled▸k2) k3 k1
end
variable {es : List (Int × Value)} {ps : List Nat} {S I : Addr} {ep : Nat}
theorem jy:entryFor table "set.__iter__"=some Builtin.«frozenset.__iter__»:=
 entryFor_alias (id':="frozenset.__iter__") (by kernel_rfl) rfl (by decide+kernel) (by kernel_rfl)
theorem aC:Slot "set_iterator" "__next__" "set_iterator.__next__":=
 .of (owner:="set_iterator") (n:="__next__") (by rw[typeLookup_type,builtinLookup_eq_fast];kernel_rfl) (by decide+kernel) (by decide+kernel) (by decide+kernel)
  (by first | exact .inl (by decide+kernel) | exact .inr (by decide+kernel)) (by rw[isSubtype_type];kernel_rfl)
theorem bI:entryFor table "set_iterator.__next__"=some Builtin.«set_iterator.__next__»:=entryFor_of_tree (by kernel_rfl)
theorem fG:Manifest.owners.lookup (String.ofList ['r','o','t','a','r','e','t','i','_','t','e','s'].reverse)=some Manifest.sig_set_iterator:=by kernel_rfl
theorem bD(a:Value):argsOk "set_iterator.__next__" ⟨[a],[]⟩:=by
 unfold argsOk;rw[signature?_of (id:="set_iterator.__next__") (n:=['_','_','t','x','e','n','_','_']) (o:=['r','o','t','a','r','e','t','i','_','t','e','s']) (by kernel_rfl) fG];kernel_rfl
theorem bO:Slot "set_iterator" "__iter__" "set_iterator.__iter__":=
 .of (owner:="set_iterator") (n:="__iter__") (by rw[typeLookup_type,builtinLookup_eq_fast];kernel_rfl) (by decide+kernel) (by decide+kernel) (by decide+kernel)
  (by first | exact .inl (by decide+kernel) | exact .inr (by decide+kernel)) (by rw[isSubtype_type];kernel_rfl)
theorem dj:entryFor table "set_iterator.__iter__"=some Builtin.«dict_keyiterator.__iter__»:=
 entryFor_alias (id':="dict_keyiterator.__iter__") (by kernel_rfl) rfl (by decide+kernel) (by kernel_rfl)
theorem c7(a:Value):argsOk "set_iterator.__iter__" ⟨[a],[]⟩:=by
 unfold argsOk;rw[signature?_of (id:="set_iterator.__iter__") (n:=['_','_','r','e','t','i','_','_']) (o:=['r','o','t','a','r','e','t','i','_','t','e','s']) (by kernel_rfl) fG];kernel_rfl
def slotAt(ps:List Nat):Nat->Nat
 | 0=>0
 | i+1=>ps.getD i 0+1
theorem Ey:∀(ps:List Nat)(i:Nat),(ps=[]∨(∃j,ps=[j])∨∃j k,ps=[j,k]/\j<k)->i≤ps.length->SetTable.below ps.toArray (slotAt ps i)=i:=by
 rintro ps i (rfl | ⟨j,rfl⟩ | ⟨j,k,rfl,hjk⟩) hi
 . have:i=0:=by simpa using hi
   subst this
   rfl
 . match i,hi with
   | 0,_=>rw[show([j].toArray:Array Nat)=#[j]from rfl,qL];simp[slotAt]
   | 1,_=>rw[show([j].toArray:Array Nat)=#[j]from rfl,qL];simp[slotAt]
   | i+2,h=>simp at h
 . match i,hi with
   | 0,_=>simp[slotAt,SetTable.below,SetTable.below.go]
   | 1,_=>
     have h1:¬k<j+1:=by omega
     simp[slotAt,SetTable.below,SetTable.below.go,h1]
   | 2,_=>simp[slotAt,SetTable.below,SetTable.below.go]
   | i+3,h=>simp at h
def aP(w:World)(a:Addr)(ep:Nat)(es:List (Int×Value)):Array (Int×Value):=
 if w.params.followText "set-order"=true then pickOrder (w.params.setOrder a ep) es.toArray else es.toArray
abbrev aV(w:World)(ps:List Nat)(S:Addr)(n ep i:Nat):Obj:={cls:=.type "set_iterator",dict:=none,data:=.fields #[rawInt (if w.params.followText "set-order"=true then 0 else slotAt ps i:Nat),rawInt (i:Nat),.ref S,rawInt (n:Nat),rawInt (ep:Nat)],slots:=#[]}
structure Rise(es:List (Int×Value))(ps:List Nat):Prop where
 len:ps.length=es.length
 sh:ps=[]∨(∃j,ps=[j])∨∃j k,ps=[j,k]/\j<k
theorem Rise.seven(r:Rise es ps):ps.length≤7:=by
 rcases r.sh with rfl | ⟨j,rfl⟩ | ⟨j,k,rfl,_⟩<;>simp
section
variable {prog : Program} {w : World} {A : Around} {E : Value -> Shared -> Prop} {s : Shared}
theorem xx{i:Nat}{Q:Option (Value×Nat)->Shared->Prop}(r:Rise es ps)(hi:i≤es.length)(ho:s.heap.get? S=some (cg (bG w) es ps ep))
 (h:Q (((aP w S ep es)[i]?).map λ e=>(e.2,if w.params.followText "set-order"=true then 0 else slotAt ps (i+1))) s):
 wpAny (model prog w) A (setNext S (if w.params.followText "set-order"=true then 0 else slotAt ps i) i ep) Q E s:=by
 unfold setNext
 refine wpAny_bind (bW ho r.len r.seven ?_)
 unfold setsByText
 dsimp only
 refine wpAny_bind (wpAny_bind (wpAny_askSetting (wpAny_pure ?_)))
 show wpAny _ _ (if w.params.followText "set-order"=true then _ else _) _ _ _
 unfold aP at h
 by_cases bt:w.params.followText "set-order"=true
 . rw[if_pos bt]
   rw[if_pos bt]at h
   simp only[if_pos bt]at h
   rw[if_neg (by simp)]
   unfold setWalk
   refine wpAny_bind (wpAny_bind (bW ho r.len r.seven ?_))
   unfold setsByText
   dsimp only
   refine wpAny_bind (wpAny_bind (wpAny_askSetting (wpAny_pure ?_)))
   show wpAny _ _ (if w.params.followText "set-order"=true then _ else _) _ _ _
   rw[if_pos bt]
   refine wpAny_bind (wpAny_askSetting (wpAny_pure (wpAny_pure ?_)))
   simp only[if_pos bt]
   exact h
 . rw [if_neg bt]
   rw[if_neg bt]at h
   simp only[if_neg bt]at h ⊢
   have hled:bG w=true:=by simp[bG,bt]
   split
   . exact absurd (by assumption) y6
   . refine wpAny_bind ?_
     show wpAny _ _ (if(!(bG w)&& !(es.toArray.isEmpty))=true then _ else pure PUnit.unit) _ _ _
     rw[hled,if_neg (show ¬((!true&& !(es.toArray.isEmpty))=true)from y6)]
     refine wpAny_pure ?_
     rw[Ey ps i r.sh (by rw[r.len];exact hi)]
     refine wpAny_pure ?_
     have e2:slotAt ps (i+1)=ps.getD i 0+1:=rfl
     rw[e2]at h
     rw[List.getElem?_toArray]at h
     rw[List.getElem?_toArray,List.getElem?_toArray]
     cases he:es[i]? with
     | none=>rw[he]at h;exact h
     | some e=>
       rw[he]at h
       have hlt:i<ps.length:=by rw[r.len];exact(z0.mp he).1
       rw[y3 hlt]
       rw[List.getD_eq_getElem?_getD,y3 hlt]at h
       exact h
theorem dh{n i:Nat}(ho:s.heap.get? I=some (aV w ps S n ep i)):s.TypeIs (.ref I) "set_iterator":=⟨_,ho,rfl⟩
theorem di{h:Heap}{vs:Array Value}{k:Nat}{x:Value}(ho:h.get? I=some {cls:=.type "set_iterator",dict:=none,data:=.fields vs,slots:=#[]}):
 (h.update I (Obj.mapFields (·.setIfInBounds k x))).get? I=some {cls:=.type "set_iterator",dict:=none,data:=.fields (vs.setIfInBounds k x),slots:=#[]}:=Heap.get?_update_self _ ho rfl
theorem HH{i:Nat}{e:Int×Value}{Q:Option Value->Shared->Prop}(hne:S≠I)(r:Rise es ps)(hi:i<es.length)(hI:s.heap.get? I=some (aV w ps S es.length ep i))(ho:s.heap.get? S=some (cg (bG w) es ps ep))
 (he:(aP w S ep es)[i]? =some e)(h:∀h',Heap.SameBut I s.heap h'->h'.get? I=some (aV w ps S es.length ep (i+1))->Q (some e.2) {s with heap:=h'}):
 wpAny (model prog w) A (pyNext (.ref I)) Q E s:=by
 have hT:=dh hI
 unfold pyNext
 refine wpAny_bind (wpAny_attempt (wpAny_callSpecial?_slot (name:=Str.ofString "__next__") hT aC
  (wpAny_call_entry aC hT bI ?_ (bD _))))
 unfold Builtin.«set_iterator.__next__»
 refine wpAny_bind (wpAny_pure ?_)
 refine wpAny_bind (wpAny_fieldsOf hI rfl ?_)
 dsimp only
 refine wpAny_bind (wpAny_setEntries_of ho rfl (gU r.len r.seven) ?_)
 rw[if_neg (by simp)]
 refine wpAny_bind ?_
 simp only[rawInt,Int.toNat_natCast]
 refine xx r (Nat.le_of_lt hi) ho ?_
 rw[he]
 dsimp only[Option.map]
 refine wpAny_bind (wpAny_setField hI rfl (by simp) ?_)
 refine wpAny_bind (wpAny_setField (s:={s with heap:=_}) (di hI) rfl (by simp) ?_)
 exact wpAny_pure ⟨_,rfl,wpAny_pure (h _ ((Heap.SameBut.update ..).trans (Heap.SameBut.update ..)) (by
  have:=di (k:=1) (x:=rawInt (i+1)) (di (k:=0) (x:=rawInt (if w.params.followText "set-order"=true then 0 else slotAt ps (i+1):Nat)) hI)
  exact this))⟩
theorem Ga{Q:Option Value->Shared->Prop}(hh:A.handled=none)(hne:S≠I)(r:Rise es ps)(hI:s.heap.get? I=some (aV w ps S es.length ep es.length))(ho:s.heap.get? S=some (cg (bG w) es ps ep))
 (he:(aP w S ep es)[es.length]? =none)(h:∀h',Heap.ExtBut I s.heap h'->Q none {s with heap:=h'}):
 wpAny (model prog w) A (pyNext (.ref I)) Q E s:=by
 have hT:=dh hI
 unfold pyNext
 refine wpAny_bind (wpAny_attempt (wpAny_callSpecial?_slot (name:=Str.ofString "__next__") hT aC
  (wpAny_call_entry aC hT bI ?_ (bD _))))
 unfold Builtin.«set_iterator.__next__»
 refine wpAny_bind (wpAny_pure ?_)
 refine wpAny_bind (wpAny_fieldsOf hI rfl ?_)
 dsimp only
 refine wpAny_bind (wpAny_setEntries_of ho rfl (gU r.len r.seven) ?_)
 rw[if_neg (by simp)]
 refine wpAny_bind ?_
 simp only[rawInt,Int.toNat_natCast]
 refine xx r (y9 _) ho ?_
 rw[he]
 dsimp only[Option.map]
 refine wpAny_bind (wpAny_setField hI rfl (by simp) ?_)
 show wpAny _ _ (newExc (.type "StopIteration") []>>=_) _ _ _
 refine wpAny_bind ?_
 simp only[newExc,newTuple]
 refine wpAny_bind (wpAny_newObj_type ?_ (by size_fits))
 refine wpAny_bind (m:=firstArgMember _ _) (wpAny_of_eq (a:=Value.none) (by first | rfl | (simp only[firstArgMember];rfl)) ?_)
 refine wpAny_newObj_type ?_ (by size_fits)
 simp only[raiseNew]
 refine wpAny_bind (wpAny_handled ?_)
 rw[show A.in1.handled=none from hh]
 refine wpAny_bind (wpAny_pure (wpAny_throw ?_))
 refine wpAny_bind (wpAny_isInstance (T:="StopIteration") (b:=true) ⟨_,Heap.get?_push_size _ rfl,rfl⟩ isSubtype_stop ?_)
 exact wpAny_pure (h _ (((Heap.SameBut.update ..).extBut.push _).push _))
theorem fK(w:World)(S:Addr)(ep:Nat){es:List (Int×Value)}{ps:List Nat}(r:Rise es ps):
 (es=[]/\aP w S ep es=#[])∨(∃e,es=[e]/\aP w S ep es=#[e])∨∃e1 e2,es=[e1,e2]/\(aP w S ep es=#[e1,e2]∨aP w S ep es=#[e2,e1]):=by
 have hl:=r.len
 unfold aP
 rcases r.sh with rfl | ⟨j,rfl⟩ | ⟨j,k,rfl,_⟩
 . have:es=[]:=List.length_eq_zero_iff.mp hl.symm
   subst this
   exact .inl ⟨rfl,by split<;>rfl⟩
 . obtain⟨e,rfl⟩:∃e,es=[e]:=List.length_eq_one_iff.mp hl.symm
   refine .inr (.inl ⟨e,rfl,?_⟩)
   split
   . simp[pickOrder,pickOrder.go,Nat.mod_one]
   . rfl
 . obtain⟨e1,e2,rfl⟩:∃e1 e2,es=[e1,e2]:=M5 (by rw[←hl];rfl)
   refine .inr (.inr ⟨e1,e2,rfl,?_⟩)
   split
   . rcases Nat.mod_two_eq_zero_or_one (w.params.setOrder S ep 0)with h | h
     . left;simp[pickOrder,pickOrder.go,h,Nat.mod_one]
     . right;simp[pickOrder,pickOrder.go,h,Nat.mod_one]
   . exact .inl rfl
theorem jQ(w:World)(S:Addr)(ep:Nat){es:List (Int×Value)}{ps:List Nat}(r:Rise es ps):(aP w S ep es).size=es.length:=by
 rcases fK w S ep r with⟨h1,h2⟩ | ⟨e,h1,h2⟩ | ⟨e1,e2,h1,h2 | h2⟩<;>rw[h2,h1]<;>rfl
theorem Ji(hh:A.handled=none)(I S:Addr)(hne:S≠I)(es:List (Int×Value))(ps:List Nat)(ep:Nat)(r:Rise es ps):
 Walks prog w A I [I,S] [I] es.length (λ i v=>∃e,(aP w S ep es)[i]? =some e/\e.2=v) (λ i h=>h.get? I=some (aV w ps S es.length ep i)/\h.get? S=some (cg (bG w) es ps ep)) where
 sub:=λ b hb=>by simp at hb;simp[hb]
 frame:=λ _ _ _ st hk=>⟨hk I (by simp) _ st.1,hk S (by simp) _ st.2⟩
 item:=λ i s Q E hi st hQ=>by
  obtain⟨e,he⟩:∃e,(aP w S ep es)[i]? =some e:=⟨_,Array.getElem?_eq_getElem (by rw[jQ w S ep r];exact hi)⟩
  refine HH hne r hi st.1 st.2 he λ h' sb g=>hQ e.2 h' s.toks ⟨e,he,rfl⟩ ⟨g,?_⟩ λ b o hb e=>sb.extBut b o (λ h=>hb (by simp[h])) e
  rw[sb.2 S hne];exact st.2
 done:=λ s Q E st hQ=>Ga hh hne r st.1 st.2 (Array.getElem?_eq_none (by rw[jQ w S ep r];exact y9 _)) λ h' he'=>hQ h' s.toks λ b o hb e=>he' b o (λ h=>hb (by simp[h])) e
 self:=λ _ s Q E st hQ=>by
  have hT:=dh (s:=s) st.1
  refine wpAny_pyIter_slot hT bO (wpAny_call_entry bO hT dj ?_ (c7 _))
  show wpAny _ _ (ret (.ref I)) _ _ s
  exact wpAny_pure ⟨_,rfl,"set_iterator",_,hT,aC.lookup,hQ⟩
theorem J5{Q:Value->Shared->Prop}(r:Rise es ps)(ho:s.heap.get? S=some (cg (bG w) es ps ep))
 (h:Q (.ref s.heap.objs.size) {s with heap:=s.heap.push (aV w ps S es.length ep 0)}):wpAny (model prog w) A (pyIter (.ref S)) Q E s:=by
 have hT:s.TypeIs (.ref S) "set":=⟨_,ho,rfl⟩
 refine wpAny_pyIter_slot hT F.slot_set_iter (wpAny_call_entry F.slot_set_iter hT jy ?_ (F.args_set_iter_1 _))
 unfold Builtin.«frozenset.__iter__» Builtin.Frozenset.slot0 Builtin.Frozenset.sizeOf setDrawn
 refine wpAny_bind (wpAny_bind (wpAny_pure (wpAny_pure ?_)))
 refine wpAny_bind (wpAny_bind (wpAny_setEntries_of ho rfl (gU r.len r.seven) (wpAny_pure ?_)))
 refine wpAny_bind (wpAny_bind (bW ho r.len r.seven ?_))
 unfold setsByText
 dsimp only
 refine wpAny_bind (wpAny_bind (wpAny_askSetting (wpAny_pure (wpAny_pure ?_))))
 split
 . rename_i hx
   rw[Bool.and_eq_true]at hx
   exact absurd hx.2 y6
 . refine wpAny_bind (wpAny_pure ?_)
   refine wpAny_bind (wpAny_setEpoch_of ho rfl (gU r.len r.seven) ?_)
   refine wpAny_bind (wpAny_newObj_type ?_ (by size_fits))
   have hz:es.toArray.size=es.length:=x5
   have e1:((if w.params.followText "set-order"=true then 0 else slotAt ps 0:Nat))=0:=by split<;>rfl
   have key:aV w ps S es.length ep 0={cls:=.type "set_iterator",dict:=none,data:=.fields [rawInt 0,rawInt 0,.ref S,rawInt (es.toArray.size:Nat),rawInt (ep:Nat)].toArray,slots:=#[]}:=by
    unfold aV
    rw[e1,hz]
    rfl
   rw[key]at h
   exact wpAny_pure ⟨_,rfl,"set_iterator",_,⟨_,Heap.get?_push_size _ rfl,rfl⟩,aC.lookup,h⟩
theorem zz{Q:List Value->Shared->Prop}(hh:A.handled=none)(r:Rise es ps)(ho:s.heap.get? S=some (cg (bG w) es ps ep))
 (h:∀h' tk,(∀b o,b<s.heap.objs.size->s.heap.get? b=some o->h'.get? b=some o)->s.heap.objs.size≤h'.objs.size->Q ((aP w S ep es).toList.map (·.2)) {s with heap:=h',toks:=tk}):wpAny (model prog w) A (collect (.ref S)) Q E s:=by
 have hS:S<s.heap.objs.size:=Heap.lt_size ho
 have hSL:s.heap.objs.size≠S:=Nat.ne_of_gt hS
 unfold collect
 refine wpAny_bind (wpAny_runValue (codeAny_builtin F.entry_proto_collect ?_))
 rw[Around.under_plainId F.plain_proto_collect _]
 show wpAny _ A.in1 (newList []>>=λ l=>again (.builtin "list.__iadd__" ⟨[l,.ref S],[]⟩)) _ _ s
 refine wpAny_bind (wpAny_newObj_type ?_)
 refine wpAny_pure ⟨plainId_quiet F.plain_list_iadd _,codeAny_builtin F.entry_list_iadd ?_⟩
 rw[Around.under_plainId F.plain_list_iadd _]
 have ho1:(s.heap.push {cls:=.type "list",data:=.seq ([]:List Value).toArray}).get? S=some (cg (bG w) es ps ep):=Heap.get?_push_of_some _ ho
 have hT1:Shared.TypeIs {s with heap:=s.heap.push {cls:=.type "list",data:=.seq ([]:List Value).toArray}} (.ref S) "set":=⟨_,ho1,rfl⟩
 show wpAny _ A.in1 (Builtin.List.listExtendWith (.ref s.heap.objs.size) (.ref S) (.ref s.heap.objs.size)) _ _ _
 unfold Builtin.List.listExtendWith
 refine wpAny_bind (wpAny_typeOf hT1 ?_)
 have h1:Builtin.List.listSameRef (.ref s.heap.objs.size) (.ref S)=false:=by simp[Builtin.List.listSameRef,hSL]
 have h2:(Value.type "set"==Value.type "list")=false:=by decide
 have h3:(Value.type "set"==Value.type "tuple")=false:=by decide
 simp only[h1,h2,h3,Bool.or_false,Bool.false_eq_true,if_false]
 refine wpAny_bind (J5 (s:={s with heap:=s.heap.push {cls:=.type "list",data:=.seq ([]:List Value).toArray}}) r ho1 ?_)
 refine wpAny_bind (wpAny_holding ?_)
 have sz1:(s.heap.push {cls:=.type "list",data:=.seq ([]:List Value).toArray}).objs.size=s.heap.objs.size+1:=size_push' _ _
 have ho2:((s.heap.push {cls:=.type "list",data:=.seq ([]:List Value).toArray}).push (aV w ps S es.length ep 0)).get? S=some (cg (bG w) es ps ep):=Heap.get?_push_of_some _ ho1
 have hI2:((s.heap.push {cls:=.type "list",data:=.seq ([]:List Value).toArray}).push (aV w ps S es.length ep 0)).get? (s.heap.objs.size+1)=some (aV w ps S es.length ep 0):=by
  rw[←sz1];exact Heap.get?_push_size _ rfl
 have hT2:Shared.TypeIs {s with heap:=(s.heap.push {cls:=.type "list",data:=.seq ([]:List Value).toArray}).push (aV w ps S es.length ep 0)} (.ref S) "set":=⟨_,ho2,rfl⟩
 have hS₁:((s.heap.push {cls:=.type "list",data:=.seq ([]:List Value).toArray}).push (aV w ps S es.length ep 0)).get? s.heap.objs.size=some {cls:=.type "list",data:=.seq ([]:List Value).toArray}:=Heap.get?_push_of_some _ (Heap.get?_push_size _ rfl)
 show wpAny (model prog w) A.in1 (Builtin.List.listLengthHint (.ref S)) _ _ {s with heap:=(s.heap.push {cls:=.type "list",data:=.seq ([]:List Value).toArray}).push (aV w ps S es.length ep 0)}
 unfold Builtin.List.listLengthHint
 refine wpAny_bind (wpAny_specialOf hT2 F.slot_set_len.lookup ?_)
 have hsp:splitId "set.__len__"=some ("set","__len__"):=by kernel_rfl
 dsimp only
 rw[hsp]
 dsimp only
 refine wpAny_bind (wpAny_isInstance hT2 sub_set_self ?_)
 rw[if_neg (show ¬((!true)=true)from y6)]
 rw[if_pos]
 . refine wpAny_bind (wpAny_typeOf hT2 ?_)
   dsimp only
   refine wpAny_pure ?_
   rw[if_pos]
   . refine wpAny_bind (wpAny_rule ?_)
     refine wpAny_bind ?_
     show wpAny _ A.in1 (updateSeq s.heap.objs.size (·.push .none)>>=λ _=>updateSeq s.heap.objs.size (·.pop)) _ _ _
     refine wpAny_bind (wpAny_updateSeq hS₁ rfl ?_)
     have hS₂:=Heap.get?_update_self (Obj.mapSeq (·.push Value.none)) hS₁ rfl
     refine wpAny_updateSeq hS₂ rfl ?_
     have hS₃:=Heap.get?_update_self (Obj.mapSeq (·.pop)) hS₂ rfl
     have oth:∀b o,b≠s.heap.objs.size->((s.heap.push {cls:=.type "list",data:=.seq ([]:List Value).toArray}).push (aV w ps S es.length ep 0)).get? b=some o->
      ((((s.heap.push {cls:=.type "list",data:=.seq ([]:List Value).toArray}).push (aV w ps S es.length ep 0)).update s.heap.objs.size (Obj.mapSeq (·.push Value.none))).update s.heap.objs.size (Obj.mapSeq (·.pop))).get? b=some o:=
      λ b o hb e=>(Heap.get?_update_other _ _ (Ne.symm hb)).trans ((Heap.get?_update_other _ _ (Ne.symm hb)).trans e)
     have hSI:S≠s.heap.objs.size+1:=v3 (Nat.lt_succ_of_lt hS)
     have hLf:s.heap.objs.size∉[s.heap.objs.size+1,S]:=by
      intro z
      rcases List.mem_cons.mp z with z | z
      . exact absurd z (v3 (Nat.lt_succ_self _))
      . exact hSL (List.mem_singleton.mp z)
     have hn:es.length≤sizeLine:=by rw[←r.len];exact Nat.le_trans r.seven (by decide)
     rw[sz1]
     refine wpAny_pure ⟨plainId_quiet F.plain_extend_loop _,codeAny_extend_loopS (Ji (prog:=prog) (A:=A.in1) (by simpa using hh) (s.heap.objs.size+1) S hSI es ps ep r).toS hn _ hLf _ es.length 0 _ _ _ rfl (Nat.zero_le _)
      ⟨oth _ _ (Nat.ne_of_gt (Nat.lt_succ_self _)) hI2,oth _ _ hSL.symm ho2⟩ hS₃ (ItemsOf.nil _) λ s' acc' c' hm hS' hacc=>?_⟩
     show wpAny _ A (load s.heap.objs.size>>=_) _ _ s'
     refine wpAny_bind (wpAny_load hS' ?_)
     obtain⟨h',g',d',tk',os'⟩:=s'
     have eg:g'=s.gens:=hm.gens
     have ed:d'=s.drawn:=hm.drawn
     have eo:os'=s.os:=hm.os
     subst eg;subst ed;subst eo
     have eacc:acc'.toList=(aP w S ep es).toList.map (·.2):=by
      apply List.ext_getElem?
      intro j
      rw[y8,Array.getElem?_toList,Array.getElem?_toList]
      by_cases hj:j<es.length
      . have hj1:j<acc'.size:=by rw[hacc.1];exact hj
        obtain⟨e,he,hv⟩:=hacc.2 j acc'[j] (Array.getElem?_eq_getElem hj1)
        rw[Array.getElem?_eq_getElem hj1,he,←hv];rfl
      . rw[Array.getElem?_eq_none (by rw[hacc.1];omega),Array.getElem?_eq_none (by rw[jQ w S ep r];omega)];rfl
     refine wpAny_pure ?_
     show Q acc'.toList _
     rw[eacc]
     refine h h' tk' (λ b o hb e=>?_) ?_
     . refine hm.heap b o ?_ (oth b o (v3 hb) (Heap.get?_push_of_some _ (Heap.get?_push_of_some _ e)))
       intro z
       rcases List.mem_cons.mp z with z | z
       . exact absurd z (v3 hb)
       . exact absurd (List.mem_singleton.mp z) (v3 (Nat.lt_succ_of_lt hb))
     . exact Nat.le_of_lt (Heap.lt_size hS')
   . decide
 . decide
end
end RF
namespace RF
open PySem PySem.Spec L2 DL
open PyProof.Rows
theorem IV{α:Type}{l:List α}(h:l.length=2):∃a b,l=[a,b]:=by
 cases l with
 | nil=>cases h
 | cons x l=>cases l with
   | nil=>cases h
   | cons y l=>cases l with
     | nil=>exact⟨x,y,rfl⟩
     | cons=>simp at h
theorem vU(fin:Bool):∀ns:List Int,ltF fin ns ns=fin
 | []=>rfl
 | n::ns=>by unfold ltF;rw[if_pos rfl];exact vU fin ns
theorem pD(ns:List Int):ltI ns ns=false:=by unfold ltI;rw[vU];simp
def ltC(c d:Int×List Int):Bool:=if c.1=d.1 then ltI c.2 d.2 else decide (c.1<d.1)
section
variable {prog : Program} {w : World} {A : Around} {E : Value -> Shared -> Prop} {s : Shared}
theorem PL{a b:Addr}{ns ms:List Int}{P:PySem.Fin->Shared->Prop}(hx:bR s.heap (.ref a) ns)(hy:bR s.heap (.ref b) ms)(h:P (.done (.ret (.bool (ltI ns ms)))) s):
 wpAny (model prog w) A (Builtin.«tuple.__lt__» ⟨[.ref a,.ref b],[]⟩) P E s:=by
 obtain⟨a',oa,xs,na,e,hoa,hca,hda,hia⟩:=hx
 cases e
 obtain⟨b',ob,ys,nb,e,hob,hcb,hdb,hib⟩:=hy
 cases e
 have hTb:s.TypeIs (.ref b) "tuple":=⟨ob,hob,hcb⟩
 show wpAny _ _ (isInstance (.ref b) (.type "tuple")>>=_) _ _ s
 refine wpAny_bind (wpAny_isInstance hTb isSubtype_tuple_tuple ?_)
 simp only[Bool.not_true,Bool.false_eq_true,if_false]
 refine wpAny_bind (wpAny_tupleItemsOf hoa hda ?_)
 refine wpAny_bind (wpAny_tupleItemsOf hob hdb ?_)
 refine wpAny_bind ?_
 have l1:xs.size=ns.length:=by rw[←Array.length_toList];exact hia.length
 have l2:ys.size=ms.length:=by rw[←Array.length_toList];exact hib.length
 refine wpAny_forIn_list _
  (λ rest r s'=>r.1=none/\s'=s/\∃ns' ms' xs' ys',rest=List.zip xs' ys'/\IntsAre xs' ns'/\IntsAre ys' ms'/\ltF (decide (ns.length<ms.length)) ns' ms'=ltI ns ms)
  _ ?_ ?_ _ _ ⟨rfl,rfl,ns,ms,xs.toList,ys.toList,rfl,hia,hib,rfl⟩
 . rintro⟨u,v⟩ rest r s' ⟨hr,rfl,ns',ms',xs',ys',hz,hx',hy',hdec⟩
   cases hx' with
   | nil=>simp at hz
   | @cons k1 t1 xs'' ns'' hx''=>
     cases hy' with
     | nil=>simp at hz
     | @cons k2 t2 ys'' ms'' hy''=>
       simp only[List.zip_cons_cons,List.cons.injEq,Prod.mk.injEq]at hz
       obtain⟨⟨rfl,rfl⟩,rfl⟩:=hz
       refine wpAny_bind (wpAny_eqBool_int ?_)
       unfold ltF at hdec
       by_cases hk:k1=k2
       . subst hk
         rw[beq_self_eq_true]
         simp only[Bool.not_true,Bool.false_eq_true,if_false]
         rw[if_pos rfl]at hdec
         exact wpAny_pure ⟨rfl,rfl,_,_,_,_,rfl,hx'',hy'',hdec⟩
       . rw[if_neg hk]at hdec
         rw[show(k1==k2)=false from by simpa using hk]
         simp only[Bool.not_false,if_true]
         rw[←hdec]at h
         refine wpAny_bind (wpAny_rule ?_)
         refine wpAny_bind (show wpAny _ _ (compareOp .Lt _ _) _ _ _ from wpAny_lt_int ?_)
         exact wpAny_bind (wpAny_pure (wpAny_pure (wpAny_pure h)))
 . rintro⟨r1,r2⟩ s' ⟨hr,rfl,ns',ms',xs',ys',hz,hx',hy',hdec⟩
   simp only at hr
   subst hr
   refine wpAny_pure ?_
   have hfin:decide (xs.size<ys.size)=ltI ns ms:=by
    rw[←hdec,l1,l2]
    cases hx' with
    | nil=>rfl
    | cons _ _ _=>
      cases hy' with
      | nil=>rfl
      | cons _ _ _=>simp at hz
   show P (.done (.ret (.bool (decide (xs.size<ys.size))))) s'
   rw[hfin];exact h
theorem FW{u v:Value}{ns ms:List Int}{Q:Value->Shared->Prop}(hu:A.units<cLine)(hx:bR s.heap u ns)(hy:bR s.heap v ms)(h:Q (.bool (ltI ns ms)) s):wpAny (model prog w) A (compareOp .Lt u v) Q E s:=by
 obtain⟨a,oa,_,_,rfl,hoa,hca,_⟩:=id hx
 obtain⟨b,ob,_,_,rfl,hob,hcb,_⟩:=id hy
 exact wpAny_richCompare_same_room (op:=.Lt) ⟨oa,hoa,hca⟩ ⟨ob,hob,hcb⟩ F.slot_tuple_lt
  (wpAny_call_entry F.slot_tuple_lt ⟨oa,hoa,hca⟩ F.entry_tuple_lt (PL hx hy ⟨_,rfl,(λ e=>nomatch e),h⟩) (F.args_tuple_lt_2 _ _)) hu
theorem Sh{b:Bool}{v u:Value}{c d:Int×List Int}{Q:Bool->Shared->Prop}(hu:A.units+2<cLine)(hv:bw s.heap v c)(hw:bw s.heap u d)(h:Q (ltC c d) s):wpAny (model prog w) A (keyLt' (tuples' b) v u) Q E s:=by
 obtain⟨a,o,k,tk,x,rfl,ho,hc,hd,hx⟩:=hv
 obtain⟨a2,o2,k2,tk2,x2,rfl,ho2,hc2,hd2,hx2⟩:=hw
 refine PySem.W.kat_lt ho hd ho2 hd2 ?_
 show PySem.W.KatLex prog w A b _ Q [(Value.int c.1 tk,Value.int d.1 tk2),(x,x2)] 0 s
 refine PySem.W.kat_cons (wpAny_eqBool_int ?_)
 unfold ltC at h
 by_cases e:c.1=d.1
 . rw[e,beq_self_eq_true]
   rw[if_pos e]at h
   refine PySem.W.kat_yes (PySem.W.kat_cons (oV (by omega) hx hx2 prog w _ _ ?_))
   by_cases e2:c.2=d.2
   . rw[decide_eq_true e2]
     refine PySem.W.kat_yes (PySem.W.kat_nil ?_)
     rw[e2,pD]at h
     exact h
   . rw[decide_eq_false e2]
     refine PySem.W.kat_no ?_
     rw[show(b&&0+1==0)=false from by cases b<;>rfl]
     exact PySem.W.kat_one _ _ (FW (by omega) hx hx2 h)
 . rw[show(c.1==d.1)=false from by simpa using e]
   rw[if_neg e]at h
   exact PySem.W.kat_no (NT h)
def iU:List Value->List (Int×List Int)->List Value
 | [v1,v2],[c1,c2]=>if ltC c2 c1=true then[v2,v1]else[v1,v2]
 | vs,_=>vs
theorem vd{a:Addr}{vs:List Value}{n:Nat}{cs:List (Int×List Int)}{P:PySem.Fin->Shared->Prop}(hu:A.units+2<cLine)(ho:s.heap.get? a=some (seqObj "list" vs.toArray n))
 (hl:vs.length=cs.length)(hr:∀(i:Nat)(v:Value)(c:Int×List Int),vs[i]? =some v->cs[i]? =some c->bw s.heap v c)(hsm:vs.length≤2)
 (h:P (.done (.ret .none)) {s with heap:=sortedHeap s.heap a vs (iU vs cs).toArray}):
 wpAny (model prog w) A (Builtin.«list.sort» ⟨[.ref a],[]⟩) P E s:=by
 rw[list_sort_plain]
 have hla:a<s.heap.objs.size:=Heap.lt_size ho
 have hsl:vs.length≤sizeLine:=Nat.le_trans hsm (by decide)
 refine wpAny_bind (listItems_at ho rfl ?_)
 refine wpAny_bind (listUpdate_at ho rfl ?_ (by rw[x5];exact hsl) (Nat.zero_le _))
 obtain⟨e1,ho1⟩:∃e1,(s.heap.update a (Obj.mapSeq λ _=>#[])).get? a=some (seqObj "list" #[] e1):=⟨_,get?_update_seq ho (λ _=>#[])⟩
 refine wpAny_bind (seqEpoch_at ho1 rfl ?_)
 refine wpAny_bind (wpAny_newTuple ?_ (by show vs.length≤_;exact hsl))
 refine wpAny_bind (wpAny_newList ?_ (Nat.zero_le _))
 refine wpAny_holding ?_
 have ho6:(((s.heap.update a (Obj.mapSeq λ _=>#[])).push (seqObj "tuple" vs.toArray 0)).push (seqObj "list" #[] 0)).get? a=some (seqObj "list" #[] e1):=by
  rw[Heap.get?_push_ne _ _ _ (by rw[size_push',Heap.size_update];exact v3 (Nat.lt_succ_of_lt hla)),Heap.get?_push_ne _ _ _ (by rw[Heap.size_update];exact v3 hla)]
  exact ho1
 show wpAny (model prog w) A _ P E {s with heap:=((s.heap.update a (Obj.mapSeq λ _=>#[])).push (seqObj "tuple" vs.toArray 0)).push (seqObj "list" #[] 0)}
 dsimp only
 have hout:(vs.toArray.zip vs.toArray).map (·.2)=vs.toArray:=by
  apply Array.toList_inj.mp
  simp[List.map_snd_zip]
 have hr':∀(i:Nat)(v:Value)(c:Int×List Int),vs[i]? =some v->cs[i]? =some c->bw (((s.heap.update a (Obj.mapSeq λ _=>#[])).push (seqObj "tuple" vs.toArray 0)).push (seqObj "list" #[] 0)) v c:=λ i v c q1 q2=>(hr i v c q1 q2).keep λ b o e c=>by
  have hba:b≠a:=by
   rintro rfl
   rw[ho]at e;cases e
   exact absurd (show Value.type "list"=Value.type "tuple" from c) (by decide)
  have hlb:b<s.heap.objs.size:=Heap.lt_size e
  rw[Heap.get?_push_ne _ _ _ (by rw[size_push',Heap.size_update];exact v3 (Nat.lt_succ_of_lt hlb)),Heap.get?_push_ne _ _ _ (by rw[Heap.size_update];exact v3 hlb),Heap.get?_update_ne _ _ _ _ hba]
  exact e
 by_cases h2:vs.toArray.size<2
 . rw [if_pos h2,if_pos h2]
   refine wpAny_bind (wpAny_pure ?_)
   rw[StateT.run_pure]
   refine wpAny_bind (wpAny_pure ?_)
   dsimp only
   refine wpAny_bind (seqEpoch_at ho6 rfl ?_)
   rw[show arrOf (SortSt.mk' general' (vs.toArray.zip vs.toArray) #[] 7 none)=vs.toArray.zip vs.toArray from rfl,hout]
   refine wpAny_bind (listUpdate_at ho6 rfl ?_ (Nat.zero_le _) (by rw[x5];omega))
   simp only[bne_self_eq_false,Bool.false_eq_true,if_false]
   have es:iU vs cs=vs:=by
    cases vs with
    | nil=>unfold iU;simp
    | cons v vs=>cases vs with
      | nil=>unfold iU;simp
      | cons=>simp at h2;omega
   rw[es]at h
   exact wpAny_pure h
 . rw [if_neg h2,if_neg h2]
   obtain⟨v1,v2,c1,c2,rfl,rfl⟩:∃v1 v2 c1 c2,vs=[v1,v2]/\cs=[c1,c2]:=by
    obtain⟨v1,v2,rfl⟩:=IV (l:=vs) (by simp at h2;omega)
    obtain⟨c1,c2,rfl⟩:=IV (l:=cs) hl.symm
    exact⟨_,_,_,_,rfl,rfl⟩
   have q1:=hr' 0 v1 c1 rfl rfl
   have q2:=hr' 1 v2 c2 rfl rfl
   have q1':=q1
   have q2':=q2
   obtain⟨b1,o1,k1,tk1,u1,rfl,g1,g2,g3,g4⟩:=q1'
   obtain⟨b2,o2,k2,tk2,u2,rfl,f1,f2,f3,f4⟩:=q2'
   refine wpAny_bind (PySem.W.kat_kind (T:=.type "int") (PySem.W.KatTups.cons (f:=.int c1.1 tk1) g1 g2 g3 rfl (PySem.W.KatTups.cons (f:=.int c2.1 tk2) f1 f2 f3 rfl PySem.W.KatTups.nil)) (Nat.succ_pos _) (λ v hv=>?_) (by decide) ?_)
   . rcases List.mem_cons.mp hv with rfl | hv
     . exact .now
     . rcases List.mem_cons.mp hv with rfl | hv
       . exact .now
       . cases hv
   have hw:(PySem.W.kas_sort 2).kasWp (PySem.W.kas_ask prog w A (tuples' (Value.type "int" !=Value.type "tuple")) [Value.ref b1,Value.ref b2]) (λ p s'=>s'={s with heap:=((s.heap.update a (Obj.mapSeq λ _=>#[])).push (seqObj "tuple" [Value.ref b1,Value.ref b2].toArray 0)).push (seqObj "list" #[] 0)}/\p=if ltC c2 c1=true then #[1,0]else #[0,1]) {s with heap:=((s.heap.update a (Obj.mapSeq λ _=>#[])).push (seqObj "tuple" [Value.ref b1,Value.ref b2].toArray 0)).push (seqObj "list" #[] 0)}:=by
    show PySem.W.kas_ask prog w A _ [Value.ref b1,Value.ref b2] 1 0 _ _
    unfold PySem.W.kas_ask
    refine Sh (s:={s with heap:=((s.heap.update a (Obj.mapSeq λ _=>#[])).push (seqObj "tuple" [Value.ref b1,Value.ref b2].toArray 0)).push (seqObj "list" #[] 0)}) hu q2 q1 ?_
    cases hlt:ltC c2 c1 with
    | true=>exact⟨rfl,rfl⟩
    | false=>exact⟨rfl,rfl⟩
   refine wpAny_bind (wpAny_mono (PySem.W.kat_run (Q:=λ st' s'=>s'={s with heap:=((s.heap.update a (Obj.mapSeq λ _=>#[])).push (seqObj "tuple" [Value.ref b1,Value.ref b2].toArray 0)).push (seqObj "list" #[] 0)}/\failedOf st'=none/\(arrOf st').map (·.2)=(iU [Value.ref b1,Value.ref b2] [c1,c2]).toArray) rfl (y9 2) (by show 2<64;decide) (λ p st' s' a1 a2 a3 a4=>⟨a4.1,a3,?_⟩) hw) ?_ λ _ _ e=>e)
   . rw[PySem.W.kat_snds rfl a2,a4.2]
     show _=(if ltC c2 c1=true then[Value.ref b2,Value.ref b1]else[Value.ref b1,Value.ref b2]).toArray
     by_cases hlt:ltC c2 c1=true
     . rw[if_pos hlt,if_pos hlt];rfl
     . rw[if_neg hlt,if_neg hlt];rfl
   . rintro⟨⟨⟩,st'⟩ s' ⟨rfl,hf,hp⟩
     dsimp only
     refine wpAny_bind (seqEpoch_at ho6 rfl ?_)
     rw[hp]
     have hz:(iU [Value.ref b1,Value.ref b2] [c1,c2]).length=2:=by
      show(if ltC c2 c1=true then[Value.ref b2,Value.ref b1]else[Value.ref b1,Value.ref b2]).length=2
      split<;>rfl
     refine wpAny_bind (listUpdate_at ho6 rfl ?_ (Nat.zero_le _) (by rw[x5,hz];exact Nat.le_succ_of_le hsl))
     rw[hf]
     simp only[bne_self_eq_false,Bool.false_eq_true,if_false]
     exact wpAny_pure h
end
theorem uz{f g:Bool}(hfg:f=true->g=false):∀{ns ms:List Int},ltF f ns ms=true->ltF g ms ns=false
 | [],[],h=>by unfold ltF at h ⊢;exact hfg h
 | [],_::_,h=>by unfold ltF at h ⊢;exact hfg h
 | _::_,[],h=>by unfold ltF at h ⊢;exact hfg h
 | n ::ns,m::ms,h=>by
   unfold ltF at h ⊢
   by_cases e:n=m
   . rw[if_pos e]at h;rw[if_pos e.symm];exact uz hfg h
   . rw[if_neg e]at h;rw[if_neg (λ z=>e z.symm)]
     have:=of_decide_eq_true h
     exact decide_eq_false (by omega)
theorem t8{ns ms:List Int}(h:ltI ns ms=true):ltI ms ns=false:=by
 unfold ltI at h ⊢
 exact uz (λ h1=>decide_eq_false (by have:=of_decide_eq_true h1;omega)) h
theorem uE{f g:Bool}:∀{ns ms:List Int},(ns.length<ms.length->f=true)->(ms.length<ns.length->g=true)->ltF f ns ms=false->ltF g ms ns=false->ns=ms
 | [],[],_,_,_,_=>rfl
 | [],_::_,hf,_,h,_=>by unfold ltF at h;rw[hf (by simp)]at h;cases h
 | _::_,[],_,hg,_,h=>by unfold ltF at h;rw[hg (by simp)]at h;cases h
 | n ::ns,m::ms,hf,hg,h1,h2=>by
   unfold ltF at h1 h2
   by_cases e:n=m
   . rw[if_pos e]at h1;rw[if_pos e.symm]at h2
     rw[e,uE (λ z=>hf (by simpa using z)) (λ z=>hg (by simpa using z)) h1 h2]
   . rw[if_neg e]at h1;rw[if_neg (λ z=>e z.symm)]at h2
     have a:=of_decide_eq_false h1
     have b:=of_decide_eq_false h2
     omega
theorem uc{ns ms:List Int}(h1:ltI ns ms=false)(h2:ltI ms ns=false):ns=ms:=by
 unfold ltI at h1 h2
 exact uE (λ h=>decide_eq_true h) (λ h=>decide_eq_true h) h1 h2
theorem Im{c d:Int×List Int}(h:ltC c d=true):ltC d c=false:=by
 unfold ltC at h ⊢
 by_cases e:c.1=d.1
 . rw[if_pos e]at h;rw[if_pos e.symm];exact t8 h
 . rw[if_neg e]at h;rw[if_neg (λ z=>e z.symm)]
   have:=of_decide_eq_true h
   exact decide_eq_false (by omega)
theorem Ht{c d:Int×List Int}(h1:ltC c d=false)(h2:ltC d c=false):c=d:=by
 unfold ltC at h1 h2
 by_cases e:c.1=d.1
 . rw[if_pos e]at h1;rw[if_pos e.symm]at h2
   exact Prod.ext e (uc h1 h2)
 . rw[if_neg e]at h1;rw[if_neg (λ z=>e z.symm)]at h2
   have a:=of_decide_eq_false h1
   have b:=of_decide_eq_false h2
   exact absurd (by omega) e
def sset{α:Type}(f:α->Int×List Int):List α->List α
 | [x,y]=>if f y=f x then[x]else if ltC (f y) (f x)=true then[y,x]else[x,y]
 | xs=>xs
section
variable {prog : Program} {w : World} {A : Around} {E : Value -> Shared -> Prop} {s : Shared}
theorem zP{S:Addr}{ep:Nat}{its:List Value}{cs:List (Int×List Int)}{es:List (Int×Value)}{ps:List Nat}(hl:its.length=cs.length)(h2:its.length≤2)(h:Lies prog w its cs its.length es ps):
 Rise es ps/\∃ds:List (Int×List Int),((aP w S ep es).toList.map (·.2)).length=ds.length/\(∀(i:Nat)(v:Value)(c:Int×List Int),((aP w S ep es).toList.map (·.2))[i]? =some v->ds[i]? =some c->(v,c)∈its.zip cs)/\
  iU ((aP w S ep es).toList.map (·.2)) ds=(sset (·.2) (its.zip cs)).map (·.1):=by
 match its,cs,hl,h2,h with
 | [],[],_,_,h=>
   obtain⟨rfl,rfl⟩:=h
   have r:Rise [] []:=⟨rfl,.inl rfl⟩
   refine⟨r,[],?_⟩
   rcases fK w S ep r with⟨_,h2⟩ | ⟨e,h1,_⟩ | ⟨e1,e2,h1,_⟩
   . rw[h2];exact⟨rfl,λ i v c e=>by simp at e,rfl⟩
   . cases h1
   . cases h1
 | [v],[c],_,_,h=>
   obtain⟨v',c',e1,e2,rfl,rfl⟩:=h
   cases e1;cases e2
   have r:Rise [(hC prog w c,v)] [SetTable.bits (hC prog w c) % 8]:=⟨rfl,.inr (.inl ⟨_,rfl⟩)⟩
   refine⟨r,[c],?_⟩
   rcases fK w S ep r with⟨h1,_⟩ | ⟨e,h1,h2⟩ | ⟨e1,e2,h1,_⟩
   . cases h1
   . cases h1
     rw[h2]
     refine⟨rfl,λ i v' c' e1 e2=>?_,rfl⟩
     match i with
     | 0=>simp at e1 e2;simp[e1,e2]
     | i+1=>simp at e1
   . cases h1
 | [v0, v], [c0,c],_,_,h=>
   obtain⟨v0',v',c0',c',e1,e2,h⟩:=h
   cases e1;cases e2
   rcases h with⟨rfl,rfl,rfl⟩ | ⟨nc,e1,e2,v1,v2,j1,j2,rfl,rfl,hj,h8,hv⟩
   . have r:Rise [(hC prog w c,v0)] [SetTable.bits (hC prog w c) % 8]:=⟨rfl,.inr (.inl ⟨_,rfl⟩)⟩
     refine⟨r,[c],?_⟩
     rcases fK w S ep r with⟨h1,_⟩ | ⟨e,h1,h2⟩ | ⟨e1,e2,h1,_⟩
     . cases h1
     . cases h1
       rw[h2]
       refine⟨rfl,λ i v' c' e1 e2=>?_,?_⟩
       . match i with
         | 0=>simp at e1 e2;simp[e1,e2]
         | i+1=>simp at e1
       . show[v0]=_
         simp[sset]
     . cases h1
   . have r :Rise [(e1,v1),(e2,v2)] [j1,j2]:=⟨rfl,.inr (.inr ⟨_,_,rfl,hj⟩)⟩
     refine⟨r,?_⟩
     have key:∀(x y:Value)(p q:Int×List Int),(aP w S ep [(e1,v1),(e2,v2)]).toList.map (·.2)=[x,y]->((x,p)=(v0,c0)/\(y,q)=(v,c)∨(x,p)=(v,c)/\(y,q)=(v0,c0))->
      ∃ ds:List (Int×List Int),((aP w S ep [(e1,v1),(e2,v2)]).toList.map (·.2)).length=ds.length/\(∀(i:Nat)(v':Value)(c':Int×List Int),((aP w S ep [(e1,v1),(e2,v2)]).toList.map (·.2))[i]? =some v'->ds[i]? =some c'->(v',c')∈[v0,v].zip [c0,c])/\
        iU ((aP w S ep [(e1,v1),(e2,v2)]).toList.map (·.2)) ds=(sset (·.2) ([v0,v].zip [c0,c])).map (·.1):=by
      intro x y p q hm hxy
      rw[hm]
      refine⟨[p,q],rfl,λ i v' c' g1 g2=>?_,?_⟩
      . match i with
        | 0=>
          simp at g1 g2;subst g1 g2
          rcases hxy with⟨a,b⟩ | ⟨a,b⟩<;>(rw[a];simp)
        | 1=>
          simp at g1 g2;subst g1 g2
          rcases hxy with⟨a,b⟩ | ⟨a,b⟩<;>(rw[b];simp)
        | i+2=>simp at g1
      . show(if ltC q p=true then[y,x]else[x,y])=(if c=c0 then[(v0,c0)]else if ltC c c0=true then[(v,c),(v0,c0)]else[(v0,c0),(v,c)]).map (·.1)
        rw[if_neg nc]
        rcases hxy with⟨a,b⟩ | ⟨a,b⟩
        . cases a;cases b
          split<;>rfl
        . cases a;cases b
          cases h1:ltC c0 c with
          | true=>rw[Im h1];rfl
          | false=>
            cases h2:ltC c c0 with
            | true=>rfl
            | false=>exact absurd (Ht h2 h1) nc
     rcases fK w S ep r with⟨h1,_⟩ | ⟨e,h1,_⟩ | ⟨f1,f2,h1,h2⟩
     . cases h1
     . cases h1
     . cases h1
       rcases hv with⟨rfl,rfl⟩ | ⟨rfl,rfl⟩
       . rcases h2 with h2 | h2
         . exact key v1 v2 c0 c (by rw[h2];rfl) (.inl ⟨rfl,rfl⟩)
         . exact key v2 v1 c c0 (by rw[h2];rfl) (.inr ⟨rfl,rfl⟩)
       . rcases h2 with h2 | h2
         . exact key v1 v2 c c0 (by rw[h2];rfl) (.inr ⟨rfl,rfl⟩)
         . exact key v2 v1 c0 c (by rw[h2];rfl) (.inl ⟨rfl,rfl⟩)
 | _::_::_::_,_,_,h2,_=>simp at h2
theorem Em{S:Addr}{vs:List Value}{cs:List (Int×List Int)}{es:List (Int×Value)}{ps:List Nat}{ep:Nat}{Q:Value->Shared->Prop}(hh:A.handled=none)(hu:A.units+8<cLine)(r:Rise es ps)(ho:s.heap.get? S=some (cg (bG w) es ps ep))
 (hvs:vs=(aP w S ep es).toList.map (·.2))(hl:vs.length=cs.length)(h2:vs.length≤2)(hc:∀(i:Nat)(v:Value)(c:Int×List Int),vs[i]? =some v->cs[i]? =some c->bw s.heap v c)
 (h:∀h' tk a e,(∀b o,b<s.heap.objs.size->s.heap.get? b=some o->h'.get? b=some o)->s.heap.objs.size≤a->h'.get? a=some (seqObj "list" (iU vs cs).toArray e)->Q (.ref a) {s with heap:=h',toks:=tk}):
 wpAny (model prog w) A (call (.builtin "sorted") [.ref S]) Q E s:=by
 refine Calls.call_function_entry kind_sorted plain_sorted entry_sorted (args_sorted1 _) ?_
 unfold Builtin.«sorted»
 refine wpAny_bind (m:=checkCount "sorted" 1 1 _) (wpAny_pure ?_)
 refine wpAny_bind (zz (by simpa using hh) r ho λ h' tk k1 k2=>?_)
 rw[←hvs]
 have hsl:vs.length≤sizeLine:=Nat.le_trans h2 (by decide)
 refine wpAny_bind (wpAny_newList ?_ hsl)
 have hoL:(h'.push (seqObj "list" vs.toArray 0)).get? h'.objs.size=some (seqObj "list" vs.toArray 0):=Heap.get?_push_size _ rfl
 have keep:∀b o,s.heap.get? b=some o->(h'.push (seqObj "list" vs.toArray 0)).get? b=some o:=λ b o q=>Heap.get?_push_of_some _ (k1 b o (Heap.lt_size q) q)
 show wpAny _ _ _ _ _ {s with heap:=h'.push (seqObj "list" vs.toArray 0),toks:=tk}
 refine wpAny_bind (wpAny_holding (wpAny_call_entry slot_list_sort ⟨_,hoL,rfl⟩ entry_list_sort (vd ?_ hoL hl (λ i v c e1 e2=>(hc i v c e1 e2).keep λ b o e _=>keep b o e) h2 ⟨_,rfl,?_⟩) (args_list_sort _)))
 . show A.units+1+1+2<cLine
   omega
 . obtain⟨e,he⟩:=sortedHeap_at (out:=(iU vs cs).toArray) hoL
   refine wpAny_pure ⟨_,rfl,h _ tk _ e (λ b o hb q=>?_) k2 he⟩
   have hlt:b<h'.objs.size:=w9 hb k2
   rw[sortedHeap_old (v3 hlt) (by rw[size_push'];exact Nat.lt_succ_of_lt hlt)]
   exact keep b o q
end
def cD(c:Int×List Int):D:=.tup [.int c.1,.tup (c.2.map .int)]
section
variable {X : Cx}
theorem QD {pins:List (Addr×Obj)}{σ:DL.St}{H:Hp}{s:Shared}{O:Own}(I:Inv X pins σ H s){y:V}{u:Value}{c:Int×List Int}(r:Rep X.K O H y (cD c))(ru:RelV y u):bw s.heap u c:=by
 unfold cD at r
 cases r with
 | @tup a xs _ h1 q1=>
   cases ru
   obtain⟨js,rv,⟨o,p1,p2,n,p3⟩,hz⟩:=I.tuple h1.sq
   cases q1 with
   | cons r1 t1=>
     cases t1 with
     | cons r2 t2=>
       cases t2
       cases rv with
       | cons a1 b1=>
         cases b1 with
         | cons a2 b2=>
           cases b2
           cases r1
           obtain⟨tk,rfl⟩:=a1
           cases r2 with
           | @tup a' xs' _ h1' q1'=>
             cases a2
             obtain⟨js',rv',⟨o',p1',p2',n',p3'⟩,hz'⟩:=I.tuple h1'.sq
             have ex:=q1'.ints
             subst ex
             exact⟨a,o,n,tk,_,rfl,p1,p2,p3,_,o',_,n',rfl,p1',p2',p3',intsAre_of rv'⟩
theorem Gq {K :PySem.W.Frag}{O:Own}{H:Hp}{cs:List (Int×List Int)}{its:List Value}{xs:List V}(h2:cs.length≤2)(rv:Vals xs its)(hq:Reps K O H xs (cs.map cD)):
 ∃ys,Vals ys ((sset (·.2) (its.zip cs)).map (·.1))/\Reps K O H ys ((sset id cs).map cD)/\ys.length≤2:=by
 rcases cs with _ | ⟨c0,_ | ⟨c,_ | ⟨c',cs⟩⟩⟩
 . cases hq;cases rv;exact⟨[],.nil,.nil,Nat.zero_le _⟩
 . cases hq with
   | cons b1 t=>
     cases t
     cases rv with
     | cons a1 t=>
       cases t
       exact⟨[_],.cons a1 .nil,.cons b1 .nil,Nat.le_succ _⟩
 . cases hq with
   | cons b1 t=>
     cases t with
     | cons b2 t=>
       cases t
       cases rv with
       | cons a1 t=>
         cases t with
         | cons a2 t=>
           cases t
           rename_i y0 y x0 x
           have key:∃ys,Vals ys ((if c=c0 then[(x0,c0)]else if ltC c c0=true then[(x,c),(x0,c0)]else[(x0,c0),(x,c)]).map (·.1))/\Reps K O H ys ((if c=c0 then[c0]else if ltC c c0=true then[c,c0]else[c0,c]).map cD)/\ys.length≤2:=by
            by_cases e1:c=c0
            . rw[if_pos e1,if_pos e1];exact⟨[y0],.cons a1 .nil,.cons b1 .nil,Nat.le_succ _⟩
            . rw[if_neg e1,if_neg e1]
              by_cases e2:ltC c c0=true
              . rw[if_pos e2,if_pos e2];exact⟨[y,y0],.cons a2 (.cons a1 .nil),.cons b2 (.cons b1 .nil),y9 _⟩
              . rw[if_neg e2,if_neg e2];exact⟨[y0,y],.cons a1 (.cons a2 .nil),.cons b1 (.cons b2 .nil),y9 _⟩
           exact key
 . simp at h2
theorem Aa{cs:List (Int×List Int)}{S:Store}{W:WD}{d:D}(hc:X.calm=true)(hu:X.A.units+60<cLine)(h2:cs.length≤2)(hd:d=.lst (cs.map cD)∨∃k,d=.loc k/\S[k]? =some (cs.map cD))
 (w:∀(O:Own)(H:Hp)(p:Addr)(ys:List V),StOk X.K O H S->H p=none->Reps X.K O H ys ((sset id cs).map cD)->QG X.K O H W (.ref p) (upd H p (.lst ys)))
 {pins:Pins}{s:Shared}{σ:DL.St}{H:Hp}{O:Own}{v:V}{u:Value}(I:Inv X pins σ H s)(st:StOk X.K O H S)(r':Rep X.K O H v d)(ru':RelV v u):
 wpAny (model X.prog X.w) X.A (call (.type "set") [u]) (λ u1 s1=>wpAny (model X.prog X.w) X.A (call (.builtin "sorted") [u1]) (EP X pins σ (QG X.K O H W)) X.xe s1) X.xe s:=by
 have main:∀(a:Addr)(xs:List V),v=.ref a->SqL X.K H a xs->Reps X.K O H xs (cs.map cD)->wpAny (model X.prog X.w) X.A (call (.type "set") [u]) (λ u1 s1=>wpAny (model X.prog X.w) X.A (call (.builtin "sorted") [u1]) (EP X pins σ (QG X.K O H W)) X.xe s1) X.xe s:=by
  rintro a xs rfl hs hq
  cases ru'
  obtain⟨its,rv,pl,hz⟩:=I.list hs
  have l1:xs.length=cs.length:=by rw[hq.length,y7]
  have l2:its.length=cs.length:=by rw[←rv.length,l1]
  have cel:∀(i:Nat)(x:Value)(c:Int×List Int),its[i]? =some x->cs[i]? =some c->bw s.heap x c:=by
   intro i x c e1 e2
   have e3:(cs.map cD)[i]? =some (cD c):=by rw[y8,e2];rfl
   obtain⟨y,hy,ry⟩:=hq.get e3
   obtain⟨x',hx',rx⟩:=gR rv hy
   rw[e1]at hx';cases hx'
   exact QD I ry rx
  refine yM (I.ok.hd hc) (by omega) pl.isList l2 cel (by omega) λ h1 tk es ps ep g1 lies k1=>?_
  obtain⟨rise,ds,m1,m2,m3⟩:=zP (S:=s.heap.objs.size) (ep:=ep) l2 (by omega) lies
  have hlt:∀b o,s.heap.get? b=some o->h1.get? b=some o:=λ b o e=>k1 b o (Heap.lt_size e) e
  have sz1:s.heap.objs.size≤h1.objs.size:=Nat.le_of_lt (Heap.lt_size g1)
  have m4:((aP X.w s.heap.objs.size ep es).toList.map (·.2)).length≤2:=by
   rw[y7,Array.length_toList,jQ _ _ _ rise]
   rcases rise.sh with e | ⟨j,e⟩ | ⟨j,k,e,_⟩<;>(have:=rise.len;rw[e]at this;simp at this;omega)
  refine Em (s:={s with heap:=h1,toks:=tk}) (I.ok.hd hc) (by omega) rise g1 rfl m1 m4 (λ i x c e1 e2=>?_) λ h2' tk2 p e k2 hp he=>?_
  . have hm:=m2 i x c e1 e2
    obtain⟨j,hj⟩:=List.getElem?_of_mem hm
    rw[List.getElem?_zip_eq_some]at hj
    exact(cel j x c hj.1 hj.2).keep λ b o e _=>hlt b o e
  . rw[m3]at he
    have hp':s.heap.objs.size≤p:=Nat.le_trans sz1 hp
    have hpn:H p=none:=I.hok.fresh hp'
    obtain⟨ys,vy,ry,ly⟩:=Gq h2 rv hq
    have hys:ys.length≤sizeLine:=Nat.le_trans ly (by decide)
    refine⟨.ref p,_,I.laid (t':=tk2) (λ b o q=>k2 b o (w9 (Heap.lt_size q) sz1) (hlt b o q)) hp' (show bH X.prog X.w _ _ _ (.lst ys)from⟨hys,_,e,vy,he⟩),rfl,w O H p ys st hpn ry⟩
 rcases hd with rfl | ⟨k,rfl,hk⟩
 . cases r' with
   | @lst a xs _ h1 q1=>exact main a xs rfl h1.sq q1
 . cases r' with
   | @loc p _ h1=>
     obtain⟨xs,hx,q1⟩:=st.obj k p _ h1 hk
     exact main p xs rfl (SqL.of hx) q1
theorem FN{cs:List (Int×List Int)}{S:Store}{W:WD}{d:D}(hc:X.calm=true)(hu:X.A.units+60<cLine)(h2:cs.length≤2)(hd:d=.lst (cs.map cD)∨∃k,d=.loc k/\S[k]? =some (cs.map cD))(w:W (.lst ((sset id cs).map cD)) S)
 {pins:Pins}{s:Shared}{σ:DL.St}{H:Hp}{O:Own}{v:V}{u:Value}(I:Inv X pins σ H s)(st:StOk X.K O H S)(r':Rep X.K O H v d)(ru':RelV v u):
 wpAny (model X.prog X.w) X.A (call (.type "set") [u]) (λ u1 s1=>wpAny (model X.prog X.w) X.A (call (.builtin "sorted") [u1]) (EP X pins σ (QG X.K O H W)) X.xe s1) X.xe s:=
 Aa hc hu h2 hd (λ O H p ys st hp r=>gA w st hp r) I st r' ru'
end
section
variable {Ω : Wd}
def Ex.sset(hm:Ω.mg "sorted"=none)(hm2:Ω.mg "set"=none)(a:Ex Ω):Ex Ω where
 lev:=a.lev
 chk top N nm e:=match e with
  | .Call (.Name y _) [.Call (.Name z _) [b] [] _] [] _=>(y=="sorted")&&((z=="set")&&(glb nm "sorted"&&(glb nm "set"&&(okE b&&a.chk top N nm b))))
  | _=>false
 wp Γ S W:=a.wp Γ S λ d S1=>∃cs:List (Int×List Int),cs.length≤2/\(d=.lst (cs.map cD)∨∃k,d=.loc k/\S1[k]? =some (cs.map cD))/\W (.lst ((RF.sset id cs).map cD)) S1
 sound:=by
  intro X r top N nm e Γ S W A hl hc hw
  split at hc
  . rename_i y p z p' b pos' pos
    obtain⟨h1,hc⟩:=aa hc
    obtain⟨h2,hc⟩:=aa hc
    obtain⟨h3,hc⟩:=aa hc
    obtain⟨h4,hc⟩:=aa hc
    obtain⟨h5,h6⟩:=aa hc
    have e1:=eq_of_beq h1
    have e2:=eq_of_beq h2
    subst e1 e2
    intro pins s σ H O I env st
    refine wpAny_Call_Name_kw (cO I (A.glb h3) (by rw[A.g];exact hm) (show bootBuiltins "sorted"=some (.builtin "sorted")from by decide+kernel) ?_ (by decide) (by decide))
    refine PyProof.Rows.callWith_builtin1 ?_ rfl rfl
    show wpAny _ _ (spliced ((false,eval _ X.env)::backTo pos (starEach [] X.env))) _ _ s
    refine Calls.spliced_cons ?_
    refine wpAny_Call_Name_kw (cO I (A.glb h4) (by rw[A.g];exact hm2) (show bootBuiltins "set"=some (.type "set")from by decide+kernel) ?_ (by decide) (by decide))
    refine PyProof.Rows.callWith_type1 ?_ (bu h5 _ _) rfl
    rw[bu h5 [] X.env]
    show wpAny _ _ (spliced ((false,eval b X.env)::backTo pos' (starEach [] X.env))) _ _ s
    refine Calls.spliced_cons (thn (a.sound A hl h6 hw pins s σ H O I env st) λ u s1 hq_=>?_)
    obtain⟨v,H1,I1,r1,O1,x,S1,hb,st1,ok1,rep1⟩:=hq_
    obtain⟨cs,c1,c2,c3⟩:=hb
    refine Calls.spliced_nil ?_
    refine thn (FN A.calm A.hu c1 c2 c3 I1 ok1 rep1 r1) λ u2 s2 q=>?_
    refine Calls.spliced_nil ?_
    exact thn q λ _ _ q=>dW st1 q
  . exact fE hc
end
section
variable {Ω : Wd}
def Te.lval(a:Ex Ω):Te Ω where
 lev:=a.lev
 chk top N nm e:=Kl e&&a.chk top N nm e
 wp Γ S W:=a.wp Γ S λ d S1=>∃ds,vw S1 d=.lst ds/\(d=.lst ds∨∃k,d=.loc k/\S1[k]? =some ds)/\ds.length≤1000000/\W (!ds.isEmpty) S1
 sound:=by
  intro X r top N nm e Γ S W A hl hc hw
  obtain⟨h1,h2⟩:=aa hc
  intro pins s σ H O I env st
  refine isTrue_plain (thn (a.sound A hl h2 hw pins s σ H O I env st) λ u s3 hq_=>?_) (FZ h1 _ _)
  obtain⟨z,H3,I3,r3,O3,d,S3,⟨ds,_,hd,hz,wc⟩,st3,ok3,rep3⟩:=hq_
  have main:∀(p:Addr)(xs:List V),z=.ref p->SqL X.K H3 p xs->xs.length=ds.length->wpAny (model X.prog X.w) X.A (truthy u) (TP X pins σ (QT X.K O H W)) X.xe s3:=by
   rintro p xs rfl hs hlen
   cases r3
   obtain⟨its,rv,pl,hzz⟩:=I3.list hs
   have hl2:its.length=ds.length:=by rw[←rv.length,hlen]
   refine wpAny_truthy_list pl.isList (by rw[x5];omega) ?_
   have e:(!its.toArray.isEmpty)= !ds.isEmpty:=by
    cases its with
    | nil=>cases ds with
      | nil=>rfl
      | cons _ _=>simp at hl2
    | cons _ _=>cases ds with
      | nil=>simp at hl2
      | cons _ _=>rfl
   rw[e]
   exact⟨H3,I3.tok _,O3,S3,wc,st3,ok3⟩
  rcases hd with rfl | ⟨k,rfl,hk⟩
  . cases rep3 with
    | @lst p xs _ g1 q1=>exact main p xs rfl g1.sq q1.length
  . cases rep3 with
    | @loc p _ g1=>
      obtain⟨xs,hx,q1⟩:=ok3.obj k p _ g1 hk
      exact main p xs rfl (SqL.of hx) q1.length
end
end RF
namespace XE
open PySem PySem.Spec L2 DL RF
open PyProof.Rows
abbrev WX:=Str->Store->Prop
variable {Ω : Wd}
end XE
set_option maxHeartbeats 400000
set_option maxHeartbeats 1000000
namespace XE
open PySem PySem.Spec L2 DL RF
open PyProof.Rows
variable {Ω : Wd}
end XE
namespace XE
open PySem PySem.Spec L2 DL RF
open PyProof.Rows
variable {Ω : Wd}
end XE
namespace RF
open PySem PySem.Spec L2 DL
open PyProof.Rows
variable {Ω : Wd}
end RF
namespace RF
open PySem PySem.Spec L2 DL
open PyProof.Rows
variable {Ω : Wd}
end RF
namespace RF
open PySem PySem.Spec L2 DL
open PyProof.Rows
variable {Ω : Wd}
end RF
namespace RF
open PySem PySem.Spec L2 DL
open PyProof.Rows
variable {Ω : Wd}
end RF
namespace RF
open PySem PySem.W PyProof.Rows
section
variable {N : Nat} {lt : Nat -> Nat -> Bool}
def aX(N:Nat)(lt:Nat->Nat->Bool){α:Type}:KasT α->(α->Prop)->Prop
 | .ret a,R=>R a
 | .ask i j k,R=>i<N/\j<N/\aX N lt (k (lt i j)) R
theorem aX.bind{α β:Type}{f:α->KasT β}{R:β->Prop}:∀t:KasT α,aX N lt t (λ a=>aX N lt (f a) R)->aX N lt (t.bind f) R
 | .ret _,h=>h
 | .ask i j k,h=>⟨h.1,h.2.1,aX.bind (k (lt i j)) h.2.2⟩
theorem aX.wp{α:Type}{cmp:Nat->Nat->(Bool->Shared->Prop)->Shared->Prop}{I:Shared->Prop}(hc:∀i j C s,i<N->j<N->I s->(∀s',I s'->C (lt i j) s')->cmp i j C s):
 ∀(t:KasT α){R:α->Prop}{Q:α->Shared->Prop}(s:Shared),aX N lt t R->I s->(∀a s',R a->I s'->Q a s')->t.kasWp cmp Q s
 | .ret a,_,_,s,h,i,q=>q a s h i
 | .ask x y k,_,_,s,h,i,q=>hc x y _ s h.1 h.2.1 i λ s' i'=>aX.wp hc (k (lt x y)) s' h.2.2 i' q
structure LtOk(N:Nat)(lt:Nat->Nat->Bool):Prop where
 tot:∀i j,i<N->j<N->i≠j->lt i j=false->lt j i=true
 tr:∀i j k,i<N->j<N->k<N->lt i j=true->lt j k=true->lt i k=true
structure Pm(N:Nat)(p:Array Nat):Prop where
 sz:p.size=N
 lt:∀a,a<N->p.getD a 0<N
 inj:∀a b,a<N->b<N->p.getD a 0=p.getD b 0->a=b
def Srt(lt:Nat->Nat->Bool)(p:Array Nat)(m:Nat):Prop:=∀a b,a<b->b<m->lt (p.getD a 0) (p.getD b 0)=true
def Dsc(lt:Nat->Nat->Bool)(p:Array Nat)(m:Nat):Prop:=∀a b,a<b->b<m->lt (p.getD b 0) (p.getD a 0)=true
theorem ye(L:LtOk N lt){p:Array Nat}(P:Pm N p):∀(f n:Nat),1≤n->n+f=N->Srt lt p n->∀{R:Nat->Prop},(∀m,n≤m->m≤N->Srt lt p m->(m<N->lt (p.getD m 0) (p.getD (m-1) 0)=true)->R m)->aX N lt (kas_asc p f n) R
 | 0,n,h1,h2,h3,R,q=>q n (y9 _) (by omega) h3 λ z=>by omega
 | f + 1,n,h1,h2,h3,R,q=>by
   refine⟨P.lt n (by omega),P.lt (n-1) (by omega),?_⟩
   show aX N lt (if lt (p.getD n 0) (p.getD (n-1) 0)=true then .ret n else kas_asc p f (n+1)) R
   split
   . rename_i hc
     exact q n (y9 _) (by omega) h3 λ _=>hc
   . rename_i hc
     have hl:lt (p.getD (n-1) 0) (p.getD n 0)=true:=L.tot _ _ (P.lt n (by omega)) (P.lt (n-1) (by omega)) (λ e=>by have:=P.inj _ _ (by omega) (by omega) e;omega) (by simpa using hc)
     refine ye L P f (n+1) (by omega) (by omega) (λ a b hab hb=>?_) λ m g1 g2 g3 g4=>q m (by omega) g2 g3 g4
     by_cases hbn:b<n
     . exact h3 a b hab hbn
     . obtain rfl:b=n:=by omega
       by_cases ha:a=b-1
       . rw[ha];exact hl
       . exact L.tr _ _ _ (P.lt a (by omega)) (P.lt _ (by omega)) (P.lt b (by omega)) (h3 a (b-1) (by omega) (by omega)) hl
theorem BJ(L:LtOk N lt){p:Array Nat}(P:Pm N p):∀(f n:Nat),2≤n->n+f=N->Dsc lt p n->∀{R:Array Nat×Nat×Nat->Prop},(∀m,2≤m->m≤N->Dsc lt p m->R (p,m,0))->aX N lt (kas_desc f p n 0) R
 | 0,n,h1,h2,h3,R,q=>q n h1 (by omega) h3
 | f + 1,n,h1,h2,h3,R,q=>by
   refine⟨P.lt n (by omega),P.lt (n-1) (by omega),?_⟩
   show aX N lt (if lt (p.getD n 0) (p.getD (n-1) 0)=true then(if 0>0 then kas_desc f (kas_rev p (n-(0+1)) n) (n+1) 0 else kas_desc f p (n+1) 0)else .ask (p.getD (n-1) 0) (p.getD n 0) λ d=>if d=true then .ret (p,n,0)else kas_desc f p (n+1) (0+1)) R
   split
   . rename_i hl
     rw[if_neg (by omega)]
     refine BJ L P f (n+1) (by omega) (by omega) (λ a b hab hb=>?_) q
     by_cases hbn:b<n
     . exact h3 a b hab hbn
     . obtain rfl:b=n:=by omega
       by_cases ha:a=b-1
       . rw[ha];exact hl
       . exact L.tr _ _ _ (P.lt b (by omega)) (P.lt _ (by omega)) (P.lt a (by omega)) hl (h3 a (b-1) (by omega) (by omega))
   . rename_i hc
     have hl:lt (p.getD (n-1) 0) (p.getD n 0)=true:=L.tot _ _ (P.lt n (by omega)) (P.lt (n-1) (by omega)) (λ e=>by have:=P.inj _ _ (by omega) (by omega) e;omega) (by simpa using hc)
     refine⟨P.lt (n-1) (by omega),P.lt n (by omega),?_⟩
     show aX N lt (if lt (p.getD (n-1) 0) (p.getD n 0)=true then .ret (p,n,0)else kas_desc f p (n+1) (0+1)) R
     rw[if_pos hl]
     exact q n h1 (by omega) h3
theorem lG{p:Array Nat}{m:Nat}(h:m≤p.size)(a:Nat):(kas_rev p 0 m).getD a 0=if a<m then p.getD (m-1-a) 0 else p.getD a 0:=by
 rw[Array.getD_eq_getD_getElem?,Array.getD_eq_getD_getElem?,Array.getD_eq_getD_getElem?]
 unfold kas_rev
 rw[getElem?_mirror_all h]
 by_cases ha:a<m
 . rw[if_pos ⟨Nat.zero_le _,ha⟩,if_pos ha,Nat.zero_add]
 . rw[if_neg (λ z=>ha z.2),if_neg ha]
theorem Pm.rev{p:Array Nat}(P:Pm N p){m:Nat}(h:m≤N):Pm N (kas_rev p 0 m):=by
 have hs:m≤p.size:=by rw[P.sz];exact h
 refine⟨by unfold kas_rev;rw[mirror_size,P.sz],λ a ha=>?_,λ a b ha hb e=>?_⟩
 . rw[lG hs];split
   . exact P.lt _ (by omega)
   . exact P.lt _ ha
 . rw[lG hs,lG hs]at e
   split at e<;>split at e
   . have:=P.inj _ _ (by omega) (by omega) e;omega
   . have:=P.inj _ _ (by omega) (by omega) e;omega
   . have:=P.inj _ _ (by omega) (by omega) e;omega
   . exact P.inj _ _ ha hb e
theorem Dsc.rev{p:Array Nat}(P:Pm N p){m:Nat}(h:m≤N)(d:Dsc lt p m):Srt lt (kas_rev p 0 m) m:=λ a b hab hb=>by
 have hs:m≤p.size:=by rw[P.sz];exact h
 rw[lG hs,lG hs,if_pos (by omega),if_pos hb]
 exact d _ _ (by omega) (by omega)
theorem Ky(L:LtOk N lt)(h2:2≤N){p:Array Nat}(P:Pm N p){R:Nat×Array Nat->Prop}(q:∀m p',1≤m->m≤N->Pm N p'->Srt lt p' m->R (m,p')):aX N lt (kas_count N p) R:=by
 refine aX.bind _ (ye L P (N-1) 1 (y9 _) (by omega) (λ a b h h'=>by omega) λ n g1 g2 g3 g4=>?_)
 show aX N lt (if(n==N)=true then .ret (n,p)else if n>1 then .ask (p.getD 0 0) (p.getD (n-1) 0) λ c=>if c=true then .ret (n,p)else kas_descPart n N (kas_rev p 0 n)else kas_descPart n N p) R
 split
 . exact q n p g1 g2 P g3
 . rename_i hne
   have hlt:n<N:=by
    have:n≠N:=by simpa using hne
    omega
   split
   . refine⟨P.lt 0 (by omega),P.lt (n-1) (by omega),?_⟩
     show aX N lt (if lt (p.getD 0 0) (p.getD (n-1) 0)=true then .ret (n,p)else kas_descPart n N (kas_rev p 0 n)) R
     rw[if_pos (g3 0 (n-1) (by omega) (by omega))]
     exact q n p g1 g2 P g3
   . obtain rfl:n=1:=by omega
     have d2:Dsc lt p 2:=λ a b hab hb=>by
      obtain rfl:b=1:=by omega
      obtain rfl:a=0:=by omega
      exact g4 hlt
     refine aX.bind _ (BJ L P (N-(1+1)) (1+1) (by omega) (by omega) d2 λ m k1 k2 k3=>?_)
     show aX N lt (if 0>0 then _ else kas_tail3 m N p) R
     rw[if_neg (by omega)]
     refine aX.bind _ (ye L (P.rev k2) (N-m) m (by omega) (by omega) (Dsc.rev P k2 k3) λ m' j1 j2 j3 _=>?_)
     exact q m' _ (by omega) j2 (P.rev k2) j3
theorem pW(L:LtOk N lt){p:Array Nat}(P:Pm N p){k:Nat}(hk:k<N)(hs:Srt lt p k):∀(f l r:Nat),l≤r->r≤k->r-l≤f->(∀a,a<l->lt (p.getD a 0) (p.getD k 0)=true)->(∀a,r≤a->a<k->lt (p.getD k 0) (p.getD a 0)=true)->
 ∀{R:Nat->Prop},(∀l',l'≤k->(∀a,a<l'->lt (p.getD a 0) (p.getD k 0)=true)->(∀a,l'≤a->a<k->lt (p.getD k 0) (p.getD a 0)=true)->R l')->aX N lt (kas_place p k f l r) R
 | 0,l,r,h1,h2,h3,h4,h5,R,q=>q l (by omega) h4 λ a g1 g2=>h5 a (by omega) g2
 | f + 1,l,r,h1,h2,h3,h4,h5,R,q=>by
   show aX N lt (if l≥r then .ret l else .ask (p.getD k 0) (p.getD ((l+r)/2) 0) λ c=>if c=true then kas_place p k f l ((l+r)/2)else kas_place p k f ((l+r)/2+1) r) R
   split
   . exact q l (by omega) h4 λ a g1 g2=>h5 a (by omega) g2
   . refine⟨P.lt k hk,P.lt ((l+r)/2) (by omega),?_⟩
     show aX N lt (if lt (p.getD k 0) (p.getD ((l+r)/2) 0)=true then kas_place p k f l ((l+r)/2)else kas_place p k f ((l+r)/2+1) r) R
     split
     . rename_i hc
       refine pW L P hk hs f l ((l+r)/2) (by omega) (by omega) (by omega) h4 (λ a g1 g2=>?_) q
       by_cases e:a=(l+r)/2
       . rw[e];exact hc
       . exact L.tr _ _ _ (P.lt k hk) (P.lt _ (by omega)) (P.lt a (by omega)) hc (hs _ _ (by omega) g2)
     . rename_i hc
       have hl:lt (p.getD ((l+r)/2) 0) (p.getD k 0)=true:=L.tot _ _ (P.lt k hk) (P.lt _ (by omega)) (λ e=>by have:=P.inj _ _ hk (by omega) e;omega) (by simpa using hc)
       refine pW L P hk hs f ((l+r)/2+1) r (by omega) (by omega) (by omega) (λ a g1=>?_) h5 q
       by_cases e:a=(l+r)/2
       . rw[e];exact hl
       . exact L.tr _ _ _ (P.lt a (by omega)) (P.lt _ (by omega)) (P.lt k hk) (hs _ _ (by omega) (by omega)) hl
theorem Rk{p:Array Nat}{k l:Nat}(hk:k<p.size)(hl:l≤k)(a:Nat):(a=l/\(bubble p k (k-l)).getD a 0=p.getD k 0)∨(l<a/\a≤k/\(bubble p k (k-l)).getD a 0=p.getD (a-1) 0)∨((a<l∨k<a)/\(bubble p k (k-l)).getD a 0=p.getD a 0):=by
 rw[Array.getD_eq_getD_getElem?,Array.getD_eq_getD_getElem?,Array.getD_eq_getD_getElem?,Array.getD_eq_getD_getElem?,getElem?_bubble hk (k-l) (by omega)]
 by_cases h1:a=l
 . exact .inl ⟨h1,by rw[if_pos (by omega)]⟩
 . by_cases h2:l<a/\a≤k
   . exact .inr (.inl ⟨h2.1,h2.2,by rw[if_neg (by omega),if_pos (by omega)]⟩)
   . exact .inr (.inr ⟨by omega,by rw[if_neg (by omega),if_neg (by omega)]⟩)
theorem Jt(L:LtOk N lt):∀(f:Nat)(p:Array Nat)(k:Nat),Pm N p->1≤k->k+f=N->Srt lt p k->∀{R:Array Nat->Prop},(∀p',Pm N p'->Srt lt p' N->R p')->aX N lt (kas_bin f p k) R
 | 0,p,k,P,h1,h2,h3,R,q=>q p P (by rw[←h2];exact h3)
 | f+1,p,k,P,h1,h2,h3,R,q=>by
   have hk:k<N:=by omega
   refine aX.bind _ (pW L P hk h3 k 0 k (Nat.zero_le _) (y9 _) (by omega) (λ a z=>by omega) (λ a z z'=>by omega) λ l g1 g2 g3=>?_)
   have hks:k<p.size:=by rw[P.sz];exact hk
   have at_:=Rk hks g1
   have P':Pm N (bubble p k (k-l)):=by
    refine⟨by rw[bubble_size,P.sz],λ a ha=>?_,λ a b ha hb e=>?_⟩
    . rcases at_ a with⟨_,e⟩ | ⟨_,_,e⟩ | ⟨_,e⟩<;>rw[e]<;>exact P.lt _ (by omega)
    . rcases at_ a with⟨_,e1⟩ | ⟨_,_,e1⟩ | ⟨_,e1⟩<;>rcases at_ b with⟨_,e2⟩ | ⟨_,_,e2⟩ | ⟨_,e2⟩<;>(rw[e1,e2]at e;have:=P.inj _ _ (by omega) (by omega) e;omega)
   refine Jt L f (bubble p k (k-l)) (k+1) P' (by omega) (by omega) (λ a b hab hb=>?_) q
   rcases at_ a with⟨x1,e1⟩ | ⟨x1,x2,e1⟩ | ⟨x1,e1⟩<;>rcases at_ b with⟨y1,e2⟩ | ⟨y1,y2,e2⟩ | ⟨y1,e2⟩<;>rw[e1,e2]<;>
    first | (exfalso;omega) | exact g3 _ (by omega) (by omega) | exact g2 _ (by omega) | exact h3 _ _ (by omega) (by omega)
theorem KR:Pm N (List.toArray (List.range N)):=by
 have at_:∀a,a<N->(List.toArray (List.range N)).getD a 0=a:=λ a ha=>by
  rw[Array.getD_eq_getD_getElem?];simp[ha]
 exact⟨by simp,λ a ha=>by rw[at_ a ha];exact ha,λ a b ha hb e=>by rw[at_ a ha,at_ b hb]at e;exact e⟩
theorem Pb(L:LtOk N lt)(h2:2≤N):aX N lt (kas_sort N) λ p=>Pm N p/\Srt lt p N:=by
 refine aX.bind _ (Ky L h2 KR λ m p' h1 h3 P hs=>?_)
 show aX N lt (if m<N then kas_bin (N-max m 1) p' (max m 1)else .ret p') _
 have e:max m 1=m:=by omega
 rw[e]
 split
 . exact Jt L _ _ _ P h1 (by omega) hs λ p' P' s'=>⟨P',s'⟩
 . obtain rfl:m=N:=by omega
   exact⟨P,hs⟩
end
section
variable {prog : Program} {w : World} {A : Around} {E : Value -> Shared -> Prop} {s : Shared}
def eU:List Int->List Int->Bool
 | [],[]=>false
 | [],_::_=>true
 | _::_,[]=>false
 | a::as,b::bs=>if a=b then eU as bs else decide (a<b)
end
end RF
namespace XE
open PySem PySem.Spec L2 DL RF
open PyProof.Rows
variable {Ω : Wd}
end XE
set_option maxHeartbeats 4000000
namespace XE
open PySem PySem.Spec L2 DL RF
open PyProof.Rows
variable {Ω : Wd}
end XE
namespace RF
open PySem PySem.Spec L2 DL
open PyProof.Rows
theorem Ma(x y:Int)(xs ys:List Int):ltI (x::xs) (y::ys)=if x=y then ltI xs ys else decide (x<y):=by
 unfold ltI
 rw[show decide ((x::xs).length<(y::ys).length)=decide (xs.length<ys.length) by simp]
 rfl
theorem tY(xs:List Int):ltI xs []=false:=by
 unfold ltI
 rw[decide_eq_false (by simp)]
 cases xs<;>rfl
theorem Rg {a b c:List Int}(h1:ltI a b=true)(h2:ltI b c=true):ltI a c=true:=by
 induction a generalizing b c with
 | nil=>
   cases c with
   | nil=>rw[tY]at h2;cases h2
   | cons z c=>rfl
 | cons x a ih=>
   cases b with
   | nil=>rw[tY]at h1;cases h1
   | cons y b=>
     cases c with
     | nil=>rw[tY]at h2;cases h2
     | cons z c=>
       rw[Ma]at h1 h2 ⊢
       by_cases e1:x=y
       . subst e1
         rw[if_pos rfl]at h1
         by_cases e2:x=z
         . subst e2
           rw[if_pos rfl]at h2 ⊢
           exact ih h1 h2
         . rw[if_neg e2]at h2 ⊢
           exact h2
       . rw[if_neg e1]at h1
         have h1:=of_decide_eq_true h1
         by_cases e2:y=z
         . subst e2
           rw[if_neg e1]
           exact decide_eq_true h1
         . rw[if_neg e2]at h2
           have h2:=of_decide_eq_true h2
           rw[if_neg (by omega)]
           exact decide_eq_true (by omega)
structure OdrL(N:Nat)(lt:Nat->Nat->Bool)(p:List Nat):Prop where
 len:p.length=N
 lt_:∀i∈p,i<N
 nd:p.Nodup
 srt:p.Pairwise λ i j=>lt i j=true
theorem Ou{N:Nat}{lt:Nat->Nat->Bool}{p:Array Nat}(P:Pm N p)(h:Srt lt p N):OdrL N lt p.toList:=by
 have at_:∀a,a<N->p.toList[a]? =some (p.getD a 0):=λ a ha=>by
  have:a<p.size:=by rw[P.sz];exact ha
  simp[this]
 have hl:p.toList.length=N:=by rw[Array.length_toList,P.sz]
 refine⟨hl,λ i hi=>?_,?_,?_⟩
 . obtain⟨a,ha⟩:=List.getElem?_of_mem hi
   have hal:a<N:=by rw[←hl];exact(z0.mp ha).1
   rw[at_ a hal]at ha
   cases ha
   exact P.lt a hal
 . refine List.pairwise_iff_getElem.mpr λ a b ha hb hab e=>?_
   have e1:=at_ a (by omega)
   have e2:=at_ b (by omega)
   rw[y3 ha]at e1
   rw[y3 hb,←e]at e2
   have:=P.inj a b (by omega) (by omega) (Option.some.inj (e1.symm.trans e2))
   omega
 . refine List.pairwise_iff_getElem.mpr λ a b ha hb hab=>?_
   have e1:=at_ a (by omega)
   have e2:=at_ b (by omega)
   rw[y3 ha]at e1
   rw[y3 hb]at e2
   rw[Option.some.inj e1,Option.some.inj e2]
   exact h a b hab (by omega)
theorem Lr(n:Nat):∀(q:List Nat),q.Nodup->(∀i∈q,i<n)->q.length≤n:=by
 induction n with
 | zero=>
   intro q _ h
   cases q with
   | nil=>exact y9 _
   | cons a q=>exact absurd (h a x6) (by omega)
 | succ n ih=>
   intro q nd h
   by_cases c:n∈q
   . have:=ih (q.erase n) (nd.erase n) λ i hi=>by
      have:=h i (List.mem_of_mem_erase hi)
      have:i≠n:=λ e=>by rw[e]at hi;exact nd.not_mem_erase hi
      omega
     rw[List.length_erase_of_mem c]at this
     omega
   . have:=ih q nd λ i hi=>by
      have:=h i hi
      have:i≠n:=λ e=>c (e▸hi)
      omega
     omega
theorem Ir(n:Nat):∀(q:List Nat),q.Nodup->(∀i∈q,i<n)->q.length=n->q.Perm (List.range n):=by
 induction n with
 | zero=>
   intro q _ _ hl
   obtain rfl:=List.eq_nil_of_length_eq_zero hl
   exact .nil
 | succ n ih=>
   intro q nd h hl
   by_cases c:n∈q
   . have ih:=ih (q.erase n) (nd.erase n) (λ i hi=>by
      have:=h i (List.mem_of_mem_erase hi)
      have:i≠n:=λ e=>by rw[e]at hi;exact nd.not_mem_erase hi
      omega) (by rw[List.length_erase_of_mem c];omega)
     rw[List.range_succ]
     exact(List.perm_cons_erase c).trans ((List.Perm.cons n ih).trans (List.perm_append_singleton _ _).symm)
   . have:=Lr n q nd λ i hi=>by
      have:=h i hi
      have:i≠n:=λ e=>c (e▸hi)
      omega
     omega
theorem OdrL.perm{N:Nat}{lt:Nat->Nat->Bool}{p:List Nat}(h:OdrL N lt p):p.Perm (List.range N):=Ir N p h.nd h.lt_ h.len
theorem range_getD{α:Type}(l:List α)(z:α):((List.range l.length).map λ i=>l.getD i z)=l:=by
 refine List.ext_getElem? λ i=>?_
 rw[y8]
 by_cases hi:i<l.length
 . simp[hi]
 . rw[List.getElem?_eq_none (by rw[List.length_range];omega),List.getElem?_eq_none (by omega)];rfl
section
open SetTable
def adv(m:Nat)(p:Probe):Probe:=if p.more>0 then{p with j:=p.j+1,more:=p.more-1}else{p with j:=(leap m p.i p.perturb).1,more:=runEnd m (leap m p.i p.perturb).1-(leap m p.i p.perturb).1,i:=(leap m p.i p.perturb).1,perturb:=(leap m p.i p.perturb).2}
def adN(m:Nat):Nat->Probe->Probe
 | 0,p=>p
 | n+1,p=>adN m n (adv m p)
theorem eO(m a b:Nat)(p:Probe):adN m (a+b) p=adN m b (adN m a p):=by
 induction a generalizing p with
 | zero=>rw[Nat.zero_add];rfl
 | succ a ih=>rw[Nat.succ_add];exact ih _
theorem Mg(m a:Nat)(p:Probe):adN m (a+1) p=adv m (adN m a p):=eO m a 1 p
theorem lN(m n:Nat)(p:Probe):(adN m n p).dummy=p.dummy:=by
 induction n generalizing p with
 | zero=>rfl
 | succ n ih=>
   show(adN m n (adv m p)).dummy=_
   rw[ih]
   unfold adv
   split<;>rfl
def lpN(m:Nat):Nat->Nat×Nat->Nat×Nat
 | 0,q=>q
 | n+1,q=>lpN m n (leap m q.1 q.2)
theorem CJ(m a b:Nat)(q:Nat×Nat):lpN m (a+b) q=lpN m b (lpN m a q):=by
 induction a generalizing q with
 | zero=>rw[Nat.zero_add];rfl
 | succ a ih=>rw[Nat.succ_add];exact ih _
theorem yZ(m i:Nat):runEnd m i-i≤9:=by unfold runEnd;split<;>omega
theorem yU(m:Nat):∀(r:Nat)(p:Probe),p.more=r->(adN m (r+1) p).j=(leap m p.i p.perturb).1/\(adN m (r+1) p).i=(leap m p.i p.perturb).1/\(adN m (r+1) p).perturb=(leap m p.i p.perturb).2/\(adN m (r+1) p).more≤9:=by
 intro r
 induction r with
 | zero=>
   intro p h
   have e:adN m 1 p=adv m p:=rfl
   have e2:adv m p={p with j:=(leap m p.i p.perturb).1,more:=runEnd m (leap m p.i p.perturb).1-(leap m p.i p.perturb).1,i:=(leap m p.i p.perturb).1,perturb:=(leap m p.i p.perturb).2}:=by
    unfold adv;rw[if_neg (by omega)]
   rw[Nat.zero_add,e,e2]
   exact⟨rfl,rfl,rfl,yZ _ _⟩
 | succ r ih=>
   intro p h
   have e:adv m p={p with j:=p.j+1,more:=p.more-1}:=by unfold adv;rw[if_pos (by omega)]
   have:=ih (adv m p) (by rw[e];show p.more-1=r;omega)
   rw[e]at this
   have e1:adN m (r+1+1) p=adN m (r+1) (adv m p):=rfl
   rw[e1,e]
   exact this
theorem GD(m:Nat):∀(k:Nat)(p:Probe),p.more≤9->∃n,n≤10*(k+1)/\(adN m n p).j=(lpN m (k+1) (p.i,p.perturb)).1:=by
 intro k
 induction k with
 | zero=>
   intro p h
   exact⟨p.more+1,by omega,(yU m _ p rfl).1⟩
 | succ k ih=>
   intro p h
   obtain⟨h1,h2,h3,h4⟩:=yU m _ p rfl
   obtain⟨n,hn,e⟩:=ih (adN m (p.more+1) p) h4
   refine⟨p.more+1+n,by omega,?_⟩
   rw[eO,e,h2,h3]
   rfl
def lc(m i:Nat):Nat:=(i*5+1) % (m+1)
def lcN(m:Nat):Nat->Nat->Nat
 | 0,i=>i
 | n+1,i=>lcN m n (lc m i)
theorem tU(m a b i:Nat):lcN m (a+b) i=lcN m b (lcN m a i):=by
 induction a generalizing i with
 | zero=>rw[Nat.zero_add];rfl
 | succ a ih=>rw[Nat.succ_add];exact ih _
theorem Dh(m:Nat):∀(n i:Nat),lpN m n (i,0)=(lcN m n i,0):=by
 intro n
 induction n with
 | zero=>intro i;rfl
 | succ n ih=>
   intro i
   show lpN m n ((i*5+1+0/32) % (m+1),0/32)=_
   rw[Nat.zero_div,Nat.add_zero]
   exact ih _
theorem MP(m:Nat):∀(n:Nat)(q:Nat×Nat),(lpN m n q).2=q.2/32 ^ n:=by
 intro n
 induction n with
 | zero=>intro q;rw[Nat.pow_zero,Nat.div_one];rfl
 | succ n ih=>
   intro q
   show(lpN m n (leap m q.1 q.2)).2=_
   rw[ih]
   show q.2/32/32 ^ n=_
   rw[Nat.div_div_eq_div_mul,Nat.pow_succ,Nat.mul_comm]
theorem Mj(m:Nat):∀(n:Nat)(q:Nat×Nat),(lpN m (n+1) q).1≤m:=by
 intro n
 induction n with
 | zero=>intro q;exact Nat.le_of_lt_succ (Nat.mod_lt _ (by omega))
 | succ n ih=>intro q;exact ih _
def orb(m:Nat):Nat->Nat->List Nat
 | 0,_=>[]
 | n+1,i=>i::orb m n (lc m i)
theorem Rx(m:Nat):∀(n i k:Nat),k<n->(orb m n i)[k]? =some (lcN m k i):=by
 intro n
 induction n with
 | zero=>intro i k h;omega
 | succ n ih=>
   intro i k h
   cases k with
   | zero=>rfl
   | succ k=>exact ih _ k (by omega)
theorem Nj(m:Nat):∀(n i:Nat),(orb m n i).length=n:=by
 intro n
 induction n with
 | zero=>intro i;rfl
 | succ n ih=>intro i;show(orb m n _).length+1=_;rw[ih]
def cM(m:Nat):Bool:=((List.range (m+1)).all λ e=>(orb m (m+1) 0).elem e)&&(lcN m (m+1) 0==0)
theorem wF{m:Nat}(h:cM m=true){x e:Nat}(hx:x≤m)(he:e≤m):∃k,k≤m/\lcN m k x=e:=by
 unfold cM at h
 rw[Bool.and_eq_true,List.all_eq_true]at h
 obtain⟨h1,h2⟩:=h
 have h2:lcN m (m+1) 0=0:=by simpa using h2
 have get:∀y,y≤m->∃a,a≤m/\lcN m a 0=y:=λ y hy=>by
  have hm:=h1 y (List.mem_range.mpr (by omega))
  have hm:y∈orb m (m+1) 0:=List.elem_iff.mp hm
  obtain⟨a,ha⟩:=List.getElem?_of_mem hm
  have hl:=(z0.mp ha).1
  rw[Nj]at hl
  rw[Rx m _ _ _ hl]at ha
  exact⟨a,by omega,Option.some.inj ha⟩
 obtain⟨a,ha,rfl⟩:=get x hx
 obtain⟨b,hb,rfl⟩:=get e he
 by_cases hab:a≤b
 . refine⟨b-a,by omega,?_⟩
   rw[←tU,show a+(b-a)=b from by omega]
 . refine⟨m+1-a+b,by omega,?_⟩
   rw[←tU,show a+(m+1-a+b)=m+1+b from by omega,tU,h2]
theorem UW:cM 7=true:=by decide+kernel
theorem Mp:cM 31=true:=by decide+kernel
theorem HD:cM 127=true:=by decide+kernel
theorem K7{m:Nat}(h:cM m=true){p:Probe}(h9:p.more≤9)(hp:p.perturb<2 ^ 64){e:Nat}(he:e≤m):∃n,n<10*turns m/\(adN m n p).j=e:=by
 have h13:(lpN m 13 (p.i,p.perturb)).2=0:=by
  rw[MP]
  exact Nat.div_eq_of_lt (Nat.lt_trans hp (by decide))
 have hx:=Mj m 12 (p.i,p.perturb)
 obtain⟨k,hk,ek⟩:=wF h hx he
 obtain⟨n,hn,en⟩:=GD m (12+k) p h9
 refine⟨n,by unfold turns;omega,?_⟩
 rw[en,show 12+k+1=13+k from by omega,CJ]
 have e1:lpN m 13 (p.i,p.perturb)=((lpN m 13 (p.i,p.perturb)).1,0):=Prod.ext rfl h13
 rw[e1,Dh]
 exact ek
theorem J4{ps:List Nat}{j:Nat}(up:ps.Pairwise (· <·)):∀(fuel lo hi:Nat),hi≤ps.length->lo≤hi->hi-lo≤fuel->(∀k x,ps[k]? =some x->k<lo->x<j)->(∀k x,ps[k]? =some x->hi≤k->j≤x)->below.go ps.toArray j fuel lo hi≤ps.length/\(∀k x,ps[k]? =some x->k<below.go ps.toArray j fuel lo hi->x<j)/\(∀k x,ps[k]? =some x->below.go ps.toArray j fuel lo hi≤k->j≤x):=by
 intro fuel
 induction fuel with
 | zero=>
   intro lo hi h1 h2 h3 a b
   have:lo=hi:=by omega
   subst this
   exact⟨h1,a,b⟩
 | succ fuel ih=>
   intro lo hi h1 h2 h3 a b
   by_cases e:lo<hi
   . have hm:(lo+hi)/2<ps.length:=by omega
     have em:ps[(lo+hi)/2]? =some ps[(lo+hi)/2]:=y3 hm
     have eg:ps.toArray.getD ((lo+hi)/2) j=ps[(lo+hi)/2]:=by simp[Array.getD,hm]
     have eq:below.go ps.toArray j (fuel+1) lo hi=if ps[(lo+hi)/2]<j then below.go ps.toArray j fuel ((lo+hi)/2+1) hi else below.go ps.toArray j fuel lo ((lo+hi)/2):=by
      conv=>lhs;unfold below.go
      rw[if_pos e]
      show(if ps.toArray.getD ((lo+hi)/2) j<j then _ else _)=_
      rw[eg]
     rw[eq]
     by_cases l:ps[(lo+hi)/2]<j
     . rw[if_pos l]
       refine ih ((lo+hi)/2+1) hi h1 (by omega) (by omega) (λ k x hk hl=>?_) b
       by_cases ek:k=(lo+hi)/2
       . subst ek;rw[em]at hk;rw[←Option.some.inj hk];exact l
       . have hk2:=(z0.mp hk)
         have:=List.pairwise_iff_getElem.mp up k ((lo+hi)/2) hk2.1 hm (by omega)
         have:=hk2.2
         omega
     . rw[if_neg l]
       refine ih lo ((lo+hi)/2) (by omega) (by omega) (by omega) a (λ k x hk hl=>?_)
       by_cases ek:k=(lo+hi)/2
       . subst ek;rw[em]at hk;rw[←Option.some.inj hk];omega
       . have hk2:=(z0.mp hk)
         have:=List.pairwise_iff_getElem.mp up ((lo+hi)/2) k hm hk2.1 (by omega)
         have:=hk2.2
         omega
   . have:lo=hi:=by omega
     subst this
     have eq:below.go ps.toArray j (fuel+1) lo lo=lo:=by
      unfold below.go
      rw[if_neg e]
     rw[eq]
     exact⟨h1,a,b⟩
theorem pN{ps:List Nat}(up:ps.Pairwise (· <·))(j:Nat):below ps.toArray j≤ps.length/\(∀k x,ps[k]? =some x->k<below ps.toArray j->x<j)/\(∀k x,ps[k]? =some x->below ps.toArray j≤k->j≤x):=by
 unfold below
 have e:ps.toArray.size=ps.length:=rfl
 rw[e]
 refine J4 up _ 0 _ (y9 _) (by omega) (by omega) (λ k x _ h=>by omega) (λ k x hk h=>?_)
 have:=(z0.mp hk).1
 omega
theorem below_at{ps:List Nat}(up:ps.Pairwise (· <·)){i j:Nat}(h:ps[i]? =some j):below ps.toArray j=i:=by
 obtain⟨h1,h2,h3⟩:=pN up j
 generalize below ps.toArray j=r at*
 have hi:=z0.mp h
 have n1:¬i<r:=λ z=>by have:=h2 i j h z;omega
 by_cases e:r=i
 . exact e
 . have hr:r<ps.length:=by have:=hi.1;omega
   have:=List.pairwise_iff_getElem.mp up r i hr hi.1 (by omega)
   have:=h3 r _ (y3 hr) (y9 _)
   have:=hi.2
   omega
def aG(m:Nat)(ps:List Nat)(f:Nat)(led:Bool)(mv:Nat)(pl:Bool):SetTable:={mask:=m,place:=ps.toArray,dummies:=#[],finger:=f,led:=led,moves:=mv,plain:=pl}
section
variable {m f mv : Nat} {ps : List Nat} {led pl : Bool}
theorem rP(up:ps.Pairwise (· <·)){i j:Nat}(h:ps[i]? =some j):(aG m ps f led mv pl).slot j=.live i:=by
 unfold slot aG
 simp only[below_at up h]
 have:ps.toArray[i]? =some j:=by simpa using h
 rw[this]
 simp
theorem Bs{j:Nat}(h:j∉ps):(aG m ps f led mv pl).slot j=.empty:=by
 unfold slot aG
 have n:¬(ps.toArray[below ps.toArray j]? =some j):=λ e=>h (by
  have e:ps[below ps.toArray j]? =some j:=by simpa using e
  exact y4 e)
 have n2:((ps.toArray[below ps.toArray j]?)==some j)=false:=by simpa using n
 simp only[n2]
 rfl
theorem QW {t:SetTable}{hs:Nat->Int}{h:Int}:∀(fuel N:Nat)(p:Probe),p.dummy=none->N<fuel->t.slot (adN t.mask N p).j=.empty->(∀k,t.slot (adN t.mask k p).j≠.dummy)->
 ∃ n,n≤N/\(∀k,k<n->∃i,t.slot (adN t.mask k p).j=.live i/\hs i≠h)/\
   ((t.slot (adN t.mask n p).j=.empty/\probe.go t hs h fuel p=some (.empty (adN t.mask n p).j none))∨∃i,t.slot (adN t.mask n p).j=.live i/\hs i=h/\probe.go t hs h fuel p=some (.candidate (adN t.mask n p).j i (adN t.mask (n+1) p))):=by
 intro fuel
 induction fuel with
 | zero=>intro N p _ h;omega
 | succ fuel ih=>
   intro N p hd hN he hno
   cases q:t.slot p.j with
   | empty=>
     refine⟨0,by omega,λ k hk=>by omega,.inl ⟨q,?_⟩⟩
     unfold probe.go
     rw[q,hd]
     rfl
   | dummy=>exact absurd q (hno 0)
   | live i=>
     by_cases e:hs i=h
     . refine⟨0,by omega,λ k hk=>by omega,.inr ⟨i,q,e,?_⟩⟩
       unfold probe.go
       rw[q]
       simp only[e,beq_self_eq_true,if_true]
       rfl
     . cases N with
       | zero=>rw[show adN t.mask 0 p=p from rfl,q]at he;cases he
       | succ N=>
         have hd2:(adv t.mask p).dummy=none:=by rw[←hd];exact lN t.mask 1 p
         obtain⟨n,hn,a,b⟩:=ih N (adv t.mask p) hd2 (by omega) he λ k=>hno (k+1)
         have eg:probe.go t hs h (fuel+1) p=probe.go t hs h fuel (adv t.mask p):=by
          conv=>lhs;unfold probe.go
          rw[q]
          simp only[show(hs i==h)=false from by simpa using e]
          rfl
         refine⟨n+1,by omega,λ k hk=>?_,?_⟩
         . cases k with
           | zero=>exact⟨i,q,e⟩
           | succ k=>exact a k (by omega)
         . rw[eg]
           exact b
end
end
variable {m : Nat}
section
open SetTable
def stP(m:Nat)(h:Int):Probe:={j:=bits h % (m+1),more:=runEnd m (bits h % (m+1))-bits h % (m+1),i:=bits h % (m+1),perturb:=bits h,dummy:=none}
theorem Gh(t:SetTable)(h:Int):t.probeStart h=stP t.mask h:=rfl
def aB(m:Nat)(h:Int)(n:Nat):Nat:=(adN m n (stP m h)).j
theorem Di(h:Int):bits h<2 ^ 64:=by
 unfold bits
 have h1:=Int.emod_nonneg h (b:=2 ^ 64) (by decide)
 have h2:=Int.emod_lt_of_pos h (b:=2 ^ 64) (by decide)
 omega
theorem lJ{i:Nat}(h:i≤m):i≤runEnd m i/\runEnd m i≤m:=by unfold runEnd;split<;>omega
structure PIn(m:Nat)(p:Probe):Prop where
 jm:p.j+p.more≤m
 m9:p.more≤9
 pt:p.perturb<2 ^ 64
theorem Jq(m:Nat)(h:Int):PIn m (stP m h):=by
 have hi:bits h % (m+1)≤m:=Nat.le_of_lt_succ (Nat.mod_lt _ (by omega))
 have:=lJ hi
 exact⟨by show bits h % (m+1)+(runEnd m (bits h % (m+1))-bits h % (m+1))≤m;omega,yZ _ _,Di h⟩
theorem Qv{p:Probe}(h:PIn m p):PIn m (adv m p):=by
 unfold adv
 split
 . exact⟨by show p.j+1+(p.more-1)≤m;have:=h.jm;omega,by show p.more-1≤9;have:=h.m9;omega,h.pt⟩
 . have hi:(leap m p.i p.perturb).1≤m:=Nat.le_of_lt_succ (Nat.mod_lt _ (by omega))
   have:=lJ hi
   exact⟨by show(leap m p.i p.perturb).1+(runEnd m (leap m p.i p.perturb).1-(leap m p.i p.perturb).1)≤m;omega,yZ _ _,Nat.lt_of_le_of_lt (Nat.div_le_self _ _) h.pt⟩
theorem R3:∀(n:Nat){p:Probe},PIn m p->PIn m (adN m n p):=by
 intro n
 induction n with
 | zero=>intro p h;exact h
 | succ n ih=>intro p h;exact ih (Qv h)
theorem GP(m:Nat)(h:Int)(n:Nat):aB m h n≤m:=by
 have:=(R3 n (Jq m h)).jm
 unfold aB
 omega
theorem Iu{l:List Nat}(nd:l.Nodup):∀{U:List Nat},(∀x∈l,x∈U)->l.length≤U.length:=by
 induction l with
 | nil=>intro U _;exact Nat.zero_le _
 | cons a l ih=>
   intro U h
   rw[List.nodup_cons]at nd
   have ha:=h a x6
   have:=ih nd.2 (U:=U.erase a) λ x hx=>(List.mem_erase_of_ne (λ e:x=a=>nd.1 (e▸hx))).mpr (h x (x4 _ hx))
   rw[List.length_erase_of_mem ha]at this
   have:0<U.length:=List.length_pos_of_mem ha
   rw[List.length_cons]
   omega
theorem um{ps:List Nat}(hl:ps.length≤m):∃e,e≤m/\e∉ps:=by
 by_cases h:∃e,e≤m/\e∉ps
 . exact h
 . have:=Iu (List.nodup_range (n:=m+1)) (U:=ps) λ x hx=>by
    have hx:=List.mem_range.mp hx
    by_cases e:x∈ps
    . exact e
    . exact absurd ⟨x,by omega,e⟩ h
   rw[List.length_range]at this
   omega
theorem JQ(hm:cM m=true){ps:List Nat}(hl:ps.length≤m){p:Probe}(hp:PIn m p):∃N,N<10*turns m/\(adN m N p).j∉ps:=by
 obtain⟨e,he,hn⟩:=um hl
 obtain⟨N,h1,h2⟩:=K7 hm hp.m9 hp.pt he
 exact⟨N,h1,by rw[h2];exact hn⟩
structure Tab(m:Nat)(hs:List Int)(ps:List Nat):Prop where
 len:hs.length=ps.length
 up:ps.Pairwise (· <·)
 le:∀j∈ps,j≤m
 way:∀q∈hs.zip ps,∃n,aB m q.1 n=q.2/\∀k,k<n->aB m q.1 k∈ps
def ins{α:Type}(p:Nat)(x:α)(l:List α):List α:=l.take p++x::l.drop p
theorem mj{α:Type}(p:Nat)(x:α)(l:List α):(ins p x l).Perm (x::l):=by
 unfold ins
 refine List.perm_middle.trans ?_
 rw[List.take_append_drop]
theorem mZ{α:Type}{p:Nat}{x y:α}{l:List α}:y∈ins p x l↔y=x∨y∈l:=by
 rw[(mj p x l).mem_iff,List.mem_cons]
theorem ni{α:Type}(p:Nat)(x:α)(l:List α):(ins p x l).length=l.length+1:=(mj p x l).length_eq
theorem Px{α β:Type}(p:Nat)(a:α)(b:β)(l:List α)(k:List β)(h:l.length=k.length):(ins p a l).zip (ins p b k)=ins p (a,b) (l.zip k):=by
 unfold ins
 have e1:(l.zip k).take p=(l.take p).zip (k.take p):=by unfold List.zip;exact List.take_zipWith ..
 have e2:(l.zip k).drop p=(l.drop p).zip (k.drop p):=by unfold List.zip;exact List.drop_zipWith ..
 rw[List.zip_append (by rw[List.length_take,List.length_take,h]),List.zip_cons_cons,e1,e2]
theorem Tab.put{hs:List Int}{ps:List Nat}(T:Tab m hs ps){h:Int}{n:Nat}(hn:aB m h n∉ps)(hk:∀k,k<n->aB m h k∈ps):Tab m (ins (below ps.toArray (aB m h n)) h hs) (ins (below ps.toArray (aB m h n)) (aB m h n) ps):=by
 obtain⟨b1,b2,b3⟩:=pN T.up (aB m h n)
 refine⟨by rw[ni,ni,T.len],?_,λ j hj=>?_,λ q hq=>?_⟩
 . generalize below ps.toArray (aB m h n)=r at*
   unfold ins
   rw[List.pairwise_append]
   refine⟨List.Pairwise.sublist (List.take_sublist _ _) T.up,?_,λ a ha b hb=>?_⟩
   . rw[List.pairwise_cons]
     refine⟨λ b hb=>?_,List.Pairwise.sublist (List.drop_sublist _ _) T.up⟩
     obtain⟨i,hi⟩:=List.getElem?_of_mem hb
     rw[List.getElem?_drop]at hi
     have:=b3 _ _ hi (by omega)
     have:b≠aB m h n:=λ e=>hn (e▸y4 hi)
     omega
   . obtain⟨i,hi⟩:=List.getElem?_of_mem ha
     rw[List.getElem?_take]at hi
     split at hi
     . rename_i hir
       have h1:=b2 _ _ hi hir
       rw[List.mem_cons]at hb
       rcases hb with rfl | hb
       . exact h1
       . obtain⟨i2,hi2⟩:=List.getElem?_of_mem hb
         rw[List.getElem?_drop]at hi2
         have:=b3 _ _ hi2 (by omega)
         omega
     . cases hi
 . rcases mZ.mp hj with rfl | hj
   . exact GP _ _ _
   . exact T.le j hj
 . rw[Px _ _ _ _ _ T.len]at hq
   rcases mZ.mp hq with rfl | hq
   . exact⟨n,rfl,λ k hk2=>mZ.mpr (.inr (hk k hk2))⟩
   . obtain⟨n2,e,a⟩:=T.way q hq
     exact⟨n2,e,λ k hk2=>mZ.mpr (.inr (a k hk2))⟩
theorem tQ(m:Nat):∀(r:Nat)(p:Probe),r≤p.more->(adN m r p).j=p.j+r/\(adN m r p).more=p.more-r/\(adN m r p).i=p.i/\(adN m r p).perturb=p.perturb:=by
 intro r
 induction r with
 | zero=>intro p _;exact⟨rfl,rfl,rfl,rfl⟩
 | succ r ih=>
   intro p h
   have e:adv m p={p with j:=p.j+1,more:=p.more-1}:=by unfold adv;rw[if_pos (by omega)]
   have e1:adN m (r+1) p=adN m r (adv m p):=rfl
   obtain⟨a,b,c,d⟩:=ih (adv m p) (by rw[e];show r≤p.more-1;omega)
   rw[e1,a,b,c,d,e]
   exact⟨by show p.j+1+r=_;omega,by show p.more-1-r=_;omega,rfl,rfl⟩
theorem J8{p:Probe}:adN m (p.more+1) p={j:=(leap m p.i p.perturb).1,more:=runEnd m (leap m p.i p.perturb).1-(leap m p.i p.perturb).1,i:=(leap m p.i p.perturb).1,perturb:=(leap m p.i p.perturb).2,dummy:=p.dummy}:=by
 obtain⟨a,b,c,d⟩:=tQ m p.more p (y9 _)
 have e:=lN m p.more p
 rw[Mg]
 unfold adv
 rw[if_neg (by rw[b];omega),c,d,e]
theorem Fv{n:Nat}{q:Nat->Bool}:(∀k,(List.range n).find? q=some k->k<n/\q k=true/\∀i,i<k->q i=false)/\((List.range n).find? q=none->∀i,i<n->q i=false):=by
 constructor
 . intro k h
   obtain⟨h1,as,bs,e,h2⟩:=List.find?_eq_some_iff_append.mp h
   have hm:k∈List.range n:=by rw[e];simp
   refine⟨List.mem_range.mp hm,h1,λ i hi=>?_⟩
   have hin:i∈List.range n:=List.mem_range.mpr (by have:=List.mem_range.mp hm;omega)
   have pw:(as++k::bs).Pairwise (· <·):=by rw[←e];exact List.pairwise_lt_range
   rw[e]at hin
   rcases List.mem_append.mp hin with hin | hin
   . have:=h2 i hin
     simpa using this
   . rw[List.pairwise_append,List.pairwise_cons]at pw
     rcases List.mem_cons.mp hin with rfl | hin
     . omega
     . have:=pw.2.1.1 i hin
       omega
 . intro h i hi
   have:=List.find?_eq_none.mp h i (List.mem_range.mpr hi)
   simpa using this
theorem M7 {ow:Array (Option Nat)}{J:List Nat}(hJ:∀j,j≤m->((ow.getD j (some 0)).isNone=true↔j∉J)):∀(fuel k i pt:Nat),i≤m->k<fuel->(lpN m k (i,pt)).1∉J->∃n,layClean.free m ow fuel i pt=some (adN m n {j:=i,more:=runEnd m i-i,i:=i,perturb:=pt,dummy:=none}).j/\(adN m n {j:=i,more:=runEnd m i-i,i:=i,perturb:=pt,dummy:=none}).j∉J/\∀a,a<n->(adN m a {j:=i,more:=runEnd m i-i,i:=i,perturb:=pt,dummy:=none}).j∈J:=by
 intro fuel
 induction fuel with
 | zero=>intro k i pt _ h;omega
 | succ fuel ih=>
   intro k i pt hi hk he
   have hr:=lJ hi
   obtain⟨f1,f2⟩:=Fv (n:=runEnd m i+1-i) (q:=λ k=>(ow.getD (i+k) (some 0)).isNone)
   have occ:∀a,a<runEnd m i+1-i->(ow.getD (i+a) (some 0)).isNone=false->(adN m a {j:=i,more:=runEnd m i-i,i:=i,perturb:=pt,dummy:=none}).j∈J:=by
    intro a ha hf
    have:=(tQ m a {j:=i,more:=runEnd m i-i,i:=i,perturb:=pt,dummy:=none} (by show a≤runEnd m i-i;omega)).1
    rw[this]
    show i+a∈J
    by_cases e:i+a∈J
    . exact e
    . rw[(hJ (i+a) (by omega)).mpr e]at hf;cases hf
   unfold layClean.free
   cases q:(List.range (runEnd m i+1-i)).find? λ k=>(ow.getD (i+k) (some 0)).isNone with
   | some a=>
     obtain⟨g1,g2,g3⟩:=f1 a q
     have ea:=(tQ m a {j:=i,more:=runEnd m i-i,i:=i,perturb:=pt,dummy:=none} (by show a≤runEnd m i-i;omega)).1
     refine⟨a,by rw[ea],?_,λ b hb=>occ b (by omega) (g3 b hb)⟩
     rw[ea]
     exact(hJ (i+a) (by omega)).mp g2
   | none=>
     have g:=f2 q
     cases k with
     | zero=>
       have h0:=g 0 (by omega)
       have h0:(ow.getD i (some 0)).isNone=false:=h0
       have:=(hJ i hi).mpr he
       rw[this]at h0
       cases h0
     | succ k=>
       have hi2:(leap m i pt).1≤m:=Nat.le_of_lt_succ (Nat.mod_lt _ (by omega))
       obtain⟨n,e1,e2,e3⟩:=ih k (leap m i pt).1 (leap m i pt).2 hi2 (by omega) he
       have el:=J8 (m:=m) (p:={j:=i,more:=runEnd m i-i,i:=i,perturb:=pt,dummy:=none})
       refine⟨runEnd m i-i+1+n,?_,?_,λ a ha=>?_⟩
       . rw[eO,el]
         exact e1
       . rw[eO,el]
         exact e2
       . by_cases hb:a<runEnd m i+1-i
         . exact occ a hb (g a hb)
         . have:=e3 (a-(runEnd m i-i+1)) (by omega)
           rw[show a=runEnd m i-i+1+(a-(runEnd m i-i+1))from by omega,eO,el]
           exact this
end
end RF
namespace RF
open PySem PySem.Spec L2 DL
variable {m : Nat}
section
open SetTable
theorem JR(h:cM m=true){i pt:Nat}(hp:pt<2 ^ 64){e:Nat}(he:e≤m):∃k,k<turns m/\(lpN m k (i,pt)).1=e:=by
 have h13:(lpN m 13 (i,pt)).2=0:=by
  rw[MP]
  exact Nat.div_eq_of_lt (Nat.lt_trans hp (by decide))
 have hx:=Mj m 12 (i,pt)
 obtain⟨k,hk,ek⟩:=wF h hx he
 refine⟨13+k,by unfold turns;omega,?_⟩
 rw[CJ]
 have e1:lpN m 13 (i,pt)=((lpN m 13 (i,pt)).1,0):=Prod.ext rfl h13
 rw[e1,Dh]
 exact ek
structure Ow(m:Nat)(hs:List Int)(ow:Array (Option Nat))(J:List Nat):Prop where
 size:ow.size=m+1
 len:J.length=hs.length
 nd:J.Nodup
 le:∀j∈J,j≤m
 own:∀j q,ow.getD j none=some q↔J[q]? =some j
 way:∀z∈hs.zip J,∃n,aB m z.1 n=z.2/\∀k,k<n->aB m z.1 k∈J
theorem Ow.nil(m:Nat):Ow m [] (Array.replicate (m+1) none) []:=by
 refine⟨by simp,rfl,List.nodup_nil,(λ _ h=>nomatch h),λ j q=>?_,(λ _ h=>nomatch h)⟩
 constructor
 . intro h
   by_cases e:j<m+1
   . simp[Array.getD,e]at h
   . simp[Array.getD,e]at h
 . intro h;simp at h
theorem Ow.none_iff{hs:List Int}{ow:Array (Option Nat)}{J:List Nat}(O:Ow m hs ow J){j:Nat}:ow.getD j none=none↔j∉J:=by
 constructor
 . intro h hm
   obtain⟨q,hq⟩:=List.getElem?_of_mem hm
   rw[(O.own j q).mpr hq]at h
   cases h
 . intro h
   cases q:ow.getD j none with
   | none=>rfl
   | some a=>exact absurd (y4 ((O.own j a).mp q)) h
theorem Ow.isNone{hs:List Int}{ow:Array (Option Nat)}{J:List Nat}(O:Ow m hs ow J)(j:Nat)(hj:j≤m):(ow.getD j (some 0)).isNone=true↔j∉J:=by
 have e:ow.getD j (some 0)=ow.getD j none:=by
  have:j<ow.size:=by rw[O.size];omega
  simp[Array.getD,this]
 rw[e,Option.isNone_iff_eq_none]
 exact O.none_iff
theorem Ow.step(hm:cM m=true){hs:List Int}{ow:Array (Option Nat)}{J:List Nat}(O:Ow m hs ow J)(hl:hs.length≤m)(h:Int):∃j,layClean.free m ow (turns m) (bits h % (m+1)) (bits h)=some j/\Ow m (hs++[h]) (ow.setIfInBounds j (some hs.length)) (J++[j]):=by
 obtain⟨e,he,hn⟩:=um (m:=m) (ps:=J) (by rw[O.len];exact hl)
 obtain⟨k,hk,ek⟩:=JR hm (i:=bits h % (m+1)) (Di h) he
 obtain⟨n,e1,e2,e3⟩:=M7 O.isNone (turns m) k (bits h % (m+1)) (bits h) (Nat.le_of_lt_succ (Nat.mod_lt _ (by omega))) hk (by rw[ek];exact hn)
 have e1:layClean.free m ow (turns m) (bits h % (m+1)) (bits h)=some (aB m h n):=e1
 have e2:aB m h n∉J:=e2
 have e3:∀a,a<n->aB m h a∈J:=e3
 have wl:=GP m h n
 refine⟨_,e1,by rw[Array.size_setIfInBounds];exact O.size,by rw[x8,x8,O.len];rfl,?_,λ j hj=>?_,λ j q=>?_,λ z hz=>?_⟩
 . rw[List.nodup_append]
   refine⟨O.nd,by simp,λ a ha b hb e=>?_⟩
   rw[List.mem_singleton]at hb
   exact e2 (hb▸e▸ha)
 . rcases List.mem_append.mp hj with hj | hj
   . exact O.le j hj
   . rw[List.mem_singleton.mp hj];exact wl
 . have hsz:=O.size
   by_cases ej:j=aB m h n
   . subst ej
     have eg:(ow.setIfInBounds (aB m h n) (some hs.length)).getD (aB m h n) none=some hs.length:=by
      have:aB m h n<ow.size:=by omega
      simp[Array.getD,this]
     rw[eg]
     constructor
     . intro e
       rw[←Option.some.inj e,←O.len]
       simp
     . intro e
       by_cases hq:q<J.length
       . rw[x9 hq]at e
         exact absurd (y4 e) e2
       . have hq2:=(z0.mp e).1
         rw[x8,List.length_singleton]at hq2
         have:q=J.length:=by omega
         rw[this,O.len]
   . have eg:(ow.setIfInBounds (aB m h n) (some hs.length)).getD j none=ow.getD j none:=by
      unfold Array.getD
      by_cases hj:j<ow.size
      . have hj2:j<(ow.setIfInBounds (aB m h n) (some hs.length)).size:=by rw[Array.size_setIfInBounds];exact hj
        rw[dif_pos hj2,dif_pos hj]
        exact Array.getElem_setIfInBounds_ne hj (λ e=>ej e.symm)
      . have hj2:¬j<(ow.setIfInBounds (aB m h n) (some hs.length)).size:=by rw[Array.size_setIfInBounds];exact hj
        rw[dif_neg hj2,dif_neg hj]
     rw[eg,O.own]
     by_cases hq:q<J.length
     . rw[x9 hq]
     . constructor
       . intro e;exact absurd (z0.mp e).1 hq
       . intro e
         have hq2:=(z0.mp e).1
         rw[x8,List.length_singleton]at hq2
         rw[show q=J.length from by omega]at e
         simp at e
         exact absurd e.symm ej
 . rw[List.zip_append O.len.symm]at hz
   rcases List.mem_append.mp hz with hz | hz
   . obtain⟨n2,a,b⟩:=O.way z hz
     exact⟨n2,a,λ k hk=>List.mem_append_left _ (b k hk)⟩
   . rw[List.zip_cons_cons,List.zip_nil_right,List.mem_singleton]at hz
     subst hz
     exact⟨n,rfl,λ k hk=>List.mem_append_left _ (e3 k hk)⟩
def yN(m:Nat)(acc:Option (Array (Option Nat)×Nat))(h:Int):Option (Array (Option Nat)×Nat):=do
 let (owner,k) ←acc
 let j ←layClean.free m owner (turns m) (bits h % (m+1)) (bits h)
 pure (owner.setIfInBounds j (some k),k+1)
theorem J9(hm:cM m=true):∀(rest hs:List Int)(ow:Array (Option Nat))(J:List Nat),Ow m hs ow J->hs.length+rest.length≤m->∃ow' J',rest.foldl (yN m) (some (ow,hs.length))=some (ow',(hs++rest).length)/\Ow m (hs++rest) ow' J':=by
 intro rest
 induction rest with
 | nil=>intro hs ow J O _;exact⟨ow,J,by rw[List.append_nil];rfl,by rw[List.append_nil];exact O⟩
 | cons h rest ih=>
   intro hs ow J O hl
   rw[List.length_cons]at hl
   obtain⟨j,e,O2⟩:=O.step hm (by omega) h
   obtain⟨ow',J',e2,O3⟩:=ih (hs++[h]) _ _ O2 (by rw[x8,List.length_singleton];omega)
   refine⟨ow',J',?_,by rw[List.append_assoc]at O3;exact O3⟩
   rw[List.foldl_cons]
   have ef:yN m (some (ow,hs.length)) h=some (ow.setIfInBounds j (some hs.length),(hs++[h]).length):=by
    unfold yN
    show((layClean.free m ow (turns m) (bits h % (m+1)) (bits h)).bind λ j=>some (ow.setIfInBounds j (some hs.length),hs.length+1))=_
    rw[e,x8]
    rfl
   rw[ef,e2,List.append_assoc]
   rfl
theorem R7(hm:cM m=true){hs:List Int}(hl:hs.length≤m):∃ow J,layClean m hs.toArray=some ow/\Ow m hs ow J:=by
 obtain⟨ow,J,e,O⟩:=J9 hm hs [] _ _ (Ow.nil m) (by rw[List.length_nil];omega)
 refine⟨ow,J,?_,O⟩
 unfold layClean
 show(hs.toArray.foldl (yN m) (some (Array.replicate (m+1) none,0))).map (·.1)=_
 rw[List.foldl_toArray]
 have e:hs.foldl (yN m) (some (Array.replicate (m+1) none,0))=some (ow,([]++hs).length):=e
 rw[e]
 rfl
def nF(m:Nat)(ow:Array (Option Nat)):List (Nat×Nat):=(List.range (m+1)).filterMap λ j=>(ow.getD j none).map (j,·)
theorem gM{ow:Array (Option Nat)}{z:Nat×Nat}(h:z∈nF m ow):z.1≤m/\ow.getD z.1 none=some z.2:=by
 obtain⟨j,hj,e⟩:=List.mem_filterMap.mp h
 cases q:ow.getD j none with
 | none=>rw[q]at e;cases e
 | some a=>
   rw[q]at e
   have e:(j,a)=z:=Option.some.inj e
   subst e
   exact⟨by have:=List.mem_range.mp hj;omega,q⟩
theorem Bg(m:Nat)(ow:Array (Option Nat)):(nF m ow).Pairwise λ a b=>a.1<b.1:=by
 unfold nF
 rw[List.pairwise_filterMap]
 refine List.Pairwise.imp ?_ (List.pairwise_lt_range (n:=m+1))
 intro a b hab x hx y hy
 have e1:x.1=a:=by
  cases q:ow.getD a none with
  | none=>rw[q]at hx;cases hx
  | some c=>rw[q]at hx;have hx:(a,c)=x:=Option.some.inj hx;rw[←hx]
 have e2:y.1=b:=by
  cases q:ow.getD b none with
  | none=>rw[q]at hy;cases hy
  | some c=>rw[q]at hy;have hy:(b,c)=y:=Option.some.inj hy;rw[←hy]
 rw[e1,e2]
 exact hab
theorem Ph(hm:cM m=true){hs:List Int}(hl:hs.length≤m)(f mv:Nat)(led pl:Bool):∃(ps order:List Nat),SetTable.laid m f mv led pl hs.toArray=some (aG m ps f led mv pl,order.toArray)/\order.Perm (List.range hs.length)/\Tab m (order.map λ q=>hs.getD q 0) ps:=by
 obtain⟨ow,J,e,O⟩:=R7 hm hl
 refine⟨(nF m ow).map (·.1),(nF m ow).map (·.2),?_,?_,?_⟩
 . unfold SetTable.laid
   rw[e]
   rfl
 . refine(List.perm_ext_iff_of_nodup ?_ List.nodup_range).mpr λ q=>?_
   . rw[List.Nodup,List.pairwise_map]
     refine List.Pairwise.imp_of_mem (λ{a b} ha hb hab e=>?_) (Bg m ow)
     have h1:=(O.own _ _).mp (gM ha).2
     have h2:=(O.own _ _).mp (gM hb).2
     rw[e,h2]at h1
     have:=Option.some.inj h1
     omega
   . rw[List.mem_range]
     constructor
     . intro h
       obtain⟨z,hz,rfl⟩:=List.mem_map.mp h
       have:=(z0.mp ((O.own _ _).mp (gM hz).2)).1
       rw[O.len]at this
       exact this
     . intro h
       have hqJ:q<J.length:=by rw[O.len];exact h
       have hq:J[q]? =some J[q]:=y3 hqJ
       have ho:=(O.own _ _).mpr hq
       refine List.mem_map.mpr ⟨(J[q],q),List.mem_filterMap.mpr ⟨J[q],List.mem_range.mpr ?_,by rw[ho];rfl⟩,rfl⟩
       have:=O.le _ (y4 hq)
       omega
 . have occ:∀j,j∈(nF m ow).map (·.1)↔j∈J:=by
    intro j
    constructor
    . intro h
      obtain⟨z,hz,rfl⟩:=List.mem_map.mp h
      exact y4 ((O.own _ _).mp (gM hz).2)
    . intro h
      obtain⟨q,hq⟩:=List.getElem?_of_mem h
      refine List.mem_map.mpr ⟨(j,q),List.mem_filterMap.mpr ⟨j,List.mem_range.mpr (by have:=O.le j h;omega),by rw[(O.own _ _).mpr hq];rfl⟩,rfl⟩
   refine⟨by simp,by rw[List.pairwise_map];exact Bg m ow,λ j hj=>O.le j ((occ j).mp hj),λ z hz=>?_⟩
   rw[List.map_map,List.zip_map']at hz
   obtain⟨y,hy,rfl⟩:=List.mem_map.mp hz
   have hJ:=(O.own _ _).mp (gM hy).2
   have hl2:=(z0.mp hJ).1
   rw[O.len]at hl2
   have hh:hs[y.2]? =some (hs.getD y.2 0):=by rw[List.getD_eq_getElem?_getD,y3 hl2];rfl
   obtain⟨n,a,b⟩:=O.way (hs.getD y.2 0,y.1) (y4 (i:=y.2) (List.getElem?_zip_eq_some.mpr ⟨hh,hJ⟩))
   exact⟨n,a,λ k hk=>(occ _).mpr (b k hk)⟩
end
end RF
namespace RF
open PySem PySem.Spec L2 DL
open PyProof.Rows
variable {m : Nat} {ps : List Nat}
section
open SetTable
structure HK(prog:Program)(w:World)(α:Type)[DecidableEq α] where
 h:α->Int
 I:Heap->Value->α->Prop
 keep:∀{h h':Heap}{v:Value}{c:α},(∀b o,h.get? b=some o->o.cls=.type "tuple"->h'.get? b=some o)->I h v c->I h' v c
 ref:∀{h:Heap}{v:Value}{c:α},I h v c->∃b,v=.ref b
 eq:∀{A:Around}{s:Shared}{u v:Value}{c d:α},A.units+2<cLine->I s.heap u c->I s.heap v d->SeqAt.EqAt A s u v (decide (c=d))
 seen:∀{A:Around}{E:Value->Shared->Prop}{s:Shared}{x:Value}{c:α}{ys:List Value}{Q:Bool->Shared->Prop},I s.heap x c->(∀y∈ys,∃d,I s.heap y d)->Q false s->wpAny (model prog w) A (searchCouldBeSeen x ys) Q E s
 hbv:∀{A:Around}{E:Value->Shared->Prop}{s:Shared}{b:Addr}{c:α}{Q:Bool->Shared->Prop},I s.heap (.ref b) c->Q true s->wpAny (model prog w) A (hashByValue 8 (.ref b)) Q E s
 hash:∀{A:Around}{E:Value->Shared->Prop}{s:Shared}{v:Value}{c:α}{Q:Int->Shared->Prop},A.units+5<cLine->I s.heap v c->(∀n,Q (h c) {s with toks:=s.toks+n})->wpAny (model prog w) A (pyHash v) Q E s
variable {prog : Program} {w : World} {α : Type} [DecidableEq α] {K : HK prog w α}
abbrev Cv(α:Type):=List (α×Value)
def aQ(K:HK prog w α)(xs:Cv α):List Int:=xs.map λ x=>K.h x.1
def aq(K:HK prog w α)(xs:Cv α):List (Int×Value):=xs.map λ x=>(K.h x.1,x.2)
theorem yP{f mv:Nat}{led pl:Bool}{hs:List Int}(T:Tab m hs ps)(j:Nat):(j∉ps/\(aG m ps f led mv pl).slot j=.empty)∨∃i,ps[i]? =some j/\(aG m ps f led mv pl).slot j=.live i:=by
 by_cases h:j∈ps
 . obtain⟨i,hi⟩:=List.getElem?_of_mem h
   exact .inr ⟨i,hi,rP T.up hi⟩
 . exact .inl ⟨h,Bs h⟩
theorem RX{xs:Cv α}(T:Tab m (aQ K xs) ps){i j:Nat}(h:ps[i]? =some j):∃x,xs[i]? =some x:=by
 have:=(z0.mp h).1
 have l:=T.len
 unfold aQ at l
 rw[y7]at l
 exact⟨xs[i],y3 (by omega)⟩
theorem Hy{f mv:Nat}{led pl:Bool}{xs:Cv α}(T:Tab m (aQ K xs) ps){hs:Nat->Int}(hhs:∀(i:Nat)(x:α×Value),xs[i]? =some x->hs i=K.h x.1){h:Int}{n N:Nat}(hn:n≤N)(hN:N<10*turns m)(he:aB m h N∉ps):
 ∃ k,n+k≤N/\(∀a,n≤a->a<n+k->∃(i:Nat) (x:α×Value),ps[i]? =some (aB m h a)/\xs[i]? =some x/\K.h x.1≠h)/\
   ((aB m h (n+k)∉ps/\(aG m ps f led mv pl).probe hs h (adN m n (stP m h))=some (.empty (aB m h (n+k)) none))∨∃(i:Nat) (x:α×Value),ps[i]? =some (aB m h (n+k))/\xs[i]? =some x/\K.h x.1=h/\(aG m ps f led mv pl).probe hs h (adN m n (stP m h))=some (.candidate (aB m h (n+k)) i (adN m (n+k+1) (stP m h)))):=by
 have ew:∀a,(adN m a (adN m n (stP m h))).j=aB m h (n+a):=λ a=>by unfold aB;rw[eO]
 obtain⟨k,h1,h2,h3⟩:=QW (t:=aG m ps f led mv pl) (hs:=hs) (h:=h) (10*turns m) (N-n) (adN m n (stP m h)) (by rw[lN];rfl) (by omega) (by
  show(aG m ps f led mv pl).slot (adN m (N-n) (adN m n (stP m h))).j=.empty
  rw[ew,show n+(N-n)=N from by omega]
  exact Bs he) (λ a=>by
  rcases yP (f:=f) (mv:=mv) (led:=led) (pl:=pl) T (adN m a (adN m n (stP m h))).j with⟨_,e⟩ | ⟨i,_,e⟩
  . intro z;rw[show(aG m ps f led mv pl).mask=m from rfl,e]at z;cases z
  . intro z;rw[show(aG m ps f led mv pl).mask=m from rfl,e]at z;cases z)
 have live:∀a i,(aG m ps f led mv pl).slot (adN m a (adN m n (stP m h))).j=.live i->ps[i]? =some (aB m h (n+a)):=by
  intro a i e
  rw[ew]at e
  rcases yP (f:=f) (mv:=mv) (led:=led) (pl:=pl) T (aB m h (n+a))with⟨_,e2⟩ | ⟨i2,e1,e2⟩
  . rw[e2]at e;cases e
  . rw[e2]at e
    cases e
    exact e1
 refine⟨k,by omega,λ a ha1 ha2=>?_,?_⟩
 . obtain⟨i,e1,e2⟩:=h2 (a-n) (by omega)
   have e1:=live _ _ e1
   rw[show n+(a-n)=a from by omega]at e1
   obtain⟨x,hx⟩:=RX T e1
   exact⟨i,x,e1,hx,by rw[←hhs i x hx];exact e2⟩
 . rcases h3 with⟨e1,e2⟩ | ⟨i,e1,e2,e3⟩
   . refine .inl ⟨λ hm=>?_,?_⟩
     . obtain⟨i,hi⟩:=List.getElem?_of_mem hm
       have e1:(aG m ps f led mv pl).slot (adN m k (adN m n (stP m h))).j=.empty:=e1
       rw[ew,rP T.up hi]at e1
       cases e1
     . show probe.go _ hs h (10*turns m) _=_
       rw[e2]
       show some (Met.empty (adN m k (adN m n (stP m h))).j none)=_
       rw[ew]
   . have e1:=live _ _ e1
     obtain⟨x,hx⟩:=RX T e1
     refine .inr ⟨i,x,e1,hx,by rw[←hhs i x hx];exact e2,?_⟩
     show probe.go _ hs h (10*turns m) _=_
     rw[e3]
     show some (Met.candidate (adN m k (adN m n (stP m h))).j i (adN m (k+1) (adN m n (stP m h))))=_
     rw[ew,←eO,show n+(k+1)=n+k+1 from by omega]
theorem Qe{xs:Cv α}(T:Tab m (aQ K xs) ps){i:Nat}{x:α×Value}(hx:xs[i]? =some x):∃j n,ps[i]? =some j/\aB m (K.h x.1) n=j/\∀k,k<n->aB m (K.h x.1) k∈ps:=by
 have hi:=(z0.mp hx).1
 have l:=T.len
 unfold aQ at l
 rw[y7]at l
 have hj:ps[i]? =some (ps[i]'(by omega)):=y3 (by omega)
 have hh:(aQ K xs)[i]? =some (K.h x.1):=by unfold aQ;rw[y8,hx];rfl
 obtain⟨n,a,b⟩:=T.way (K.h x.1,ps[i]'(by omega)) (y4 (i:=i) (List.getElem?_zip_eq_some.mpr ⟨hh,hj⟩))
 exact⟨_,n,hj,a,b⟩
end
end RF
namespace RF
open PySem PySem.Spec L2 DL
open PyProof.Rows
section
variable {prog : Program} {w : World} {α : Type} [DecidableEq α] {K : HK prog w α} {A : Around} {E : Value -> Shared -> Prop} {s : Shared} {m f mv ep : Nat} {led pl : Bool} {xs : Cv α} {ps : List Nat} {a : Addr}
abbrev cz(t:SetTable)(es:List (Int×Value))(ep:Nat):Obj:={cls:=.type "set",dict:=none,data:=.set es.toArray ep t,slots:=#[]}
theorem mD(T:Tab m (aQ K xs) ps)(few:xs.length≤m):(aG m ps f led mv pl).fits (aq K xs).toArray.size=true:=by
 have l:=T.len
 unfold aQ at l
 rw[y7]at l
 unfold SetTable.fits SetTable.fill aG aq
 simp[l]
 omega
theorem dO(T:Tab m (aQ K xs) ps)(few:xs.length≤m){Q:(Array (Int×Value)×Nat×SetTable)->Shared->Prop}(ho:s.heap.get? a=some (cz (aG m ps f led mv pl) (aq K xs) ep))(hq:Q ((aq K xs).toArray,ep,aG m ps f led mv pl) s):wpAny (model prog w) A (setState a) Q E s:=
 wpAny_setState_of ho rfl (mD T few) hq
theorem MJ{i:Nat}{x:α×Value}(h:xs[i]? =some x):(aq K xs).toArray[i]? =some (K.h x.1,x.2):=by
 unfold aq
 simp[h]
theorem zX{v:Value}{c:α}{h:Int}{Q:SetFound->Shared->Prop}(hu:A.units+2<cLine)(ho:s.heap.get? a=some (cz (aG m ps f led mv pl) (aq K xs) ep))(T:Tab m (aQ K xs) ps)(few:xs.length≤m)(odd:m % 2=1)(hv:K.I s.heap v c)(hx:∀x∈xs,K.I s.heap x.2 x.1)(hh:h=K.h c){N:Nat}(hN:N<10*SetTable.turns m)(he:aB m h N∉ps)
 (h1:(∃x∈xs,x.1=c)->Q (.there none) s)(h2:(∀x∈xs,x.1≠c)->∀n,aB m h n∉ps->(∀k,k<n->aB m h k∈ps)->Q (.free (aB m h n) false) s):
 ∀(fuel n:Nat)(st:Option SetTable.Probe),st.getD (stP m h)=adN m n (stP m h)->n≤N->N-n<fuel->(∀k,k<n->∃(i:Nat) (x:α×Value),ps[i]? =some (aB m h k)/\xs[i]? =some x/\x.1≠c)->wpAny (model prog w) A (setSearchFrom a v h true fuel st) Q E s:=by
 intro fuel
 induction fuel with
 | zero=>intro n st _ _ h;omega
 | succ fuel ih=>
   intro n st hst hn hf hpre
   have hhs:∀(i:Nat)(x:α×Value),xs[i]? =some x->(λ i=>(((aq K xs).toArray[i]?).map (·.1)).getD 0) i=K.h x.1:=λ i x hx=>by
    show(((aq K xs).toArray[i]?).map (·.1)).getD 0=_
    rw[MJ hx,Option.map_some,Option.getD_some]
   obtain⟨k,k1,k2,k3⟩:=Hy (f:=f) (mv:=mv) (led:=led) (pl:=pl) T hhs (h:=h) hn hN he
   unfold setSearchFrom
   refine wpAny_bind (dO T few ho ?_)
   dsimp only
   rw[if_neg (show ¬(SetTable.gaveWay (aG m ps f led mv pl)=true)from by simp[SetTable.gaveWay,aG,odd])]
   rw[Gh,show(aG m ps f led mv pl).mask=m from rfl,hst]
   rcases k3 with⟨e1,e2⟩ | ⟨i,x,i1,i2,i3,e2⟩
   . generalize hp:SetTable.probe (aG m ps f led mv pl) _ h _=pr
     have hp:pr=some (.empty (aB m h (n+k)) none):=hp.symm.trans e2
     subst hp
     dsimp only
     have no:∀x∈xs,x.1≠c:=by
      intro x hx e
      obtain⟨i,hi⟩:=List.getElem?_of_mem hx
      obtain⟨j,n0,j1,j2,j3⟩:=Qe T hi
      rw[e,←hh]at j2 j3
      have lt:n0<n+k:=by
       by_cases z:n0<n+k
       . exact z
       . by_cases z2:n0=n+k
         . exact absurd (by rw[←z2,j2];exact y4 j1) e1
         . exact absurd (j3 (n+k) (by omega)) e1
      have inj:∀i2,ps[i2]? =some (aB m h n0)->i2=i:=by
       intro i2 h2
       have h2:=below_at T.up h2
       have j1:=below_at T.up j1
       rw[←h2,←j1,j2]
      by_cases z:n0<n
      . obtain⟨i2,x2,g1,g2,g3⟩:=hpre n0 z
        rw[inj i2 g1,hi]at g2
        exact g3 (by rw[←Option.some.inj g2];exact e)
      . obtain⟨i2,x2,g1,g2,g3⟩:=k2 n0 (by omega) lt
        rw[inj i2 g1,hi]at g2
        exact g3 (by rw[←Option.some.inj g2,e,hh])
     refine wpAny_pure (h2 no _ e1 λ b hb=>?_)
     by_cases z:b<n
     . obtain⟨i2,x2,g1,_⟩:=hpre b z
       exact y4 g1
     . obtain⟨i2,x2,g1,_⟩:=k2 b (by omega) hb
       exact y4 g1
   . generalize hp:SetTable.probe (aG m ps f led mv pl) _ h _=pr
     have hp:pr=some (.candidate (aB m h (n+k)) i (adN m (n+k+1) (stP m h))):=hp.symm.trans e2
     subst hp
     dsimp only
     have hxm:=y4 i2
     have hcx:=hx x hxm
     have e0:=MJ (K:=K) i2
     have hs:∀y∈List.map (λ x:Int×Value=>x.2) (Array.filter (λ x=>x.fst==h) (aq K xs).toArray).toList,∃d,K.I s.heap y d:=by
      intro y hy
      rw[List.mem_map]at hy
      obtain⟨e,he,rfl⟩:=hy
      have:e∈(aq K xs).toArray:=(Array.mem_filter.mp (Array.mem_toList_iff.mp he)).1
      have:e∈aq K xs:=by simpa using this
      unfold aq at this
      obtain⟨z,hz,rfl⟩:=List.mem_map.mp this
      exact⟨z.1,hx z hz⟩
     have eqq:SeqAt.EqAt A s x.2 v (decide (x.1=c)):=K.eq hu hcx hv
     have slq:(aG m ps f led mv pl).slot (aB m h (n+k))=.live i:=rP T.up i1
     have next:x.1≠c->wpAny (model prog w) A (setSearchFrom a v h true fuel (some (adN m (n+k+1) (stP m h)))) Q E s:=by
      intro nc
      have lt:n+k<N:=by
       by_cases z:n+k<N
       . exact z
       . have:n+k=N:=by omega
         rw[this]at i1
         exact absurd (y4 i1) he
      refine ih (n+k+1) _ rfl (by omega) (by omega) λ b hb=>?_
      by_cases z:b<n
      . exact hpre b z
      . by_cases z2:b=n+k
        . subst z2;exact⟨i,x,i1,i2,nc⟩
        . obtain⟨i3,x3,g1,g2,g3⟩:=k2 b (by omega) (by omega)
          exact⟨i3,x3,g1,g2,λ e=>g3 (by rw[e,hh])⟩
     obtain⟨cx,vx⟩:=x
     obtain⟨b0,eb⟩:=K.ref hcx
     have eb:vx=.ref b0:=eb
     subst eb
     have body:wpAny (model prog w) A (do
      let equal ←holding [Value.ref b0] (eqBool (Value.ref b0) v)
      let (es',_,t') ←setState a
      if true&&equal then return SetFound.there none
      let some same:=t'.sameMemory mv m | unsupported "set.changed-during-lookup:is-the-new-block-at-the-old-address"
      let still ←match (if same then t'.slot (aB m h (n+k))else .empty)with
       | .live i'=>match es'[i']? with
         | some (_,y')=>do pure (if ←isSame y' (Value.ref b0)then some i' else none)
         | none=>pure none
       | _=>pure none
      match still with
      | none=>rule "set.search.anew";setSearchFrom a v h true fuel none
      | some i'=>if equal then return .there (some i')else setSearchFrom a v h true fuel (some (adN m (n+k+1) (stP m h)))) Q E s:=by
      refine wpAny_bind (wpAny_holding (eqq prog w E _ ?_))
      refine wpAny_bind (dO T few ho ?_)
      by_cases ec:cx=c
      . rw[decide_eq_true ec]
        exact wpAny_pure (h1 ⟨_,hxm,ec⟩)
      . rw[decide_eq_false ec]
        dsimp only
        rw[if_neg (show ¬((true&&false)=true)from y6)]
        have em:SetTable.sameMemory (aG m ps f led mv pl) mv m=some true:=by
         unfold SetTable.sameMemory
         rw[if_pos (by show(mv==mv)=true;exact beq_self_eq_true mv)]
        rw[em]
        dsimp only
        rw[if_pos rfl,slq]
        dsimp only
        rw[e0]
        dsimp only
        refine wpAny_bind (pL ?_)
        refine wpAny_bind (wpAny_pure ?_)
        exact next ec
     cases led
     . rw[if_pos (show(!(aG m ps f false mv pl).led)=true from rfl)]
       refine wpAny_bind (K.seen hv hs ?_)
       rw[if_neg y6,e0]
       exact body
     . rw[if_neg (show ¬(!(aG m ps f true mv pl).led)=true from y6),e0]
       exact body
theorem lz{α:Type}(p:Nat)(x:α)(l:List α):SetTable.insertAt l.toArray p x=(ins p x l).toArray:=by
 apply Array.toList_inj.mp
 rw[SetTable.toList_insertAt]
 rfl
theorem Uu(j:Nat):(aG m ps f led mv pl).put j=(aG m (ins (SetTable.below ps.toArray j) j ps) f led mv pl,SetTable.below ps.toArray j):=by
 unfold SetTable.put
 show((⟨m,SetTable.insertAt ps.toArray (SetTable.below ps.toArray j) j,if SetTable.has #[] j=true then _ else #[],f,led,mv,pl⟩:SetTable),SetTable.below ps.toArray j)=_
 rw[if_neg (show ¬SetTable.has #[] j=true from y6),lz]
 rfl
theorem Bb{α β:Type}(g:α->β)(p:Nat)(x:α)(l:List α):(ins p x l).map g=ins p (g x) (l.map g):=by
 unfold ins
 rw[List.map_append,List.map_cons,List.map_take,List.map_drop]
theorem Bp{t t':SetTable}{es es':List (Int×Value)}{Q:Unit->Shared->Prop}(ho:s.heap.get? a=some (cz t es ep))(hz:es'.length≤1000)
 (h:∀h',Heap.SameBut a s.heap h'->h'.get? a=some (cz t' es' (ep+1))->Q () {s with heap:=h'}):wpAny (model prog w) A (storeSet a es'.toArray t') Q E s:=by
 refine wpAny_storeSet_of ho rfl (h _ (Heap.SameBut.update s.heap a _) ?_) (Nat.le_trans (by rw[x5];exact hz) (by decide:1000≤sizeLine))
 have:=Heap.get?_update_self (Obj.putSet es'.toArray t') ho (by rw[putSet_of _ _ rfl];rfl)
 rw[putSet_of _ _ rfl]at this
 exact this
end
section
variable {prog : Program} {w : World} {α : Type} [DecidableEq α] {K : HK prog w α} {A : Around} {E : Value -> Shared -> Prop} {s : Shared} {m f mv ep : Nat} {led pl : Bool} {xs : Cv α} {ps : List Nat} {a : Addr}
theorem Hf{β:Type}{xs:List β}{order:List Nat}(h:order.Perm (List.range xs.length)):(order.filterMap (xs[·]?)).Perm xs:=by
 have:=h.filterMap (xs[·]?)
 rw[List.filterMap_getElem?_range_length]at this
 exact this
theorem xO{γ β:Type}{g:γ->β}{xs:List γ}{order:List Nat}:(order.filterMap (xs[·]?)).map g=order.filterMap ((xs.map g)[·]?):=by
 rw[List.map_filterMap]
 congr 1
 funext q
 rw[y8]
theorem GC{hs:List Int}:∀{order:List Nat},(∀q∈order,q<hs.length)->order.filterMap (hs[·]?)=order.map λ q=>hs.getD q 0:=by
 intro order
 induction order with
 | nil=>intro _;rfl
 | cons q order ih=>
   intro h
   have hq:=h q x6
   rw[List.filterMap_cons,y3 hq,List.map_cons,ih λ z hz=>h z (x4 _ hz)]
   simp[hq]
theorem Hw{wanted:Nat}{Q:Unit->Shared->Prop}(ho:s.heap.get? a=some (cz (aG m ps f led mv pl) (aq K xs) ep))(T:Tab m (aQ K xs) ps)(few:xs.length≤m)(hM:cM (SetTable.sizeAbove wanted-1)=true)(fewM:xs.length≤SetTable.sizeAbove wanted-1)(f1:xs.length≤1000)(hz:SetTable.sizeAbove wanted≤sizeLine)
 (h:∀h' xs' ps' mv',Heap.SameBut a s.heap h'->h'.get? a=some (cz (aG (SetTable.sizeAbove wanted-1) ps' f led mv' pl) (aq K xs') (ep+1))->Tab (SetTable.sizeAbove wanted-1) (aQ K xs') ps'->xs'.Perm xs->Q () {s with heap:=h'}):wpAny (model prog w) A (setRelay a wanted) Q E s:=by
 unfold setRelay
 refine wpAny_bind (dO T few ho ?_)
 dsimp only
 rw[if_neg (by omega)]
 have el:(aQ K xs).length=xs.length:=by unfold aQ;exact y7 _
 obtain⟨ps',order,e,pm,T'⟩:=Ph hM (hs:=aQ K xs) (by rw[el];exact fewM) f ((aG m ps f led mv pl).movedTo (SetTable.sizeAbove wanted-1)) led pl
 have em:(aq K xs).toArray.map (·.1)=(aQ K xs).toArray:=by
  unfold aq aQ
  simp
 rw[el]at pm
 have lt:∀q∈order,q<(aQ K xs).length:=λ q hq=>by rw[el];exact List.mem_range.mp (pm.mem_iff.mp hq)
 rw[←GC lt]at T'
 have eh:order.filterMap ((aQ K xs)[·]?)=aQ K (order.filterMap (xs[·]?)):=by
  unfold aQ
  rw[xO]
 rw[eh]at T'
 have ee:order.toArray.filterMap ((aq K xs).toArray[·]?)=(aq K (order.filterMap (xs[·]?))).toArray:=by
  have e1:aq K (order.filterMap (xs[·]?))=order.filterMap ((aq K xs)[·]?):=by
   unfold aq
   rw[xO]
  rw[e1]
  simp
 have pp:=Hf (xs:=xs) pm
 have er:SetTable.relaid (aG m ps f led mv pl) (Array.map (λ x=>x.1) (aq K xs).toArray) wanted=some (aG (SetTable.sizeAbove wanted-1) ps' f led ((aG m ps f led mv pl).movedTo (SetTable.sizeAbove wanted-1)) pl,order.toArray):=by
  rw[em]
  exact e
 rw[er]
 refine wpAny_bind ?_
 have el2:(order.toArray.filterMap ((aq K xs).toArray[·]?)).size=(aq K xs).toArray.size:=by
  rw[ee]
  unfold aq
  rw[x5,x5,y7,y7,pp.length_eq]
 show wpAny _ _ (if((order.toArray.filterMap ((aq K xs).toArray[·]?)).size !=(aq K xs).toArray.size)=true then _ else _) _ _ _
 rw[if_neg (by rw[el2];simp),ee]
 refine wpAny_pure ?_
 exact Bp ho (by unfold aq;rw[y7,pp.length_eq];exact f1) λ h' k1 k2=>h h' _ ps' _ k1 k2 T' pp
def jG(m n:Nat):Prop:=(m=7/\n≤4)∨(m=31/\n≤18)∨(m=127/\n≤76)
theorem jG.all{m n:Nat}(h:jG m n):cM m=true:=by
 rcases h with⟨rfl,_⟩ | ⟨rfl,_⟩ | ⟨rfl,_⟩
 . exact UW
 . exact Mp
 . exact HD
theorem Nb{v:Value}{c:α}{Q:Bool->Shared->Prop}(hu:A.units+5<cLine)(ho:s.heap.get? a=some (cz (aG m ps f led mv true) (aq K xs) ep))(T:Tab m (aQ K xs) ps)(F:jG m xs.length)(lt:xs.length<76)(hv:K.I s.heap v c)(hx:∀x∈xs,K.I s.heap x.2 x.1)
 (h1:(∃x∈xs,x.1=c)->∀b,Q b s)
 (h2:(∀x∈xs,x.1≠c)->∀h' b m' xs' ps' mv' ep',Heap.SameBut a s.heap h'->h'.get? a=some (cz (aG m' ps' f led mv' true) (aq K xs') ep')->Tab m' (aQ K xs') ps'->jG m' xs'.length->xs'.Perm ((c,v)::xs)->Q b {s with heap:=h'}):
 wpAny (model prog w) A (setAddHashed a v (K.h c)) Q E s:=by
 have hm:=F.all
 have odd:m % 2=1:=by rcases F with⟨rfl,_⟩ | ⟨rfl,_⟩ | ⟨rfl,_⟩<;>rfl
 have few:xs.length<m:=by rcases F with⟨rfl,_⟩ | ⟨rfl,_⟩ | ⟨rfl,_⟩<;>omega
 have m1:m≤127:=by rcases F with⟨rfl,_⟩ | ⟨rfl,_⟩ | ⟨rfl,_⟩<;>omega
 have l:=T.len
 unfold aQ at l
 rw[y7]at l
 obtain⟨N,hN,he⟩:=JQ hm (ps:=ps) (by omega) (Jq m (K.h c))
 have hN2:N<100000:=w9 hN (by unfold SetTable.turns;omega)
 unfold setAddHashed
 refine wpAny_holding ?_
 generalize hf:(100000:Nat)=fuel
 obtain⟨m0,rfl⟩:∃m0,fuel=m0+1:=⟨fuel-1,by omega⟩
 unfold setAddHashedIn
 refine wpAny_bind (dO T (by omega) ho ?_)
 have hv1:=hv
 obtain⟨b0,rfl⟩:=K.ref hv1
 dsimp only
 rw[if_neg (show ¬(byScan (.ref b0) _=true)from y6)]
 unfold setSearch
 refine wpAny_bind (zX (by omega) ho T (by omega) odd hv hx rfl hN he (λ e=>?_) (λ no n e1 e2=>?_) 100000 0 none rfl (Nat.zero_le _) (by omega) (λ k hk=>by omega))
 . exact wpAny_pure (h1 e false)
 dsimp only
 refine wpAny_bind (dO T (by omega) ho ?_)
 dsimp only
 rw[Uu]
 dsimp only
 rw[if_pos (show(aG m (ins (SetTable.below ps.toArray (aB m (K.h c) n)) (aB m (K.h c) n) ps) f led mv true).plain=true from rfl)]
 refine wpAny_bind (K.hbv hv ?_)
 rw[if_pos rfl]
 have T2:=T.put e1 e2
 have ee:SetTable.insertAt (aq K xs).toArray (SetTable.below ps.toArray (aB m (K.h c) n)) (K.h c,Value.ref b0)=(aq K (ins (SetTable.below ps.toArray (aB m (K.h c) n)) (c,Value.ref b0) xs)).toArray:=by
  rw[lz]
  unfold aq
  rw[Bb]
 have eh:ins (SetTable.below ps.toArray (aB m (K.h c) n)) (K.h c) (aQ K xs)=aQ K (ins (SetTable.below ps.toArray (aB m (K.h c) n)) (c,Value.ref b0) xs):=by
  unfold aQ
  rw[Bb]
 rw[eh]at T2
 rw[ee]
 have lx:(ins (SetTable.below ps.toArray (aB m (K.h c) n)) (c,Value.ref b0) xs).length=xs.length+1:=ni _ _ _
 have px:=mj (SetTable.below ps.toArray (aB m (K.h c) n)) (c,Value.ref b0) xs
 have ln:(ins (SetTable.below ps.toArray (aB m (K.h c) n)) (aB m (K.h c) n) ps).length=ps.length+1:=ni _ _ _
 have esz:(aq K xs).toArray.size=xs.length:=by unfold aq;rw[x5,y7]
 generalize ins (SetTable.below ps.toArray (aB m (K.h c) n)) (c,Value.ref b0) xs=xs2 at*
 generalize ins (SetTable.below ps.toArray (aB m (K.h c) n)) (aB m (K.h c) n) ps=ps2 at*
 refine wpAny_bind (Bp ho (by unfold aq;rw[y7,lx];omega) λ h' k1 k2=>?_)
 by_cases tf:(xs.length+1)*5<m*3
 . rw[if_neg (by
    unfold SetTable.tooFull SetTable.fill aG
    simp only[x5,ln]
    simp
    omega)]
   refine wpAny_pure (h2 no h' true m xs2 ps2 mv (ep+1) k1 k2 T2 ?_ px)
   rw[lx]
   rcases F with⟨rfl,_⟩ | ⟨rfl,_⟩ | ⟨rfl,_⟩
   . exact .inl ⟨rfl,by omega⟩
   . exact .inr (.inl ⟨rfl,by omega⟩)
   . exact .inr (.inr ⟨rfl,by omega⟩)
 . rw[if_pos (by
    unfold SetTable.tooFull SetTable.fill aG
    simp only[x5,ln]
    simp
    omega)]
   rw[esz]
   have grow:∀M,SetTable.sizeAbove (SetTable.grown (xs.length+1))=M+1->cM M=true->xs.length+1≤M->jG M (xs.length+1)->M≤1000->wpAny (model prog w) A (setRelay a (SetTable.grown (xs.length+1))>>=λ _=>pure true) Q E {s with heap:=h'}:=by
    intro M eM aM lM fM bM
    refine wpAny_bind (Hw (s:={s with heap:=h'}) (K:=K) (xs:=xs2) k2 T2 (by omega) (by rw[eM];exact aM) (by rw[eM,lx];omega) (by omega) (by rw[eM];exact Nat.le_trans (by omega:M+1≤1001) (by decide)) λ h2' xs' ps' mv' g1 g2 g3 g4=>?_)
    rw[eM]at g2 g3
    exact wpAny_pure (h2 no h2' true M xs' ps' mv' _ (k1.trans g1) g2 g3 (by rw[g4.length_eq,lx];exact fM) (g4.trans px))
   rcases F with⟨rfl,z⟩ | ⟨rfl,z⟩ | ⟨rfl,z⟩
   . obtain e4:xs.length=4:=by omega
     exact grow 31 (by rw[e4];decide+kernel) Mp (by omega) (.inr (.inl ⟨rfl,by omega⟩)) (by omega)
   . obtain e4:xs.length=18:=by omega
     exact grow 127 (by rw[e4];decide+kernel) HD (by omega) (.inr (.inr ⟨rfl,by omega⟩)) (by omega)
   . omega
end
variable {its : List Value}
section
variable {prog : Program} {w : World} {α : Type} [DecidableEq α] {K : HK prog w α} {A : Around} {E : Value -> Shared -> Prop} {s : Shared}
theorem Oj{a:Addr}{m f mv ep:Nat}{led:Bool}{xs:Cv α}{ps:List Nat}{v:Value}{c:α}{Q:Bool->Shared->Prop}(hu:A.units+5<cLine)(ho:s.heap.get? a=some (cz (aG m ps f led mv true) (aq K xs) ep))(T:Tab m (aQ K xs) ps)(F:jG m xs.length)(lt:xs.length<76)(hv:K.I s.heap v c)(hx:∀x∈xs,K.I s.heap x.2 x.1)
 (h1:(∃x∈xs,x.1=c)->∀b tk,Q b {s with toks:=s.toks+tk})
 (h2:(∀x∈xs,x.1≠c)->∀h' b m' xs' ps' mv' ep' tk,Heap.SameBut a s.heap h'->h'.get? a=some (cz (aG m' ps' f led mv' true) (aq K xs') ep')->Tab m' (aQ K xs') ps'->jG m' xs'.length->xs'.Perm ((c,v)::xs)->Q b {s with heap:=h',toks:=s.toks+tk}):
 wpAny (model prog w) A (setAdd a v) Q E s:=by
 unfold setAdd
 refine wpAny_holding (wpAny_bind (K.hash hu hv λ n=>?_))
 exact Nb (s:={s with toks:=s.toks+n}) hu ho T F lt hv hx (λ e b=>h1 e b n) λ no h' b m' xs' ps' mv' ep' g1 g2 g3 g4 g5=>h2 no h' b m' xs' ps' mv' ep' n g1 g2 g3 g4 g5
structure LiesM(K:HK prog w α)(its:List Value)(cs:List α)(i:Nat)(xs:Cv α)(m:Nat)(ps:List Nat):Prop where
 tab:Tab m (aQ K xs) ps
 fill:jG m xs.length
 nd:(xs.map (·.1)).Nodup
 inn:∀x∈xs,x.1∈cs.take i
 its:∀x∈xs,(x.2,x.1)∈its.zip cs
 all:∀c∈cs.take i,∃x∈xs,x.1=c
theorem LiesM.nil{cs:List α}:LiesM K its cs 0 [] 7 []:=
 ⟨⟨rfl,List.Pairwise.nil,(λ _ h=>nomatch h),(λ _ h=>nomatch h)⟩,.inl ⟨rfl,Nat.zero_le _⟩,List.Pairwise.nil,(λ _ h=>nomatch h),(λ _ h=>nomatch h),λ c h=>by simp at h⟩
theorem il{cs:List α}{i:Nat}{c:α}(h:cs[i]? =some c):cs.take (i+1)=cs.take i++[c]:=by
 rw[List.take_succ,h]
 rfl
theorem LiesM.same{cs:List α}{i m:Nat}{xs:Cv α}{ps:List Nat}{c:α}(L:LiesM K its cs i xs m ps)(h:cs[i]? =some c)(ex:∃x∈xs,x.1=c):LiesM K its cs (i+1) xs m ps:=by
 refine⟨L.tab,L.fill,L.nd,λ x hx=>?_,L.its,λ d hd=>?_⟩
 . rw[il h];exact List.mem_append_left _ (L.inn x hx)
 . rw[il h]at hd
   rcases List.mem_append.mp hd with hd | hd
   . exact L.all d hd
   . rw[List.mem_singleton.mp hd];exact ex
theorem LiesM.more{cs:List α}{i m m':Nat}{xs xs':Cv α}{ps ps':List Nat}{c:α}{v:Value}(L:LiesM K its cs i xs m ps)(hv:its[i]? =some v)(h:cs[i]? =some c)(no:∀x∈xs,x.1≠c)(T:Tab m' (aQ K xs') ps')(F:jG m' xs'.length)(pm:xs'.Perm ((c,v)::xs)):LiesM K its cs (i+1) xs' m' ps':=by
 refine⟨T,F,?_,λ x hx=>?_,λ x hx=>?_,λ d hd=>?_⟩
 . refine(pm.map (·.1)).nodup_iff.mpr ?_
   rw[List.map_cons,List.nodup_cons]
   refine⟨λ hm=>?_,L.nd⟩
   obtain⟨x,hx,e⟩:=List.mem_map.mp hm
   exact no x hx e
 . rw[il h]
   rcases List.mem_cons.mp (pm.mem_iff.mp hx)with rfl | hx
   . exact List.mem_append_right _ (List.mem_singleton.mpr rfl)
   . exact List.mem_append_left _ (L.inn x hx)
 . rcases List.mem_cons.mp (pm.mem_iff.mp hx)with rfl | hx
   . exact y4 (i:=i) (List.getElem?_zip_eq_some.mpr ⟨hv,h⟩)
   . exact L.its x hx
 . rw[il h]at hd
   rcases List.mem_append.mp hd with hd | hd
   . obtain⟨x,hx,e⟩:=L.all d hd
     exact⟨x,pm.mem_iff.mpr (x4 _ hx),e⟩
   . rw[List.mem_singleton.mp hd]
     exact⟨(c,v),pm.mem_iff.mpr x6,rfl⟩
set_option maxHeartbeats 8000000 in
theorem vJ {l:Addr}{cs:List α}{Q:Value->Shared->Prop}
 (hh:A.handled=none)(hu:A.units+12<cLine)(hl:s.heap.IsList l its.toArray)(hlen:its.length=cs.length)(hc:∀(i:Nat)(v:Value)(c:α),its[i]? =some v->cs[i]? =some c->K.I s.heap v c)(hb:∀l:List α,l.Nodup->(∀x∈l,x∈cs)->l.length≤63)
 (h:∀(h':Heap)(tk:Nat)(xs:Cv α)(m:Nat)(ps:List Nat)(mv ep:Nat),h'.get? s.heap.objs.size=some (cz (aG m ps 0 (bG w) mv true) (aq K xs) ep)->LiesM K its cs its.length xs m ps->
  (∀b o,b<s.heap.objs.size->s.heap.get? b=some o->h'.get? b=some o)->Q (.ref s.heap.objs.size) {s with heap:=h',toks:=tk}):
 wpAny (model prog w) A (call (.type "set") [.ref l]) Q E s:=by
 obtain⟨c,tl,hmro⟩:=F.called_set.mro
 have hmade:=F.called_set.made
 have hsub:=F.called_set.sub
 refine wpAny_call (codeAny_of_tree ?_)
 show wpAny _ _ (callAny (.type "set") _) _ _ _
 refine wpAny_pure ⟨Code.quiet_builtin _ (by decide+kernel),codeAny_builtin F.entry_type_call ?_⟩
 rw[Around.under_plain (weight_type_call_type "set" [.ref l] []) rfl]
 have h1:=F.called_set.notType
 have h2:=F.called_set.canCreate
 have hct:=F.typeCall_set_1 (.ref l)
 repeat(any_goals (first | assumption | wp_step))
 refine codeAny_mono (mU (.ref l) (E:=E) (Q₁:=λ obj s₁=>∃led:Bool,led=bG w/\obj=.ref s.heap.objs.size/\s₁={s with heap:=s.heap.push {cls:=.type "set",dict:=none,data:=.set #[] 0 (.fresh 0 0 led)}}) ⟨_,rfl,rfl,rfl⟩) λ r s₁ hr=>?_
 cases r with
 | error e=>exact hr
 | ok fl =>
   cases fl with
   | next=>exact hr.elim
   | brk=>exact hr.elim
   | cont=>exact hr.elim
   | ret obj=>
     obtain⟨led,hled,rfl,rfl⟩:=hr
     have hS:(s.heap.push {cls:=.type "set",dict:=none,data:=.set #[] 0 (.fresh 0 0 led)}).get? s.heap.objs.size=some {cls:=.type "set",dict:=none,data:=.set #[] 0 (.fresh 0 0 led)}:=Heap.get?_push_size _ rfl
     have hT:Shared.TypeIs {s with heap:=s.heap.push {cls:=.type "set",dict:=none,data:=.set #[] 0 (.fresh 0 0 led)}} (.ref s.heap.objs.size) "set":=⟨_,hS,rfl⟩
     have hli:=F.called_set.init.lookup
     have hbi:=F.called_set.init.bind (.ref s.heap.objs.size)
     repeat(any_goals (first | assumption | wp_step))
     refine codeAny_mono (codeAny_call_builtin (R:=wants (λ r s₂=>r=.none/\∃h' tk xs m ps mv ep,s₂={s with heap:=h',toks:=tk}/\
      h'.get? s.heap.objs.size=some (cz (aG m ps 0 led mv true) (aq K xs) ep)/\LiesM K its cs its.length xs m ps/\
      (∀b o,b<s.heap.objs.size->s.heap.get? b=some o->h'.get? b=some o)) E) F.called_set.init.plain F.entry_set_init (check_set_init_1 hT ?_)) λ r₂ s₂ hr₂=>?_
     . obtain⟨ol,hol,hcl,nl,hdl⟩:=hl
       obtain⟨ocls,odict,odata,oslots⟩:=ol
       simp only at hcl hdl
       subst hcl;subst hdl
       have hol':(s.heap.push {cls:=.type "set",dict:=none,data:=.set #[] 0 (.fresh 0 0 led)}).get? l=some {cls:=.type "list",dict:=odict,data:=.seq its.toArray nl,slots:=oslots}:=Heap.get?_push_of_some _ hol
       have hsls:=F.sub_list_set
       have hslf:=F.sub_list_frozenset
       have hne:(Value.type "list"==Value.type "dict")=false:=by decide
       have hl1:(s.heap.push {cls:=.type "set",dict:=none,data:=.set #[] 0 (.fresh 0 0 led)}).IsList l its.toArray:=⟨_,hol',rfl,nl,rfl⟩
       unfold Builtin.«set.__init__» noKeywords Builtin.Frozenset.updateFrom
       generalize hPI:pyIter=PI
       wp_walk
       subst hPI
       refine wpAny_pyIter_list hl1 ?_
       refine wpAny_bind (wpAny_runValue ?_)
       have hlS:l<s.heap.objs.size:=Heap.lt_size hol
       have hh3:A.in1.in1.in1.handled=none:=by simp[hh]
       have hneI:l≠(s.heap.push {cls:=.type "set",dict:=none,data:=.set #[] 0 (.fresh 0 0 led)}).objs.size:=by
        rw[Heap.size_push];exact v3 (Nat.lt_succ_of_lt hlS)
       have hSf:s.heap.objs.size∉[(s.heap.push {cls:=.type "set",dict:=none,data:=.set #[] 0 (.fresh 0 0 led)}).objs.size,l]:=by
        rw[Heap.size_push];simp only[List.mem_cons,List.mem_singleton,List.not_mem_nil,or_false,not_or]
        exact⟨v3 (Nat.lt_succ_self _),Nat.ne_of_gt hlS⟩
       have hI:(s.heap.push {cls:=.type "set",dict:=none,data:=.set #[] 0 (.fresh 0 0 led)}).objs.size=s.heap.objs.size+1:=by rw[Heap.size_push]
       refine xV ((Walks.list hh3 _ l hneI its.toArray).toS) s.heap.objs.size hSf
        (λ i h'=>(∀b o,b<s.heap.objs.size->s.heap.get? b=some o->h'.get? b=some o)/\∃xs m ps mv ep,h'.get? s.heap.objs.size=some (cz (aG m ps 0 led mv true) (aq K xs) ep)/\LiesM K its cs i xs m ps)
        ?hfr ?hadd (its.toArray.size-0) 0 _ (by omega) (Nat.zero_le _)
        ⟨⟨_,Heap.get?_push_size _ rfl,rfl,rfl⟩,(hl1.push _)⟩ ?hS0 ?hR
       case hfr=>
        rintro i h1 h2 ⟨k1,xs,m,ps,mv,ep,k2,k3⟩ k
        refine⟨λ b o hb e=>k b o ?_ (k1 b o hb e),xs,m,ps,mv,ep,k _ _ ?_ k2,k3⟩
        . intro z;have:=List.mem_singleton.mp z;rw[hI]at this;exact absurd this (v3 (Nat.lt_succ_of_lt hb))
        . intro z;have:=List.mem_singleton.mp z;rw[hI]at this;exact absurd this (v3 (Nat.lt_succ_self _))
       case hadd=>
        rintro i v s1 Q1 E1 hi hv ⟨k1,xs,m,ps,mv,ep,k2,k3⟩ hq
        have hi':i<its.length:=by simpa using hi
        have hv':its[i]? =some v:=by simpa using hv
        obtain⟨c,hci⟩:∃c,cs[i]? =some c:=⟨_,y3 (by omega)⟩
        have cel:∀(i:Nat)(v:Value)(c:α),its[i]? =some v->cs[i]? =some c->K.I s1.heap v c:=λ i v c e1 e2=>K.keep (λ b o e _=>k1 b o (Heap.lt_size e) e) (hc i v c e1 e2)
        have hu1:A.in1.in1.in1.in1.units+5<cLine:=by show A.units+1+1+1+1+5<cLine;omega
        refine Oj (K:=K) (by first | exact hu1 | (show A.units+1+1+1+5<cLine;omega)) k2 k3.tab k3.fill (by
         have:=hb (xs.map (·.1)) k3.nd λ x hx=>by
          obtain⟨y,hy,rfl⟩:=List.mem_map.mp hx
          exact List.mem_of_mem_take (k3.inn y hy)
         rw[y7]at this
         omega) (cel i v c hv' hci) (λ x hx=>by
         obtain⟨j,hj⟩:=List.getElem?_of_mem (k3.its x hx)
         rw[List.getElem?_zip_eq_some]at hj
         exact cel j _ _ hj.1 hj.2) (λ ex b tk=>?_) λ no h' b m' xs' ps' mv' ep' tk sb g T' F' pm=>?_
        . refine hq b s1.heap tk (Heap.SameBut.refl _ _) ⟨k1,xs,m,ps,mv,ep,k2,k3.same hci ex⟩
        . refine hq b h' tk sb ⟨λ b' o' hb' e'=>?_,xs',m',ps',mv',ep',g,k3.more hv' hci no T' F' pm⟩
          rw[sb.2 b' (v3 hb')];exact k1 b' o' hb' e'
       case hS0=>
        refine⟨λ b o hb e=>Heap.get?_push_of_some _ (Heap.get?_push_of_some _ e),[],7,[],0,0,Heap.get?_push_of_some _ hS,LiesM.nil⟩
       case hR=>
        intro s' hm hS'
        obtain⟨h',g',d',tk',os'⟩:=s'
        have eg:g'=s.gens:=hm.gens
        have ed:d'=s.drawn:=hm.drawn
        have eo:os'=s.os:=hm.os
        subst eg;subst ed;subst eo
        obtain⟨k1,xs,m,ps,mv,ep,k2,k3⟩:=hS'
        show wpAny _ _ _ _ _ _
        refine wpAny_pure ?_
        show wpAny _ _ (ret Value.none) _ _ _
        refine wpAny_pure ⟨rfl,h',tk',xs,m,ps,mv,ep,rfl,k2,by simpa using k3,k1⟩
     . cases r₂ with
       | error e=>exact hr₂
       | ok fl₂=>
         cases fl₂ with
         | next=>exact hr₂.elim
         | brk=>exact hr₂.elim
         | cont=>exact hr₂.elim
         | ret r=>
           obtain⟨rfl,h',tk,xs,m,ps,mv,ep,rfl,k2,k3,k1⟩:=hr₂
           repeat(any_goals (first | assumption | wp_step))
           exact h _ _ _ _ _ _ _ (hled▸k2) k3 k1
end
end RF
namespace RF
open PySem PySem.Spec L2 DL
open PyProof.Rows
variable {ps : List Nat} {S : Addr} {ep m f mv : Nat}
theorem Ba(up:ps.Pairwise (· <·)){i:Nat}(hi:i≤ps.length):SetTable.below ps.toArray (slotAt ps i)=i:=by
 obtain⟨h1,h2,h3⟩:=pN up (slotAt ps i)
 generalize SetTable.below ps.toArray (slotAt ps i)=r at*
 cases i with
 | zero=>
   cases r with
   | zero=>rfl
   | succ r=>
     have:=h2 0 _ (y3 (by omega)) (by omega)
     exact absurd this (Nat.not_lt_zero _)
 | succ i=>
   have ei:slotAt ps (i+1)=ps[i]+1:=by
    show ps.getD i 0+1=_
    rw[List.getD_eq_getElem?_getD,y3 (by omega)]
    rfl
   rw[ei]at h2 h3
   have n1:¬r≤i:=λ z=>by have:=h3 i _ (y3 (by omega)) z;omega
   by_cases e:r=i+1
   . exact e
   . have hr:i+1<ps.length:=by omega
     have:=h2 (i+1) _ (y3 hr) (by omega)
     have:=List.pairwise_iff_getElem.mp up i (i+1) (by omega) hr (by omega)
     omega
theorem qu{β:Type}:∀{l:List β}{i:Nat}(h:i<l.length),([l[i]]++l.eraseIdx i).Perm l
 | x::l,0,_=>.refl _
 | x::l,i+1,h=>(List.Perm.swap x _ _).trans ((qu (l:=l) (i:=i) (by simpa using h)).cons x)
theorem Pj{β:Type}(next:Nat->Nat):∀(fuel k:Nat)(left:List β)(out:Array β),left.length=fuel->(pickOrder.go next fuel k left out).toList.Perm (out.toList++left):=by
 intro fuel
 induction fuel with
 | zero=>
   intro k left out h
   have:left=[]:=List.eq_nil_of_length_eq_zero h
   subst this
   rw[List.append_nil]
   exact .refl _
 | succ fuel ih=>
   intro k left out h
   have hlt:next k % left.length<left.length:=Nat.mod_lt _ (by omega)
   have e:pickOrder.go next (fuel+1) k left out=pickOrder.go next fuel (k+1) (left.eraseIdx (next k % left.length)) (out.push left[next k % left.length]):=by
    conv=>lhs;unfold pickOrder.go
    rw[y3 hlt]
   rw[e]
   refine(ih (k+1) _ _ (by rw[List.length_eraseIdx_of_lt hlt];omega)).trans ?_
   rw[Array.toList_push,List.append_assoc]
   refine List.Perm.append_left _ ?_
   exact qu hlt
theorem xM(w:World)(S:Addr)(ep:Nat)(es:List (Int×Value)):(aP w S ep es).toList.Perm es:=by
 unfold aP
 split
 . have:=Pj (w.params.setOrder S ep) es.toArray.size 0 es.toArray.toList #[] (by simp)
   simpa[pickOrder]using this
 . exact .refl _
theorem lY{w:World}{es:List (Int×Value)}:(aP w S ep es).size=es.length:=by
 have:=(xM w S ep es).length_eq
 rwa[Array.length_toList]at this
section
variable {prog : Program} {w : World} {α : Type} [DecidableEq α] {K : HK prog w α} {A : Around} {E : Value -> Shared -> Prop} {s : Shared}
theorem Dj{xs:Cv α}(r:Tab m (aQ K xs) ps):ps.length=(aq K xs).length:=by
 have:=r.len
 unfold aQ at this
 unfold aq
 rw[y7]at this ⊢
 exact this.symm
theorem ur{xs:Cv α}{i:Nat}{Q:Option (Value×Nat)->Shared->Prop}(r:Tab m (aQ K xs) ps)(few:xs.length≤m)(hk:xs.length≤1000)(hi:i≤(aq K xs).length)(ho:s.heap.get? S=some (cz (aG m ps f (bG w) mv true) (aq K xs) ep))
 (h:Q (((aP w S ep (aq K xs))[i]?).map λ e=>(e.2,if w.params.followText "set-order"=true then 0 else slotAt ps (i+1))) s):
 wpAny (model prog w) A (setNext S (if w.params.followText "set-order"=true then 0 else slotAt ps i) i ep) Q E s:=by
 unfold setNext
 refine wpAny_bind (dO r few ho ?_)
 unfold setsByText
 dsimp only
 refine wpAny_bind (wpAny_bind (wpAny_askSetting (wpAny_pure ?_)))
 show wpAny _ _ (if w.params.followText "set-order"=true then _ else _) _ _ _
 unfold aP at h
 by_cases bt:w.params.followText "set-order"=true
 . rw[if_pos bt]
   rw[if_pos bt]at h
   simp only[if_pos bt]at h
   rw[if_neg (by simp)]
   unfold setWalk
   refine wpAny_bind (wpAny_bind (dO r few ho ?_))
   unfold setsByText
   dsimp only
   refine wpAny_bind (wpAny_bind (wpAny_askSetting (wpAny_pure ?_)))
   show wpAny _ _ (if w.params.followText "set-order"=true then _ else _) _ _ _
   rw[if_pos bt]
   refine wpAny_bind (wpAny_askSetting (wpAny_pure (wpAny_pure ?_)))
   simp only[if_pos bt]
   exact h
 . rw [if_neg bt]
   rw[if_neg bt]at h
   simp only[if_neg bt]at h ⊢
   have hled:bG w=true:=by simp[bG,bt]
   split
   . exact absurd (by assumption) y6
   . refine wpAny_bind ?_
     show wpAny _ _ (if(!(bG w)&& !((aq K xs).toArray.isEmpty))=true then _ else pure PUnit.unit) _ _ _
     rw[hled,if_neg (show ¬((!true&& !((aq K xs).toArray.isEmpty))=true)from y6)]
     refine wpAny_pure ?_
     rw[show(aG m ps f true mv true).place=ps.toArray from rfl,Ba r.up (by rw[Dj r];exact hi)]
     refine wpAny_pure ?_
     have e2:slotAt ps (i+1)=ps.getD i 0+1:=rfl
     rw[e2]at h
     rw[List.getElem?_toArray]at h
     rw[List.getElem?_toArray,List.getElem?_toArray]
     cases he:(aq K xs)[i]? with
     | none=>rw[he]at h;exact h
     | some e=>
       rw[he]at h
       have hlt:i<ps.length:=by rw[Dj r];exact(z0.mp he).1
       rw[y3 hlt]
       rw[List.getD_eq_getElem?_getD,y3 hlt]at h
       exact h
theorem Ft{I:Addr}{xs:Cv α}{i:Nat}{e:Int×Value}{Q:Option Value->Shared->Prop}(hne:S≠I)(r:Tab m (aQ K xs) ps)(few:xs.length≤m)(hk:xs.length≤1000)(hi:i<(aq K xs).length)(hI:s.heap.get? I=some (aV w ps S (aq K xs).length ep i))(ho:s.heap.get? S=some (cz (aG m ps f (bG w) mv true) (aq K xs) ep))
 (he:(aP w S ep (aq K xs))[i]? =some e)(h:∀h',Heap.SameBut I s.heap h'->h'.get? I=some (aV w ps S (aq K xs).length ep (i+1))->Q (some e.2) {s with heap:=h'}):
 wpAny (model prog w) A (pyNext (.ref I)) Q E s:=by
 have hT:=dh hI
 unfold pyNext
 refine wpAny_bind (wpAny_attempt (wpAny_callSpecial?_slot (name:=Str.ofString "__next__") hT aC
  (wpAny_call_entry aC hT bI ?_ (bD _))))
 unfold Builtin.«set_iterator.__next__»
 refine wpAny_bind (wpAny_pure ?_)
 refine wpAny_bind (wpAny_fieldsOf hI rfl ?_)
 dsimp only
 refine wpAny_bind (wpAny_setEntries_of ho rfl (mD r few) ?_)
 rw[if_neg (by simp)]
 refine wpAny_bind ?_
 simp only[rawInt,Int.toNat_natCast]
 refine ur r few hk (Nat.le_of_lt hi) ho ?_
 rw[he]
 dsimp only[Option.map]
 refine wpAny_bind (wpAny_setField hI rfl (by simp) ?_)
 refine wpAny_bind (wpAny_setField (s:={s with heap:=_}) (di hI) rfl (by simp) ?_)
 exact wpAny_pure ⟨_,rfl,wpAny_pure (h _ ((Heap.SameBut.update ..).trans (Heap.SameBut.update ..)) (by
  have:=di (k:=1) (x:=rawInt (i+1)) (di (k:=0) (x:=rawInt (if w.params.followText "set-order"=true then 0 else slotAt ps (i+1):Nat)) hI)
  exact this))⟩
theorem Fd{I:Addr}{xs:Cv α}{Q:Option Value->Shared->Prop}(hh:A.handled=none)(hne:S≠I)(r:Tab m (aQ K xs) ps)(few:xs.length≤m)(hk:xs.length≤1000)(hI:s.heap.get? I=some (aV w ps S (aq K xs).length ep (aq K xs).length))(ho:s.heap.get? S=some (cz (aG m ps f (bG w) mv true) (aq K xs) ep))
 (he:(aP w S ep (aq K xs))[(aq K xs).length]? =none)(h:∀h',Heap.ExtBut I s.heap h'->Q none {s with heap:=h'}):
 wpAny (model prog w) A (pyNext (.ref I)) Q E s:=by
 have hT:=dh hI
 unfold pyNext
 refine wpAny_bind (wpAny_attempt (wpAny_callSpecial?_slot (name:=Str.ofString "__next__") hT aC
  (wpAny_call_entry aC hT bI ?_ (bD _))))
 unfold Builtin.«set_iterator.__next__»
 refine wpAny_bind (wpAny_pure ?_)
 refine wpAny_bind (wpAny_fieldsOf hI rfl ?_)
 dsimp only
 refine wpAny_bind (wpAny_setEntries_of ho rfl (mD r few) ?_)
 rw[if_neg (by simp)]
 refine wpAny_bind ?_
 simp only[rawInt,Int.toNat_natCast]
 refine ur r few hk (y9 _) ho ?_
 rw[he]
 dsimp only[Option.map]
 refine wpAny_bind (wpAny_setField hI rfl (by simp) ?_)
 show wpAny _ _ (newExc (.type "StopIteration") []>>=_) _ _ _
 refine wpAny_bind ?_
 simp only[newExc,newTuple]
 refine wpAny_bind (wpAny_newObj_type ?_ (by size_fits))
 refine wpAny_bind (m:=firstArgMember _ _) (wpAny_of_eq (a:=Value.none) (by first | rfl | (simp only[firstArgMember];rfl)) ?_)
 refine wpAny_newObj_type ?_ (by size_fits)
 simp only[raiseNew]
 refine wpAny_bind (wpAny_handled ?_)
 rw[show A.in1.handled=none from hh]
 refine wpAny_bind (wpAny_pure (wpAny_throw ?_))
 refine wpAny_bind (wpAny_isInstance (T:="StopIteration") (b:=true) ⟨_,Heap.get?_push_size _ rfl,rfl⟩ isSubtype_stop ?_)
 exact wpAny_pure (h _ (((Heap.SameBut.update ..).extBut.push _).push _))
theorem FP(hh:A.handled=none)(I S:Addr)(hne:S≠I)(xs:Cv α)(m f mv:Nat)(ps:List Nat)(ep:Nat)(r:Tab m (aQ K xs) ps)(few:xs.length≤m)(hk:xs.length≤1000):
 Walks prog w A I [I,S] [I] (aq K xs).length (λ i v=>∃e,(aP w S ep (aq K xs))[i]? =some e/\e.2=v) (λ i h=>h.get? I=some (aV w ps S (aq K xs).length ep i)/\h.get? S=some (cz (aG m ps f (bG w) mv true) (aq K xs) ep)) where
 sub:=λ b hb=>by simp at hb;simp[hb]
 frame:=λ _ _ _ st hk=>⟨hk I (by simp) _ st.1,hk S (by simp) _ st.2⟩
 item:=λ i s Q E hi st hQ=>by
  obtain⟨e,he⟩:∃e,(aP w S ep (aq K xs))[i]? =some e:=⟨_,Array.getElem?_eq_getElem (by rw[lY];exact hi)⟩
  refine Ft hne r few hk hi st.1 st.2 he λ h' sb g=>hQ e.2 h' s.toks ⟨e,he,rfl⟩ ⟨g,?_⟩ λ b o hb e=>sb.extBut b o (λ h=>hb (by simp[h])) e
  rw[sb.2 S hne];exact st.2
 done:=λ s Q E st hQ=>Fd hh hne r few hk st.1 st.2 (Array.getElem?_eq_none (by rw[lY];exact y9 _)) λ h' he'=>hQ h' s.toks λ b o hb e=>he' b o (λ h=>hb (by simp[h])) e
 self:=λ _ s Q E st hQ=>by
  have hT:=dh (s:=s) st.1
  refine wpAny_pyIter_slot hT bO (wpAny_call_entry bO hT dj ?_ (c7 _))
  show wpAny _ _ (ret (.ref I)) _ _ s
  exact wpAny_pure ⟨_,rfl,"set_iterator",_,hT,aC.lookup,hQ⟩
theorem G3{xs:Cv α}{Q:Value->Shared->Prop}(r:Tab m (aQ K xs) ps)(few:xs.length≤m)(hk:xs.length≤1000)(ho:s.heap.get? S=some (cz (aG m ps f (bG w) mv true) (aq K xs) ep))
 (h:Q (.ref s.heap.objs.size) {s with heap:=s.heap.push (aV w ps S (aq K xs).length ep 0)}):wpAny (model prog w) A (pyIter (.ref S)) Q E s:=by
 have hT:s.TypeIs (.ref S) "set":=⟨_,ho,rfl⟩
 refine wpAny_pyIter_slot hT F.slot_set_iter (wpAny_call_entry F.slot_set_iter hT jy ?_ (F.args_set_iter_1 _))
 unfold Builtin.«frozenset.__iter__» Builtin.Frozenset.slot0 Builtin.Frozenset.sizeOf setDrawn
 refine wpAny_bind (wpAny_bind (wpAny_pure (wpAny_pure ?_)))
 refine wpAny_bind (wpAny_bind (wpAny_setEntries_of ho rfl (mD r few) (wpAny_pure ?_)))
 refine wpAny_bind (wpAny_bind (dO r few ho ?_))
 unfold setsByText
 dsimp only
 refine wpAny_bind (wpAny_bind (wpAny_askSetting (wpAny_pure (wpAny_pure ?_))))
 split
 . rename_i hx
   rw[Bool.and_eq_true]at hx
   exact absurd hx.2 y6
 . refine wpAny_bind (wpAny_pure ?_)
   refine wpAny_bind (wpAny_setEpoch_of ho rfl (mD r few) ?_)
   refine wpAny_bind (wpAny_newObj_type ?_ (by size_fits))
   have hz:(aq K xs).toArray.size=(aq K xs).length:=x5
   have e1:((if w.params.followText "set-order"=true then 0 else slotAt ps 0:Nat))=0:=by split<;>rfl
   have key:aV w ps S (aq K xs).length ep 0={cls:=.type "set_iterator",dict:=none,data:=.fields [rawInt 0,rawInt 0,.ref S,rawInt ((aq K xs).toArray.size:Nat),rawInt (ep:Nat)].toArray,slots:=#[]}:=by
    unfold aV
    rw[e1,hz]
    rfl
   rw[key]at h
   exact wpAny_pure ⟨_,rfl,"set_iterator",_,⟨_,Heap.get?_push_size _ rfl,rfl⟩,aC.lookup,h⟩
theorem yR{xs:Cv α}{Q:List Value->Shared->Prop}(hh:A.handled=none)(r:Tab m (aQ K xs) ps)(few:xs.length≤m)(hk:xs.length≤1000)(ho:s.heap.get? S=some (cz (aG m ps f (bG w) mv true) (aq K xs) ep))
 (h:∀h' tk,(∀b o,b<s.heap.objs.size->s.heap.get? b=some o->h'.get? b=some o)->s.heap.objs.size≤h'.objs.size->Q ((aP w S ep (aq K xs)).toList.map (·.2)) {s with heap:=h',toks:=tk}):wpAny (model prog w) A (collect (.ref S)) Q E s:=by
 have hS:S<s.heap.objs.size:=Heap.lt_size ho
 have hSL:s.heap.objs.size≠S:=Nat.ne_of_gt hS
 unfold collect
 refine wpAny_bind (wpAny_runValue (codeAny_builtin F.entry_proto_collect ?_))
 rw[Around.under_plainId F.plain_proto_collect _]
 show wpAny _ A.in1 (newList []>>=λ l=>again (.builtin "list.__iadd__" ⟨[l,.ref S],[]⟩)) _ _ s
 refine wpAny_bind (wpAny_newObj_type ?_)
 refine wpAny_pure ⟨plainId_quiet F.plain_list_iadd _,codeAny_builtin F.entry_list_iadd ?_⟩
 rw[Around.under_plainId F.plain_list_iadd _]
 have ho1:(s.heap.push {cls:=.type "list",data:=.seq ([]:List Value).toArray}).get? S=some (cz (aG m ps f (bG w) mv true) (aq K xs) ep):=Heap.get?_push_of_some _ ho
 have hT1:Shared.TypeIs {s with heap:=s.heap.push {cls:=.type "list",data:=.seq ([]:List Value).toArray}} (.ref S) "set":=⟨_,ho1,rfl⟩
 show wpAny _ A.in1 (Builtin.List.listExtendWith (.ref s.heap.objs.size) (.ref S) (.ref s.heap.objs.size)) _ _ _
 unfold Builtin.List.listExtendWith
 refine wpAny_bind (wpAny_typeOf hT1 ?_)
 have h1:Builtin.List.listSameRef (.ref s.heap.objs.size) (.ref S)=false:=by simp[Builtin.List.listSameRef,hSL]
 have h2:(Value.type "set"==Value.type "list")=false:=by decide
 have h3:(Value.type "set"==Value.type "tuple")=false:=by decide
 simp only[h1,h2,h3,Bool.or_false,Bool.false_eq_true,if_false]
 refine wpAny_bind (G3 (s:={s with heap:=s.heap.push {cls:=.type "list",data:=.seq ([]:List Value).toArray}}) r few hk ho1 ?_)
 refine wpAny_bind (wpAny_holding ?_)
 have sz1:(s.heap.push {cls:=.type "list",data:=.seq ([]:List Value).toArray}).objs.size=s.heap.objs.size+1:=size_push' _ _
 have ho2:((s.heap.push {cls:=.type "list",data:=.seq ([]:List Value).toArray}).push (aV w ps S (aq K xs).length ep 0)).get? S=some (cz (aG m ps f (bG w) mv true) (aq K xs) ep):=Heap.get?_push_of_some _ ho1
 have hI2:((s.heap.push {cls:=.type "list",data:=.seq ([]:List Value).toArray}).push (aV w ps S (aq K xs).length ep 0)).get? (s.heap.objs.size+1)=some (aV w ps S (aq K xs).length ep 0):=by
  rw[←sz1];exact Heap.get?_push_size _ rfl
 have hT2:Shared.TypeIs {s with heap:=(s.heap.push {cls:=.type "list",data:=.seq ([]:List Value).toArray}).push (aV w ps S (aq K xs).length ep 0)} (.ref S) "set":=⟨_,ho2,rfl⟩
 have hS₁:((s.heap.push {cls:=.type "list",data:=.seq ([]:List Value).toArray}).push (aV w ps S (aq K xs).length ep 0)).get? s.heap.objs.size=some {cls:=.type "list",data:=.seq ([]:List Value).toArray}:=Heap.get?_push_of_some _ (Heap.get?_push_size _ rfl)
 show wpAny (model prog w) A.in1 (Builtin.List.listLengthHint (.ref S)) _ _ {s with heap:=(s.heap.push {cls:=.type "list",data:=.seq ([]:List Value).toArray}).push (aV w ps S (aq K xs).length ep 0)}
 unfold Builtin.List.listLengthHint
 refine wpAny_bind (wpAny_specialOf hT2 F.slot_set_len.lookup ?_)
 have hsp:splitId "set.__len__"=some ("set","__len__"):=by kernel_rfl
 dsimp only
 rw[hsp]
 dsimp only
 refine wpAny_bind (wpAny_isInstance hT2 sub_set_self ?_)
 rw[if_neg (show ¬((!true)=true)from y6)]
 rw[if_pos]
 . refine wpAny_bind (wpAny_typeOf hT2 ?_)
   dsimp only
   refine wpAny_pure ?_
   rw[if_pos]
   . refine wpAny_bind (wpAny_rule ?_)
     refine wpAny_bind ?_
     show wpAny _ A.in1 (updateSeq s.heap.objs.size (·.push .none)>>=λ _=>updateSeq s.heap.objs.size (·.pop)) _ _ _
     refine wpAny_bind (wpAny_updateSeq hS₁ rfl ?_)
     have hS₂:=Heap.get?_update_self (Obj.mapSeq (·.push Value.none)) hS₁ rfl
     refine wpAny_updateSeq hS₂ rfl ?_
     have hS₃:=Heap.get?_update_self (Obj.mapSeq (·.pop)) hS₂ rfl
     have oth:∀b o,b≠s.heap.objs.size->((s.heap.push {cls:=.type "list",data:=.seq ([]:List Value).toArray}).push (aV w ps S (aq K xs).length ep 0)).get? b=some o->
      ((((s.heap.push {cls:=.type "list",data:=.seq ([]:List Value).toArray}).push (aV w ps S (aq K xs).length ep 0)).update s.heap.objs.size (Obj.mapSeq (·.push Value.none))).update s.heap.objs.size (Obj.mapSeq (·.pop))).get? b=some o:=
      λ b o hb e=>(Heap.get?_update_other _ _ (Ne.symm hb)).trans ((Heap.get?_update_other _ _ (Ne.symm hb)).trans e)
     have hSI:S≠s.heap.objs.size+1:=v3 (Nat.lt_succ_of_lt hS)
     have hLf:s.heap.objs.size∉[s.heap.objs.size+1,S]:=by
      intro z
      rcases List.mem_cons.mp z with z | z
      . exact absurd z (v3 (Nat.lt_succ_self _))
      . exact hSL (List.mem_singleton.mp z)
     have hn:(aq K xs).length≤sizeLine:=by unfold aq;rw[y7];exact Nat.le_trans hk (by decide)
     rw[sz1]
     refine wpAny_pure ⟨plainId_quiet F.plain_extend_loop _,codeAny_extend_loopS (FP (prog:=prog) (A:=A.in1) (by simpa using hh) (s.heap.objs.size+1) S hSI xs m f mv ps ep r few hk).toS hn _ hLf _ (aq K xs).length 0 _ _ _ rfl (Nat.zero_le _)
      ⟨oth _ _ (Nat.ne_of_gt (Nat.lt_succ_self _)) hI2,oth _ _ hSL.symm ho2⟩ hS₃ (ItemsOf.nil _) λ s' acc' c' hm hS' hacc=>?_⟩
     show wpAny _ A (load s.heap.objs.size>>=_) _ _ s'
     refine wpAny_bind (wpAny_load hS' ?_)
     obtain⟨h',g',d',tk',os'⟩:=s'
     have eg:g'=s.gens:=hm.gens
     have ed:d'=s.drawn:=hm.drawn
     have eo:os'=s.os:=hm.os
     subst eg;subst ed;subst eo
     have eacc:acc'.toList=(aP w S ep (aq K xs)).toList.map (·.2):=by
      apply List.ext_getElem?
      intro j
      rw[y8,Array.getElem?_toList,Array.getElem?_toList]
      by_cases hj:j<(aq K xs).length
      . have hj1:j<acc'.size:=by rw[hacc.1];exact hj
        obtain⟨e,he,hv⟩:=hacc.2 j acc'[j] (Array.getElem?_eq_getElem hj1)
        rw[Array.getElem?_eq_getElem hj1,he,←hv];rfl
      . rw[Array.getElem?_eq_none (by rw[hacc.1];omega),Array.getElem?_eq_none (by rw[lY];omega)];rfl
     refine wpAny_pure ?_
     show Q acc'.toList _
     rw[eacc]
     refine h h' tk' (λ b o hb e=>?_) ?_
     . refine hm.heap b o ?_ (oth b o (v3 hb) (Heap.get?_push_of_some _ (Heap.get?_push_of_some _ e)))
       intro z
       rcases List.mem_cons.mp z with z | z
       . exact absurd z (v3 hb)
       . exact absurd (List.mem_singleton.mp z) (v3 (Nat.lt_succ_of_lt hb))
     . exact Nat.le_of_lt (Heap.lt_size hS')
   . decide
 . decide
end
end RF
namespace RF
open PySem PySem.Spec L2 DL
open PyProof.Rows
structure SK(prog:Program)(w:World)(α:Type)[DecidableEq α](lt:α->α->Bool)(good:α->Prop)(enc:α->D) extends HK prog w α where
 tot:∀{a b:α},a≠b->lt a b=false->lt b a=true
 tr:∀{a b c:α},lt a b=true->lt b c=true->lt a c=true
 first:∀{h:Heap}{v:Value}{c:α},I h v c->good c->∃a o xs n f,v=.ref a/\h.get? a=some o/\o.cls=.type "tuple"/\o.data=.seq xs n/\xs[0]? =some f/\∃k t,f=Value.int k t
 ask:∀{A:Around}{E:Value->Shared->Prop}{s:Shared}{b:Bool}{u v:Value}{c d:α}{Q:Bool->Shared->Prop},A.units+2<cLine->I s.heap u c->I s.heap v d->Q (lt c d) s->wpAny (model prog w) A (keyLt' (tuples' b) u v) Q E s
 of:∀{X:Cx}{pins:List (Addr×Obj)}{σ:DL.St}{H:Hp}{s:Shared}{O:Own},X.prog=prog->X.w=w->Inv X pins σ H s->∀{y:V}{u:Value}{c:α},Rep X.K O H y (enc c)->RelV y u->I s.heap u c
abbrev sr{α:Type}[Inhabited α](lt:α->α->Bool)(cs:List α)(i j:Nat):Bool:=lt (cs.getD i default) (cs.getD j default)
section
variable {prog : Program} {w : World} {α : Type} [DecidableEq α] [Inhabited α] {lt : α -> α -> Bool} {good : α -> Prop} {enc : α -> D}
theorem RD(K:SK prog w α lt good enc){cs:List α}(nd:cs.Nodup):LtOk cs.length (sr lt cs):=by
 refine⟨λ i j hi hj ne h=>K.tot (λ e=>ne ?_) h,λ i j k _ _ _ h1 h2=>K.tr h1 h2⟩
 rw[List.getD_eq_getElem?_getD,List.getD_eq_getElem?_getD,y3 hi,y3 hj]at e
 exact(List.getElem_inj nd).mp e
end
section
variable {prog : Program} {w : World} {α : Type} [DecidableEq α] [Inhabited α] {lt : α -> α -> Bool} {good : α -> Prop} {enc : α -> D} {K : SK prog w α lt good enc} {A : Around} {E : Value -> Shared -> Prop} {s : Shared}
theorem J7{h:Heap}{vs:List Value}{cs:List α}(hl:vs.length=cs.length)(hg:∀c∈cs,good c)(hr:∀(i:Nat)(v:Value)(c:α),vs[i]? =some v->cs[i]? =some c->K.I h v c):
 ∃fs:List Value,PySem.W.KatTups h vs fs/\fs.length=vs.length/\∀v∈fs,∃n t,v=Value.int n t:=by
 induction vs generalizing cs with
 | nil=>exact⟨[],.nil,rfl,λ _ z=>nomatch z⟩
 | cons v vs ih=>
   cases cs with
   | nil=>cases hl
   | cons c cs=>
     obtain⟨fs,t,fl,ff_⟩:=ih (cs:=cs) (by simpa using hl) (λ c hc=>hg c (x4 _ hc)) λ i u c' e1 e2=>hr (i+1) u c' (by simpa using e1) (by simpa using e2)
     obtain⟨b1,o1,xs,n,f,rfl,g1,g2,g3,g4,g5⟩:=K.first (hr 0 v c rfl rfl) (hg c x6)
     refine⟨f::fs,PySem.W.KatTups.cons g1 g2 g3 g4 t,by simp[fl],λ v hv=>?_⟩
     rcases List.mem_cons.mp hv with rfl | hv
     . exact g5
     . exact ff_ v hv
theorem tZ{a:Addr}{vs:List Value}{n:Nat}{cs:List α}{R:PySem.Fin->Shared->Prop}(hu:A.units+2<cLine)(ho:s.heap.get? a=some (seqObj "list" vs.toArray n))
 (hl:vs.length=cs.length)(hr:∀(i:Nat)(v:Value)(c:α),vs[i]? =some v->cs[i]? =some c->K.I s.heap v c)(hg:∀c∈cs,good c)(nd:cs.Nodup)(h64:vs.length<64)
 (h:∀p:List Nat,OdrL cs.length (sr lt cs) p->R (.done (.ret .none)) {s with heap:=sortedHeap s.heap a vs (List.toArray (p.map λ i=>vs.getD i Value.none))}):
 wpAny (model prog w) A (Builtin.«list.sort» ⟨[.ref a],[]⟩) R E s:=by
 rw[list_sort_plain]
 have hla:a<s.heap.objs.size:=Heap.lt_size ho
 have hsl:vs.length≤sizeLine:=Nat.le_trans (Nat.le_of_lt h64) (by decide)
 refine wpAny_bind (listItems_at ho rfl ?_)
 refine wpAny_bind (listUpdate_at ho rfl ?_ (by rw[x5];exact hsl) (Nat.zero_le _))
 obtain⟨e1,ho1⟩:∃e1,(s.heap.update a (Obj.mapSeq λ _=>#[])).get? a=some (seqObj "list" #[] e1):=⟨_,get?_update_seq ho (λ _=>#[])⟩
 refine wpAny_bind (seqEpoch_at ho1 rfl ?_)
 refine wpAny_bind (wpAny_newTuple ?_ (by show vs.length≤_;exact hsl))
 refine wpAny_bind (wpAny_newList ?_ (Nat.zero_le _))
 refine wpAny_holding ?_
 have ho6:(((s.heap.update a (Obj.mapSeq λ _=>#[])).push (seqObj "tuple" vs.toArray 0)).push (seqObj "list" #[] 0)).get? a=some (seqObj "list" #[] e1):=by
  rw[Heap.get?_push_ne _ _ _ (by rw[size_push',Heap.size_update];exact v3 (Nat.lt_succ_of_lt hla)),Heap.get?_push_ne _ _ _ (by rw[Heap.size_update];exact v3 hla)]
  exact ho1
 show wpAny (model prog w) A _ R E {s with heap:=((s.heap.update a (Obj.mapSeq λ _=>#[])).push (seqObj "tuple" vs.toArray 0)).push (seqObj "list" #[] 0)}
 dsimp only
 have hout:(vs.toArray.zip vs.toArray).map (·.2)=vs.toArray:=by
  apply Array.toList_inj.mp
  simp[List.map_snd_zip]
 have hr':∀(i:Nat)(v:Value)(c:α),vs[i]? =some v->cs[i]? =some c->K.I (((s.heap.update a (Obj.mapSeq λ _=>#[])).push (seqObj "tuple" vs.toArray 0)).push (seqObj "list" #[] 0)) v c:=λ i v c q1 q2=>K.keep (λ b o e c=>by
  have hba:b≠a:=by
   rintro rfl
   rw[ho]at e;cases e
   exact absurd (show Value.type "list"=Value.type "tuple" from c) (by decide)
  have hlb:b<s.heap.objs.size:=Heap.lt_size e
  rw[Heap.get?_push_ne _ _ _ (by rw[size_push',Heap.size_update];exact v3 (Nat.lt_succ_of_lt hlb)),Heap.get?_push_ne _ _ _ (by rw[Heap.size_update];exact v3 hlb),Heap.get?_update_ne _ _ _ _ hba]
  exact e) (hr i v c q1 q2)
 by_cases h2:vs.toArray.size<2
 . rw[if_pos h2,if_pos h2]
   refine wpAny_bind (wpAny_pure ?_)
   rw[StateT.run_pure]
   refine wpAny_bind (wpAny_pure ?_)
   dsimp only
   refine wpAny_bind (seqEpoch_at ho6 rfl ?_)
   rw[show arrOf (SortSt.mk' general' (vs.toArray.zip vs.toArray) #[] 7 none)=vs.toArray.zip vs.toArray from rfl,hout]
   refine wpAny_bind (listUpdate_at ho6 rfl ?_ (Nat.zero_le _) (by rw[x5];omega))
   simp only[bne_self_eq_false,Bool.false_eq_true,if_false]
   have hp:OdrL cs.length (sr lt cs) (List.range cs.length):=by
    refine⟨by simp,λ i hi=>List.mem_range.mp hi,List.nodup_range,?_⟩
    rw[x5]at h2
    rcases cs with _ | ⟨k1,_ | ⟨k2,cs⟩⟩
    . exact List.Pairwise.nil
    . simp[List.range_succ]
    . exfalso;simp at hl;omega
   have ev:((List.range cs.length).map λ i=>vs.getD i Value.none)=vs:=by
    rw[←hl]
    refine List.ext_getElem? λ i=>?_
    rw[y8]
    by_cases hi:i<vs.length
    . simp[hi]
    . rw[List.getElem?_eq_none (by rw[List.length_range];omega),List.getElem?_eq_none (by omega)];rfl
   have h:=h _ hp
   rw[ev]at h
   exact wpAny_pure h
 . rw[if_neg h2,if_neg h2]
   rw[x5]at h2
   obtain⟨fs,tp,fl,fi⟩:=J7 hl hg hr'
   refine wpAny_bind (PySem.W.kat_kind (T:=.type "int") tp (by omega) (λ v hv=>?_) rfl ?_)
   . obtain⟨n,t,rfl⟩:=fi v hv
     exact PySem.W.Looks.of_pure rfl
   have run:=Pb (RD K nd) (by omega)
   generalize hs1:({s with heap:=((s.heap.update a (Obj.mapSeq λ _=>#[])).push (seqObj "tuple" vs.toArray 0)).push (seqObj "list" #[] 0)}:Shared)=s1
   have hr1:∀(i:Nat)(v:Value)(c:α),vs[i]? =some v->cs[i]? =some c->K.I s1.heap v c:=by rw[←hs1];exact hr'
   refine wpAny_bind (wpAny_mono (PySem.W.kat_run (Q:=λ st' s'=>s'=s1/\∃p:List Nat,(arrOf st').map (·.2)=List.toArray (p.map λ i=>vs.getD i Value.none)/\failedOf st'=none/\OdrL cs.length (sr lt cs) p) (G:=λ p s'=>s'=s1/\Pm cs.length p/\Srt (sr lt cs) p cs.length) rfl (by omega) h64 ?_ ?_) ?_ λ _ _ x=>x)
   . rintro p st' s' hp har hf ⟨rfl,P,srt⟩
     exact⟨rfl,p.toList,PySem.W.kat_snds rfl har,hf,Ou P srt⟩
   . rw[hl]
     refine aX.wp (I:=λ s'=>s'=s1) (λ i j C s' hi hj e k=>?_) _ s1 run rfl λ p s' q e=>⟨e,q⟩
     subst e
     have gi:∀i,i<cs.length->K.I s'.heap (vs.getD i Value.none) (cs.getD i default):=λ i hi=>hr1 i _ _ (by rw[List.getD_eq_getElem?_getD];simp[show i<vs.length by omega]) (by rw[List.getD_eq_getElem?_getD];simp[hi])
     unfold PySem.W.kas_ask
     exact K.ask hu (gi i hi) (gi j hj) (k _ rfl)
   . rintro⟨⟨⟩,st'⟩ s' ⟨rfl,p,h1,hf,hp⟩
     subst hs1
     dsimp only
     refine wpAny_bind (seqEpoch_at ho6 rfl ?_)
     rw[h1]
     have hz:(p.map λ i=>vs.getD i Value.none).length=vs.length:=by rw[y7,hp.len,hl]
     refine wpAny_bind (listUpdate_at ho6 rfl ?_ (Nat.zero_le _) (by rw[x5,hz];exact Nat.le_succ_of_le hsl))
     rw[hf]
     simp only[bne_self_eq_false,Bool.false_eq_true,if_false]
     exact wpAny_pure (h p hp)
theorem Fz{γ β:Type}{f:γ->β}:∀{l m:List β},l.Perm m->∀{xs:List γ},m=xs.map f->∃ys:List γ,ys.Perm xs/\l=ys.map f:=by
 intro l m h
 induction h with
 | nil=>
   intro xs e
   have:xs=[]:=by cases xs with | nil=>rfl | cons=>cases e
   subst this
   exact⟨[],.refl _,rfl⟩
 | cons x _ ih=>
   intro xs e
   cases xs with
   | nil=>cases e
   | cons y xs=>
     injection e with e1 e2
     obtain⟨ys,p,e3⟩:=ih e2
     exact⟨y::ys,p.cons y,by rw[e1,e3];rfl⟩
 | swap x y l=>
   intro xs e
   cases xs with
   | nil=>cases e
   | cons a xs=>
     cases xs with
     | nil=>cases e
     | cons b xs=>
       injection e with e1 e2
       injection e2 with e2 e3
       exact⟨b::a::xs,.swap ..,by rw[e1,e2,e3];rfl⟩
 | trans _ _ ih1 ih2=>
   intro xs e
   obtain⟨ys,p,e1⟩:=ih2 e
   obtain⟨zs,q,e2⟩:=ih1 e1
   exact⟨zs,q.trans p,e2⟩
theorem zG{S:Addr}{xs:Cv α}{m f mv ep:Nat}{ps:List Nat}{Q:Value->Shared->Prop}(hh:A.handled=none)(hu:A.units+8<cLine)(r:Tab m (aQ K.toHK xs) ps)(few:xs.length≤m)(h64:xs.length<64)(nd:(xs.map (·.1)).Nodup)(hg:∀x∈xs,good x.1)(ho:s.heap.get? S=some (cz (aG m ps f (bG w) mv true) (aq K.toHK xs) ep))
 (hc:∀x∈xs,K.I s.heap x.2 x.1)
 (h:∀(ys:Cv α) h' tk a e,ys.Perm xs->ys.Pairwise (λ x y=>lt x.1 y.1=true)->(∀b o,b<s.heap.objs.size->s.heap.get? b=some o->h'.get? b=some o)->s.heap.objs.size≤a->h'.get? a=some (seqObj "list" (ys.map (·.2)).toArray e)->Q (.ref a) {s with heap:=h',toks:=tk}):
 wpAny (model prog w) A (call (.builtin "sorted") [.ref S]) Q E s:=by
 refine Calls.call_function_entry kind_sorted plain_sorted entry_sorted (args_sorted1 _) ?_
 unfold Builtin.«sorted»
 refine wpAny_bind (m:=checkCount "sorted" 1 1 _) (wpAny_pure ?_)
 refine wpAny_bind (yR (by simpa using hh) r few (by omega) ho λ h' tk k1 k2=>?_)
 obtain⟨zs,pz,ez⟩:=Fz (xM w S ep (aq K.toHK xs)) (xs:=xs) (f:=λ x=>(K.h x.1,x.2)) rfl
 rw[ez,List.map_map]
 have zl:zs.length=xs.length:=pz.length_eq
 have evs:(zs.map ((λ x:Int×Value=>x.2) ∘ λ x:α×Value=>(K.h x.1,x.2)))=zs.map (·.2):=rfl
 rw[evs]
 generalize hvs:zs.map (·.2)=vs
 have vl:vs.length=zs.length:=by rw[←hvs,y7]
 have hsl:vs.length≤sizeLine:=Nat.le_trans (by omega:vs.length≤64) (by decide)
 refine wpAny_bind (wpAny_newList ?_ hsl)
 have hoL:(h'.push (seqObj "list" vs.toArray 0)).get? h'.objs.size=some (seqObj "list" vs.toArray 0):=Heap.get?_push_size _ rfl
 have keep:∀b o,s.heap.get? b=some o->(h'.push (seqObj "list" vs.toArray 0)).get? b=some o:=λ b o q=>Heap.get?_push_of_some _ (k1 b o (Heap.lt_size q) q)
 show wpAny _ _ _ _ _ {s with heap:=h'.push (seqObj "list" vs.toArray 0),toks:=tk}
 refine wpAny_bind (wpAny_holding (wpAny_call_entry slot_list_sort ⟨_,hoL,rfl⟩ entry_list_sort (tZ (K:=K) (cs:=zs.map (·.1)) ?_ hoL (by rw[y7,vl]) (λ i v c e1 e2=>?_) (λ c hc=>?_) ((pz.map (·.1)).nodup_iff.mpr nd) (by omega) λ p hp=>⟨_,rfl,?_⟩) (args_list_sort _)))
 . show A.units+1+1+2<cLine
   omega
 . rw[←hvs,y8]at e1
   rw[y8]at e2
   cases q:zs[i]? with
   | none=>rw[q]at e1;cases e1
   | some z=>
     rw[q]at e1 e2
     cases e1
     cases e2
     exact K.keep (λ b o e _=>keep b o e) (hc z (pz.mem_iff.mp (y4 q)))
 . obtain⟨z,hz,rfl⟩:=List.mem_map.mp hc
   exact hg z (pz.mem_iff.mp hz)
 . obtain⟨e,he⟩:=sortedHeap_at (out:=List.toArray (p.map λ i=>vs.getD i Value.none)) hoL
   have pn:∀i∈p,i<zs.length:=λ i hi=>by have:=hp.lt_ i hi;rwa[y7]at this
   have zat:∀i,i<zs.length->zs[i]? =some (zs.getD i (default,.none)):=λ i hi=>by rw[List.getD_eq_getElem?_getD];simp[hi]
   have ev:(p.map λ i=>vs.getD i Value.none)=(p.map λ i=>zs.getD i (default,.none)).map (·.2):=by
    rw[List.map_map]
    refine List.map_congr_left λ i hi=>?_
    rw[←hvs,List.getD_eq_getElem?_getD,y8,zat i (pn i hi)]
    rfl
   have eo:(seqObj "list" (p.map λ i=>vs.getD i Value.none).toArray e)=seqObj "list" ((p.map λ i=>zs.getD i (default,Value.none)).map (·.2)).toArray e:=by rw[ev]
   rw[eo]at he
   have pp:(p.map λ i=>zs.getD i (default,Value.none)).Perm zs:=by
    have h1:=hp.perm
    rw[y7]at h1
    have:=h1.map λ i=>zs.getD i (default,Value.none)
    rw[range_getD]at this
    exact this
   refine wpAny_pure ⟨_,rfl,h _ _ tk _ e (pp.trans pz) ?_ (λ b o hb q=>?_) k2 he⟩
   . rw[List.pairwise_map]
     refine hp.srt.imp_of_mem λ{i j} hi hj h=>?_
     have g:∀i∈p,(zs.map (·.1)).getD i default=(zs.getD i (default,Value.none)).1:=λ i hi=>by
      rw[List.getD_eq_getElem?_getD,y8,zat i (pn i hi)]
      rfl
     unfold sr at h
     rw[g i hi,g j hj]at h
     exact h
   . have hlt:b<h'.objs.size:=w9 hb k2
     rw[sortedHeap_old (v3 hlt) (by rw[size_push'];exact Nat.lt_succ_of_lt hlt)]
     exact keep b o q
end
theorem bR.keep{h h':Heap}{v:Value}{c:List Int}(k:∀b o,h.get? b=some o->o.cls=.type "tuple"->h'.get? b=some o)(hc:bR h v c):bR h' v c:=by
 obtain⟨b,o,xs,n,e5,e6,e7,e8,e9⟩:=hc
 exact⟨b,o,xs,n,e5,k _ _ e6 e7,e7,e8,e9⟩
section
variable {prog : Program} {w : World} {A : Around} {E : Value -> Shared -> Prop} {s : Shared}
theorem Ly{x:Value}{c:List Int}{ys:List Value}{Q:Bool->Shared->Prop}(hx:bR s.heap x c)(hy:∀y∈ys,∃d,bR s.heap y d)(h:Q false s):wpAny (model prog w) A (searchCouldBeSeen x ys) Q E s:=by
 have hx0:=hx
 obtain⟨a,_,_,_,rfl,_⟩:=hx
 unfold searchCouldBeSeen
 refine wpAny_bind ?_
 refine wpAny_forIn_list _ (λ rest r s'=>r.1=none/\s'=s/\∀v∈rest,∃d,bR s.heap v d) _ ?_ ?_ _ _ ⟨rfl,rfl,hy⟩
 . rintro v rest r s' ⟨hr,rfl,hall⟩
   obtain⟨d,hd⟩:=hall v x6
   have hd0:=hd
   obtain⟨b,_,_,_,rfl,_⟩:=hd
   have tl:∀v∈rest,∃d,bR s'.heap v d:=λ u hu'=>hall u (x4 _ hu')
   dsimp only
   split
   . exact wpAny_pure ⟨rfl,rfl,tl⟩
   . refine wpAny_bind (lH hx0 ?_)
     simp only[Bool.not_true,Bool.false_eq_true,if_false]
     refine wpAny_bind (lH hd0 ?_)
     simp only[Bool.not_true,Bool.false_eq_true,if_false]
     refine wpAny_bind (rB hx0 ?_)
     simp only[Bool.false_eq_true,if_false]
     refine wpAny_bind (rB hd0 ?_)
     simp only[Bool.false_eq_true,if_false]
     exact wpAny_pure ⟨rfl,rfl,tl⟩
 . rintro⟨r1,r2⟩ s' ⟨hr,rfl,_⟩
   simp only at hr
   subst hr
   exact wpAny_pure h
theorem J6{b fin:Bool}{Q:Bool->Shared->Prop}:∀{us vs:List Value}{ns ms:List Int}(i:Nat),IntsAre us ns->IntsAre vs ms->Q (ltF fin ns ms) s->PySem.W.KatLex prog w A b fin Q (us.zip vs) i s:=by
 intro us vs ns ms i x
 induction x generalizing vs ms i with
 | nil=>intro y h;cases y<;>exact PySem.W.kat_nil h
 | cons n t x ih=>
   intro y h
   cases y with
   | nil=>exact PySem.W.kat_nil h
   | cons m u y=>
     unfold ltF at h
     refine PySem.W.kat_cons (wpAny_eqBool_int ?_)
     by_cases q:n=m
     . rw[if_pos q]at h
       have q':(n==m)=true:=by rw[q];exact beq_self_eq_true m
       rw[q']
       exact PySem.W.kat_yes (ih (i+1) y h)
     . rw[if_neg q]at h
       have q':(n==m)=false:=beq_eq_false_iff_ne.mpr q
       rw[q']
       refine PySem.W.kat_no ?_
       cases b&&i==0 with
       | true=>exact oneLt_int h
       | false=>exact PySem.W.kat_one _ _ (wpAny_lt_int h)
theorem Nz{b:Bool}{u v:Value}{ns ms:List Int}{Q:Bool->Shared->Prop}(hx:bR s.heap u ns)(hy:bR s.heap v ms)(h:Q (ltI ns ms) s):wpAny (model prog w) A (keyLt' (tuples' b) u v) Q E s:=by
 obtain⟨a,o,xs,n,rfl,ho,hc,hd,hi⟩:=hx
 obtain⟨a2,o2,xs2,n2,rfl,ho2,hc2,hd2,hi2⟩:=hy
 refine PySem.W.kat_lt ho hd ho2 hd2 ?_
 have l1:xs.size=ns.length:=by rw[←Array.length_toList];exact hi.length
 have l2:xs2.size=ms.length:=by rw[←Array.length_toList];exact hi2.length
 rw[l1,l2]
 exact J6 0 hi hi2 h
end
theorem RL{X:Cx}{pins:List (Addr×Obj)}{σ:DL.St}{H:Hp}{s:Shared}{O:Own}(I:Inv X pins σ H s){y:V}{u:Value}{c:List Int}(r:Rep X.K O H y (.tup (c.map .int)))(ru:RelV y u):bR s.heap u c:=by
 cases r with
 | @tup a xs _ h1 q1=>
   cases ru
   obtain⟨js,rv,⟨o,p1,p2,n,p3⟩,hz⟩:=I.tuple h1.sq
   have ex:=q1.ints
   subst ex
   exact⟨_,o,_,n,rfl,p1,p2,p3,intsAre_of rv⟩
def tD(c:List Int):D:=.tup (c.map .int)
def tupK(prog:Program)(w:World):SK prog w (List Int) ltI (λ c=>c≠[]) tD where
 h:=tupleKeyHash (intKind prog w)
 I:=bR
 keep:=bR.keep
 ref:=λ⟨b,_,_,_,e,_⟩=>⟨b,e⟩
 eq:=λ hu hx hy=>oV (by omega) hx hy
 seen:=Ly
 hbv:=λ hx h=>Bu hx h
 hash:=by
  intro A E s v c Q hu hx h
  obtain⟨b,_,_,_,rfl,_⟩:=id hx
  exact wpAny_pyHash_tuple (knd:=intKind prog w) (by omega) (qG hx) (h _)
 tot:=λ{a b} n h=>by
  cases q:ltI b a with
  | true=>rfl
  | false=>exact absurd (uc h q) n
 tr:=Rg
 first:=by
  rintro h v c ⟨b,o,xs,n,e1,e2,e3,e4,e5⟩ hg
  cases c with
  | nil=>exact absurd rfl hg
  | cons k c=>
    have hl:=e5.length
    rw[List.length_cons,Array.length_toList]at hl
    have h0:xs[0]? =some xs[0]:=Array.getElem?_eq_getElem (by omega)
    obtain⟨t,e⟩:=IntsAre.int_at e5 0 xs[0] (by rw[Array.getElem?_toList];exact h0)
    exact⟨b,o,xs,n,_,e1,e2,e3,e4,h0,_,t,e⟩
 ask:=λ _ hx hy h=>Nz hx hy h
 of:=by
  rintro X pins σ H s O rfl rfl I y u c r ru
  exact RL I r ru
section
variable {X : Cx} {α : Type} [DecidableEq α] [Inhabited α] {lt : α -> α -> Bool} {good : α -> Prop} {enc : α -> D}
theorem HB{K:PySem.W.Frag}{O:Own}{H:Hp}{cs:List α}{its:List Value}{xs:List V}(rv:Vals xs its)(hq:Reps K O H xs (cs.map enc)):∀{ys:Cv α},(∀y∈ys,(y.2,y.1)∈its.zip cs)->∃zs,Vals zs (ys.map (·.2))/\Reps K O H zs ((ys.map (·.1)).map enc):=by
 intro ys
 induction ys with
 | nil=>intro _;exact⟨[],.nil,.nil⟩
 | cons y ys ih=>
   intro h
   obtain⟨zs,a,b⟩:=ih λ y hy=>h y (x4 _ hy)
   obtain⟨j,hj⟩:=List.getElem?_of_mem (h y x6)
   rw[List.getElem?_zip_eq_some]at hj
   have e3:(cs.map enc)[j]? =some (enc y.1):=by rw[y8,hj.2];rfl
   obtain⟨v,hv,ry⟩:=hq.get e3
   obtain⟨x',hx',rx⟩:=gR rv hv
   rw[hj.1]at hx';cases hx'
   exact⟨v::zs,.cons rx a,.cons ry b⟩
theorem An(sk:∀prog w,SK prog w α lt good enc){cs:List α}{S:Store}{W:WD}{d:D}(hc:X.calm=true)(hu:X.A.units+60<cLine)(hb:∀l:List α,l.Nodup->(∀x∈l,x∈cs)->l.length≤63)(hg:∀c∈cs,good c)(hd:d=.lst (cs.map enc)∨∃k,d=.loc k/\S[k]? =some (cs.map enc))
 (w:∀ks:List α,ks.Pairwise (λ a b=>lt a b=true)->(∀c,c∈ks↔c∈cs)->W (.lst (ks.map enc)) S)
 {pins:Pins}{s:Shared}{σ:DL.St}{H:Hp}{O:Own}{v:V}{u:Value}(I:Inv X pins σ H s)(st:StOk X.K O H S)(r':Rep X.K O H v d)(ru':RelV v u):
 wpAny (model X.prog X.w) X.A (call (.type "set") [u]) (λ u1 s1=>wpAny (model X.prog X.w) X.A (call (.builtin "sorted") [u1]) (EP X pins σ (QG X.K O H W)) X.xe s1) X.xe s:=by
 have main:∀(a:Addr)(xs:List V),v=.ref a->SqL X.K H a xs->Reps X.K O H xs (cs.map enc)->wpAny (model X.prog X.w) X.A (call (.type "set") [u]) (λ u1 s1=>wpAny (model X.prog X.w) X.A (call (.builtin "sorted") [u1]) (EP X pins σ (QG X.K O H W)) X.xe s1) X.xe s:=by
  rintro a xs rfl hs hq
  cases ru'
  obtain⟨its,rv,pl,hz⟩:=I.list hs
  have l1:xs.length=cs.length:=by rw[hq.length,y7]
  have l2:its.length=cs.length:=by rw[←rv.length,l1]
  have cel:∀(i:Nat)(x:Value)(c:α),its[i]? =some x->cs[i]? =some c->(sk X.prog X.w).I s.heap x c:=by
   intro i x c e1 e2
   have e3:(cs.map enc)[i]? =some (enc c):=by rw[y8,e2];rfl
   obtain⟨y,hy,ry⟩:=hq.get e3
   obtain⟨x',hx',rx⟩:=gR rv hy
   rw[e1]at hx';cases hx'
   exact(sk X.prog X.w).of rfl rfl I ry rx
  refine vJ (K:=(sk X.prog X.w).toHK) (I.ok.hd hc) (by omega) pl.isList l2 cel hb λ h1 tk ys m ps mv ep g1 lies k1=>?_
  have hlt:∀b o,s.heap.get? b=some o->h1.get? b=some o:=λ b o e=>k1 b o (Heap.lt_size e) e
  have sz1:s.heap.objs.size≤h1.objs.size:=Nat.le_of_lt (Heap.lt_size g1)
  rw[l2]at lies
  have inn:∀x∈ys,x.1∈cs:=λ x hx=>List.mem_of_mem_take (lies.inn x hx)
  have n63:=hb (ys.map (·.1)) lies.nd λ x hx=>by
   obtain⟨y,hy,rfl⟩:=List.mem_map.mp hx
   exact inn y hy
  rw[y7]at n63
  refine zG (K:=sk X.prog X.w) (s:={s with heap:=h1,toks:=tk}) (I.ok.hd hc) (by omega) lies.tab (by rcases lies.fill with⟨e,f⟩ | ⟨e,f⟩ | ⟨e,f⟩<;>omega) (by omega) lies.nd (λ x hx=>hg _ (inn x hx)) g1 (λ x hx=>?_) λ zs h2' tk2 p e pz srt k2 hp he=>?_
  . obtain⟨j,hj⟩:=List.getElem?_of_mem (lies.its x hx)
    rw[List.getElem?_zip_eq_some]at hj
    exact(sk X.prog X.w).keep (λ b o e _=>hlt b o e) (cel j _ _ hj.1 hj.2)
  . have hp':s.heap.objs.size≤p:=Nat.le_trans sz1 hp
    have hpn:H p=none:=I.hok.fresh hp'
    obtain⟨vs,vy,ry⟩:=HB rv hq (ys:=zs) λ y hy=>lies.its y (pz.mem_iff.mp hy)
    have ly:vs.length≤63:=by rw[vy.length,y7,pz.length_eq];exact n63
    have hys:vs.length≤sizeLine:=Nat.le_trans ly (by decide)
    have hw:=w (zs.map (·.1)) (by rw[List.pairwise_map];exact srt) λ c=>⟨λ hm=>by
     obtain⟨z,hz,rfl⟩:=List.mem_map.mp hm
     exact inn z (pz.mem_iff.mp hz),λ hm=>by
     obtain⟨x,hx,e⟩:=lies.all c (by rw[List.take_length];exact hm)
     exact List.mem_map.mpr ⟨x,pz.mem_iff.mpr hx,e⟩⟩
    exact⟨.ref p,_,I.laid (t':=tk2) (λ b o q=>k2 b o (w9 (Heap.lt_size q) sz1) (hlt b o q)) hp' (show bH X.prog X.w _ _ _ (.lst vs)from⟨hys,_,e,vy,he⟩),rfl,gA hw st hpn ry⟩
 rcases hd with rfl | ⟨k,rfl,hk⟩
 . cases r' with
   | @lst a xs _ h1 q1=>exact main a xs rfl h1.sq q1
 . cases r' with
   | @loc p _ h1=>
     obtain⟨xs,hx,q1⟩:=st.obj k p _ h1 hk
     exact main p xs rfl (SqL.of hx) q1
end
section
variable {Ω : Wd}
def Ex.ssetT(hm:Ω.mg "sorted"=none)(hm2:Ω.mg "set"=none)(a:Ex Ω):Ex Ω where
 lev:=a.lev
 chk top N nm e:=iz e λ y es=>(y=="sorted")&&sV es λ b1=>iz b1 λ z es2=>(z=="set")&&sV es2 λ b=>(glb nm "sorted"&&(glb nm "set"&&(okE b&&a.chk top N nm b)))
 wp Γ S W:=a.wp Γ S λ d S1=>∃cs:List (List Int),(∀l:List (List Int),l.Nodup->(∀x∈l,x∈cs)->l.length≤63)/\(∀c∈cs,c≠[])/\(d=.lst (cs.map tD)∨∃k,d=.loc k/\S1[k]? =some (cs.map tD))/\∀ks:List (List Int),ks.Pairwise (λ a b=>ltI a b=true)->(∀c,c∈ks↔c∈cs)->W (.lst (ks.map tD)) S1
 sound:=by
  intro X r top N nm e Γ S W A hl hc hw
  obtain⟨y,p,es,pos,ee,hc1⟩:=dG hc
  subst ee
  obtain⟨h1,hc2⟩:=aa hc1
  obtain⟨b1,ee,hc3⟩:=jr hc2
  subst ee
  obtain⟨z,p',es2,pos',ee,hc4⟩:=dG hc3
  subst ee
  obtain⟨h2,hc5⟩:=aa hc4
  obtain⟨b,ee,hc6⟩:=jr hc5
  subst ee
  obtain⟨h3,hc7⟩:=aa hc6
  obtain⟨h4,hc8⟩:=aa hc7
  obtain⟨h5,h6⟩:=aa hc8
  have e1:=eq_of_beq h1
  have e2:=eq_of_beq h2
  subst e1 e2
  intro pins s σ H O I env st
  refine wpAny_Call_Name_kw (cO I (A.glb h3) (by rw[A.g];exact hm) (show bootBuiltins "sorted"=some (.builtin "sorted")from by decide+kernel) ?_ (by decide) (by decide))
  refine PyProof.Rows.callWith_builtin1 ?_ rfl rfl
  show wpAny _ _ (spliced ((false,eval _ X.env)::backTo pos (starEach [] X.env))) _ _ s
  refine Calls.spliced_cons ?_
  refine wpAny_Call_Name_kw (cO I (A.glb h4) (by rw[A.g];exact hm2) (show bootBuiltins "set"=some (.type "set")from by decide+kernel) ?_ (by decide) (by decide))
  refine PyProof.Rows.callWith_type1 ?_ (bu h5 _ _) rfl
  rw[bu h5 [] X.env]
  show wpAny _ _ (spliced ((false,eval b X.env)::backTo pos' (starEach [] X.env))) _ _ s
  refine Calls.spliced_cons (thn (a.sound A hl h6 hw pins s σ H O I env st) λ u s1 hq_=>?_)
  obtain⟨v,H1,I1,r1,O1,x,S1,hb,st1,ok1,rep1⟩:=hq_
  obtain⟨cs,c1,c2,c3,c4⟩:=hb
  refine Calls.spliced_nil ?_
  refine thn (An tupK A.calm A.hu c1 c2 c3 c4 I1 ok1 rep1 r1) λ u2 s2 q=>?_
  refine Calls.spliced_nil ?_
  exact thn q λ _ _ q=>dW st1 q
end
def Ju(top:Bool)(N:List Str)(nm:Nm)(i:Nat)(is:List Nat)(e:Expr):Bool:=match e with
 | .Tuple es _ _=>two2 es λ a b=>m6 top N nm i a&&(Tg.tup is).chk top N nm b
 | _=>false
section
variable {Ω : Wd}
theorem QC{X:Cx}{r:Nat}{top:Bool}{N:List Str}{nm:Nm}(A:At Ω X r top N nm){i:Nat}{is:List Nat}{e:Expr}{a:D}{es:List D}{Γ:Gam}{S:Store}{W:Gam->Store->Prop}(hc:Ju top N nm i is e=true)(hl:es.length=is.length)(hw:W (setAll (Γ.set i (some a)) is es) S):BdW X e (.tup [a,.tup es]) Γ S W:=by
 cases e with
 | Tuple ts k pos=>
   have hc1:(two2 ts λ a b=>m6 top N nm i a&&(Tg.tup is).chk top N nm b)=true:=hc
   obtain⟨t1,t2,ee,hc2⟩:=two2_of hc1
   subst ee
   obtain⟨h1,h2⟩:=aa hc2
   cases t1 with
   | Name x p=>
     cases t2 with
     | Tuple us k2 p2=>
       refine Gd (pO (xW A h1 (pO (Tg.sound A (t:=.tup is) h2 ?_) rfl)) rfl) A.calm rfl rfl
       exact⟨hl,De hw⟩
     | _=>exact(y6 h2).elim
   | _=>exact(y6 h1).elim
 | _=>exact fE hc
@[irreducible] noncomputable def Fo(Γ:Gam)(i:Nat)(is:List Nat)(body:Bl Ω)(W:DL.Fin)(ds:List D)(S1:Store):Prop:=
  ∃Pv:Nat->Gam->Store->Prop,Pv 0 Γ S1/\(∀j d Γ' S',ds[j]? =some d->Pv j Γ' S'->∃a es,d=.tup [a,.tup es]/\es.length=is.length/\body.wp (setAll (Γ'.set i (some a)) is es) S' {W with nx:=Pv (j+1),ct:=Pv (j+1),bk:=W.nx})/\(∀Γ' S',Pv ds.length Γ' S'->W.nx Γ' S')
theorem PN{Γ:Gam}{i:Nat}{is:List Nat}{body:Bl Ω}{W:DL.Fin}{ds:List D}{S1:Store}(h:∃Pv:Nat->Gam->Store->Prop,Pv 0 Γ S1/\(∀j d Γ' S',ds[j]? =some d->Pv j Γ' S'->∃a es,d=.tup [a,.tup es]/\es.length=is.length/\body.wp (setAll (Γ'.set i (some a)) is es) S' {W with nx:=Pv (j+1),ct:=Pv (j+1),bk:=W.nx})/\(∀Γ' S',Pv ds.length Γ' S'->W.nx Γ' S')):Fo Γ i is body W ds S1:=by unfold Fo;exact h
def Sm.forN(i:Nat)(is:List Nat)(it:Itb Ω)(body:Bl Ω):Sm Ω where
 lev:=max it.lev body.lev
 chk top N nm st:=match st with | .For t i' b [] _=>okE i'&&(Ju top N nm i is t&&(it.chk top N nm t i'&&body.chk top N nm b)) | _=>false
 wp Γ S W:=it.wp Γ S λ ds S1=>Fo Γ i is body W ds S1
 sound:=by
  intro X r top N nm st Γ S W A hl hc hw
  obtain⟨l1,l2⟩:=lv2 hl
  split at hc
  . rename_i t i' b pos
    obtain⟨h1,hc⟩:=aa hc
    obtain⟨h2,hc⟩:=aa hc
    obtain⟨h3,h4⟩:=aa hc
    refine Mu (ItW.mono (it.sound A l1 h3 hw) λ ds S1 q=>?_) (by rw[A.xe];exact PassesOwn.never) A.calm (je h1 _)
    unfold Fo at q
    obtain⟨Pv,p0,pt,pe⟩:=q
    refine⟨Pv,p0,λ j d Γ' S' hd hp=>?_,pe⟩
    obtain⟨a,es,ed,el,q⟩:=pt j d Γ' S' hd hp
    subst ed
    exact BdW.mono (QC A (W:=λ Γ2 S2=>body.wp Γ2 S2 {W with nx:=Pv (j+1),ct:=Pv (j+1),bk:=W.nx}) h2 el q) λ Γ2 S2 q=>body.sound A l2 h4 q
  . exact fE hc
end
end RF
namespace K17
open PySem L2 DL RF
variable {Ω : Wd} {f : Addr} {fd : FuncData}
def top(i:Nat):Stmt:=PySem.Challenge.pw_nestturn_k17_spans_of_steps.main.body.getD i (.Pass ⟨0,0,0,0⟩)
structure Bi(mg:Str->Option Value):Prop where
 MOST_STEPS_:∃t,mg "MOST_STEPS"=some (.int 60 t)
 abs_:mg "abs"=none
 all_:mg "all"=none
 bool_:mg "bool"=none
 enumerate_:mg "enumerate"=none
 int_:mg "int"=none
 isinstance_:mg "isinstance"=none
 len_:mg "len"=none
 list_:mg "list"=none
 max_:mg "max"=none
 min_:mg "min"=none
 range_:mg "range"=none
 set_:mg "set"=none
 sorted_:mg "sorted"=none
 sum_:mg "sum"=none
 tuple_:mg "tuple"=none
 zip_:mg "zip"=none
section
variable {Ω : Wd}
abbrev gZ:Stmt:=top 5
abbrev xT:List Str:=["thing"]
abbrev yh:List Str:=["thing"]
def wI(B:Bi Ω.mg):Bl Ω:=
 Bl.cons (Sm.ret (Ex.and (Bo.cons (Ex.isi B.isinstance_ (Ex.var 0) .int B.int_) (Bo.one (Ex.not (Ex.isi B.isinstance_ (Ex.var 0) .bool B.bool_)))))) Bl.nil
abbrev d7:Stmt:=top 6
abbrev qz:List Str:=["thing","least","most"]
abbrev qw:List Str:=["thing","least","most"]
def qi(B:Bi Ω.mg):Bl Ω:=
 Bl.cons (Sm.ret (Ex.and (Bo.cons (Ex.isi B.isinstance_ (Ex.var 0) .tuple B.tuple_) (Bo.one (Ex.ch2 (Ex.var 1) .LtE (Ex.blt b8 B.len_ (Ar.cons (Ex.var 0) Ar.nil)) .LtE (Ex.var 2)))))) Bl.nil
abbrev iT:Stmt:=top 7
abbrev Af:List Str:=["thing","d"]
abbrev zL:List Str:=["thing","d"]
def Ax(B:Bi Ω.mg){Fq34:Ct}(Cq34:Cal Ω "is_whole" 1 1 Fq34){Fq33:Ct}(Cq33:Cal Ω "is_tuple_of" 1 3 Fq33):Bl Ω:=
 Bl.cons (Sm.ret (Ex.and (Bo.cons (Ex.call Cq33 (Ar.cons (Ex.var 0) (Ar.cons (Ex.bin .Add (Ex.var 1) (Ex.int 1)) (Ar.cons (Ex.bin .Add (Ex.var 1) (Ex.int 1)) Ar.nil)))) (Bo.one (Ex.blt fP B.all_ (Ar.cons (Ex.comp ["number"] [none] (Ex.call Cq34 (Ar.cons (Ex.var 0) Ar.nil)) (Tg.nm 0) (Itb.seq (Ex.var 0)) Cd.no) Ar.nil)))))) Bl.nil
abbrev g8:Stmt:=top 8
abbrev wD:List Str:=["form","counts"]
abbrev xQ:List Str:=["form","counts"]
def wz(B:Bi Ω.mg):Bl Ω:=
 Bl.cons (Sm.ret (Ex.bin .Add (Ex.ix (Ex.var 0) (Ex.int 0)) (Ex.blt vP B.sum_ (Ar.cons (Ex.comp ["number","count"] [none,none] (Ex.bin .Mult (Ex.var 0) (Ex.var 1)) (Tg.tup [0,1]) (Itb.zip B.zip_ (Ex.sl (Ex.var 0) (Po.so (Ex.int 1)) Po.no) (Ex.var 1)) Cd.no) Ar.nil)))) Bl.nil
abbrev gJ:Stmt:=top 9
abbrev wg:List Str:=["thing","d"]
abbrev xg:List Str:=["thing","d"]
def qZ(B:Bi Ω.mg){Fq23:Ct}(Cq23:Cal Ω "is_form" 2 2 Fq23):Bl Ω:=
 Bl.cons (Sm.ret (Ex.and (Bo.cons (Ex.ch2 (Ex.neg (Ex.int 9)) .LtE (Ex.ix (Ex.var 0) (Ex.int 0)) .LtE (Ex.int 9)) (Bo.one (Ex.blt fP B.all_ (Ar.cons (Ex.comp ["number"] [none] (Ex.ch2 (Ex.neg (Ex.int 2)) .LtE (Ex.var 0) .LtE (Ex.int 2)) (Tg.nm 0) (Itb.seq (Ex.sl (Ex.var 0) (Po.so (Ex.int 1)) Po.no)) Cd.no) Ar.nil)))))) Bl.nil
def wH(B:Bi Ω.mg){Fq23:Ct}(Cq23:Cal Ω "is_form" 2 2 Fq23):Bl Ω:=
 Bl.cons (Sm.ite (Te.not (Te.val (Ex.call Cq23 (Ar.cons (Ex.var 0) (Ar.cons (Ex.var 1) Ar.nil))))) (Bl.cons (Sm.ret (Ex.bl false)) Bl.nil) Bl.nil) (qZ B Cq23)
abbrev iY:Stmt:=top 10
abbrev zu:List Str:=["thing","d"]
abbrev Ai:List Str:=["thing","d"]
def Ae{Fq33:Ct}(Cq33:Cal Ω "is_tuple_of" 1 3 Fq33){Fq21:Ct}(Cq21:Cal Ω "is_bound" 3 2 Fq21):Bl Ω:=
 Bl.cons (Sm.ret (Ex.and (Bo.cons (Ex.call Cq33 (Ar.cons (Ex.var 0) (Ar.cons (Ex.int 2) (Ar.cons (Ex.int 2) Ar.nil)))) (Bo.cons (Ex.call Cq21 (Ar.cons (Ex.ix (Ex.var 0) (Ex.int 0)) (Ar.cons (Ex.var 1) Ar.nil))) (Bo.one (Ex.call Cq21 (Ar.cons (Ex.ix (Ex.var 0) (Ex.int 1)) (Ar.cons (Ex.var 1) Ar.nil)))))))) Bl.nil
abbrev gO:Stmt:=top 11
abbrev yF:List Str:=["thing"]
abbrev vW:List Str:=["thing"]
def wV(B:Bi Ω.mg){Fq33:Ct}(Cq33:Cal Ω "is_tuple_of" 1 3 Fq33){Fq24:Ct}(Cq24:Cal Ω "is_loop" 4 2 Fq24):Bl Ω:=
 Bl.cons (Sm.ret (Ex.and (Bo.cons (Ex.call Cq33 (Ar.cons (Ex.var 0) (Ar.cons (Ex.int 1) (Ar.cons (Ex.int 3) Ar.nil)))) (Bo.one (Ex.blt fP B.all_ (Ar.cons (Ex.comp ["k","loop"] [none,none] (Ex.call Cq24 (Ar.cons (Ex.var 1) (Ar.cons (Ex.var 0) Ar.nil))) (Tg.tup [0,1]) (Itb.enm B.enumerate_ (Ex.var 0)) Cd.no) Ar.nil)))))) Bl.nil
abbrev cT:Stmt:=top 12
abbrev kO:List Str:=["ahead","low","high","longer","counts","count"]
abbrev kh:List Str:=["ahead","low","high"]
section
variable (B : Bi Ω.mg) {Fq17 : Ct} (Cq17 : Cal Ω "comes_to" 1 2 Fq17)
def jx(B:Bi Ω.mg){Fq17:Ct}(Cq17:Cal Ω "comes_to" 1 2 Fq17):Bl Ω:=
 Bl.cons (Sm.ret (Ex.var 3)) Bl.nil
def jj:Bl Ω:=
 Bl.cons (Sm.forL (Tg.nm 4) (Ex.var 0) (Bl.cons (Sm.for (Tg.nm 5) (Itb.rng2 B.range_ (Ex.call Cq17 (Ar.cons (Ex.var 1) (Ar.cons (Ex.var 4) Ar.nil))) (Ex.call Cq17 (Ar.cons (Ex.var 2) (Ar.cons (Ex.var 4) Ar.nil)))) (Bl.cons (Sm.expr (Ex.m_append (Ex.var 3) (Ex.bin .Add (Ex.var 4) (Ex.tup (Ar.cons (Ex.var 5) Ar.nil))))) Bl.nil)) Bl.nil)) (jx B Cq17)
def kZ:Bl Ω:=
 Bl.cons (Sm.set 3 (Ex.own Ar.nil)) (jj B Cq17)
end
abbrev fO:Stmt:=top 13
abbrev vh:List Str:=["loops","told","low","high"]
abbrev vB:List Str:=["loops"]
section
variable {Fq44 : Ct} (Cq44 : Cal Ω "with_next_count" 2 3 Fq44)
def qX{Fq44:Ct}(Cq44:Cal Ω "with_next_count" 2 3 Fq44):Bl Ω:=
 Bl.cons (Sm.ret (Ex.var 1)) Bl.nil
def qp:Bl Ω:=
 Bl.cons (Sm.forL (Tg.tup [2,3]) (Ex.var 0) (Bl.cons (Sm.set 1 (Ex.call Cq44 (Ar.cons (Ex.var 1) (Ar.cons (Ex.var 2) (Ar.cons (Ex.var 3) Ar.nil))))) Bl.nil)) (qX Cq44)
def vI:Bl Ω:=
 Bl.cons (Sm.set 1 (Ex.lst (Ar.cons (Ex.tup Ar.nil) Ar.nil))) (qp Cq44)
end
abbrev cQ:Stmt:=top 16
abbrev kY:List Str:=["number"]
abbrev kI:List Str:=["number"]
def kj(B:Bi Ω.mg):Bl Ω:=
 Bl.cons (Sm.ret (Ex.cmp .Lt (Ex.blt QV B.abs_ (Ar.cons (Ex.var 0) Ar.nil)) (Ex.bin .Pow (Ex.int 10) (Ex.int 30)))) Bl.nil
abbrev fQ:Stmt:=top 17
abbrev vG:List Str:=["thing"]
abbrev vp:List Str:=["thing"]
def vD(B:Bi Ω.mg){Fq34:Ct}(Cq34:Cal Ω "is_whole" 1 1 Fq34){Fq33:Ct}(Cq33:Cal Ω "is_tuple_of" 1 3 Fq33):Bl Ω:=
 Bl.cons (Sm.ret (Ex.and (Bo.cons (Ex.call Cq33 (Ar.cons (Ex.var 0) (Ar.cons (Ex.int 1) (Ar.cons (Ex.int 3) Ar.nil)))) (Bo.one (Ex.blt fP B.all_ (Ar.cons (Ex.comp ["width"] [none] (Ex.and (Bo.cons (Ex.call Cq34 (Ar.cons (Ex.var 0) Ar.nil)) (Bo.one (Ex.ch2 (Ex.int 1) .LtE (Ex.var 0) .LtE (Ex.int 2))))) (Tg.nm 0) (Itb.seq (Ex.var 0)) Cd.no) Ar.nil)))))) Bl.nil
abbrev dw:Stmt:=top 18
abbrev nJ:List Str:=["thing","d"]
abbrev nQ:List Str:=["thing","d"]
def nM(B:Bi Ω.mg){Fq23:Ct}(Cq23:Cal Ω "is_form" 2 2 Fq23):Bl Ω:=
 Bl.cons (Sm.ret (Ex.and (Bo.cons (Ex.call Cq23 (Ar.cons (Ex.var 0) (Ar.cons (Ex.var 1) Ar.nil))) (Bo.one (Ex.blt fP B.all_ (Ar.cons (Ex.comp ["number"] [none] (Ex.ch2 (Ex.neg (Ex.int 99)) .LtE (Ex.var 0) .LtE (Ex.int 99)) (Tg.nm 0) (Itb.seq (Ex.var 0)) Cd.no) Ar.nil)))))) Bl.nil
abbrev gn:Stmt:=top 19
abbrev vZ:List Str:=["thing","d"]
abbrev wY:List Str:=["thing","d"]
def yS(B:Bi Ω.mg){Fq23:Ct}(Cq23:Cal Ω "is_form" 2 2 Fq23){Fq20:Ct}(Cq20:Cal Ω "has_few_figures" 1 1 Fq20):Bl Ω:=
 Bl.cons (Sm.ret (Ex.and (Bo.cons (Ex.call Cq23 (Ar.cons (Ex.var 0) (Ar.cons (Ex.var 1) Ar.nil))) (Bo.one (Ex.blt fP B.all_ (Ar.cons (Ex.comp ["number"] [none] (Ex.call Cq20 (Ar.cons (Ex.var 0) Ar.nil)) (Tg.nm 0) (Itb.seq (Ex.var 0)) Cd.no) Ar.nil)))))) Bl.nil
abbrev cu:Stmt:=top 20
abbrev ig:List Str:=["table","place","widths","d"]
abbrev ik:List Str:=["table","place","widths","d"]
def fY(B:Bi Ω.mg){Fq34:Ct}(Cq34:Cal Ω "is_whole" 1 1 Fq34){Fq33:Ct}(Cq33:Cal Ω "is_tuple_of" 1 3 Fq33){Fq28:Ct}(Cq28:Cal Ω "is_place_form" 3 2 Fq28):Bl Ω:=
 Bl.cons (Sm.ret (Ex.and (Bo.cons (Ex.call Cq33 (Ar.cons (Ex.var 1) (Ar.cons (Ex.ix (Ex.var 2) (Ex.var 0)) (Ar.cons (Ex.ix (Ex.var 2) (Ex.var 0)) Ar.nil)))) (Bo.one (Ex.blt fP B.all_ (Ar.cons (Ex.comp ["form","d"] [none,some 3] (Ex.call Cq28 (Ar.cons (Ex.var 0) (Ar.cons (Ex.var 1) Ar.nil))) (Tg.nm 0) (Itb.seq (Ex.var 1)) Cd.no) Ar.nil)))))) Bl.nil
def ie(B:Bi Ω.mg){Fq34:Ct}(Cq34:Cal Ω "is_whole" 1 1 Fq34){Fq33:Ct}(Cq33:Cal Ω "is_tuple_of" 1 3 Fq33){Fq28:Ct}(Cq28:Cal Ω "is_place_form" 3 2 Fq28):Bl Ω:=
 Bl.cons (Sm.ite (Te.or (Bt.cons (Te.not (Te.val (Ex.call Cq34 (Ar.cons (Ex.var 0) Ar.nil)))) (Bt.one (Te.not (Te.ch2 (Ex.int 0) .LtE (Ex.var 0) .Lt (Ex.blt b8 B.len_ (Ar.cons (Ex.var 2) Ar.nil))))))) (Bl.cons (Sm.ret (Ex.bl false)) Bl.nil) Bl.nil) (fY B Cq34 Cq33 Cq28)
abbrev iZ:Stmt:=top 21
abbrev zM:List Str:=["thing","widths","d"]
abbrev z8:List Str:=["thing","widths","d"]
section
variable {Fq34 : Ct} (Cq34 : Cal Ω "is_whole" 1 1 Fq34) {Fq33 : Ct} (Cq33 : Cal Ω "is_tuple_of" 1 3 Fq33) {Fq20 : Ct} (Cq20 : Cal Ω "has_few_figures" 1 1 Fq20) {Fq32 : Ct} (Cq32 : Cal Ω "is_table_with_place" 4 4 Fq32)
def vK{Fq34:Ct}(Cq34:Cal Ω "is_whole" 1 1 Fq34){Fq33:Ct}(Cq33:Cal Ω "is_tuple_of" 1 3 Fq33){Fq20:Ct}(Cq20:Cal Ω "has_few_figures" 1 1 Fq20){Fq32:Ct}(Cq32:Cal Ω "is_table_with_place" 4 4 Fq32):Bl Ω:=
 Bl.cons (Sm.ret (Ex.call Cq32 (Ar.cons (Ex.ix (Ex.var 0) (Ex.int 1)) (Ar.cons (Ex.ix (Ex.var 0) (Ex.int 2)) (Ar.cons (Ex.var 1) (Ar.cons (Ex.var 2) Ar.nil)))))) Bl.nil
def vA:Bl Ω:=
 Bl.cons (Sm.ite (Te.or (Bt.cons (Te.not (Te.val (Ex.call Cq34 (Ar.cons (Ex.ix (Ex.var 0) (Ex.int 0)) Ar.nil)))) (Bt.one (Te.not (Te.val (Ex.call Cq20 (Ar.cons (Ex.ix (Ex.var 0) (Ex.int 0)) Ar.nil))))))) (Bl.cons (Sm.ret (Ex.bl false)) Bl.nil) Bl.nil) (vK Cq34 Cq33 Cq20 Cq32)
def zK:Bl Ω:=
 Bl.cons (Sm.ite (Te.not (Te.val (Ex.call Cq33 (Ar.cons (Ex.var 0) (Ar.cons (Ex.int 3) (Ar.cons (Ex.int 3) Ar.nil)))))) (Bl.cons (Sm.ret (Ex.bl false)) Bl.nil) Bl.nil) (vA Cq34 Cq33 Cq20 Cq32)
end
abbrev gK:Stmt:=top 22
abbrev v7:List Str:=["thing","widths","d"]
abbrev zj:List Str:=["thing","widths","d"]
def ym(B:Bi Ω.mg){Fq33:Ct}(Cq33:Cal Ω "is_tuple_of" 1 3 Fq33){Fq29:Ct}(Cq29:Cal Ω "is_read" 5 3 Fq29):Bl Ω:=
 Bl.cons (Sm.ret (Ex.and (Bo.cons (Ex.call Cq33 (Ar.cons (Ex.var 0) (Ar.cons (Ex.int 0) (Ar.cons (Ex.int 3) Ar.nil)))) (Bo.one (Ex.blt fP B.all_ (Ar.cons (Ex.comp ["read","widths","d"] [none,some 1,some 2] (Ex.call Cq29 (Ar.cons (Ex.var 0) (Ar.cons (Ex.var 1) (Ar.cons (Ex.var 2) Ar.nil)))) (Tg.nm 0) (Itb.seq (Ex.var 0)) Cd.no) Ar.nil)))))) Bl.nil
abbrev jb:Stmt:=top 23
abbrev zx:List Str:=["thing","widths","d"]
abbrev zJ:List Str:=["thing","widths","d"]
section
variable {Fq33 : Ct} (Cq33 : Cal Ω "is_tuple_of" 1 3 Fq33) {Fq31 : Ct} (Cq31 : Cal Ω "is_start" 3 2 Fq31) {Fq32 : Ct} (Cq32 : Cal Ω "is_table_with_place" 4 4 Fq32) {Fq30 : Ct} (Cq30 : Cal Ω "is_reads" 6 3 Fq30)
def uZ{Fq33:Ct}(Cq33:Cal Ω "is_tuple_of" 1 3 Fq33){Fq31:Ct}(Cq31:Cal Ω "is_start" 3 2 Fq31){Fq32:Ct}(Cq32:Cal Ω "is_table_with_place" 4 4 Fq32){Fq30:Ct}(Cq30:Cal Ω "is_reads" 6 3 Fq30):Bl Ω:=
 Bl.cons (Sm.ret (Ex.and (Bo.cons (Ex.call Cq31 (Ar.cons (Ex.ix (Ex.var 0) (Ex.int 2)) (Ar.cons (Ex.var 2) Ar.nil))) (Bo.one (Ex.call Cq30 (Ar.cons (Ex.ix (Ex.var 0) (Ex.int 3)) (Ar.cons (Ex.var 1) (Ar.cons (Ex.var 2) Ar.nil)))))))) Bl.nil
def uR:Bl Ω:=
 Bl.cons (Sm.ite (Te.not (Te.val (Ex.call Cq32 (Ar.cons (Ex.ix (Ex.var 0) (Ex.int 0)) (Ar.cons (Ex.ix (Ex.var 0) (Ex.int 1)) (Ar.cons (Ex.var 1) (Ar.cons (Ex.var 2) Ar.nil))))))) (Bl.cons (Sm.ret (Ex.bl false)) Bl.nil) Bl.nil) (uZ Cq33 Cq31 Cq32 Cq30)
def z6:Bl Ω:=
 Bl.cons (Sm.ite (Te.not (Te.val (Ex.call Cq33 (Ar.cons (Ex.var 0) (Ar.cons (Ex.int 4) (Ar.cons (Ex.int 4) Ar.nil)))))) (Bl.cons (Sm.ret (Ex.bl false)) Bl.nil) Bl.nil) (uR Cq33 Cq31 Cq32 Cq30)
end
abbrev iR:Stmt:=top 24
abbrev zE:List Str:=["thing","widths","d"]
abbrev Av:List Str:=["thing","widths"]
section
variable (B : Bi Ω.mg) {Fq33 : Ct} (Cq33 : Cal Ω "is_tuple_of" 1 3 Fq33) {Fq25 : Ct} (Cq25 : Cal Ω "is_loops" 5 1 Fq25) {Fq22 : Ct} (Cq22 : Cal Ω "is_deed" 7 3 Fq22)
def uU(B:Bi Ω.mg){Fq33:Ct}(Cq33:Cal Ω "is_tuple_of" 1 3 Fq33){Fq25:Ct}(Cq25:Cal Ω "is_loops" 5 1 Fq25){Fq22:Ct}(Cq22:Cal Ω "is_deed" 7 3 Fq22):Bl Ω:=
 Bl.cons (Sm.ret (Ex.and (Bo.cons (Ex.call Cq33 (Ar.cons (Ex.ix (Ex.var 0) (Ex.int 1)) (Ar.cons (Ex.int 1) (Ar.cons (Ex.int 4) Ar.nil)))) (Bo.one (Ex.blt fP B.all_ (Ar.cons (Ex.comp ["deed","widths","d"] [none,some 1,some 2] (Ex.call Cq22 (Ar.cons (Ex.var 0) (Ar.cons (Ex.var 1) (Ar.cons (Ex.var 2) Ar.nil)))) (Tg.nm 0) (Itb.seq (Ex.ix (Ex.var 0) (Ex.int 1))) Cd.no) Ar.nil)))))) Bl.nil
def vH:Bl Ω:=
 Bl.cons (Sm.set 2 (Ex.blt b8 B.len_ (Ar.cons (Ex.ix (Ex.var 0) (Ex.int 0)) Ar.nil))) (uU B Cq33 Cq25 Cq22)
def zr:Bl Ω:=
 Bl.cons (Sm.ite (Te.or (Bt.cons (Te.not (Te.val (Ex.call Cq33 (Ar.cons (Ex.var 0) (Ar.cons (Ex.int 2) (Ar.cons (Ex.int 2) Ar.nil)))))) (Bt.one (Te.not (Te.val (Ex.call Cq25 (Ar.cons (Ex.ix (Ex.var 0) (Ex.int 0)) Ar.nil))))))) (Bl.cons (Sm.ret (Ex.bl false)) Bl.nil) Bl.nil) (vH B Cq33 Cq25 Cq22)
end
abbrev gk:Stmt:=top 25
abbrev zq:List Str:=["thing","widths"]
abbrev wy:List Str:=["thing","widths"]
def wU(B:Bi Ω.mg){Fq33:Ct}(Cq33:Cal Ω "is_tuple_of" 1 3 Fq33){Fq26:Ct}(Cq26:Cal Ω "is_nest" 8 2 Fq26):Bl Ω:=
 Bl.cons (Sm.ret (Ex.and (Bo.cons (Ex.call Cq33 (Ar.cons (Ex.var 0) (Ar.cons (Ex.int 1) (Ar.cons (Ex.int 3) Ar.nil)))) (Bo.one (Ex.blt fP B.all_ (Ar.cons (Ex.comp ["nest","widths"] [none,some 1] (Ex.call Cq26 (Ar.cons (Ex.var 0) (Ar.cons (Ex.var 1) Ar.nil))) (Tg.nm 0) (Itb.seq (Ex.var 0)) Cd.no) Ar.nil)))))) Bl.nil
abbrev cR:Stmt:=top 26
abbrev kJ:List Str:=["nests"]
abbrev lg:List Str:=["nests"]
def lr(B:Bi Ω.mg){Fq18:Ct}(Cq18:Cal Ω "counts_of" 3 1 Fq18):Bl Ω:=
 Bl.cons (Sm.ret (Ex.blt vP B.sum_ (Ar.cons (Ex.comp ["loops","deeds"] [none,none] (Ex.bin .Mult (Ex.blt b8 B.len_ (Ar.cons (Ex.call Cq18 (Ar.cons (Ex.var 0) Ar.nil)) Ar.nil)) (Ex.blt b8 B.len_ (Ar.cons (Ex.var 1) Ar.nil))) (Tg.tup [0,1]) (Itb.seq (Ex.var 0)) Cd.no) Ar.nil))) Bl.nil
abbrev fu:Stmt:=top 27
abbrev rK:List Str:=["widths","nests"]
abbrev su:List Str:=["widths","nests"]
section
variable (B : Bi Ω.mg) {Fq35 : Ct} (Cq35 : Cal Ω "is_widths" 2 1 Fq35) {Fq27 : Ct} (Cq27 : Cal Ω "is_nests" 9 2 Fq27) {Fq36 : Ct} (Cq36 : Cal Ω "number_of_steps" 4 1 Fq36)
def pX(B:Bi Ω.mg){Fq35:Ct}(Cq35:Cal Ω "is_widths" 2 1 Fq35){Fq27:Ct}(Cq27:Cal Ω "is_nests" 9 2 Fq27){Fq36:Ct}(Cq36:Cal Ω "number_of_steps" 4 1 Fq36):Bl Ω:=
 Bl.cons (Sm.ret (Ex.tup (Ar.cons (Ex.var 0) (Ar.cons (Ex.var 1) Ar.nil)))) Bl.nil
def oO:Bl Ω:=
 Bl.cons (Sm.ite (Te.cmp .Gt (Ex.call Cq36 (Ar.cons (Ex.var 1) Ar.nil)) (Ex.gint B.MOST_STEPS_)) (Bl.cons Sm.never Bl.nil) Bl.nil) (pX B Cq35 Cq27 Cq36)
def pY:Bl Ω:=
 Bl.cons (Sm.ite (Te.not (Te.val (Ex.call Cq27 (Ar.cons (Ex.var 1) (Ar.cons (Ex.var 0) Ar.nil))))) (Bl.cons Sm.never Bl.nil) Bl.nil) (oO B Cq35 Cq27 Cq36)
def sU:Bl Ω:=
 Bl.cons (Sm.ite (Te.not (Te.val (Ex.call Cq35 (Ar.cons (Ex.var 0) Ar.nil)))) (Bl.cons Sm.never Bl.nil) Bl.nil) (pY B Cq35 Cq27 Cq36)
end
abbrev gq:Stmt:=top 28
abbrev wN:List Str:=["program","steps","nest","loops_and_deeds","counts","deed"]
abbrev xj:List Str:=["program"]
section
variable (B : Bi Ω.mg) {Fq18 : Ct} (Cq18 : Cal Ω "counts_of" 3 1 Fq18)
def tB(B:Bi Ω.mg){Fq18:Ct}(Cq18:Cal Ω "counts_of" 3 1 Fq18):Bl Ω:=
 Bl.cons (Sm.ret (Ex.var 1)) Bl.nil
def rA:Bl Ω:=
 Bl.cons (Sm.for (Tg.tup [2,3]) (Itb.enm B.enumerate_ (Ex.ix (Ex.var 0) (Ex.int 1))) (Bl.cons (Sm.forL (Tg.nm 4) (Ex.call Cq18 (Ar.cons (Ex.ix (Ex.var 3) (Ex.int 0)) Ar.nil)) (Bl.cons (Sm.for (Tg.nm 5) (Itb.rng1 B.range_ (Ex.blt b8 B.len_ (Ar.cons (Ex.ix (Ex.var 3) (Ex.int 1)) Ar.nil))) (Bl.cons (Sm.expr (Ex.m_append (Ex.var 1) (Ex.tup (Ar.cons (Ex.var 2) (Ar.cons (Ex.var 4) (Ar.cons (Ex.var 5) Ar.nil)))))) Bl.nil)) Bl.nil)) Bl.nil)) (tB B Cq18)
def yc:Bl Ω:=
 Bl.cons (Sm.set 1 (Ex.own Ar.nil)) (rA B Cq18)
end
abbrev iM:Stmt:=top 29
abbrev Al:List Str:=["program","step"]
abbrev zV:List Str:=["program","step"]
def Ab:Bl Ω:=
 Bl.cons (Sm.ret (Ex.ix (Ex.ix (Ex.ix (Ex.ix (Ex.var 0) (Ex.int 1)) (Ex.ix (Ex.var 1) (Ex.int 0))) (Ex.int 1)) (Ex.ix (Ex.var 1) (Ex.int 2)))) Bl.nil
abbrev jc:Stmt:=top 30
abbrev zW:List Str:=["table","place","counts"]
abbrev zF:List Str:=["table","place","counts"]
def zN(B:Bi Ω.mg){Fq17:Ct}(Cq17:Cal Ω "comes_to" 1 2 Fq17):Bl Ω:=
 Bl.cons (Sm.ret (Ex.tup (Ar.cons (Ex.var 0) (Ar.cons (Ex.typ bA B.tuple_ (Ar.cons (Ex.comp ["form","counts"] [none,some 2] (Ex.call Cq17 (Ar.cons (Ex.var 0) (Ar.cons (Ex.var 1) Ar.nil))) (Tg.nm 0) (Itb.seq (Ex.var 1)) Cd.no) Ar.nil)) Ar.nil)))) Bl.nil
abbrev dq:Stmt:=top 31
abbrev nO:List Str:=["program","step","counts","deed","reads"]
abbrev nH:List Str:=["program","step"]
section
variable {Fq19 : Ct} (Cq19 : Cal Ω "deed_of" 1 2 Fq19) {Fq14 : Ct} (Cq14 : Cal Ω "cell_at" 2 3 Fq14)
def km{Fq19:Ct}(Cq19:Cal Ω "deed_of" 1 2 Fq19){Fq14:Ct}(Cq14:Cal Ω "cell_at" 2 3 Fq14):Bl Ω:=
 Bl.cons (Sm.ret (Ex.tup (Ar.cons (Ex.call Cq14 (Ar.cons (Ex.ix (Ex.var 3) (Ex.int 0)) (Ar.cons (Ex.ix (Ex.var 3) (Ex.int 1)) (Ar.cons (Ex.var 2) Ar.nil)))) (Ar.cons (Ex.var 4) Ar.nil)))) Bl.nil
def kE:Bl Ω:=
 Bl.cons (Sm.setC 4 ["factor","table","place","counts"] [none,none,none,some 2] (Ex.call Cq14 (Ar.cons (Ex.var 1) (Ar.cons (Ex.var 2) (Ar.cons (Ex.var 3) Ar.nil)))) (Tg.tup [0,1,2]) (Itb.seq (Ex.ix (Ex.var 3) (Ex.int 3))) Cd.no) (km Cq19 Cq14)
def lq:Bl Ω:=
 Bl.cons (Sm.set 3 (Ex.call Cq19 (Ar.cons (Ex.var 0) (Ar.cons (Ex.var 1) Ar.nil)))) (kE Cq19 Cq14)
def nU:Bl Ω:=
 Bl.cons (Sm.set 2 (Ex.ix (Ex.var 1) (Ex.int 1))) (lq Cq19 Cq14)
end
abbrev gB:Stmt:=top 32
abbrev zm:List Str:=["program"]
abbrev wA:List Str:=["program"]
def v6{Fq42:Ct}(Cq42:Cal Ω "steps_of" 4 1 Fq42){Fq16:Ct}(Cq16:Cal Ω "cells_of_step" 3 2 Fq16):Bl Ω:=
 Bl.cons (Sm.ret (Ex.comp ["step","program"] [none,some 0] (Ex.call Cq16 (Ar.cons (Ex.var 1) (Ar.cons (Ex.var 0) Ar.nil))) (Tg.nm 0) (Itb.seq (Ex.call Cq42 (Ar.cons (Ex.var 0) Ar.nil))) Cd.no)) Bl.nil
abbrev dm:Stmt:=top 34
abbrev nP:List Str:=["one","other","told"]
abbrev nG:List Str:=["one","other"]
section
variable (B : Bi Ω.mg)
def eF(B:Bi Ω.mg):Bl Ω:=
 Bl.cons (Sm.ret (Ex.sset B.sorted_ B.set_ (Ex.var 2))) Bl.nil
def eG:Bl Ω:=
 Bl.cons (Sm.ite (Te.cmp .In (Ex.ix (Ex.var 1) (Ex.int 0)) (Ex.ix (Ex.var 0) (Ex.int 1))) (Bl.cons (Sm.expr (Ex.m_append (Ex.var 2) (Ex.ix (Ex.var 1) (Ex.int 0)))) Bl.nil) Bl.nil) (eF B)
def kW:Bl Ω:=
 Bl.cons (Sm.ite (Te.or (Bt.cons (Te.cmp .Eq (Ex.ix (Ex.var 0) (Ex.int 0)) (Ex.ix (Ex.var 1) (Ex.int 0))) (Bt.one (Te.cmp .In (Ex.ix (Ex.var 0) (Ex.int 0)) (Ex.ix (Ex.var 1) (Ex.int 1)))))) (Bl.cons (Sm.expr (Ex.m_append (Ex.var 2) (Ex.ix (Ex.var 0) (Ex.int 0)))) Bl.nil) Bl.nil) (eG B)
def nT:Bl Ω:=
 Bl.cons (Sm.set 2 (Ex.own Ar.nil)) (kW B)
end
abbrev lW:Stmt:=top 35
abbrev Ip:List Str:=["program","cells","told","i","j","touched"]
abbrev HY:List Str:=["program"]
section
variable (B : Bi Ω.mg) {Fq15 : Ct} (Cq15 : Cal Ω "cells_of" 5 1 Fq15) {Fq43 : Ct} (Cq43 : Cal Ω "touched_cells" 1 2 Fq43)
def tR(B:Bi Ω.mg){Fq15:Ct}(Cq15:Cal Ω "cells_of" 5 1 Fq15){Fq43:Ct}(Cq43:Cal Ω "touched_cells" 1 2 Fq43):Bl Ω:=
 Bl.cons (Sm.ite (Te.lval (Ex.var 5)) (Bl.cons (Sm.expr (Ex.m_append (Ex.var 2) (Ex.tup (Ar.cons (Ex.var 3) (Ar.cons (Ex.var 4) (Ar.cons (Ex.var 5) Ar.nil)))))) Bl.nil) Bl.nil) Bl.nil
def xU:Bl Ω:=
 Bl.cons (Sm.set 5 (Ex.call Cq43 (Ar.cons (Ex.ix (Ex.var 1) (Ex.var 3)) (Ar.cons (Ex.ix (Ex.var 1) (Ex.var 4)) Ar.nil)))) (tR B Cq15 Cq43)
def Ad(B:Bi Ω.mg){Fq15:Ct}(Cq15:Cal Ω "cells_of" 5 1 Fq15){Fq43:Ct}(Cq43:Cal Ω "touched_cells" 1 2 Fq43):Bl Ω:=
 Bl.cons (Sm.ret (Ex.var 2)) Bl.nil
def Aq:Bl Ω:=
 Bl.cons (Sm.for (Tg.nm 3) (Itb.rng1 B.range_ (Ex.blt b8 B.len_ (Ar.cons (Ex.var 1) Ar.nil))) (Bl.cons (Sm.for (Tg.nm 4) (Itb.rng2 B.range_ (Ex.bin .Add (Ex.var 3) (Ex.int 1)) (Ex.blt b8 B.len_ (Ar.cons (Ex.var 1) Ar.nil))) (xU B Cq15 Cq43)) Bl.nil)) (Ad B Cq15 Cq43)
def Az:Bl Ω:=
 Bl.cons (Sm.set 2 (Ex.own Ar.nil)) (Aq B Cq15 Cq43)
def Jr:Bl Ω:=
 Bl.cons (Sm.set 1 (Ex.call Cq15 (Ar.cons (Ex.var 0) Ar.nil))) (Az B Cq15 Cq43)
end
abbrev dJ:Stmt:=top 36
abbrev oM:List Str:=["one","other"]
abbrev oR:List Str:=["one","other"]
def mX(B:Bi Ω.mg):Bl Ω:=
 Bl.cons (Sm.ret (Ex.typ bA B.tuple_ (Ar.cons (Ex.comp ["earlier","later"] [none,none] (Ex.bin .Sub (Ex.var 1) (Ex.var 0)) (Tg.tup [0,1]) (Itb.zip B.zip_ (Ex.ix (Ex.var 0) (Ex.int 1)) (Ex.ix (Ex.var 1) (Ex.int 1))) Cd.no) Ar.nil))) Bl.nil
def ph(B:Bi Ω.mg):Bl Ω:=
 Bl.cons (Sm.ite (Te.cmp .NotEq (Ex.ix (Ex.var 0) (Ex.int 0)) (Ex.ix (Ex.var 1) (Ex.int 0))) (Bl.cons (Sm.ret Ex.non) Bl.nil) Bl.nil) (mX B)
abbrev pI:Stmt:=top 37
abbrev KN:List Str:=["program","i","j","steps"]
abbrev KJ:List Str:=["program","i","j"]
def El{Fq42:Ct}(Cq42:Cal Ω "steps_of" 4 1 Fq42){Fq40:Ct}(Cq40:Cal Ω "span_between" 1 2 Fq40):Bl Ω:=
 Bl.cons (Sm.ret (Ex.call Cq40 (Ar.cons (Ex.ix (Ex.var 3) (Ex.var 1)) (Ar.cons (Ex.ix (Ex.var 3) (Ex.var 2)) Ar.nil)))) Bl.nil
def JM{Fq42:Ct}(Cq42:Cal Ω "steps_of" 4 1 Fq42){Fq40:Ct}(Cq40:Cal Ω "span_between" 1 2 Fq40):Bl Ω:=
 Bl.cons (Sm.set 3 (Ex.call Cq42 (Ar.cons (Ex.var 0) Ar.nil))) (El Cq42 Cq40)
abbrev lE:Stmt:=top 38
abbrev Hz:List Str:=["program","steps","between"]
abbrev G4:List Str:=["program"]
section
variable (B : Bi Ω.mg) {Fq42 : Ct} (Cq42 : Cal Ω "steps_of" 4 1 Fq42) {Fq37 : Ct} (Cq37 : Cal Ω "pairs" 6 1 Fq37) {Fq40 : Ct} (Cq40 : Cal Ω "span_between" 1 2 Fq40)
def zU(B:Bi Ω.mg){Fq42:Ct}(Cq42:Cal Ω "steps_of" 4 1 Fq42){Fq37:Ct}(Cq37:Cal Ω "pairs" 6 1 Fq37){Fq40:Ct}(Cq40:Cal Ω "span_between" 1 2 Fq40):Bl Ω:=
 Bl.cons (Sm.ret (Ex.ssetT B.sorted_ B.set_ (Ex.comp ["told"] [none] (Ex.var 0) (Tg.nm 0) (Itb.seq (Ex.var 2)) (Cd.so (Te.cmp .IsNot (Ex.var 0) Ex.non))))) Bl.nil
def Ag:Bl Ω:=
 Bl.cons (Sm.setC 2 ["i","j","cells","steps"] [none,none,none,some 1] (Ex.call Cq40 (Ar.cons (Ex.ix (Ex.var 3) (Ex.var 0)) (Ar.cons (Ex.ix (Ex.var 3) (Ex.var 1)) Ar.nil))) (Tg.tup [0,1,2]) (Itb.seq (Ex.call Cq37 (Ar.cons (Ex.var 0) Ar.nil))) Cd.no) (zU B Cq42 Cq37 Cq40)
def Jg:Bl Ω:=
 Bl.cons (Sm.set 1 (Ex.call Cq42 (Ar.cons (Ex.var 0) Ar.nil))) (Ag B Cq42 Cq37 Cq40)
end
abbrev pK:Stmt:=top 40
abbrev Kv:List Str:=["_law_script","_law_k","_law_cell_here"]
abbrev Lz:List Str:=["_law_script","_law_k"]
section
variable (B : Bi Ω.mg)
def DP(B:Bi Ω.mg):Bl Ω:=
 Bl.cons (Sm.ret (Ex.bin .Mod (Ex.bin .Mult (Ex.var 2) (Ex.bin .Add (Ex.bin .Add (Ex.bin .Mod (Ex.var 2) (Ex.int 65519)) (Ex.var 1)) (Ex.int 2))) (Ex.int 2147483629))) Bl.nil
def qN:Bl Ω:=
 Bl.cons (Sm.set 2 (Ex.bin .Mod (Ex.bin .Mult (Ex.bin .Add (Ex.bin .Add (Ex.bin .Mod (Ex.var 2) (Ex.int 2147483629)) (Ex.bin .Mult (Ex.int 6151) (Ex.var 1))) (Ex.int 1)) (Ex.int 48271)) (Ex.int 2147483647))) (DP B)
def qO:Bl Ω:=
 Bl.cons (Sm.ite (Te.and (Bt.cons (Te.cmp .Lt (Ex.var 1) (Ex.blt b8 B.len_ (Ar.cons (Ex.var 0) Ar.nil))) (Bt.one (Te.cmp .Eq (Ex.bin .Mod (Ex.ix (Ex.var 0) (Ex.int 0)) (Ex.int 2)) (Ex.int 0))))) (Bl.cons (Sm.ret (Ex.blt QV B.abs_ (Ar.cons (Ex.var 2) Ar.nil))) Bl.nil) Bl.nil) (qN B)
def DR:Bl Ω:=
 Bl.cons (Sm.ite (Te.cmp .Gt (Ex.blt b8 B.len_ (Ar.cons (Ex.var 0) Ar.nil)) (Ex.int 0)) (Bl.cons (Sm.set 2 (Ex.ix (Ex.var 0) (Ex.bin .Mod (Ex.var 1) (Ex.blt b8 B.len_ (Ar.cons (Ex.var 0) Ar.nil))))) Bl.nil) Bl.nil) (qO B)
def JG:Bl Ω:=
 Bl.cons (Sm.set 2 (Ex.int 7)) (DR B)
end
abbrev tO:Stmt:=top 41
abbrev PQ:List Str:=["_law_script","_law_k"]
abbrev Ni:List Str:=["_law_script","_law_k"]
def Nx{Fq1:Ct}(Cq1:Cal Ω "_law_cell" 1 2 Fq1):Bl Ω:=
 Bl.cons (Sm.ret (Ex.own (Ar.cons (Ex.call Cq1 (Ar.cons (Ex.var 0) (Ar.cons (Ex.var 1) Ar.nil))) (Ar.cons (Ex.var 1) (Ar.cons (Ex.var 0) Ar.nil))))) Bl.nil
abbrev oW:Stmt:=top 42
abbrev J1:List Str:=["_law_pen_here","_law_many","_law_digit"]
abbrev Lg:List Str:=["_law_pen_here","_law_many"]
section
variable {Fq1 : Ct} (Cq1 : Cal Ω "_law_cell" 1 2 Fq1)
def uX{Fq1:Ct}(Cq1:Cal Ω "_law_cell" 1 2 Fq1):Bl Ω:=
 Bl.cons (Sm.setIx (Ex.var 0) (Ex.int 0) (Ex.call Cq1 (Ar.cons (Ex.ix (Ex.var 0) (Ex.int 2)) (Ar.cons (Ex.ix (Ex.var 0) (Ex.int 1)) Ar.nil)))) Bl.nil
def zB:Bl Ω:=
 Bl.cons (Sm.setIx (Ex.var 0) (Ex.int 1) (Ex.bin .Add (Ex.ix (Ex.var 0) (Ex.int 1)) (Ex.int 1))) (uX Cq1)
def Fy{Fq1:Ct}(Cq1:Cal Ω "_law_cell" 1 2 Fq1):Bl Ω:=
 Bl.cons (Sm.ret (Ex.var 2)) Bl.nil
def Ei:Bl Ω:=
 Bl.cons (Sm.ite (Te.cmp .Eq (Ex.ix (Ex.var 0) (Ex.int 0)) (Ex.int 0)) (zB Cq1) Bl.nil) (Fy Cq1)
def Dz:Bl Ω:=
 Bl.cons (Sm.setIx (Ex.var 0) (Ex.int 0) (Ex.fdiv (Ex.ix (Ex.var 0) (Ex.int 0)) (Ex.var 1))) (Ei Cq1)
def Lb:Bl Ω:=
 Bl.cons (Sm.set 2 (Ex.bin .Mod (Ex.ix (Ex.var 0) (Ex.int 0)) (Ex.var 1))) (Dz Cq1)
end
abbrev oX:Stmt:=top 43
abbrev JS:List Str:=["_law_pen_here","_law_many","_law_wide","_law_found","_law_k"]
abbrev K4:List Str:=["_law_pen_here","_law_many","_law_wide"]
section
variable (B : Bi Ω.mg) {Fq12 : Ct} (Cq12 : Cal Ω "_law_take" 2 2 Fq12)
def Fg(B:Bi Ω.mg){Fq12:Ct}(Cq12:Cal Ω "_law_take" 2 2 Fq12):Bl Ω:=
 Bl.cons (Sm.ret (Ex.typ bA B.tuple_ (Ar.cons (Ex.var 3) Ar.nil))) Bl.nil
def FJ:Bl Ω:=
 Bl.cons (Sm.for (Tg.nm 4) (Itb.rng1 B.range_ (Ex.var 1)) (Bl.cons (Sm.expr (Ex.m_append (Ex.var 3) (Ex.ix (Ex.lst (Ar.cons (Ex.int 0) (Ar.cons (Ex.int 1) (Ar.cons (Ex.int 1) (Ar.cons (Ex.int 0) (Ar.cons (Ex.neg (Ex.int 1)) (Ar.cons (Ex.int 2) (Ar.cons (Ex.int 0) (Ar.cons (Ex.int 1) Ar.nil))))))))) (Ex.call Cq12 (Ar.cons (Ex.var 0) (Ar.cons (Ex.int 8) Ar.nil)))))) Bl.nil)) (Fg B Cq12)
def qQ:Bl Ω:=
 Bl.cons (Sm.set 3 (Ex.own (Ar.cons (Ex.bin .Sub (Ex.call Cq12 (Ar.cons (Ex.var 0) (Ar.cons (Ex.bin .Add (Ex.bin .Mult (Ex.int 2) (Ex.var 2)) (Ex.int 1)) Ar.nil))) (Ex.var 2)) Ar.nil))) (FJ B Cq12)
def Kh:Bl Ω:=
 Bl.cons (Sm.ite (Te.and (Bt.cons (Te.cmp .Eq (Ex.var 2) (Ex.int 1)) (Bt.one (Te.cmp .Eq (Ex.call Cq12 (Ar.cons (Ex.var 0) (Ar.cons (Ex.int 16) Ar.nil))) (Ex.int 9))))) (Bl.cons (Sm.ret (Ex.typ bA B.tuple_ (Ar.cons (Ex.comp ["_law_k","_law_pen_here"] [none,some 0] (Ex.bin .Sub (Ex.call Cq12 (Ar.cons (Ex.var 1) (Ar.cons (Ex.int 199) Ar.nil))) (Ex.int 99)) (Tg.nm 0) (Itb.rng1 B.range_ (Ex.bin .Add (Ex.var 1) (Ex.int 1))) Cd.no) Ar.nil))) Bl.nil) Bl.nil) (qQ B Cq12)
end
abbrev lA:Stmt:=top 44
abbrev Gy:List Str:=["_law_pen_here","_law_most","_law_loops_here","_law_room","_law_before","_law_k","_law_size","_law_low","_law_way","_law_none","_law_ahead","_law_stairs"]
abbrev Gx:List Str:=["_law_pen_here","_law_most"]
section
variable (B : Bi Ω.mg) {Fq12 : Ct} (Cq12 : Cal Ω "_law_take" 2 2 Fq12)
def rF(B:Bi Ω.mg){Fq12:Ct}(Cq12:Cal Ω "_law_take" 2 2 Fq12):Bl Ω:=
 Bl.cons (Sm.set 4 Ex.non) Bl.nil
def rO:Bl Ω:=
 Bl.cons (Sm.set 6 (Ex.ix (Ex.var 4) (Ex.int 1))) (rF B Cq12)
def sJ:Bl Ω:=
 Bl.cons (Sm.expr (Ex.m_append (Ex.var 2) (Ex.ix (Ex.var 11) (Ex.var 8)))) (rO B Cq12)
def tH:Bl Ω:=
 Bl.cons (Sm.expr (Ex.m_append (Ex.var 11) (Ex.tup (Ar.cons (Ex.typ bA B.tuple_ (Ar.cons (Ex.binL false .Add (Ex.lst (Ar.cons (Ex.int 0) Ar.nil)) (Ex.var 10)) Ar.nil)) (Ar.cons (Ex.typ bA B.tuple_ (Ar.cons (Ex.binL false .Add (Ex.lst (Ar.cons (Ex.blt vP B.sum_ (Ar.cons (Ex.var 4) Ar.nil)) Ar.nil)) (Ex.var 9)) Ar.nil)) Ar.nil))))) (sJ B Cq12)
def tX:Bl Ω:=
 Bl.cons (Sm.set 11 (Ex.own (Ar.cons (Ex.tup (Ar.cons (Ex.typ bA B.tuple_ (Ar.cons (Ex.binL false .Add (Ex.lst (Ar.cons (Ex.ix (Ex.var 4) (Ex.int 0)) Ar.nil)) (Ex.var 9)) Ar.nil)) (Ar.cons (Ex.typ bA B.tuple_ (Ar.cons (Ex.binL false .Add (Ex.lst (Ar.cons (Ex.int 1) Ar.nil)) (Ex.var 10)) Ar.nil)) Ar.nil))) Ar.nil))) (tH B Cq12)
def lC:Bl Ω:=
 Bl.cons (Sm.set 10 (Ex.binL true .Add (Ex.binL false .Mult (Ex.lst (Ar.cons (Ex.int 0) Ar.nil)) (Ex.bin .Sub (Ex.var 5) (Ex.int 1))) (Ex.lst (Ar.cons (Ex.int 1) Ar.nil)))) (tX B Cq12)
def sY(B:Bi Ω.mg){Fq12:Ct}(Cq12:Cal Ω "_law_take" 2 2 Fq12):Bl Ω:=
 Bl.cons (Sm.set 4 Ex.non) Bl.nil
def tV:Bl Ω:=
 Bl.cons (Sm.expr (Ex.m_append (Ex.var 2) (Ex.tup (Ar.cons (Ex.typ bA B.tuple_ (Ar.cons (Ex.binL false .Add (Ex.lst (Ar.cons (Ex.var 7) Ar.nil)) (Ex.var 10)) Ar.nil)) (Ar.cons (Ex.typ bA B.tuple_ (Ar.cons (Ex.binL false .Add (Ex.lst (Ar.cons (Ex.bin .Add (Ex.var 7) (Ex.var 6)) Ar.nil)) (Ex.var 10)) Ar.nil)) Ar.nil))))) (sY B Cq12)
def rR:Bl Ω:=
 Bl.cons (Sm.setIx (Ex.var 10) (Ex.call Cq12 (Ar.cons (Ex.var 0) (Ar.cons (Ex.var 5) Ar.nil))) (Ex.ix (Ex.lst (Ar.cons (Ex.int 1) (Ar.cons (Ex.neg (Ex.int 1)) (Ar.cons (Ex.int 2) (Ar.cons (Ex.neg (Ex.int 2)) Ar.nil))))) (Ex.call Cq12 (Ar.cons (Ex.var 0) (Ar.cons (Ex.int 4) Ar.nil))))) (tV B Cq12)
def gm:Bl Ω:=
 Bl.cons (Sm.set 10 (Ex.binL true .Mult (Ex.lst (Ar.cons (Ex.int 0) Ar.nil)) (Ex.var 5))) (rR B Cq12)
def rH(B:Bi Ω.mg){Fq12:Ct}(Cq12:Cal Ω "_law_take" 2 2 Fq12):Bl Ω:=
 Bl.cons (Sm.set 4 (Ex.tup (Ar.cons (Ex.var 7) (Ar.cons (Ex.var 6) Ar.nil)))) Bl.nil
def gV:Bl Ω:=
 Bl.cons (Sm.expr (Ex.m_append (Ex.var 2) (Ex.tup (Ar.cons (Ex.typ bA B.tuple_ (Ar.cons (Ex.binL false .Add (Ex.lst (Ar.cons (Ex.var 7) Ar.nil)) (Ex.var 9)) Ar.nil)) (Ar.cons (Ex.typ bA B.tuple_ (Ar.cons (Ex.binL false .Add (Ex.lst (Ar.cons (Ex.bin .Add (Ex.var 7) (Ex.bin .Mult (Ex.var 6) (Ex.typ Vf B.int_ (Ar.cons (Ex.or (Bo.cons (Ex.cmp .Lt (Ex.var 8) (Ex.int 7)) (Bo.one (Ex.cmp .Lt (Ex.var 7) (Ex.int 3))))) Ar.nil)))) Ar.nil)) (Ex.var 9)) Ar.nil)) Ar.nil))))) (rH B Cq12)
def b7(B:Bi Ω.mg){Fq12:Ct}(Cq12:Cal Ω "_law_take" 2 2 Fq12):Bl Ω:=
 Bl.cons (Sm.set 3 (Ex.fdiv (Ex.var 3) (Ex.var 6))) Bl.nil
def tM:Bl Ω:=
 Bl.cons (Sm.ite (Te.and (Bt.cons (Te.cmp .Lt (Ex.var 8) (Ex.int 2)) (Bt.cons (Te.cmp .IsNot (Ex.var 4) Ex.non) (Bt.one (Te.cmp .LtE (Ex.ix (Ex.var 4) (Ex.int 1)) (Ex.var 3)))))) (lC B Cq12) (Bl.cons (Sm.ite (Te.and (Bt.cons (Te.cmp .Lt (Ex.var 8) (Ex.int 4)) (Bt.one (Te.cmp .Gt (Ex.var 5) (Ex.int 0))))) (gm B Cq12) (gV B Cq12)) Bl.nil)) (b7 B Cq12)
def rT:Bl Ω:=
 Bl.cons (Sm.set 9 (Ex.binL false .Mult (Ex.lst (Ar.cons (Ex.int 0) Ar.nil)) (Ex.var 5))) (tM B Cq12)
def tK:Bl Ω:=
 Bl.cons (Sm.set 8 (Ex.call Cq12 (Ar.cons (Ex.var 0) (Ar.cons (Ex.int 8) Ar.nil)))) (rT B Cq12)
def rQ:Bl Ω:=
 Bl.cons (Sm.set 7 (Ex.bin .Sub (Ex.call Cq12 (Ar.cons (Ex.var 0) (Ar.cons (Ex.int 7) Ar.nil))) (Ex.int 3))) (tK B Cq12)
def lZ:Bl Ω:=
 Bl.cons (Sm.set 6 (Ex.bin .Add (Ex.int 1) (Ex.call Cq12 (Ar.cons (Ex.var 0) (Ar.cons (Ex.blt Rm B.min_ (Ar.cons (Ex.int 4) (Ar.cons (Ex.var 3) Ar.nil))) Ar.nil))))) (rQ B Cq12)
def zA(B:Bi Ω.mg){Fq12:Ct}(Cq12:Cal Ω "_law_take" 2 2 Fq12):Bl Ω:=
 Bl.cons (Sm.ret (Ex.typ bA B.tuple_ (Ar.cons (Ex.var 2) Ar.nil))) Bl.nil
def zy:Bl Ω:=
 Bl.cons (Sm.for (Tg.nm 5) (Itb.rng1 B.range_ (Ex.bin .Add (Ex.int 1) (Ex.call Cq12 (Ar.cons (Ex.var 0) (Ar.cons (Ex.int 3) Ar.nil))))) (Bl.fza (lZ B Cq12))) (zA B Cq12)
def Ao:Bl Ω:=
 Bl.cons (Sm.set 4 Ex.non) (zy B Cq12)
def z7:Bl Ω:=
 Bl.cons (Sm.set 3 (Ex.var 1)) (Ao B Cq12)
def Jj:Bl Ω:=
 Bl.cons (Sm.set 2 (Ex.own Ar.nil)) (z7 B Cq12)
end
abbrev pP:Stmt:=top 45
abbrev JB:List Str:=["_law_pen_here","_law_widths","_law_many","_law_table","_law_place","_law_start","_law_parts","_law_k","_law_other","_law_way","_law_factor"]
abbrev Mf:List Str:=["_law_pen_here","_law_widths","_law_many"]
section
variable (B : Bi Ω.mg) {Fq12 : Ct} (Cq12 : Cal Ω "_law_take" 2 2 Fq12) {Fq4 : Ct} (Cq4 : Cal Ω "_law_form" 3 3 Fq4)
def j9(B:Bi Ω.mg){Fq12:Ct}(Cq12:Cal Ω "_law_take" 2 2 Fq12){Fq4:Ct}(Cq4:Cal Ω "_law_form" 3 3 Fq4):Bl Ω:=
 Bl.cons (Sm.expr (Ex.m_append (Ex.var 6) (Ex.tup (Ar.cons (Ex.var 10) (Ar.cons (Ex.var 8) (Ar.cons (Ex.typ bA B.tuple_ (Ar.cons (Ex.comp ["_law_j","_law_pen_here","_law_many"] [none,some 0,some 2] (Ex.call Cq4 (Ar.cons (Ex.var 1) (Ar.cons (Ex.var 2) (Ar.cons (Ex.int 1) Ar.nil)))) (Tg.nm 0) (Itb.rng1 B.range_ (Ex.ix (Ex.var 1) (Ex.var 8))) Cd.no) Ar.nil)) Ar.nil)))))) Bl.nil
def vg:Bl Ω:=
 Bl.cons (Sm.ite (Te.cmp .Eq (Ex.var 9) (Ex.int 7)) (Bl.cons (Sm.set 10 (Ex.bin .Add (Ex.bin .Sub (Ex.call Cq12 (Ar.cons (Ex.var 0) (Ar.cons (Ex.bin .Sub (Ex.bin .Mult (Ex.int 2) (Ex.bin .Pow (Ex.int 10) (Ex.int 30))) (Ex.int 1)) Ar.nil))) (Ex.bin .Pow (Ex.int 10) (Ex.int 30))) (Ex.int 1))) Bl.nil) Bl.nil) (j9 B Cq12 Cq4)
def vz:Bl Ω:=
 Bl.cons (Sm.set 10 (Ex.ix (Ex.lst (Ar.cons (Ex.int 1) (Ar.cons (Ex.neg (Ex.int 1)) (Ar.cons (Ex.int 2) (Ar.cons (Ex.int 3) (Ar.cons (Ex.int 0) (Ar.cons (Ex.int 1) (Ar.cons (Ex.neg (Ex.int 5)) (Ar.cons (Ex.int 0) Ar.nil))))))))) (Ex.var 9))) (vg B Cq12 Cq4)
def uN:Bl Ω:=
 Bl.cons (Sm.set 9 (Ex.call Cq12 (Ar.cons (Ex.var 0) (Ar.cons (Ex.int 8) Ar.nil)))) (vz B Cq12 Cq4)
def nZ:Bl Ω:=
 Bl.cons (Sm.set 8 (Ex.call Cq12 (Ar.cons (Ex.var 0) (Ar.cons (Ex.blt b8 B.len_ (Ar.cons (Ex.var 1) Ar.nil)) Ar.nil)))) (uN B Cq12 Cq4)
def Eg(B:Bi Ω.mg){Fq12:Ct}(Cq12:Cal Ω "_law_take" 2 2 Fq12){Fq4:Ct}(Cq4:Cal Ω "_law_form" 3 3 Fq4):Bl Ω:=
 Bl.cons (Sm.ret (Ex.tup (Ar.cons (Ex.var 3) (Ar.cons (Ex.var 4) (Ar.cons (Ex.var 5) (Ar.cons (Ex.typ bA B.tuple_ (Ar.cons (Ex.var 6) Ar.nil)) Ar.nil)))))) Bl.nil
def Eo:Bl Ω:=
 Bl.cons (Sm.for (Tg.nm 7) (Itb.rng1 B.range_ (Ex.call Cq12 (Ar.cons (Ex.var 0) (Ar.cons (Ex.int 4) Ar.nil)))) (nZ B Cq12 Cq4)) (Eg B Cq12 Cq4)
def Du:Bl Ω:=
 Bl.cons (Sm.set 6 (Ex.own Ar.nil)) (Eo B Cq12 Cq4)
def DK:Bl Ω:=
 Bl.cons (Sm.set 5 (Ex.call Cq4 (Ar.cons (Ex.var 0) (Ar.cons (Ex.var 2) (Ar.cons (Ex.ix (Ex.lst (Ar.cons (Ex.int 1) (Ar.cons (Ex.int 9) (Ar.cons (Ex.bin .Sub (Ex.bin .Pow (Ex.int 10) (Ex.int 30)) (Ex.int 1)) Ar.nil)))) (Ex.call Cq12 (Ar.cons (Ex.var 0) (Ar.cons (Ex.int 3) Ar.nil)))) Ar.nil))))) (Du B Cq12 Cq4)
def Fb:Bl Ω:=
 Bl.cons (Sm.set 4 (Ex.typ bA B.tuple_ (Ar.cons (Ex.comp ["_law_k","_law_pen_here","_law_many"] [none,some 0,some 2] (Ex.call Cq4 (Ar.cons (Ex.var 1) (Ar.cons (Ex.var 2) (Ar.cons (Ex.int 1) Ar.nil)))) (Tg.nm 0) (Itb.rng1 B.range_ (Ex.ix (Ex.var 1) (Ex.var 3))) Cd.no) Ar.nil))) (DK B Cq12 Cq4)
def La:Bl Ω:=
 Bl.cons (Sm.set 3 (Ex.call Cq12 (Ar.cons (Ex.var 0) (Ar.cons (Ex.blt b8 B.len_ (Ar.cons (Ex.var 1) Ar.nil)) Ar.nil)))) (Fb B Cq12 Cq4)
end
abbrev iQ:Stmt:=top 46
abbrev zQ:List Str:=["_law_pen_here","_law_most","_law_widths","_law_many","_law_nests","_law_k","_law_deeds","_law_loops_here"]
abbrev Aw:List Str:=["_law_pen_here","_law_most"]
section
variable (B : Bi Ω.mg) {Fq12 : Ct} (Cq12 : Cal Ω "_law_take" 2 2 Fq12) {Fq5 : Ct} (Cq5 : Cal Ω "_law_loops" 3 2 Fq5) {Fq3 : Ct} (Cq3 : Cal Ω "_law_deed" 4 3 Fq3)
def pR(B:Bi Ω.mg){Fq12:Ct}(Cq12:Cal Ω "_law_take" 2 2 Fq12){Fq5:Ct}(Cq5:Cal Ω "_law_loops" 3 2 Fq5){Fq3:Ct}(Cq3:Cal Ω "_law_deed" 4 3 Fq3):Bl Ω:=
 Bl.cons (Sm.expr (Ex.m_append (Ex.var 4) (Ex.tup (Ar.cons (Ex.var 7) (Ar.cons (Ex.typ bA B.tuple_ (Ar.cons (Ex.comp ["_law_j","_law_pen_here","_law_widths","_law_loops_here"] [none,some 0,some 2,some 7] (Ex.call Cq3 (Ar.cons (Ex.var 1) (Ar.cons (Ex.var 2) (Ar.cons (Ex.blt b8 B.len_ (Ar.cons (Ex.var 3) Ar.nil)) Ar.nil)))) (Tg.nm 0) (Itb.rng1 B.range_ (Ex.var 6)) Cd.no) Ar.nil)) Ar.nil))))) Bl.nil
def oZ:Bl Ω:=
 Bl.cons (Sm.set 7 (Ex.call Cq5 (Ar.cons (Ex.var 0) (Ar.cons (Ex.blt UT B.max_ (Ar.cons (Ex.int 1) (Ar.cons (Ex.fdiv (Ex.fdiv (Ex.var 1) (Ex.var 3)) (Ex.var 6)) Ar.nil))) Ar.nil)))) (pR B Cq12 Cq5 Cq3)
def jf:Bl Ω:=
 Bl.cons (Sm.set 6 (Ex.bin .Add (Ex.int 1) (Ex.call Cq12 (Ar.cons (Ex.var 0) (Ar.cons (Ex.int 4) Ar.nil))))) (oZ B Cq12 Cq5 Cq3)
def vL(B:Bi Ω.mg){Fq12:Ct}(Cq12:Cal Ω "_law_take" 2 2 Fq12){Fq5:Ct}(Cq5:Cal Ω "_law_loops" 3 2 Fq5){Fq3:Ct}(Cq3:Cal Ω "_law_deed" 4 3 Fq3):Bl Ω:=
 Bl.cons (Sm.ret (Ex.tup (Ar.cons (Ex.var 2) (Ar.cons (Ex.typ bA B.tuple_ (Ar.cons (Ex.var 4) Ar.nil)) Ar.nil)))) Bl.nil
def uP:Bl Ω:=
 Bl.cons (Sm.for (Tg.nm 5) (Itb.rng1 B.range_ (Ex.var 3)) (jf B Cq12 Cq5 Cq3)) (vL B Cq12 Cq5 Cq3)
def uV:Bl Ω:=
 Bl.cons (Sm.set 4 (Ex.own Ar.nil)) (uP B Cq12 Cq5 Cq3)
def vf:Bl Ω:=
 Bl.cons (Sm.set 3 (Ex.bin .Add (Ex.int 1) (Ex.call Cq12 (Ar.cons (Ex.var 0) (Ar.cons (Ex.int 3) Ar.nil))))) (uV B Cq12 Cq5 Cq3)
def Ak:Bl Ω:=
 Bl.cons (Sm.set 2 (Ex.typ bA B.tuple_ (Ar.cons (Ex.comp ["_law_k","_law_pen_here"] [none,some 0] (Ex.bin .Add (Ex.int 1) (Ex.call Cq12 (Ar.cons (Ex.var 1) (Ar.cons (Ex.int 2) Ar.nil)))) (Tg.nm 0) (Itb.rng1 B.range_ (Ex.bin .Add (Ex.int 1) (Ex.call Cq12 (Ar.cons (Ex.var 0) (Ar.cons (Ex.int 3) Ar.nil))))) Cd.no) Ar.nil))) (vf B Cq12 Cq5 Cq3)
end
abbrev yO:Stmt:=top 47
abbrev RG:List Str:=["_law_form_here","_law_counts_here"]
abbrev Sv:List Str:=["_law_form_here","_law_counts_here"]
def R5(B:Bi Ω.mg):Bl Ω:=
 Bl.cons (Sm.ret (Ex.bin .Add (Ex.ix (Ex.var 0) (Ex.int 0)) (Ex.blt vP B.sum_ (Ar.cons (Ex.comp ["_law_k","_law_form_here","_law_counts_here"] [none,some 0,some 1] (Ex.bin .Mult (Ex.ix (Ex.var 1) (Ex.bin .Add (Ex.int 1) (Ex.var 0))) (Ex.ix (Ex.var 2) (Ex.var 0))) (Tg.nm 0) (Itb.rng1 B.range_ (Ex.blt b8 B.len_ (Ar.cons (Ex.var 1) Ar.nil))) Cd.no) Ar.nil)))) Bl.nil
abbrev jX:Stmt:=top 48
abbrev DQ:List Str:=["_law_loops_here","_law_found","_law_low","_law_high","_law_longer","_law_counts_here","_law_count"]
abbrev Ed:List Str:=["_law_loops_here"]
section
variable (B : Bi Ω.mg) {Fq0 : Ct} (Cq0 : Cal Ω "_law_at" 1 2 Fq0)
def qW(B:Bi Ω.mg){Fq0:Ct}(Cq0:Cal Ω "_law_at" 1 2 Fq0):Bl Ω:=
 Bl.cons (Sm.set 1 (Ex.var 4)) Bl.nil
def qT:Bl Ω:=
 Bl.cons (Sm.forL (Tg.nm 5) (Ex.var 1) (Bl.cons (Sm.for (Tg.nm 6) (Itb.rng2 B.range_ (Ex.call Cq0 (Ar.cons (Ex.var 2) (Ar.cons (Ex.var 5) Ar.nil))) (Ex.call Cq0 (Ar.cons (Ex.var 3) (Ar.cons (Ex.var 5) Ar.nil)))) (Bl.cons (Sm.expr (Ex.m_append (Ex.var 4) (Ex.bin .Add (Ex.var 5) (Ex.tup (Ar.cons (Ex.var 6) Ar.nil))))) Bl.nil)) Bl.nil)) (qW B Cq0)
def uM:Bl Ω:=
 Bl.cons (Sm.set 4 (Ex.own Ar.nil)) (qT B Cq0)
def xZ(B:Bi Ω.mg){Fq0:Ct}(Cq0:Cal Ω "_law_at" 1 2 Fq0):Bl Ω:=
 Bl.cons (Sm.ret (Ex.var 1)) Bl.nil
def zg:Bl Ω:=
 Bl.cons (Sm.forL (Tg.tup [2,3]) (Ex.var 0) (Bl.fzl (uM B Cq0))) (xZ B Cq0)
def FQ:Bl Ω:=
 Bl.cons (Sm.set 1 (Ex.lst (Ar.cons (Ex.tup Ar.nil) Ar.nil))) (zg B Cq0)
end
abbrev oU:Stmt:=top 49
abbrev JT:List Str:=["_law_table","_law_place","_law_counts_here"]
abbrev Ko:List Str:=["_law_table","_law_place","_law_counts_here"]
def K5(B:Bi Ω.mg){Fq0:Ct}(Cq0:Cal Ω "_law_at" 1 2 Fq0):Bl Ω:=
 Bl.cons (Sm.ret (Ex.tup (Ar.cons (Ex.var 0) (Ar.cons (Ex.typ bA B.tuple_ (Ar.cons (Ex.comp ["_law_form_here","_law_counts_here"] [none,some 2] (Ex.call Cq0 (Ar.cons (Ex.var 0) (Ar.cons (Ex.var 1) Ar.nil))) (Tg.nm 0) (Itb.seq (Ex.var 1)) Cd.no) Ar.nil)) Ar.nil)))) Bl.nil
abbrev lX:Stmt:=top 50
abbrev GX:List Str:=["_law_program_here","_law_steps_here","_law_loops_here","_law_deeds","_law_counts_here","_law_table","_law_place","_law_start","_law_parts","_law_some"]
abbrev Hu:List Str:=["_law_program_here"]
section
variable {Fq0 : Ct} (Cq0 : Cal Ω "_law_at" 1 2 Fq0) {Fq2 : Ct} (Cq2 : Cal Ω "_law_counts" 2 1 Fq2) {Fq9 : Ct} (Cq9 : Cal Ω "_law_spot" 2 3 Fq9)
def tu{Fq0:Ct}(Cq0:Cal Ω "_law_at" 1 2 Fq0){Fq2:Ct}(Cq2:Cal Ω "_law_counts" 2 1 Fq2){Fq9:Ct}(Cq9:Cal Ω "_law_spot" 2 3 Fq9):Bl Ω:=
 Bl.cons (Sm.expr (Ex.m_append (Ex.var 1) (Ex.tup (Ar.cons (Ex.call Cq9 (Ar.cons (Ex.var 5) (Ar.cons (Ex.var 6) (Ar.cons (Ex.var 4) Ar.nil)))) (Ar.cons (Ex.call Cq0 (Ar.cons (Ex.var 7) (Ar.cons (Ex.var 4) Ar.nil))) (Ar.cons (Ex.var 9) Ar.nil)))))) Bl.nil
def yr:Bl Ω:=
 Bl.cons (Sm.setC 9 ["_law_factor","_law_other","_law_there","_law_counts_here"] [none,none,none,some 4] (Ex.tup (Ar.cons (Ex.var 0) (Ar.cons (Ex.call Cq9 (Ar.cons (Ex.var 1) (Ar.cons (Ex.var 2) (Ar.cons (Ex.var 3) Ar.nil)))) Ar.nil))) (Tg.tup [0,1,2]) (Itb.seq (Ex.var 8)) Cd.no) (tu Cq0 Cq2 Cq9)
def Aj{Fq0:Ct}(Cq0:Cal Ω "_law_at" 1 2 Fq0){Fq2:Ct}(Cq2:Cal Ω "_law_counts" 2 1 Fq2){Fq9:Ct}(Cq9:Cal Ω "_law_spot" 2 3 Fq9):Bl Ω:=
 Bl.cons (Sm.ret (Ex.var 1)) Bl.nil
def zH:Bl Ω:=
 Bl.cons (Sm.forL (Tg.tup [2,3]) (Ex.ix (Ex.var 0) (Ex.int 1)) (Bl.cons (Sm.forL (Tg.nm 4) (Ex.call Cq2 (Ar.cons (Ex.var 2) Ar.nil)) (Bl.cons (Sm.forL (Tg.tup [5,6,7,8]) (Ex.var 3) (yr Cq0 Cq2 Cq9)) Bl.nil)) Bl.nil)) (Aj Cq0 Cq2 Cq9)
def Ig:Bl Ω:=
 Bl.cons (Sm.set 1 (Ex.own Ar.nil)) (zH Cq0 Cq2 Cq9)
end
abbrev lO:Stmt:=top 51
abbrev HS:List Str:=["_law_one","_law_other"]
abbrev GJ:List Str:=["_law_one","_law_other"]
def zR:Bl Ω:=
 Bl.cons (Sm.ret (Ex.cmp .In (Ex.ix (Ex.var 1) (Ex.int 0)) (Ex.comp ["_law_factor","_law_spot_here"] [none,none] (Ex.var 1) (Tg.tup [0,1]) (Itb.seq (Ex.ix (Ex.var 0) (Ex.int 2))) Cd.no))) Bl.nil
def Hg:Bl Ω:=
 Bl.cons (Sm.ite (Te.or (Bt.cons (Te.cmp .Eq (Ex.ix (Ex.var 0) (Ex.int 0)) (Ex.ix (Ex.var 1) (Ex.int 0))) (Bt.one (Te.cmp .In (Ex.ix (Ex.var 0) (Ex.int 0)) (Ex.comp ["_law_factor","_law_spot_here"] [none,none] (Ex.var 1) (Tg.tup [0,1]) (Itb.seq (Ex.ix (Ex.var 1) (Ex.int 2))) Cd.no))))) (Bl.cons (Sm.ret (Ex.bl true)) Bl.nil) Bl.nil) (zR)
abbrev mO:Stmt:=top 52
abbrev Ii:List Str:=["_law_drawn","_law_found","_law_nest","_law_loops_here","_law_deeds","_law_counts_here"]
abbrev Je:List Str:=["_law_drawn"]
section
variable (B : Bi Ω.mg) {Fq2 : Ct} (Cq2 : Cal Ω "_law_counts" 2 1 Fq2)
def Ah(B:Bi Ω.mg){Fq2:Ct}(Cq2:Cal Ω "_law_counts" 2 1 Fq2):Bl Ω:=
 Bl.cons (Sm.ret (Ex.var 1)) Bl.nil
def Am:Bl Ω:=
 Bl.cons (Sm.forN 2 [3,4] (Itb.enm B.enumerate_ (Ex.ix (Ex.var 0) (Ex.int 1))) (Bl.cons (Sm.forL (Tg.nm 5) (Ex.call Cq2 (Ar.cons (Ex.var 3) Ar.nil)) (Bl.cons (Sm.set 1 (Ex.bin .Add (Ex.var 1) (Ex.binL false .Mult (Ex.lst (Ar.cons (Ex.tup (Ar.cons (Ex.var 2) (Ar.cons (Ex.var 5) Ar.nil))) Ar.nil)) (Ex.blt b8 B.len_ (Ar.cons (Ex.var 4) Ar.nil))))) Bl.nil)) Bl.nil)) (Ah B Cq2)
def Gm:Bl Ω:=
 Bl.cons (Sm.set 1 (Ex.lst Ar.nil)) (Am B Cq2)
end
abbrev pA:Stmt:=top 53
abbrev Ke:List Str:=["_law_one","_law_other"]
abbrev JD:List Str:=["_law_one","_law_other"]
def Fq(B:Bi Ω.mg):Bl Ω:=
 Bl.cons (Sm.ret (Ex.typ bA B.tuple_ (Ar.cons (Ex.comp ["_law_k","_law_other","_law_one"] [none,some 1,some 0] (Ex.bin .Sub (Ex.ix (Ex.ix (Ex.var 1) (Ex.int 1)) (Ex.var 0)) (Ex.ix (Ex.ix (Ex.var 2) (Ex.int 1)) (Ex.var 0))) (Tg.nm 0) (Itb.rng1 B.range_ (Ex.blt b8 B.len_ (Ar.cons (Ex.ix (Ex.var 0) (Ex.int 1)) Ar.nil))) Cd.no) Ar.nil))) Bl.nil
def Ku(B:Bi Ω.mg):Bl Ω:=
 Bl.cons (Sm.ite (Te.cmp .NotEq (Ex.ix (Ex.var 0) (Ex.int 0)) (Ex.ix (Ex.var 1) (Ex.int 0))) (Bl.cons (Sm.ret Ex.non) Bl.nil) Bl.nil) (Fq B)
abbrev jE:Stmt:=top 54
abbrev Uk:List Str:=["_law_script","_law_pen_here","_law_drawn","_law_steps_here","_law_stood_here","_law_program_here","_law_k","_law_i","_law_j","_law_found","_law_due"]
abbrev Ms:List Str:=["_law_script"]
section
variable (B : Bi Ω.mg) {Fq38 : Ct} (Cq38 : Cal Ω "program_of" 10 2 Fq38) {Fq39 : Ct} (Cq39 : Cal Ω "span" 5 3 Fq39) {Fq41 : Ct} (Cq41 : Cal Ω "spans" 7 1 Fq41) {Fq6 : Ct} (Cq6 : Cal Ω "_law_pen" 2 2 Fq6) {Fq12 : Ct} (Cq12 : Cal Ω "_law_take" 2 2 Fq12) {Fq7 : Ct} (Cq7 : Cal Ω "_law_program" 5 2 Fq7) {Fq10 : Ct} (Cq10 : Cal Ω "_law_steps" 3 1 Fq10) {Fq13 : Ct} (Cq13 : Cal Ω "_law_touch" 1 2 Fq13) {Fq11 : Ct} (Cq11 : Cal Ω "_law_stood" 3 1 Fq11) {Fq8 : Ct} (Cq8 : Cal Ω "_law_span" 1 2 Fq8)
def Eb(B:Bi Ω.mg){Fq38:Ct}(Cq38:Cal Ω "program_of" 10 2 Fq38){Fq39:Ct}(Cq39:Cal Ω "span" 5 3 Fq39){Fq41:Ct}(Cq41:Cal Ω "spans" 7 1 Fq41){Fq6:Ct}(Cq6:Cal Ω "_law_pen" 2 2 Fq6){Fq12:Ct}(Cq12:Cal Ω "_law_take" 2 2 Fq12){Fq7:Ct}(Cq7:Cal Ω "_law_program" 5 2 Fq7){Fq10:Ct}(Cq10:Cal Ω "_law_steps" 3 1 Fq10){Fq13:Ct}(Cq13:Cal Ω "_law_touch" 1 2 Fq13){Fq11:Ct}(Cq11:Cal Ω "_law_stood" 3 1 Fq11){Fq8:Ct}(Cq8:Cal Ω "_law_span" 1 2 Fq8):Bl Ω:=
 Bl.cons (Sm.ite (Te.or (Bt.cons (Te.cmp .NotEq (Ex.var 9) (Ex.call Cq8 (Ar.cons (Ex.ix (Ex.var 4) (Ex.var 7)) (Ar.cons (Ex.ix (Ex.var 4) (Ex.var 8)) Ar.nil)))) (Bt.one (Te.and (Bt.cons (Te.cmp .IsNot (Ex.var 9) Ex.non) (Bt.one (Te.not (Te.val (Ex.isi B.isinstance_ (Ex.var 9) .tuple B.tuple_))))))))) (Bl.cons (Sm.ret (Ex.bl false)) Bl.nil) Bl.nil) Bl.nil
def Ds:Bl Ω:=
 Bl.cons (Sm.set 9 (Ex.call Cq39 (Ar.cons (Ex.var 5) (Ar.cons (Ex.var 7) (Ar.cons (Ex.var 8) Ar.nil))))) (Eb B Cq38 Cq39 Cq41 Cq6 Cq12 Cq7 Cq10 Cq13 Cq11 Cq8)
def Ea:Bl Ω:=
 Bl.cons (Sm.set 8 (Ex.call Cq12 (Ar.cons (Ex.var 1) (Ar.cons (Ex.blt b8 B.len_ (Ar.cons (Ex.var 3) Ar.nil)) Ar.nil)))) (Ds B Cq38 Cq39 Cq41 Cq6 Cq12 Cq7 Cq10 Cq13 Cq11 Cq8)
def JK:Bl Ω:=
 Bl.cons (Sm.set 7 (Ex.call Cq12 (Ar.cons (Ex.var 1) (Ar.cons (Ex.blt b8 B.len_ (Ar.cons (Ex.var 3) Ar.nil)) Ar.nil)))) (Ea B Cq38 Cq39 Cq41 Cq6 Cq12 Cq7 Cq10 Cq13 Cq11 Cq8)
def M4(B:Bi Ω.mg){Fq38:Ct}(Cq38:Cal Ω "program_of" 10 2 Fq38){Fq39:Ct}(Cq39:Cal Ω "span" 5 3 Fq39){Fq41:Ct}(Cq41:Cal Ω "spans" 7 1 Fq41){Fq6:Ct}(Cq6:Cal Ω "_law_pen" 2 2 Fq6){Fq12:Ct}(Cq12:Cal Ω "_law_take" 2 2 Fq12){Fq7:Ct}(Cq7:Cal Ω "_law_program" 5 2 Fq7){Fq10:Ct}(Cq10:Cal Ω "_law_steps" 3 1 Fq10){Fq13:Ct}(Cq13:Cal Ω "_law_touch" 1 2 Fq13){Fq11:Ct}(Cq11:Cal Ω "_law_stood" 3 1 Fq11){Fq8:Ct}(Cq8:Cal Ω "_law_span" 1 2 Fq8):Bl Ω:=
 Bl.cons (Sm.ret (Ex.and (Bo.cons (Ex.isi B.isinstance_ (Ex.var 9) .list B.list_) (Bo.cons (Ex.cmp .Eq (Ex.var 9) (Ex.ssetT B.sorted_ B.set_ (Ex.var 10))) (Bo.one (Ex.blt fP B.all_ (Ar.cons (Ex.comp ["_law_one"] [none] (Ex.isi B.isinstance_ (Ex.var 0) .tuple B.tuple_) (Tg.nm 0) (Itb.seq (Ex.var 9)) Cd.no) Ar.nil))))))) Bl.nil
def Ol:Bl Ω:=
 Bl.cons (Sm.set 9 (Ex.call Cq41 (Ar.cons (Ex.var 5) Ar.nil))) (M4 B Cq38 Cq39 Cq41 Cq6 Cq12 Cq7 Cq10 Cq13 Cq11 Cq8)
def OJ:Bl Ω:=
 Bl.cons (Sm.for (Tg.nm 7) (Itb.rng1 B.range_ (Ex.blt b8 B.len_ (Ar.cons (Ex.var 3) Ar.nil))) (Bl.cons (Sm.for (Tg.nm 8) (Itb.rng2 B.range_ (Ex.bin .Add (Ex.var 7) (Ex.int 1)) (Ex.blt b8 B.len_ (Ar.cons (Ex.var 3) Ar.nil))) (Bl.cons (Sm.ite (Te.and (Bt.cons (Te.cmp .Eq (Ex.ix (Ex.ix (Ex.var 4) (Ex.var 7)) (Ex.int 0)) (Ex.ix (Ex.ix (Ex.var 4) (Ex.var 8)) (Ex.int 0))) (Bt.one (Te.val (Ex.call Cq13 (Ar.cons (Ex.ix (Ex.var 3) (Ex.var 7)) (Ar.cons (Ex.ix (Ex.var 3) (Ex.var 8)) Ar.nil))))))) (Bl.cons (Sm.expr (Ex.m_append (Ex.var 10) (Ex.call Cq8 (Ar.cons (Ex.ix (Ex.var 4) (Ex.var 7)) (Ar.cons (Ex.ix (Ex.var 4) (Ex.var 8)) Ar.nil))))) Bl.nil) Bl.nil) Bl.nil)) Bl.nil)) (Ol B Cq38 Cq39 Cq41 Cq6 Cq12 Cq7 Cq10 Cq13 Cq11 Cq8)
def Nk:Bl Ω:=
 Bl.cons (Sm.set 10 (Ex.own Ar.nil)) (OJ B Cq38 Cq39 Cq41 Cq6 Cq12 Cq7 Cq10 Cq13 Cq11 Cq8)
def M6:Bl Ω:=
 Bl.cons (Sm.for (Tg.nm 6) (Itb.rng1 B.range_ (Ex.blt Rm B.min_ (Ar.cons (Ex.int 30) (Ar.cons (Ex.bin .Mult (Ex.blt b8 B.len_ (Ar.cons (Ex.var 3) Ar.nil)) (Ex.blt b8 B.len_ (Ar.cons (Ex.var 3) Ar.nil))) Ar.nil)))) (JK B Cq38 Cq39 Cq41 Cq6 Cq12 Cq7 Cq10 Cq13 Cq11 Cq8)) (Nk B Cq38 Cq39 Cq41 Cq6 Cq12 Cq7 Cq10 Cq13 Cq11 Cq8)
def N6:Bl Ω:=
 Bl.cons (Sm.set 5 (Ex.call Cq38 (Ar.cons (Ex.ix (Ex.var 2) (Ex.int 0)) (Ar.cons (Ex.ix (Ex.var 2) (Ex.int 1)) Ar.nil)))) (M6 B Cq38 Cq39 Cq41 Cq6 Cq12 Cq7 Cq10 Cq13 Cq11 Cq8)
def Pq:Bl Ω:=
 Bl.cons (Sm.set 4 (Ex.call Cq11 (Ar.cons (Ex.var 2) Ar.nil))) (N6 B Cq38 Cq39 Cq41 Cq6 Cq12 Cq7 Cq10 Cq13 Cq11 Cq8)
def Pu:Bl Ω:=
 Bl.cons (Sm.set 3 (Ex.call Cq10 (Ar.cons (Ex.var 2) Ar.nil))) (Pq B Cq38 Cq39 Cq41 Cq6 Cq12 Cq7 Cq10 Cq13 Cq11 Cq8)
def Om:Bl Ω:=
 Bl.cons (Sm.set 2 (Ex.call Cq7 (Ar.cons (Ex.var 1) (Ar.cons (Ex.int 24) Ar.nil)))) (Pu B Cq38 Cq39 Cq41 Cq6 Cq12 Cq7 Cq10 Cq13 Cq11 Cq8)
def Ub:Bl Ω:=
 Bl.cons (Sm.set 1 (Ex.call Cq6 (Ar.cons (Ex.var 0) (Ar.cons (Ex.int 1) Ar.nil)))) (Om B Cq38 Cq39 Cq41 Cq6 Cq12 Cq7 Cq10 Cq13 Cq11 Cq8)
end
end
end K17
local macro_rules | `(tactic| walk_at "n") => `(tactic| ((conv => whnf); repeat (with_reducible first | apply RF.cLt | apply RF.cLe | apply RF.cGt | apply RF.cGe | apply RF.cEqI | apply RF.cNeI | apply RF.cEqB | apply RF.cNeB | apply RF.cIsN | apply RF.cIsB | apply RF.cIsNotB | apply RF.cIsNot); (conv => whnf)))
local macro_rules | `(tactic| walk_at "at") => `(tactic| first | (with_reducible assumption) | exact DL.set_get (by first | (with_reducible assumption) | exact DL.set_get (by with_reducible assumption)))
local macro_rules | `(tactic| walk_at "o") => `(tactic| first | omega | decide | (simp; done) | (simp; omega))
local macro_rules | `(tactic| walk_at "a1") => `(tactic| first
 | refine RF.wM1 (by first | exact .inl ⟨by walk_at "o", by walk_at "o"⟩ | exact .inr ⟨by walk_at "o", by walk_at "o"⟩) ?_
 | refine RF.wM2 ⟨by decide, by decide, by decide⟩ ?_
 | refine RF.wM3 ⟨by omega, by omega⟩ ?_
 | refine RF.wM4 (by omega) ?_
 | ((fail_if_success (with_reducible show (_ /\ ∃ _ : Nat -> List DL.D -> DL.Store -> Prop, _))); refine RF.wM5 (by walk_at "o") ?_)
 | refine RF.wM6 (by walk_at "o") ?_
 | (refine' RF.wM7 ?h1 ?h2 ?h3; (case h1 => walk_at "at"); (case h2 => exact rfl); (try rw [List.set_set]))
 | (refine' RF.wM8 ?h1 ?h2 ?h3; (case h1 => walk_at "at"); (case h2 => exact rfl))
 | refine RF.wM9 rfl ?_)
local macro_rules | `(tactic| walk_at "a") => `(tactic| (walk_at "n"; repeat (walk_at "a1"; walk_at "n")))
local macro_rules | `(tactic| walk_at "b") => `(tactic| (walk_at "n"; repeat ((first | walk_at "a1" | apply RF.bT | apply RF.bF | apply RF.dT | apply RF.dF); walk_at "n")))
namespace K17
open PySem L2 DL RF
variable {cs ws : List Int} {i d n k j m : Nat} {a b : Int} {S J : Store} {W : WD} {l : List D} {zs : List Nat}
variable {Ω : Wd} {f : Addr} {fd : FuncData}
def whole:D->Bool
 | .int _=>true
 | _=>false
def bJ(x:D)(a b:Int):Bool:=match x with
 | .tup ds=>decide (a≤(ds.length:Int))&&decide ((ds.length:Int)≤b)
 | _=>false
def cN(x:D)(d:Int):Bool:=match x with
 | .tup ds=>decide ((ds.length:Int)=d+1)&&ds.all whole
 | _=>false
def jw:Ct:=λ ds S W=>∃x,ds=[x]/\W (.bl (whole x)) S
def d8:Ct:=λ ds S W=>∃x a b,ds=[x,.int a,.int b]/\W (.bl (bJ x a b)) S
def qt:Ct:=λ ds S W=>∃x d,ds=[x,.int d]/\d≤1000/\W (.bl (cN x d)) S
def comesTo(f:Int)(fs cs:List Int):Int:=f+(List.zipWith (λ a b=>a*b) fs cs).sum
def rN:Ct:=λ ds S W=>∃f fs cs,ds=[.tup (.int f::fs.map .int),.tup (cs.map .int)]/\fs.length≤1000/\(∀c∈cs,-(2 ^ 64)<c/\c<2 ^ 64)/\W (.int (comesTo f fs cs)) S
theorem Iz(ds:List D):(ds.map whole).all id=ds.all whole:=by rw[List.all_map];rfl
theorem O9{fs:List Int}{d:D}(h:(List.zipWith (λ x y=>D.tup [x,y]) (fs.map D.int) (cs.map D.int))[i]? =some d):∃a b,fs[i]? =some a/\cs[i]? =some b/\d=.tup [.int a,.int b]:=by
 rw[List.getElem?_zipWith,y8,y8]at h
 cases e1:fs[i]? with
 | none=>rw[e1]at h;cases h
 | some a=>
   cases e2:cs[i]? with
   | none=>rw[e1,e2]at h;cases h
   | some b=>rw[e1,e2]at h;cases h;exact⟨a,b,rfl,rfl,rfl⟩
theorem vm(F:Fun Ω.K "is_whole" "is_whole" gZ f fd)(N0:Ω.cd=none)(B:Bi Ω.mg):Ok Ω 1 f fd yh jw:=by
 refine aF N0 (N:=xT) F (wI B) (by kernel_rfl!) ?_
 rintro ds S W ⟨x,rfl,hw⟩ hl
 walk_at "n"
 refine⟨λ c=>?_,λ c=>?_⟩
 . walk_at "n"
   have e:(!isD .bool x)=whole x:=by cases x<;>first | rfl | exact ff c | exact tf c
   rw[e];exact hw
 . have e:whole x=false:=by cases x<;>first | rfl | exact ff c | exact tf c
   rw[e]at hw;exact hw
theorem pU(F:Fun Ω.K "is_tuple_of" "is_tuple_of" d7 f fd)(N0:Ω.cd=none)(B:Bi Ω.mg):Ok Ω 1 f fd qw d8:=by
 refine aF N0 (N:=qz) F (qi B) (by kernel_rfl!) ?_
 rintro ds S W ⟨x,a,b,rfl,hw⟩ hl
 walk_at "n"
 cases x with
 | tup ds=>
   refine⟨λ _=>?_,λ c=>tf c⟩
   walk_at "n"
   refine⟨λ c1=>?_,λ c1=>?_⟩
   . have e:bJ (.tup ds) a b=false:=by show(decide _&&decide _)=false;rw[c1];rfl
     rw[e]at hw;exact hw
   . walk_at "n"
     have e:bJ (.tup ds) a b=decide ((ds.length:Int)≤b):=by show(decide _&&decide _)=_;rw[c1];rfl
     rw[e]at hw;exact hw
 | _=>exact⟨λ c=>ff c,λ _=>hw⟩
theorem wk(F:Fun Ω.K "is_form" "is_form" iT f fd)(N0:Ω.cd=none)(B:Bi Ω.mg)(Cq34:Cal Ω "is_whole" 1 1 jw)(Cq33:Cal Ω "is_tuple_of" 1 3 d8):Ok Ω 2 f fd zL qt:=by
 refine aF N0 (N:=Af) F (Ax B Cq34 Cq33) (by kernel_rfl!) ?_
 rintro ds S W ⟨x,d,rfl,hd,hw⟩ hl
 walk_at "n"
 refine⟨rfl,_,_,_,rfl,?_⟩
 refine⟨λ c=>?_,λ c=>?_⟩
 . cases x with
   | tup ds=>
     have hlen:(ds.length:Int)=d+1:=by
      have c':(decide (d+1≤(ds.length:Int))&&decide ((ds.length:Int)≤d+1))=true:=c
      rw[Bool.and_eq_true,decide_eq_true_eq,decide_eq_true_eq]at c'
      omega
     walk_at "n"
     refine fZ ⟨by omega,λ i acc S'=>acc=(ds.take i).map (λ d=>.bl (whole d))/\S'=S,⟨rfl,rfl⟩,?_,?_⟩
     . rintro i e acc S' he ⟨rfl,rfl⟩
       walk_at "n"
       refine⟨λ _=>⟨rfl,_,rfl,?_,rfl⟩,λ z=>tf z⟩
       rw[bj he,List.map_append];rfl
     . rintro acc S' ⟨rfl,rfl⟩
       rw[List.take_length]
       refine⟨ds.map whole,by rw[List.map_map];rfl,?_⟩
       have e2:cN (.tup ds) d=(ds.map whole).all id:=by
        show(decide _&&_)=_
        rw[decide_eq_true hlen,Iz];rfl
       rw[e2]at hw;exact hw
   | _=>exact ff c
 . have e:cN x d=false:=by
    cases x with
    | tup ds=>
      have c':(decide (d+1≤(ds.length:Int))&&decide ((ds.length:Int)≤d+1))=false:=c
      show(decide _&&_)=false
      rw[Bool.and_eq_false_iff,decide_eq_false_iff_not,decide_eq_false_iff_not]at c'
      rw[decide_eq_false (by omega)];rfl
    | _=>rfl
   rw[e]at hw;exact hw
theorem vo(F:Fun Ω.K "comes_to" "comes_to" g8 f fd)(N0:Ω.cd=none)(B:Bi Ω.mg):Ok Ω 1 f fd xQ rN:=by
 refine aF N0 (N:=wD) F (wz B) (by kernel_rfl!) ?_
 rintro ds S W ⟨g,fs,cs,rfl,hfs,hcs,hw⟩ hl
 walk_at "n"
 refine⟨_,ww _ _,?_⟩
 walk_at "n"
 rw[wM]
 refine fZ ⟨by rw[List.length_zipWith,y7];omega,λ i acc S'=>acc=((List.zipWith (λ a b=>a*b) fs cs).take i).map D.int/\S'=S,⟨rfl,rfl⟩,?_,?_⟩
 . rintro i e acc S' he ⟨rfl,rfl⟩
   obtain⟨a,b,h1,h2,rfl⟩:=O9 he
   walk_at "n"
   refine⟨rfl,λ _=>⟨.inr (hcs b (y4 h2)),?_,rfl⟩,λ z=>tf z⟩
   have e3:(List.zipWith (λ a b=>a*b) fs cs)[i]? =some (a*b):=by rw[List.getElem?_zipWith,h1,h2]
   rw[bj e3,List.map_append];rfl
 . rintro acc S' ⟨rfl,rfl⟩
   have e:(List.zipWith (λ x y=>D.tup [x,y]) (fs.map D.int) (cs.map D.int)).length=(List.zipWith (λ a b=>a*b) fs cs).length:=by simp
   rw[e,List.take_length]
   exact⟨_,rfl,hw⟩
def small:D->Bool
 | .int n=>decide (-2≤n)&&decide (n≤2)
 | _=>false
def Uj:List D->Bool
 | .int a::fs=>decide (-9≤a)&&(decide (a≤9)&&fs.all small)
 | _=>false
def cA(x:D)(d:Int):Bool:=cN x d&&Uj (match x with | .tup ds=>ds | _=>[])
def gr(x:D)(d:Int):Bool:=match x with
 | .tup [a,b]=>cA a d&&cA b d
 | _=>false
def fj(x:D):Bool:=match x with
 | .tup ds=>(decide (1≤(ds.length:Int))&&decide ((ds.length:Int)≤3))&&(ds.mapIdx λ i d=>gr d i).all id
 | _=>false
def Bv:Ct:=λ ds S W=>∃x d,ds=[x,.int d]/\0≤d/\d≤1000/\W (.bl (cA x d)) S
def Hl:Ct:=λ ds S W=>∃x d,ds=[x,.int d]/\0≤d/\d≤1000/\W (.bl (gr x d)) S
def BR:Ct:=λ ds S W=>∃x,ds=[x]/\W (.bl (fj x)) S
theorem ints_of:∀{ds:List D},ds.all whole=true->∃ns:List Int,ds=ns.map .int
 | [],_=>⟨[],rfl⟩
 | d::ds,h=>by
   rw[List.all_cons]at h
   obtain⟨h1,h2⟩:=aa h
   obtain⟨ns,rfl⟩:=ints_of h2
   cases d with
   | int i=>exact⟨i::ns,rfl⟩
   | _=>exact ff h1
theorem iJ{x:D}{d:Int}(h:cN x d=true)(hd:0≤d):∃a fs,x=.tup (.int a::List.map .int fs)/\(fs.length:Int)=d:=by
 cases x with
 | tup ds=>
   obtain⟨h1,h2⟩:=aa h
   have h1:=of_decide_eq_true h1
   cases ds with
   | nil=>simp at h1;omega
   | cons e es=>
     rw[List.all_cons]at h2
     obtain⟨h2,h3⟩:=aa h2
     have h4:=ints_of h3
     obtain⟨ns,rfl⟩:=h4
     cases e with
     | int a=>exact⟨a,ns,rfl,by simp at h1;omega⟩
     | _=>exact ff h2
 | _=>exact ff h
theorem yV(p:D->Bool)(ds:List D):(ds.map p).all id=ds.all p:=by rw[List.all_map];rfl
theorem uW (F:Fun Ω.K "is_bound" "is_bound" gJ f fd)(N0:Ω.cd=none)(B:Bi Ω.mg)(Cq23:Cal Ω "is_form" 2 2 qt):Ok Ω 3 f fd xg Bv:=by
 refine aF N0 (N:=wg) F (wH B Cq23) (by kernel_rfl!) ?_
 rintro ds S W ⟨x,d,rfl,hd0,hd,hw⟩ hl
 walk_at "a"
 refine⟨rfl,_,_,rfl,hd,?_⟩
 walk_at "a"
 cases h:cN x d with
 | false=>
   have e:cA x d=false:=by unfold cA;rw[h];rfl
   rw[e]at hw
   exact⟨λ _=>hw,λ z=>tf z⟩
 | true=>
   refine⟨λ z=>ff z,λ _=>?_⟩
   obtain⟨a,fs,rfl,hf⟩:=iJ h hd0
   have e:cA (.tup (.int a::fs.map .int)) d=(decide (-9≤a)&&(decide (a≤9)&&(fs.map D.int).all small)):=by unfold cA;rw[h];rfl
   rw[e]at hw
   walk_at "a"
   refine⟨_,ww _ _,?_⟩
   walk_at "a"
   refine⟨λ h1=>?_,λ h1=>?_⟩
   . have h1:decide (-9≤a)=false:=h1
     rw[h1]at hw
     exact⟨λ z=>ff z,λ _=>hw⟩
   have h1:decide (-9≤a)=true:=h1
   rw[h1,Bool.true_and]at hw
   walk_at "a"
   refine⟨λ h2=>?_,λ h2=>?_⟩
   . rw [h2,Bool.true_and]at hw
     walk_at "a"
     rw[wM]
     refine cY (λ d=>.bl (small d)) (by simp;omega) ?_ ?_
     . intro i e he Q hq
       rw[y8]at he
       cases e1:fs[i]? with
       | none=>rw[e1]at he;cases he
       | some n=>
         rw[e1]at he
         cases he
         walk_at "a"
         refine⟨λ h3=>?_,λ h3=>?_⟩
         . have h3:decide (-2≤n)=false:=h3
           have e:small (.int n)=false:=by show(decide _&&_)=false;rw[h3];rfl
           rw[e]at hq
           exact hq
         . have h3:decide (-2≤n)=true:=h3
           walk_at "a"
           have e:small (.int n)=decide (n≤2):=by show(decide _&&_)=_;rw[h3];rfl
           rw[e]at hq
           exact hq
     . refine⟨(fs.map D.int).map small,by simp only[List.map_map];rfl,?_⟩
       rw[yV];exact hw
   . rw[h2]at hw
     exact hw
theorem zp(F:Fun Ω.K "is_loop" "is_loop" iY f fd)(N0:Ω.cd=none)(Cq33:Cal Ω "is_tuple_of" 1 3 d8)(Cq21:Cal Ω "is_bound" 3 2 Bv):Ok Ω 4 f fd Ai Hl:=by
 refine aF N0 (N:=zu) F (Ae Cq33 Cq21) (by kernel_rfl!) ?_
 rintro ds S W ⟨x,d,rfl,hd0,hd,hw⟩ hl
 walk_at "a"
 refine⟨rfl,_,_,_,rfl,?_⟩
 walk_at "a"
 cases x with
 | tup ds=>
   match ds,hw with
   | [a,b],hw=>
     refine⟨λ _=>?_,λ z=>tf z⟩
     walk_at "a"
     refine⟨rfl,_,_,rfl,hd0,hd,?_⟩
     have e:gr (.tup [a,b]) d=(cA a d&&cA b d):=rfl
     rw[e]at hw
     refine⟨λ h=>?_,λ h=>?_⟩
     . rw[h,Bool.true_and]at hw
       walk_at "a"
       exact⟨rfl,_,_,rfl,hd0,hd,hw⟩
     . rw[h]at hw;exact hw
   | [],hw=>exact⟨λ z=>ff z,λ _=>hw⟩
   | [_],hw=>exact⟨λ z=>ff z,λ _=>hw⟩
   | _::_::_::es,hw=>
     refine⟨λ z=>?_,λ _=>hw⟩
     obtain⟨_,z⟩:=aa z
     have z:=of_decide_eq_true z
     simp at z;omega
 | _=>exact⟨λ z=>ff z,λ _=>hw⟩
theorem vC(F:Fun Ω.K "is_loops" "is_loops" gO f fd)(N0:Ω.cd=none)(B:Bi Ω.mg)(Cq33:Cal Ω "is_tuple_of" 1 3 d8)(Cq24:Cal Ω "is_loop" 4 2 Hl):Ok Ω 5 f fd vW BR:=by
 refine aF N0 (N:=yF) F (wV B Cq33 Cq24) (by kernel_rfl!) ?_
 rintro ds S W ⟨x,rfl,hw⟩ hl
 walk_at "a"
 refine⟨rfl,_,_,_,rfl,?_⟩
 walk_at "a"
 cases x with
 | tup ds=>
   have e:fj (.tup ds)=((decide (1≤(ds.length:Int))&&decide ((ds.length:Int)≤3))&&(ds.mapIdx λ i d=>gr d i).all id):=rfl
   rw[e]at hw
   refine⟨λ h=>?_,λ h=>?_⟩
   . have h:(decide (1≤(ds.length:Int))&&decide ((ds.length:Int)≤3))=true:=h
     rw[h,Bool.true_and]at hw
     have hlen:=of_decide_eq_true (aa h).2
     walk_at "a"
     refine cY (λ p=>match p with | .tup [.int i,d]=>.bl (gr d i) | _=>.non) (by simp;omega) ?_ ?_
     . intro i e he Q hq
       rw[List.getElem?_mapIdx]at he
       cases e1:ds[i]? with
       | none=>rw[e1]at he;cases he
       | some d0=>
         rw[e1]at he
         cases he
         have hi:i<ds.length:=(z0.mp e1).1
         walk_at "a"
         refine⟨rfl,?_⟩
         walk_at "a"
         exact⟨rfl,_,_,rfl,by omega,by omega,hq⟩
     . refine⟨ds.mapIdx λ i d=>gr d i,?_,hw⟩
       apply List.ext_getElem?
       intro i
       simp only[y8,List.getElem?_mapIdx]
       cases ds[i]?<;>rfl
   . have h:(decide (1≤(ds.length:Int))&&decide ((ds.length:Int)≤3))=false:=h
     rw[h]at hw
     exact hw
 | _=>exact⟨λ z=>ff z,λ _=>hw⟩
abbrev Fm:=Int×List Int
abbrev Lp:=Fm×Fm
def dF(f:Fm):D:=.tup (.int f.1::f.2.map .int)
def dC(cs:List Int):D:=.tup (cs.map .int)
def dL(l:Lp):D:=.tup [dF l.1,dF l.2]
def atC(f:Fm)(cs:List Int):Int:=comesTo f.1 f.2 cs
def upI(a:Int)(n:Nat):List Int:=(List.range n).map λ(k:Nat)=>a+(k:Int)
def bz(lo hi:Fm)(cs:List Int):List (List Int):=(upI (atC lo cs) (atC hi cs-atC lo cs).toNat).map λ c=>cs++[c]
def aL(lo hi:Fm)(ahead:List (List Int)):List (List Int):=ahead.flatMap (bz lo hi)
def cnt(ls:List Lp):List (List Int):=ls.foldl (λ acc l=>aL l.1 l.2 acc) [[]]
def Sm6(ns:List Int):Prop:=ns.length≤10/\∀n∈ns,-1000000≤n/\n≤1000000
def SmF(f:Fm):Prop:= -1000000≤f.1/\f.1≤1000000/\Sm6 f.2
theorem uH:∀(fs cs:List Int),(∀n∈fs,-1000000≤n/\n≤1000000)->(∀n∈cs,-1000000≤n/\n≤1000000)-> -(1000000000000*(cs.length:Int))≤(List.zipWith (λ a b=>a*b) fs cs).sum/\(List.zipWith (λ a b=>a*b) fs cs).sum≤1000000000000*(cs.length:Int)
 | [],cs,_,_=>by simp;omega
 | f::fs,[],_,_=>by simp
 | f::fs,c::cs,h1,h2=>by
   have ih:=uH fs cs (λ n hn=>h1 n (x4 _ hn)) (λ n hn=>h2 n (x4 _ hn))
   have hf:=h1 f x6
   have hc:=h2 c x6
   have hp:(f*c).natAbs≤1000000*1000000:=by rw[Int.natAbs_mul];exact Nat.mul_le_mul (by omega) (by omega)
   simp only[List.zipWith_cons_cons,List.sum_cons,List.length_cons]
   omega
theorem uD{f:Fm}(hf:SmF f)(hc:Sm6 cs): -(2 ^ 62)≤atC f cs/\atC f cs<2 ^ 62:=by
 have:=uH f.2 cs hf.2.2.2 hc.2
 have h1:=hf.1
 have h2:=hf.2.1
 have h3:=hc.1
 unfold atC comesTo
 omega
theorem OD(a:Int)(n:Nat):(upI a n).length=n:=by simp[upI]
theorem Bj(h:i<n):(upI a n)[i]? =some (a+i):=by simp[upI,h]
theorem cI(lo hi:Fm)(cs:List Int):(bz lo hi cs).length=(atC hi cs-atC lo cs).toNat:=by simp[bz,OD]
theorem gP{lo hi:Fm}{ahead:List (List Int)}(h:ahead[i]? =some cs):aL lo hi (ahead.take (i+1))=aL lo hi (ahead.take i)++bz lo hi cs:=by
 unfold aL
 rw[bj h,List.flatMap_append];simp
theorem xK{lo hi:Fm}{ahead:List (List Int)}(h:ahead[i]? =some cs):(aL lo hi (ahead.take i)).length+(bz lo hi cs).length≤(aL lo hi ahead).length:=by
 have e:aL lo hi ahead=aL lo hi (ahead.take (i+1))++aL lo hi (ahead.drop (i+1)):=by
  unfold aL
  rw[←List.flatMap_append,List.take_append_drop]
 rw[e,gP h,x8,x8];omega
theorem lL(xs:List (List Int)):ao (xs.map dC)=true:=by
 induction xs with
 | nil=>rfl
 | cons x xs ih=>
   simp only[List.map_cons,ao,ih,Bool.and_true]
   show ao (x.map D.int)=true
   induction x with
   | nil=>rfl
   | cons y ys ih=>simp only[List.map_cons,ao,ih,Bool.and_true];rfl
def xr:Ct:=λ ds S W=>∃ahead lo hi,ds=[.lst (List.map dC ahead),dF lo,dF hi]/\SmF lo/\SmF hi/\(∀cs∈ahead,Sm6 cs)/\ahead.length≤1000000/\(aL lo hi ahead).length≤1000000/\flat S/\hand W ((aL lo hi ahead).map dC) S
theorem jZ(F:Fun Ω.K "with_next_count" "with_next_count" cT f fd)(N0:Ω.cd=none)(B:Bi Ω.mg)(Cq17:Cal Ω "comes_to" 1 2 rN):Ok Ω 2 f fd kh xr:=by
 refine aF N0 (N:=kO) F (Bl.frz (kZ B Cq17)) (by kernel_rfl!) ?_
 rintro ds S W ⟨ahead,lo,hi,rfl,hlo,hhi,hah,hz0,hz,hS,hw⟩ hl
 walk_at "b"
 refine bc ⟨λ i Γ' S'=>(∃o4 o5,Γ'=[some (.lst (ahead.map dC)),some (dF lo),some (dF hi),some (.loc S.length),o4,o5])/\S'=S++[(aL lo hi (ahead.take i)).map dC],⟨⟨_,_,rfl⟩,rfl⟩,?_,?_⟩
 . rintro i e Γ' S' he ⟨⟨o4,o5,rfl⟩,rfl⟩
   rw[y8]at he
   cases e1:ahead[i]? with
   | none=>rw[e1]at he;cases he
   | some cs=>
     rw[e1]at he
     cases he
     have hcs:=hah cs (y4 e1)
     have b1:=uD hlo hcs
     have b2:=uD hhi hcs
     have h64:∀c∈cs,-(2 ^ 64)<c/\c<2 ^ 64:=λ c hc=>by have:=hcs.2 c hc;omega
     walk_at "b"
     refine⟨rfl,lo.1,lo.2,cs,rfl,by have:=hlo.2.2.1;omega,h64,?_⟩
     walk_at "b"
     refine⟨rfl,hi.1,hi.2,cs,rfl,by have:=hhi.2.2.1;omega,h64,?_⟩
     walk_at "b"
     refine⟨⟨b1.1,b1.2,b2.1,b2.2⟩,bc ⟨λ j Γ' S'=>(∃o5,Γ'=[some (.lst (ahead.map dC)),some (dF lo),some (dF hi),some (.loc S.length),some (dC cs),o5])/\S'=S++[(aL lo hi (ahead.take i)++(bz lo hi cs).take j).map dC],⟨⟨_,rfl⟩,by simp⟩,?_,?_⟩⟩
     . rintro j e Γ' S' he ⟨⟨o5,rfl⟩,rfl⟩
       obtain⟨hj,rfl⟩:=bC he
       have hj':j<(bz lo hi cs).length:=by rw[cI];exact hj
       have lf:=xK (lo:=lo) (hi:=hi) e1
       walk_at "b"
       refine⟨by simp;have:=hcs.1;omega,_,bL _ _,by simp;omega,?_⟩
       refine⟨⟨_,rfl⟩,?_⟩
       rw[cj]
       have e3:(bz lo hi cs)[j]? =some (cs++[atC lo cs+(j:Int)]):=by
        unfold bz
        rw[y8,Bj (by rw[cI]at hj';exact hj')];rfl
       have e4:dC (cs++[atC lo cs+(j:Int)])=D.tup (cs.map D.int++[D.int (comesTo lo.1 lo.2 cs+(j:Int))]):=by
        unfold dC;rw[List.map_append];rfl
       rw[bj e3,←List.append_assoc,List.map_append (l₂:=[_]),List.map_singleton,e4]
     . rintro Γ' S' ⟨⟨o5,rfl⟩,rfl⟩
       refine⟨⟨_,_,rfl⟩,?_⟩
       have e5:(bz lo hi cs).take (DL.upTo (comesTo lo.1 lo.2 cs) (comesTo hi.1 hi.2 cs-comesTo lo.1 lo.2 cs).toNat).length=bz lo hi cs:=by
        rw[az];exact List.take_of_length_le (by rw[cI];exact y9 _)
       rw[e5,gP e1]
 . rintro Γ' S' ⟨⟨o4,o5,rfl⟩,rfl⟩
   rw[y7,List.take_length]
   exact jK hw (lL _) hS
def Fits(ls:List Lp):Prop:=(∀l∈ls,SmF l.1/\SmF l.2)/\∀i,i≤ls.length->(cnt (ls.take i)).length≤1000000/\∀cs∈cnt (ls.take i),Sm6 cs
def pJ:Ct:=λ ds S W=>∃ls,ds=[.tup (List.map dL ls)]/\1≤ls.length/\Fits ls/\flat S/\hand W ((cnt ls).map dC) S
theorem jN{ls:List Lp}{l:Lp}(h:ls[i]? =some l):cnt (ls.take (i+1))=aL l.1 l.2 (cnt (ls.take i)):=by
 unfold cnt
 rw[bj h,List.foldl_append];rfl
theorem sW(F:Fun Ω.K "counts_of" "counts_of" fO f fd)(N0:Ω.cd=none)(Cq44:Cal Ω "with_next_count" 2 3 xr):Ok Ω 3 f fd vB pJ:=by
 refine aF N0 (N:=vh) F (Bl.frz (vI Cq44)) (by kernel_rfl!) ?_
 rintro ds S W ⟨ls,rfl,hn,hf,hS,hw⟩ hl
 walk_at "b"
 have turn:∀(i:Nat)(e:D),(ls.map dL)[i]? =some e->∃l,ls[i]? =some l/\e=dL l:=λ i e he=>by
  rw[y8]at he
  cases e1:ls[i]? with
  | none=>rw[e1]at he;cases he
  | some l=>rw[e1]at he;cases he;exact⟨l,rfl,rfl⟩
 have step:∀(i:Nat)(l:Lp)(W:WD),ls[i]? =some l->hand W ((cnt (ls.take (i+1))).map dC) S->xr [.lst ((cnt (ls.take i)).map dC),dF l.1,dF l.2] S W:=λ i l W h w=>by
  have hi:=(z0.mp h).1
  obtain⟨a,b⟩:=hf.1 l (y4 h)
  obtain⟨c,d⟩:=hf.2 i (by omega)
  obtain⟨c',d'⟩:=hf.2 (i+1) (by omega)
  rw[jN h]at c' w
  exact⟨_,_,_,rfl,a,b,d,c,c',hS,w⟩
 rcases hw with hw | hw
 . refine bc ⟨λ i Γ' S'=>(∃o2 o3,Γ'=[some (.tup (ls.map dL)),some (.lst ((cnt (ls.take i)).map dC)),o2,o3])/\S'=S,⟨⟨_,_,rfl⟩,rfl⟩,?_,?_⟩
   . rintro i e Γ' S' he ⟨⟨o2,o3,rfl⟩,rfl⟩
     obtain⟨l,hl',rfl⟩:=turn i e he
     walk_at "b"
     refine⟨rfl,?_⟩
     walk_at "n"
     exact⟨rfl,step i l _ hl' (.inl ⟨⟨_,_,rfl⟩,rfl⟩)⟩
   . rintro Γ' S' ⟨⟨o2,o3,rfl⟩,rfl⟩
     rw[y7,List.take_length]
     exact .inl hw
 . refine bc ⟨λ i Γ' S'=>(i<ls.length/\(∃o2 o3,Γ'=[some (.tup (ls.map dL)),some (.lst ((cnt (ls.take i)).map dC)),o2,o3])/\S'=S)∨(i=ls.length/\(∃o2 o3,Γ'=[some (.tup (ls.map dL)),some (.loc S.length),o2,o3])/\S'=S++[(cnt ls).map dC]),.inl ⟨by omega,⟨_,_,rfl⟩,rfl⟩,?_,?_⟩
   . rintro i e Γ' S' he q
     obtain⟨l,hl',rfl⟩:=turn i e he
     have hi:=(z0.mp hl').1
     rcases q with⟨_,⟨o2,o3,rfl⟩,rfl⟩ | ⟨q,_⟩
     . walk_at "b"
       refine⟨rfl,?_⟩
       walk_at "n"
       by_cases hlast:i+1=ls.length
       . refine⟨rfl,step i l _ hl' (.inr (.inr ⟨hlast,⟨_,_,rfl⟩,?_⟩))⟩
         rw[hlast,List.take_length]
       . exact⟨rfl,step i l _ hl' (.inl (.inl ⟨by omega,⟨_,_,rfl⟩,rfl⟩))⟩
     . omega
   . rintro Γ' S' q
     rw[y7]at q
     rcases q with⟨q,_⟩ | ⟨_,⟨o2,o3,rfl⟩,rfl⟩
     . omega
     . exact .inl hw
def BdF(f:Fm)(k:Nat):Prop:=f.2.length=k/\ -9≤f.1/\f.1≤9/\∀n∈f.2,-2≤n/\n≤2
theorem Dr{g m:Int}(hg: -2≤g/\g≤2)(ha: -m≤a/\a≤m): -(2*m)≤g*a/\g*a≤2*m:=by
 have:g= -2∨g= -1∨g=0∨g=1∨g=2:=by omega
 rcases this with rfl | rfl | rfl | rfl | rfl<;>omega
def bnd:Nat->Int
 | 0=>0
 | 1=>9
 | 2=>27
 | _=>117
def Cs(i:Nat)(cs:List Int):Prop:=cs.length=i/\∀c∈cs,-(bnd i)≤c/\c≤bnd i
theorem jl{f:Fm}(hi:i≤2)(hf:BdF f i)(hc:Cs i cs): -(bnd (i+1))≤atC f cs/\atC f cs≤bnd (i+1):=by
 obtain⟨a,fs⟩:=f
 obtain⟨h1,h2,h3,h4⟩:=hf
 obtain⟨c1,c2⟩:=hc
 dsimp only at h1 h2 h3 h4
 unfold atC comesTo
 have:i=0∨i=1∨i=2:=by omega
 rcases this with rfl | rfl | rfl
 . match fs,cs,h1,c1 with
   | [],[],_,_=>simp[bnd];omega
 . match fs,cs,h1,c1 with
   | [g],[x],_,_=>
     have:=Dr (h4 g (by simp)) (c2 x (by simp))
     simp[bnd]at this ⊢;omega
 . match fs,cs,h1,c1 with
   | [g,g'],[x,x'],_,_=>
     have t1:=Dr (h4 g (by simp)) (c2 x (by simp))
     have t2:=Dr (h4 g' (by simp)) (c2 x' (by simp))
     simp[bnd]at t1 t2 ⊢;omega
theorem Q5:bnd i≤bnd (i+1):=by
 match i with
 | 0=>decide
 | 1=>decide
 | 2=>decide
 | i+3=>exact Int.le_refl _
theorem wu(i:Nat):bnd i≤117:=by
 match i with
 | 0=>decide
 | 1=>decide
 | 2=>decide
 | i+3=>exact Int.le_refl _
theorem Oa{lo hi:Fm}{ds:List Int}(hi2:i≤2)(hlo:BdF lo i)(hhi:BdF hi i)(hc:Cs i cs)(h:ds∈bz lo hi cs):Cs (i+1) ds:=by
 unfold bz at h
 obtain⟨c,hc',rfl⟩:=List.mem_map.mp h
 unfold upI at hc'
 obtain⟨k,hk,rfl⟩:=List.mem_map.mp hc'
 have hk:=List.mem_range.mp hk
 have b1:=jl hi2 hlo hc
 have b2:=jl hi2 hhi hc
 refine⟨by simp[hc.1],λ c h=>?_⟩
 rcases List.mem_append.mp h with h | h
 . have:=hc.2 c h
   have:=Q5 (i:=i)
   omega
 . have:c=atC lo cs+(k:Int):=by simpa using h
   omega
def Lps(ls:List Lp):Prop:=1≤ls.length/\ls.length≤3/\∀(i:Nat)(l:Lp),ls[i]? =some l->BdF l.1 i/\BdF l.2 i
theorem mq{ls:List Lp}(h:Lps ls):∀i,i≤ls.length->∀cs∈cnt (ls.take i),Cs i cs
 | 0,_,cs,hc=>by
   have:cs=[]:=by simpa[cnt]using hc
   subst this
   exact⟨rfl,λ c hc=>by simp at hc⟩
 | i+1,hi,cs,hc=>by
   have hl:=y3 (l:=ls) (i:=i) (by omega)
   rw[jN hl]at hc
   obtain⟨ds,hd,hc⟩:=List.mem_flatMap.mp hc
   have:=h.2.2 i _ hl
   have h3:=h.2.1
   exact Oa (by omega) this.1 this.2 (mq h i (by omega) ds hd) hc
def EY:Nat->Nat
 | 0=>1
 | 1=>18
 | 2=>972
 | _=>227448
theorem pB{lo hi:Fm}{m:Nat}:∀{ahead:List (List Int)},(∀cs∈ahead,(bz lo hi cs).length≤m)->(aL lo hi ahead).length≤ahead.length*m
 | [],_=>by simp[aL]
 | a::as,h=>by
   have ih:=pB (ahead:=as) λ cs hc=>h cs (x4 _ hc)
   have:=h a x6
   unfold aL at ih ⊢
   rw[List.flatMap_cons,x8,List.length_cons,Nat.succ_mul]
   omega
theorem Dm{ls:List Lp}(h:Lps ls):∀i,i≤ls.length->(cnt (ls.take i)).length≤EY i
 | 0,_=>by simp[cnt,EY]
 | i+1,hi=>by
   have hl:=y3 (l:=ls) (i:=i) (by omega)
   have ih:=Dm h i (by omega)
   have h3:=h.2.1
   have hb:=h.2.2 i _ hl
   rw[jN hl]
   have hm:∀cs∈cnt (ls.take i),(bz ls[i].1 ls[i].2 cs).length≤(2*bnd (i+1)).toNat:=λ cs hc=>by
    have c:=mq h i (by omega) cs hc
    have b1:=jl (by omega) hb.1 c
    have b2:=jl (by omega) hb.2 c
    rw[cI];omega
   have:=pB hm
   have:i=0∨i=1∨i=2:=by omega
   rcases this with rfl | rfl | rfl<;>simp[bnd,EY]at* <;>omega
theorem Lps.fits{ls:List Lp}(h:Lps ls):Fits ls:=by
 refine⟨λ l hl=>?_,λ i hi=>⟨?_,λ cs hc=>?_⟩⟩
 . obtain⟨i,hi⟩:=List.getElem?_of_mem hl
   have hl':=(z0.mp hi).1
   have h3:=h.2.1
   obtain⟨⟨a1,a2,a3,a4⟩,b1,b2,b3,b4⟩:=h.2.2 i l hi
   exact⟨⟨by omega,by omega,by omega,λ n hn=>by have:=a4 n hn;omega⟩,by omega,by omega,by omega,λ n hn=>by have:=b4 n hn;omega⟩
 . have:=Dm h i hi
   have h3:=h.2.1
   have:i=0∨i=1∨i=2∨i=3:=by omega
   rcases this with rfl | rfl | rfl | rfl<;>simp only[EY]at* <;>omega
 . have c:=mq h i hi cs hc
   have h3:=h.2.1
   exact⟨by have:=c.1;omega,λ n hn=>by have:=c.2 n hn;have:=wu i;omega⟩
def jT(a b:Int):D->Bool
 | .int n=>decide (a≤n)&&decide (n≤b)
 | _=>false
def pq(n:Int):Bool:=decide ((if n<0 then-n else n)<10 ^ Int.toNat 30)
def rC:D->Bool
 | .int n=>pq n
 | _=>false
def parts:D->List D
 | .tup ds=>ds
 | _=>[]
def f9(x:D):Bool:=bJ x 1 3&&(parts x).all (jT 1 2)
def isPlace(d:Int)(x:D):Bool:=cN x d&&(parts x).all (jT (-99) 99)
def isStart(x:D)(d:Int):Bool:=cN x d&&(parts x).all rC
def iV(t p:D)(ws:List Int)(d:Int):Bool:=match t with
 | .int n=>(decide (0≤n)&&decide (n<(ws.length:Int)))&&(bJ p (ws.getD n.toNat 0) (ws.getD n.toNat 0)&&(parts p).all (isPlace d))
 | _=>false
def jo(ws:List Int)(d:Int)(x:D):Bool:=match x with
 | .tup [f,t,p]=>rC f&&iV t p ws d
 | _=>false
def m8(x:D)(ws:List Int)(d:Int):Bool:=bJ x 0 3&&(parts x).all (jo ws d)
def eE(ws:List Int)(d:Int)(x:D):Bool:=match x with
 | .tup [t,p,s,r]=>iV t p ws d&&(isStart s d&&m8 r ws d)
 | _=>false
def gH(ws:List Int)(x:D):Bool:=match x with
 | .tup [l,ds]=>fj l&&(bJ ds 1 4&&(parts ds).all (eE ws ((parts l).length:Int)))
 | _=>false
def mY(x:D)(ws:List Int):Bool:=bJ x 1 3&&(parts x).all (gH ws)
def Fw:Ct:=λ ds S W=>∃n,ds=[.int n]/\W (.bl (pq n)) S
def wC:Ct:=λ ds S W=>∃x,ds=[x]/\W (.bl (f9 x)) S
def wJ:Ct:=λ ds S W=>∃x d,ds=[x,.int d]/\0≤d/\d≤1000/\W (.bl (isPlace d x)) S
def Cm:Ct:=λ ds S W=>∃x d,ds=[x,.int d]/\0≤d/\d≤1000/\W (.bl (isStart x d)) S
def Ws(ws:List Int):Prop:=ws.length≤3/\∀w∈ws,1≤w/\w≤2
def J2:Ct:=λ ds S W=>∃t p ws d,ds=[t,p,.tup (List.map .int ws),.int d]/\Ws ws/\0≤d/\d≤1000/\W (.bl (iV t p ws d)) S
def Jl:Ct:=λ ds S W=>∃x ws d,ds=[x,.tup (List.map .int ws),.int d]/\Ws ws/\0≤d/\d≤1000/\W (.bl (jo ws d x)) S
def Cq:Ct:=λ ds S W=>∃x ws d,ds=[x,.tup (List.map .int ws),.int d]/\Ws ws/\0≤d/\d≤1000/\W (.bl (m8 x ws d)) S
def Iw:Ct:=λ ds S W=>∃x ws d,ds=[x,.tup (List.map .int ws),.int d]/\Ws ws/\0≤d/\d≤1000/\W (.bl (eE ws d x)) S
def Ie:Ct:=λ ds S W=>∃x ws,ds=[x,.tup (List.map .int ws)]/\Ws ws/\W (.bl (gH ws x)) S
def Dk:Ct:=λ ds S W=>∃x ws,ds=[x,.tup (List.map .int ws)]/\Ws ws/\W (.bl (mY x ws)) S
theorem cZ{ds:List D}{p:D->Bool}(w:W (.bl (ds.all p)) S):fP.wp [.lst (ds.map λ d=>.bl (p d))] S W:=
 ⟨ds.map p,by rw[List.map_map];rfl,by rw[yV];exact w⟩
theorem uv{ds:List D}(h:bJ (.tup ds) a b=true):a≤(ds.length:Int)/\(ds.length:Int)≤b:=by
 obtain⟨h1,h2⟩:=aa h
 exact⟨of_decide_eq_true h1,of_decide_eq_true h2⟩
theorem cH{x:D}(h:bJ x a b=true):∃ds,x=.tup ds/\a≤(ds.length:Int)/\(ds.length:Int)≤b:=by
 cases x with
 | tup ds=>exact⟨ds,rfl,uv h⟩
 | _=>exact ff h
theorem nC{n:Int}{Q:WD}(hq:Q (.bl (jT a b (.int n))) S):(decide (a≤n)=false->Q (.bl false) S)/\(decide (a≤n)=true->Q (.bl (decide (n≤b))) S):=by
 have e:jT a b (.int n)=(decide (a≤n)&&decide (n≤b)):=rfl
 rw[e]at hq
 exact⟨λ h=>by rw[h]at hq;exact hq,λ h=>by rw[h]at hq;exact hq⟩
theorem jR(F:Fun Ω.K "has_few_figures" "has_few_figures" cQ f fd)(N0:Ω.cd=none)(B:Bi Ω.mg):Ok Ω 1 f fd kI Fw:=by
 refine aF N0 (N:=kY) F (kj B) (by kernel_rfl!) ?_
 rintro ds S W ⟨n,rfl,hw⟩ hl
 walk_at "b"
 exact hw
theorem rY(F:Fun Ω.K "is_widths" "is_widths" fQ f fd)(N0:Ω.cd=none)(B:Bi Ω.mg)(Cq34:Cal Ω "is_whole" 1 1 jw)(Cq33:Cal Ω "is_tuple_of" 1 3 d8):Ok Ω 2 f fd vp wC:=by
 refine aF N0 (N:=vG) F (vD B Cq34 Cq33) (by kernel_rfl!) ?_
 rintro ds S W ⟨x,rfl,hw⟩ hl
 walk_at "b"
 refine⟨rfl,_,_,_,rfl,?_⟩
 walk_at "b"
 unfold f9 at hw
 refine⟨λ h=>?_,λ h=>by rw[h]at hw;exact hw⟩
 rw[h]at hw
 obtain⟨ds,rfl,l1,l2⟩:=cH h
 walk_at "b"
 refine cY (λ d=>.bl (jT 1 2 d)) (by omega) ?_ (cZ hw)
 intro i e he Q hq
 walk_at "b"
 refine⟨rfl,_,rfl,?_⟩
 cases e with
 | int n=>
   walk_at "b"
   refine⟨(nC hq).1,λ h=>?_⟩
   walk_at "b"
   exact(nC hq).2 h
 | _=>walk_at "b";exact hq
theorem lu(F:Fun Ω.K "is_place_form" "is_place_form" dw f fd)(N0:Ω.cd=none)(B:Bi Ω.mg)(Cq23:Cal Ω "is_form" 2 2 qt):Ok Ω 3 f fd nQ wJ:=by
 refine aF N0 (N:=nJ) F (nM B Cq23) (by kernel_rfl!) ?_
 rintro ds S W ⟨x,d,rfl,hd0,hd,hw⟩ hl
 walk_at "b"
 refine⟨rfl,_,_,rfl,hd,?_⟩
 walk_at "b"
 unfold isPlace at hw
 refine⟨λ h=>?_,λ h=>by rw[h]at hw;exact hw⟩
 rw[h]at hw
 obtain⟨a,fs,rfl,hf⟩:=iJ h hd0
 walk_at "b"
 refine cY (λ d=>.bl (jT (-99) 99 d)) (by simp;omega) ?_ (cZ hw)
 intro i e he Q hq
 have:∃n,e=.int n:=by
  have:=y4 he
  rcases List.mem_cons.mp this with rfl | h
  . exact⟨_,rfl⟩
  . obtain⟨n,_,rfl⟩:=List.mem_map.mp h
    exact⟨n,rfl⟩
 obtain⟨n,rfl⟩:=this
 walk_at "b"
 refine⟨(nC hq).1,λ h=>?_⟩
 walk_at "b"
 exact(nC hq).2 h
theorem uT(F:Fun Ω.K "is_start" "is_start" gn f fd)(N0:Ω.cd=none)(B:Bi Ω.mg)(Cq23:Cal Ω "is_form" 2 2 qt)(Cq20:Cal Ω "has_few_figures" 1 1 Fw):Ok Ω 3 f fd wY Cm:=by
 refine aF N0 (N:=vZ) F (yS B Cq23 Cq20) (by kernel_rfl!) ?_
 rintro ds S W ⟨x,d,rfl,hd0,hd,hw⟩ hl
 walk_at "b"
 refine⟨rfl,_,_,rfl,hd,?_⟩
 walk_at "b"
 unfold isStart at hw
 refine⟨λ h=>?_,λ h=>by rw[h]at hw;exact hw⟩
 rw[h]at hw
 obtain⟨a,fs,rfl,hf⟩:=iJ h hd0
 walk_at "b"
 refine cY (λ d=>.bl (rC d)) (by simp;omega) ?_ (cZ hw)
 intro i e he Q hq
 have:∃n,e=.int n:=by
  have:=y4 he
  rcases List.mem_cons.mp this with rfl | h
  . exact⟨_,rfl⟩
  . obtain⟨n,_,rfl⟩:=List.mem_map.mp h
    exact⟨n,rfl⟩
 obtain⟨n,rfl⟩:=this
 walk_at "b"
 exact⟨rfl,_,rfl,hq⟩
theorem gW(F:Fun Ω.K "is_table_with_place" "is_table_with_place" cu f fd)(N0:Ω.cd=none)(B:Bi Ω.mg)(Cq34:Cal Ω "is_whole" 1 1 jw)(Cq33:Cal Ω "is_tuple_of" 1 3 d8)(Cq28:Cal Ω "is_place_form" 3 2 wJ):Ok Ω 4 f fd ik J2:=by
 refine aF N0 (N:=ig) F (ie B Cq34 Cq33 Cq28) (by kernel_rfl!) ?_
 rintro ds S W ⟨t,p,ws,d,rfl,hws,hd0,hd,hw⟩ hl
 walk_at "b"
 refine⟨rfl,_,rfl,?_⟩
 cases t with
 | int n=>
   have e:iV (.int n) p ws d=((decide (0≤n)&&decide (n<(ws.length:Int)))&&(bJ p (ws.getD n.toNat 0) (ws.getD n.toNat 0)&&(parts p).all (isPlace d))):=rfl
   rw[e]at hw
   have hl3:((ws.map D.int).length:Int)=(ws.length:Int):=by rw[y7]
   walk_at "b"
   refine⟨λ h=>?_,λ h=>?_⟩
   . rw[h]at hw
     walk_at "b"
     exact hw
   rw[h,Bool.true_and]at hw
   walk_at "b"
   rw[hl3]
   refine⟨λ h2=>?_,λ h2=>?_⟩
   . have h2:decide (n<(ws.length:Int))=false:=nt h2
     rw[h2]at hw
     walk_at "b"
     exact hw
   have h2:decide (n<(ws.length:Int))=true:=by
    cases q:decide (n<(ws.length:Int))with
    | true=>rfl
    | false=>rw[q]at h2;exact tf h2
   rw[h2,Bool.true_and]at hw
   have h0:=of_decide_eq_true h
   have h1:=of_decide_eq_true h2
   have hk:n.toNat<ws.length:=by omega
   have ew:ws.getD n.toNat 0=ws[n.toNat]:=by simp[List.getD,hk]
   have at1:atI (ws.map D.int) n=some (.int (ws.getD n.toNat 0)):=by
    have:=aU (xs:=ws.map D.int) (j:=n.toNat) (v:=.int ws[n.toNat]) (by rw[y8,y3 hk];rfl)
    rw[Int.toNat_of_nonneg h0]at this
    rw[ew];exact this
   have hw12:=hws.2 _ (List.getElem_mem hk)
   rw[←ew]at hw12
   generalize ws.getD n.toNat 0=w at at1 hw hw12
   walk_at "b"
   refine⟨_,at1,?_⟩
   walk_at "b"
   refine⟨_,at1,?_⟩
   walk_at "b"
   refine⟨rfl,_,_,_,rfl,?_⟩
   walk_at "b"
   refine⟨λ h3=>?_,λ h3=>by rw[h3]at hw;exact hw⟩
   rw[h3]at hw
   obtain⟨ds,rfl,l1,l2⟩:=cH h3
   walk_at "b"
   refine cY (λ x=>.bl (isPlace d x)) (by omega) ?_ (cZ hw)
   intro i e he Q hq
   walk_at "b"
   exact⟨rfl,_,_,rfl,hd0,hd,hq⟩
 | _=>walk_at "b";exact hw
theorem wK(F:Fun Ω.K "is_read" "is_read" iZ f fd)(N0:Ω.cd=none)(Cq34:Cal Ω "is_whole" 1 1 jw)(Cq33:Cal Ω "is_tuple_of" 1 3 d8)(Cq20:Cal Ω "has_few_figures" 1 1 Fw)(Cq32:Cal Ω "is_table_with_place" 4 4 J2):Ok Ω 5 f fd z8 Jl:=by
 refine aF N0 (N:=zM) F (zK Cq34 Cq33 Cq20 Cq32) (by kernel_rfl!) ?_
 rintro ds S W ⟨x,ws,d,rfl,hws,hd0,hd,hw⟩ hl
 walk_at "b"
 refine⟨rfl,_,_,_,rfl,?_⟩
 cases h:bJ x 3 3 with
 | false=>
   have e:jo ws d x=false:=by
    cases x with
    | tup ds=>
      match ds,h with
      | [a,b,c],h=>exact tf h
      | [],_=>rfl
      | [_],_=>rfl
      | [_,_],_=>rfl
      | _::_::_::_::_,_=>rfl
    | _=>rfl
   rw[e]at hw
   walk_at "b"
   exact hw
 | true=>
   obtain⟨ds,rfl,l1,l2⟩:=cH h
   match ds,l1,l2,hw with
   | [f, t,p],_,_,hw=>
     walk_at "b"
     refine⟨rfl,_,rfl,?_⟩
     have e:jo ws d (.tup [f,t,p])=(rC f&&iV t p ws d):=rfl
     rw[e]at hw
     cases f with
     | int n=>
       walk_at "b"
       refine⟨rfl,_,rfl,?_⟩
       have e:rC (.int n)=pq n:=rfl
       rw[e]at hw
       cases h2:pq n with
       | true=>
         rw[h2]at hw
         walk_at "b"
         exact⟨rfl,_,_,_,_,rfl,hws,hd0,hd,hw⟩
       | false=>
         rw[h2]at hw
         walk_at "b"
         exact hw
     | _=>walk_at "b";exact hw
   | [],l1,_,_=>simp at l1
   | [_],l1,_,_=>simp at l1
   | [_,_],l1,_,_=>simp at l1
   | _::_::_::_::es,_,l2,_=>simp at l2;omega
theorem vq(F:Fun Ω.K "is_reads" "is_reads" gK f fd)(N0:Ω.cd=none)(B:Bi Ω.mg)(Cq33:Cal Ω "is_tuple_of" 1 3 d8)(Cq29:Cal Ω "is_read" 5 3 Jl):Ok Ω 6 f fd zj Cq:=by
 refine aF N0 (N:=v7) F (ym B Cq33 Cq29) (by kernel_rfl!) ?_
 rintro ds S W ⟨x,ws,d,rfl,hws,hd0,hd,hw⟩ hl
 walk_at "b"
 refine⟨rfl,_,_,_,rfl,?_⟩
 walk_at "b"
 unfold m8 at hw
 refine⟨λ h=>?_,λ h=>by rw[h]at hw;exact hw⟩
 rw[h]at hw
 obtain⟨ds,rfl,l1,l2⟩:=cH h
 walk_at "b"
 refine cY (λ x=>.bl (jo ws d x)) (by omega) ?_ (cZ hw)
 intro i e he Q hq
 walk_at "b"
 exact⟨rfl,_,_,_,rfl,hws,hd0,hd,hq⟩
theorem v4(F:Fun Ω.K "is_deed" "is_deed" jb f fd)(N0:Ω.cd=none)(Cq33:Cal Ω "is_tuple_of" 1 3 d8)(Cq31:Cal Ω "is_start" 3 2 Cm)(Cq32:Cal Ω "is_table_with_place" 4 4 J2)(Cq30:Cal Ω "is_reads" 6 3 Cq):Ok Ω 7 f fd zJ Iw:=by
 refine aF N0 (N:=zx) F (z6 Cq33 Cq31 Cq32 Cq30) (by kernel_rfl!) ?_
 rintro ds S W ⟨x,ws,d,rfl,hws,hd0,hd,hw⟩ hl
 walk_at "b"
 refine⟨rfl,_,_,_,rfl,?_⟩
 cases h:bJ x 4 4 with
 | false=>
   have e:eE ws d x=false:=by
    cases x with
    | tup ds=>
      match ds,h with
      | [a,b,c,d],h=>exact tf h
      | [],_=>rfl
      | [_],_=>rfl
      | [_,_],_=>rfl
      | [_,_,_],_=>rfl
      | _::_::_::_::_::_,_=>rfl
    | _=>rfl
   rw[e]at hw
   walk_at "b"
   exact hw
 | true=>
   obtain⟨ds,rfl,l1,l2⟩:=cH h
   match ds,l1,l2,hw with
   | [t, p,s,r],_,_,hw=>
     have e:eE ws d (.tup [t,p,s,r])=(iV t p ws d&&(isStart s d&&m8 r ws d)):=rfl
     rw[e]at hw
     walk_at "b"
     refine⟨rfl,_,_,_,_,rfl,hws,hd0,hd,?_⟩
     cases h2:iV t p ws d with
     | false=>
       rw[h2]at hw
       walk_at "b"
       exact hw
     | true=>
       rw[h2,Bool.true_and]at hw
       walk_at "b"
       refine⟨rfl,_,_,rfl,hd0,hd,?_⟩
       cases h3:isStart s d with
       | false=>
         rw[h3]at hw
         walk_at "b"
         exact hw
       | true=>
         rw[h3,Bool.true_and]at hw
         walk_at "b"
         exact⟨rfl,_,_,_,rfl,hws,hd0,hd,hw⟩
   | [],l1,_,_=>simp at l1
   | [_],l1,_,_=>simp at l1
   | [_,_],l1,_,_=>simp at l1
   | [_,_,_],l1,_,_=>simp at l1
   | _::_::_::_::_::es,_,l2,_=>simp at l2;omega
theorem za(F:Fun Ω.K "is_nest" "is_nest" iR f fd)(N0:Ω.cd=none)(B:Bi Ω.mg)(Cq33:Cal Ω "is_tuple_of" 1 3 d8)(Cq25:Cal Ω "is_loops" 5 1 BR)(Cq22:Cal Ω "is_deed" 7 3 Iw):Ok Ω 8 f fd Av Ie:=by
 refine aF N0 (N:=zE) F (zr B Cq33 Cq25 Cq22) (by kernel_rfl!) ?_
 rintro ds S W ⟨x,ws,rfl,hws,hw⟩ hl
 walk_at "b"
 refine⟨rfl,_,_,_,rfl,?_⟩
 cases h:bJ x 2 2 with
 | false=>
   have e:gH ws x=false:=by
    cases x with
    | tup ds=>
      match ds,h with
      | [a,b],h=>exact tf h
      | [],_=>rfl
      | [_],_=>rfl
      | _::_::_::_,_=>rfl
    | _=>rfl
   rw[e]at hw
   walk_at "b"
   exact hw
 | true=>
   obtain⟨ds,rfl,l1,l2⟩:=cH h
   match ds,l1,l2,hw with
   | [l, dd],_,_,hw=>
     have e:gH ws (.tup [l,dd])=(fj l&&(bJ dd 1 4&&(parts dd).all (eE ws ((parts l).length:Int)))):=rfl
     rw[e]at hw
     walk_at "b"
     refine⟨rfl,_,rfl,?_⟩
     cases h2:fj l with
     | false=>
       rw[h2]at hw
       walk_at "b"
       exact hw
     | true=>
       rw[h2,Bool.true_and]at hw
       cases l with
       | tup ls=>
         have hlen:(ls.length:Int)≤3:=of_decide_eq_true (aa (aa h2).1).2
         have hw:W (.bl (bJ dd 1 4&&(parts dd).all (eE ws (ls.length:Int)))) S:=hw
         walk_at "b"
         refine⟨rfl,_,_,_,rfl,?_⟩
         walk_at "b"
         refine⟨λ h3=>?_,λ h3=>by rw[h3]at hw;exact hw⟩
         rw[h3]at hw
         obtain⟨es,rfl,l1,l2⟩:=cH h3
         walk_at "b"
         refine cY (λ x=>.bl (eE ws (ls.length:Int) x)) (by omega) ?_ (cZ hw)
         intro i e he Q hq
         walk_at "b"
         exact⟨rfl,_,_,_,rfl,hws,by omega,by omega,hq⟩
       | _=>exact ff h2
   | [],l1,_,_=>simp at l1
   | [_],l1,_,_=>simp at l1
   | _::_::_::es,_,l2,_=>simp at l2;omega
theorem uQ(F:Fun Ω.K "is_nests" "is_nests" gk f fd)(N0:Ω.cd=none)(B:Bi Ω.mg)(Cq33:Cal Ω "is_tuple_of" 1 3 d8)(Cq26:Cal Ω "is_nest" 8 2 Ie):Ok Ω 9 f fd wy Dk:=by
 refine aF N0 (N:=zq) F (wU B Cq33 Cq26) (by kernel_rfl!) ?_
 rintro ds S W ⟨x,ws,rfl,hws,hw⟩ hl
 walk_at "b"
 refine⟨rfl,_,_,_,rfl,?_⟩
 walk_at "b"
 unfold mY at hw
 refine⟨λ h=>?_,λ h=>by rw[h]at hw;exact hw⟩
 rw[h]at hw
 obtain⟨ds,rfl,l1,l2⟩:=cH h
 walk_at "b"
 refine cY (λ x=>.bl (gH ws x)) (by omega) ?_ (cZ hw)
 intro i e he Q hq
 walk_at "b"
 exact⟨rfl,_,_,rfl,hws,hq⟩
structure Rd where
 fac:Int
 tab:Nat
 pl:List Fm
structure Dd where
 tab:Nat
 pl:List Fm
 st:Fm
 rds:List Rd
structure Ns where
 lps:List Lp
 dds:List Dd
structure Pg where
 ws:List Int
 nss:List Ns
def dP(pl:List Fm):D:=.tup (pl.map dF)
def dRd(r:Rd):D:=.tup [.int r.fac,.int r.tab,dP r.pl]
def dDd(x:Dd):D:=.tup [.int x.tab,dP x.pl,dF x.st,.tup (x.rds.map dRd)]
def dNs(n:Ns):D:=.tup [.tup (n.lps.map dL),.tup (n.dds.map dDd)]
def dWs(ws:List Int):D:=.tup (ws.map .int)
def dPg(p:Pg):D:=.tup [dWs p.ws,.tup (p.nss.map dNs)]
def many(nss:List Ns):Int:=(nss.map λ n=>((cnt n.lps).length:Int)*(n.dds.length:Int)).sum
def mG(n:Ns):Prop:=1≤n.lps.length/\Fits n.lps/\n.dds.length≤1000
def Ho:Ct:=λ ds S W=>∃nss,ds=[.tup (List.map dNs nss)]/\nss.length≤1000/\(∀n∈nss,mG n)/\flat S/\W (.int (many nss)) S
def wX:Ct:=λ ds S W=>∃p:Pg,ds=[dWs p.ws,.tup (List.map dNs p.nss)]/\f9 (dWs p.ws)=true/\mY (.tup (p.nss.map dNs)) p.ws=true/\p.nss.length≤1000/\(∀n∈p.nss,mG n)/\many p.nss≤60/\flat S/\W (dPg p) S
theorem GF(h:f9 (dWs ws)=true):Ws ws:=by
 obtain⟨h1,h2⟩:=aa h
 have:=uv h1
 refine⟨by simp at this;omega,λ w hw=>?_⟩
 have h3:=List.all_eq_true.mp h2 (.int w) (List.mem_map.mpr ⟨w,hw,rfl⟩)
 obtain⟨a,b⟩:=aa h3
 exact⟨of_decide_eq_true a,of_decide_eq_true b⟩
theorem jD(F:Fun Ω.K "number_of_steps" "number_of_steps" cR f fd)(N0:Ω.cd=none)(B:Bi Ω.mg)(Cq18:Cal Ω "counts_of" 3 1 pJ):Ok Ω 4 f fd lg Ho:=by
 refine aF N0 (N:=kJ) F (lr B Cq18) (by kernel_rfl!) ?_
 rintro ds S W ⟨nss,rfl,hz,hok,hS,hw⟩ hl
 walk_at "b"
 refine d9 (λ n=>.int (((cnt n.lps).length:Int)*(n.dds.length:Int))) (by omega) ?_ ?_
 . intro i n hn Q hq
   obtain⟨h1,h2,h3⟩:=hok n (y4 hn)
   have h4:=(h2.2 n.lps.length (y9 _)).1
   rw[List.take_length]at h4
   walk_at "b"
   refine⟨rfl,?_⟩
   walk_at "b"
   refine⟨rfl,_,rfl,h1,h2,hS,.inl ?_⟩
   have e1:(((cnt n.lps).map dC).length:Int)=((cnt n.lps).length:Int):=by rw[y7]
   have e2:((n.dds.map dDd).length:Int)=(n.dds.length:Int):=by rw[y7]
   walk_at "n"
   rw[e1,e2]
   exact⟨.inl ⟨by omega,by omega⟩,hq⟩
 . exact⟨nss.map λ(n:Ns)=>((cnt n.lps).length:Int)*(n.dds.length:Int),by rw[List.map_map];rfl,hw⟩
theorem qI(F:Fun Ω.K "program_of" "program_of" fu f fd)(N0:Ω.cd=none)(B:Bi Ω.mg)(Cq35:Cal Ω "is_widths" 2 1 wC)(Cq27:Cal Ω "is_nests" 9 2 Dk)(Cq36:Cal Ω "number_of_steps" 4 1 Ho):Ok Ω 10 f fd su wX:=by
 refine aF N0 (N:=rK) F (sU B Cq35 Cq27 Cq36) (by kernel_rfl!) ?_
 rintro ds S W ⟨p,rfl,h1,h2,hz,hok,h60,hS,hw⟩ hl
 have hws:=GF h1
 walk_at "b"
 refine⟨rfl,_,rfl,?_⟩
 rw[h1]
 walk_at "b"
 refine⟨rfl,_,_,rfl,hws,?_⟩
 rw[h2]
 walk_at "b"
 refine⟨rfl,_,rfl,hz,hok,hS,?_⟩
 walk_at "b"
 rw[decide_eq_false (by omega)]
 walk_at "b"
 exact hw
abbrev Stp:=Nat×List Int×Nat
def dSt(s:Stp):D:=.tup [.int s.1,dC s.2.1,.int s.2.2]
def bQ(i:Nat)(n:Ns):List Stp:=(cnt n.lps).flatMap λ cs=>(List.range n.dds.length).map λ s=>(i,cs,s)
def ak(nss:List Ns):List Stp:=(nss.mapIdx bQ).flatten
def jd:Ct:=λ ds S W=>∃p:Pg,ds=[dPg p]/\p.nss.length≤1000/\(∀n∈p.nss,mG n)/\(ak p.nss).length≤1000000/\flat S/\hand W ((ak p.nss).map dSt) S
theorem dz{nss:List Ns}{n:Ns}(h:nss[i]? =some n):ak (nss.take (i+1))=ak (nss.take i)++bQ i n:=by
 unfold ak
 rw[bj h,List.mapIdx_append,List.flatten_append]
 have hi:=(z0.mp h).1
 simp only[List.mapIdx_cons,List.mapIdx_nil,List.flatten_cons,List.flatten_nil,List.append_nil,List.length_take]
 rw[Nat.min_eq_left (by omega),Nat.zero_add]
theorem qP(xs:List Stp):ao (xs.map dSt)=true:=by
 induction xs with
 | nil=>rfl
 | cons x xs ih=>
   simp only[List.map_cons,ao,ih,Bool.and_true]
   have:=lL [x.2.1]
   simp only[List.map_cons,List.map_nil,ao,Bool.and_true]at this
   show ao [D.int _,dC x.2.1,D.int _]=true
   simp only[ao,this,Bool.and_true];rfl
theorem Gf(h:flat S)(hl:ao l=true):flat (S++[l]):=λ x hx=>by
 rcases List.mem_append.mp hx with q | q
 . exact h x q
 . rw[List.mem_singleton.mp q];exact hl
theorem HF{nss:List Ns}{n:Ns}(h:nss[i]? =some n):(ak (nss.take i)).length+(bQ i n).length≤(ak nss).length:=by
 have e:∃more,ak nss=ak (nss.take (i+1))++more:=by
  unfold ak
  conv=>enter [1,more,1,1];rw[←List.take_append_drop (i+1) nss]
  rw[List.mapIdx_append,List.flatten_append]
  exact⟨_,rfl⟩
 obtain⟨more,e⟩:=e
 rw[e,dz h,x8,x8];omega
theorem uY(F:Fun Ω.K "steps_of" "steps_of" gq f fd)(N0:Ω.cd=none)(B:Bi Ω.mg)(Cq18:Cal Ω "counts_of" 3 1 pJ):Ok Ω 4 f fd xj jd:=by
 refine aF N0 (N:=wN) F (Bl.frz (yc B Cq18)) (by kernel_rfl!) ?_
 rintro ds S W ⟨p,rfl,hz,hok,hlen,hS,hw⟩ hl
 walk_at "b"
 refine bc ⟨λ i Γ' S'=>(∃o2 o3 o4 o5,Γ'=[some (dPg p),some (.loc S.length),o2,o3,o4,o5])/\S'=S++[(ak (p.nss.take i)).map dSt],⟨⟨_,_,_,_,rfl⟩,rfl⟩,?_,?_⟩
 . rintro i e Γ' S' he ⟨⟨o2,o3,o4,o5,rfl⟩,rfl⟩
   obtain⟨e',he',rfl⟩:=Ce he
   obtain⟨n,hn,rfl⟩:=cG he'
   obtain⟨h1,h2,h3⟩:=hok n (y4 hn)
   have lf:=HF hn
   walk_at "b"
   refine⟨rfl,?_⟩
   walk_at "b"
   refine⟨rfl,_,rfl,h1,h2,Gf hS (qP _),.inl ?_⟩
   walk_at "n"
   refine bc ⟨λ j Γ' S'=>(∃o4 o5,Γ'=[some (dPg p),some (.loc S.length),some (.int (i:Int)),some (dNs n),o4,o5])/\S'=S++[(ak (p.nss.take i)++((cnt n.lps).take j).flatMap λ cs=>(List.range n.dds.length).map λ s=>(i,cs,s)).map dSt],⟨⟨_,_,rfl⟩,by simp⟩,?_,?_⟩
   . rintro j e Γ' S' he ⟨⟨o4,o5,rfl⟩,rfl⟩
     obtain⟨cs,hcs,rfl⟩:=cG he
     have e2:((n.dds.map dDd).length:Int)=(n.dds.length:Int):=by rw[y7]
     have lj:((cnt n.lps).take j |>.flatMap λ cs=>(List.range n.dds.length).map λ s=>(i,cs,s)).length+n.dds.length≤(bQ i n).length:=by
      have:∃more,bQ i n=((cnt n.lps).take (j+1) |>.flatMap λ cs=>(List.range n.dds.length).map λ s=>(i,cs,s))++more:=by
       unfold bQ
       conv=>enter [1,more,1,2];rw[←List.take_append_drop (j+1) (cnt n.lps)]
       rw[List.flatMap_append]
       exact⟨_,rfl⟩
      obtain⟨more,em⟩:=this
      rw[em,bj hcs,List.flatMap_append,x8,x8]
      simp
     walk_at "b"
     rw[e2]
     refine⟨⟨by omega,by omega⟩,bc ⟨λ t Γ' S'=>(∃o5,Γ'=[some (dPg p),some (.loc S.length),some (.int (i:Int)),some (dNs n),some (dC cs),o5])/\S'=S++[((ak (p.nss.take i)++((cnt n.lps).take j).flatMap λ cs=>(List.range n.dds.length).map λ s=>(i,cs,s))++(List.range t).map λ s=>(i,cs,s)).map dSt],⟨⟨_,rfl⟩,by simp⟩,?_,?_⟩⟩
     . rintro t e Γ' S' he ⟨⟨o5,rfl⟩,rfl⟩
       obtain⟨ht,rfl⟩:=bC he
       have ez:(0:Int)+(t:Int)=(t:Int):=by omega
       rw[ez]
       walk_at "b"
       refine⟨_,bL _ _,by simp only[y7,x8,List.length_range];omega,?_⟩
       refine⟨⟨_,rfl⟩,?_⟩
       rw[cj,List.range_succ]
       simp only[List.map_append,List.map_cons,List.map_nil,List.append_assoc]
       rfl
     . rintro Γ' S' ⟨⟨o5,rfl⟩,rfl⟩
       refine⟨⟨_,_,rfl⟩,?_⟩
       rw[az,bj hcs,List.flatMap_append,List.flatMap_singleton,←List.append_assoc,Int.toNat_natCast]
   . rintro Γ' S' ⟨⟨o4,o5,rfl⟩,rfl⟩
     refine⟨⟨_,_,_,_,rfl⟩,?_⟩
     rw[y7,List.take_length,dz hn];rfl
 . rintro Γ' S' ⟨⟨o2,o3,o4,o5,rfl⟩,rfl⟩
   have e:((p.nss.map dNs).mapIdx λ i d=>D.tup [D.int (i:Int),d]).length=p.nss.length:=by simp
   rw[e,List.take_length]
   exact jK hw (qP _) hS
def wG:Ct:=λ ds S W=>∃(p:Pg) (s:Stp) (n:Ns) (x:Dd),ds=[dPg p,dSt s]/\p.nss[s.1]? =some n/\n.dds[s.2.2]? =some x/\W (dDd x) S
abbrev Cell:=Nat×List Int
def aH(c:Cell):D:=.tup [.int c.1,.tup (c.2.map .int)]
def C64(cs:List Int):Prop:=∀c∈cs,-(2 ^ 64)<c/\c<2 ^ 64
def Ez(pl:List Fm):Prop:=pl.length≤1000/\∀f∈pl,f.2.length≤1000
def spot(t:Nat)(pl:List Fm)(cs:List Int):Cell:=(t,pl.map λ f=>atC f cs)
def xX:Ct:=λ ds S W=>∃(t:Nat) (pl:List Fm) (cs:List Int),ds=[.int t,dP pl,dC cs]/\Ez pl/\C64 cs/\W (aH (spot t pl cs)) S
theorem xR(F:Fun Ω.K "deed_of" "deed_of" iM f fd)(N0:Ω.cd=none):Ok Ω 1 f fd zV wG:=by
 refine aF N0 (N:=Al) F (Ab) (by kernel_rfl!) ?_
 rintro ds S W ⟨p,⟨i,cs,t⟩,n,x,rfl,hn,hx,hw⟩ hl
 have a1:atI (p.nss.map dNs) ((i:Nat):Int)=some (dNs n):=aU (by rw[y8,hn];rfl)
 have a2:atI (n.dds.map dDd) ((t:Nat):Int)=some (dDd x):=aU (by rw[y8,hx];rfl)
 walk_at "b"
 refine⟨_,a1,?_⟩
 walk_at "b"
 exact⟨_,a2,hw⟩
theorem xq(F:Fun Ω.K "cell_at" "cell_at" jc f fd)(N0:Ω.cd=none)(B:Bi Ω.mg)(Cq17:Cal Ω "comes_to" 1 2 rN):Ok Ω 2 f fd zF xX:=by
 refine aF N0 (N:=zW) F (zN B Cq17) (by kernel_rfl!) ?_
 rintro ds S W ⟨t,pl,cs,rfl,hpl,hcs,hw⟩ hl
 walk_at "b"
 refine d9 (λ f=>.int (atC f cs)) (by have:=hpl.1;omega) ?_ ?_
 . intro i f hf Q hq
   walk_at "b"
   exact⟨rfl,f.1,f.2,cs,rfl,hpl.2 f (y4 hf),hcs,hq⟩
 . walk_at "b"
   have e:(spot t pl cs).2.map D.int=pl.map λ f=>D.int (atC f cs):=by unfold spot;rw[List.map_map];rfl
   unfold aH at hw
   rw[e]at hw
   exact hw
def dCs(x:Dd)(cs:List Int):D:=.tup [aH (spot x.tab x.pl cs),.lst (x.rds.map λ r=>aH (spot r.tab r.pl cs))]
def Kg(x:Dd):Prop:=Ez x.pl/\x.rds.length≤1000/\∀r∈x.rds,Ez r.pl
def oh:Ct:=λ ds S W=>∃(p:Pg) (s:Stp) (n:Ns) (x:Dd),ds=[dPg p,dSt s]/\p.nss[s.1]? =some n/\n.dds[s.2.2]? =some x/\Kg x/\C64 s.2.1/\W (dCs x s.2.1) S
theorem mH(F:Fun Ω.K "cells_of_step" "cells_of_step" dq f fd)(N0:Ω.cd=none)(Cq19:Cal Ω "deed_of" 1 2 wG)(Cq14:Cal Ω "cell_at" 2 3 xX):Ok Ω 3 f fd nH oh:=by
 refine aF N0 (N:=nO) F (nU Cq19 Cq14) (by kernel_rfl!) ?_
 rintro ds S W ⟨p,⟨i,cs,t⟩,n,x,rfl,hn,hx,hok,hcs,hw⟩ hl
 walk_at "b"
 refine⟨rfl,p,(i,cs,t),n,x,rfl,hn,hx,?_⟩
 walk_at "b"
 refine d9 (λ r=>aH (spot r.tab r.pl cs)) (by have:=hok.2.1;omega) ?_ ?_
 . intro j r hr Q hq
   walk_at "b"
   refine⟨rfl,?_⟩
   walk_at "b"
   exact⟨rfl,r.tab,r.pl,cs,rfl,hok.2.2 r (y4 hr),hcs,hq⟩
 . walk_at "b"
   refine⟨rfl,x.tab,x.pl,cs,rfl,hok.1,hcs,?_⟩
   walk_at "b"
   exact hw
def iW(ns:List Int)(c n:Int):List D:=[.int c,.int n,.lst (ns.map .int)]
def aR(S:Store)(k:Nat):Prop:=∃ns c n,S[k]? =some (iW ns c n)/\0≤n
def aW(S:Store)(k:Nat)(S':Store):Prop:=∃ns c n,S'=S.set k (iW ns c n)/\0≤n
theorem aW.trans{S1 S2:Store}(a:aW S k S1)(b:aW S1 k S2):aW S k S2:=by
 obtain⟨_,_,_,rfl,_⟩:=a
 obtain⟨ns,c,n,rfl,hn⟩:=b
 exact⟨ns,c,n,by rw[List.set_set],hn⟩
theorem aW.refl(p:aR S k):aW S k S:=by
 obtain⟨ns,c,n,h,hn⟩:=p
 exact⟨ns,c,n,by
  obtain⟨hl,e⟩:=z0.mp h
  rw[←e,List.set_getElem_self],hn⟩
theorem aW.len{S':Store}(u:aW S k S'):S'.length=S.length:=by
 obtain⟨_,_,_,rfl,_⟩:=u
 simp
theorem aW.pen{S':Store}(p:aR S k)(u:aW S k S'):aR S' k:=by
 obtain⟨_,_,_,h,_⟩:=p
 obtain⟨ns,c,n,rfl,hn⟩:=u
 exact⟨ns,c,n,set_get h,hn⟩
theorem aR.lt(p:aR S k):k<S.length:=by
 obtain⟨_,_,_,h,_⟩:=p
 exact(z0.mp h).1
theorem aR.app(J:Store)(p:aR S k):aR (S++J) k:=by
 have hl:=p.lt
 obtain⟨ns,c,n,h,hn⟩:=p
 exact⟨ns,c,n,by rw[x9 hl];exact h,hn⟩
theorem aW.split{T:Store}(p:aR S k)(u:aW (S++J) k T):∃S',T=S'++J/\aW S k S'/\aR S' k:=by
 have hl:=p.lt
 obtain⟨ns,c,n,rfl,hn⟩:=u
 have u:aW S k (S.set k (iW ns c n)):=⟨ns,c,n,rfl,hn⟩
 exact⟨S.set k (iW ns c n),by rw[List.set_append_left k _ hl],u,u.pen p⟩
theorem bZ(ns:List Int):ao (ns.map D.int)=true:=by
 induction ns with
 | nil=>rfl
 | cons y ys ih=>simp only[List.map_cons,ao,ih,Bool.and_true];rfl
theorem oH(ns:List Int)(c n:Int):ao (iW ns c n)=true:=by
 show(ao (ns.map D.int)&&true)=true
 rw[bZ];rfl
theorem aW.flat{S':Store}(u:aW S k S')(h:flat S):RF.flat S':=by
 obtain⟨ns,c,n,rfl,_⟩:=u
 intro l hl
 rcases List.mem_or_eq_of_mem_set hl with hl | rfl
 . exact h l hl
 . exact oH ..
def sG:Ct:=λ ds S W=>∃ns k,ds=[.lst (List.map .int ns),.int k]/\0≤k/\∀v,W (.int v) S
def Ij:Ct:=λ ds S W=>∃ns k,ds=[.lst (List.map .int ns),.int k]/\0≤k/\∀c,W (.loc S.length) (S++[iW ns c k])
def eV:Ct:=λ ds S W=>∃k m,ds=[.loc k,.int m]/\aR S k/\0<m/\m<1000000000000000000000000000000000000000000000000000000000000/\∀v S',0≤v->v<m->aW S k S'->aR S' k->W (.int v) S'
theorem aN{m:Int}(hp:aR S k)(h0:0<m)(h1:m<1000000000000000000000000000000000000000000000000000000000000)(w:∀v S',0≤v->v<m->aW S k S'->aR S' k->W (.int v) S'):([D.loc k,.int m].length=2/\eV [.loc k,.int m] S W):=⟨rfl,k,m,rfl,hp,h0,h1,w⟩
theorem HQ(F:Fun Ω.K "_law_cell" "_law_cell" pK f fd)(N0:Ω.cd=none)(B:Bi Ω.mg):Ok Ω 1 f fd Lz sG:=by
 refine aF N0 (N:=Kv) F (JG B) (by kernel_rfl!) ?_
 rintro ds S W ⟨ns,k,rfl,hk,hw⟩ hl
 have last:∀v:Int,(qN B).wp [some (.lst (ns.map .int)),some (.int k),some (.int v)] S {nx:=λ _ S1=>W .non S1,rt:=W}:=by
  intro v
  have h2:=Int.emod_lt_of_pos ((v % 2147483629+6151*k+1)*48271) (b:=2147483647) (by decide)
  have h3:=Int.emod_nonneg ((v % 2147483629+6151*k+1)*48271) (b:=2147483647) (by decide)
  walk_at "b"
  exact hw _
 have two:∀v:Int,(qO B).wp [some (.lst (ns.map .int)),some (.int k),some (.int v)] S {nx:=λ _ S1=>W .non S1,rt:=W}:=by
  intro v
  walk_at "b"
  refine⟨λ q=>?_,λ q=>⟨λ z=>ff z,λ _=>last v⟩⟩
  have q:=of_decide_eq_true q
  obtain⟨x,h1,h2⟩:=gf (ds:=ns.map D.int) (v:=0) (by decide) (by omega)
  obtain⟨y,_,rfl⟩:=List.mem_map.mp (y4 h2)
  walk_at "b"
  refine⟨_,h1,?_⟩
  walk_at "b"
  refine⟨λ _=>?_,λ _=>last v⟩
  walk_at "b"
  exact hw _
 walk_at "b"
 refine⟨λ q=>?_,λ q=>two 7⟩
 have q:=of_decide_eq_true q
 walk_at "b"
 obtain⟨x,h1,h2⟩:=gf (ds:=ns.map D.int) (v:=k % ((ns.map D.int).length:Int)) (Int.emod_nonneg _ (by omega)) (Int.emod_lt_of_pos _ q)
 obtain⟨y,_,rfl⟩:=List.mem_map.mp (y4 h2)
 exact⟨_,h1,two y⟩
theorem Kc(F:Fun Ω.K "_law_pen" "_law_pen" tO f fd)(N0:Ω.cd=none)(Cq1:Cal Ω "_law_cell" 1 2 sG):Ok Ω 2 f fd Ni Ij:=by
 refine aF N0 (N:=PQ) F (Nx Cq1) (by kernel_rfl!) ?_
 rintro ds S W ⟨ns,k,rfl,hk,hw⟩ hl
 walk_at "b"
 refine⟨rfl,ns,k,rfl,hk,λ c=>?_⟩
 walk_at "b"
 exact hw c
theorem Hx(F:Fun Ω.K "_law_take" "_law_take" oW f fd)(N0:Ω.cd=none)(Cq1:Cal Ω "_law_cell" 1 2 sG):Ok Ω 2 f fd Lg eV:=by
 refine aF N0 (N:=J1) F (Lb Cq1) (by kernel_rfl!) ?_
 rintro ds S W ⟨k,m,rfl,⟨ns,c,n,hk,hn⟩,h0,h1,hw⟩ hl
 have k2:∀l:List D,(S.set k l)[k]? =some l:=λ l=>set_get hk
 have fin:∀c' n',0≤n'->W (.int (c % m)) (S.set k (iW ns c' n')):=λ c' n' h=>
  hw _ _ (Int.emod_nonneg _ (by omega)) (Int.emod_lt_of_pos _ h0) ⟨ns,c',n',rfl,h⟩ ⟨ns,c',n',k2 _,h⟩
 walk_at "b"
 refine⟨λ _=>?_,λ _=>fin (c/m) n hn⟩
 walk_at "b"
 refine⟨rfl,ns,n+1,rfl,by omega,λ v=>?_⟩
 walk_at "b"
 exact fin v (n+1) (by omega)
theorem bU(h:n=S.length):(S++[l])[n]? =some l:=by subst h;exact bL _ _
theorem fc{l':List D}(h:n=S.length):(S++[l]).set n l'=S++[l']:=by subst h;exact cj _ _ _
theorem cV(h:flat S)(hl:ao l=true):flat (S++[l]):=by
 intro x hx
 rcases List.mem_append.mp hx with hx | hx
 . exact h x hx
 . have:x=l:=by simpa using hx
   subst this;exact hl
theorem eZ(f:Fm):au (dF f)=true:=bZ (f.1::f.2)
def Kp(ns:List Int):Prop:=∀n∈ns,-99≤n/\n≤99
def FmB(d:Nat)(w:Int)(f:Fm):Prop:=f.2.length=d/\Kp f.2/\((-w≤f.1/\f.1≤w)∨(w=1/\ -99≤f.1/\f.1≤99))
def Dn:Ct:=λ ds S W=>∃(k d:Nat) (w:Int),ds=[.loc k,.int d,.int w]/\aR S k/\flat S/\d≤10/\1≤w/\w<1000000000000000000000000000000/\∀f S',FmB d w f->aW S k S'->aR S' k->flat S'->W (dF f) S'
theorem oK{P:Int->Prop}:∀{ys:List D},(∀(i:Nat)(y:D),ys[i]? =some y->∃n:Int,y=D.int n/\P n)->∃fs:List Int,ys=fs.map D.int/\∀n∈fs,P n
 | [],_=>⟨[],rfl,by simp⟩
 | y::ys,h=>by
   obtain⟨n,rfl,hn⟩:=h 0 y rfl
   obtain⟨fs,rfl,hf⟩:=oK (ys:=ys) λ i y h'=>h (i+1) y (by simpa using h')
   exact⟨n::fs,rfl,by
    intro m hm
    rcases List.mem_cons.mp hm with rfl | hm
    . exact hn
    . exact hf m hm⟩
theorem G6(F:Fun Ω.K "_law_form" "_law_form" oX f fd)(N0:Ω.cd=none)(B:Bi Ω.mg)(Cq12:Cal Ω "_law_take" 2 2 eV):Ok Ω 3 f fd K4 Dn:=by
 refine aF N0 (N:=JS) F (Bl.drp (Kh B Cq12)) (by kernel_rfl!) ?_
 rintro ds S W ⟨k,d,w,rfl,hp,hS,hd,hw1,hw2,hw⟩ hl
 have one:∀S0,aW S k S0->aR S0 k->(qQ B Cq12).wp [some (.loc k),some (.int d),some (.int w),none,none] S0 {nx:=λ _ S1=>W .non S1,rt:=Drp S.length W}:=by
  intro S0 u0 p0
  walk_at "b"
  refine aN p0 (by omega) (by omega) λ v S1 v0 v1 u1 p1=>?_
  have u1:=u0.trans u1
  have f1:=u1.flat hS
  have n1:=u1.len
  walk_at "b"
  refine⟨⟨by omega,by omega⟩,bc ⟨λ i Γ' T=>∃S2 fs o4,T=S2++[D.int (v-w)::List.map D.int fs]/\aW S k S2/\aR S2 k/\fs.length=i/\Kp fs/\Γ'=[some (.loc k),some (.int d),some (.int w),some (.loc S.length),o4],⟨S1,[],none,rfl,u1,p1,rfl,λ n hn=>by simp at hn,by rw[n1];rfl⟩,?_,?_⟩⟩
  . rintro i e Γ' T he ⟨S2,fs,o4,rfl,u2,p2,hfl,hfs,rfl⟩
    obtain⟨hi,rfl⟩:=bC he
    walk_at "b"
    refine aN (p2.app _) (by decide) (by decide) λ x T3 x0 x1 u3 p3=>?_
    obtain⟨S3,rfl,u3,p3⟩:=u3.split p2
    have u3:=u2.trans u3
    walk_at "n"
    obtain⟨y,g1,g2⟩:=gf (ds:=[D.int 0,.int 1,.int 1,.int 0,.int (-1),.int 2,.int 0,.int 1]) x0 x1
    have hy:=y4 g2
    refine⟨y,g1,?_⟩
    obtain⟨z,rfl,hz⟩:∃z:Int,y=.int z/\ -99≤z/\z≤99:=by
     simp only[List.mem_cons,List.not_mem_nil,or_false]at hy
     rcases hy with rfl | rfl | rfl | rfl | rfl | rfl | rfl | rfl<;>exact⟨_,rfl,by decide,by decide⟩
    refine⟨_,bU u3.len.symm,by simp;omega,?_⟩
    rw[fc u3.len.symm]
    refine⟨S3,fs++[z],_,by rw[List.map_append];rfl,u3,p3,by simp[hfl],λ n hn=>?_,rfl⟩
    rcases List.mem_append.mp hn with hn | hn
    . exact hfs n hn
    . have:n=z:=by simpa using hn
      omega
  . rintro Γ' T ⟨S2,fs,o4,rfl,u2,p2,hfl,hfs,rfl⟩
    rw[az]at hfl
    walk_at "b"
    refine⟨_,bU u2.len.symm,.inr ⟨[_],S2,rfl,by rw[u2.len];exact y9 _,eZ (v-w,fs),u2.flat hS,hw (v-w,fs) _ ⟨by simpa using hfl,hfs,.inl ⟨?_,?_⟩⟩ u2 p2 (u2.flat hS)⟩⟩
    . show-w≤v-w;omega
    . show v-w≤w;omega
 walk_at "b"
 refine⟨λ q=>?_,λ q=>⟨λ z=>ff z,λ _=>one S (.refl hp) hp⟩⟩
 have q:=of_decide_eq_true q
 walk_at "b"
 refine aN hp (by decide) (by decide) λ v S1 v0 v1 u1 p1=>?_
 walk_at "b"
 refine⟨λ _=>?_,λ _=>one S1 u1 p1⟩
 walk_at "b"
 refine⟨⟨by omega,by omega⟩,lQ (λ _ y=>∃n:Int,y=.int n/\(-99≤n/\n≤99)) (λ S'=>aW S k S'/\aR S' k) (by rw[az];omega) ⟨u1,p1⟩ ?_ ?_⟩
 . rintro i d S' hd ⟨u,p⟩ R hR
   walk_at "b"
   refine aN p (by decide) (by decide) λ w S2 w0 w1 u2 p2=>?_
   walk_at "b"
   exact hR _ _ ⟨_,rfl,by omega,by omega⟩ ⟨u.trans u2,p2⟩
 rintro ys S' hlen hys ⟨u,p⟩
 obtain⟨fs,rfl,hf⟩:=oK hys
 rw[az,y7]at hlen
 cases fs with
 | nil=>simp at hlen
 | cons a fs=>
   walk_at "b"
   exact .inl (hw (a,fs) _ ⟨by simp at hlen;show fs.length=d;omega,λ n hn=>hf n (x4 _ hn),.inr ⟨by omega,hf a x6⟩⟩ u p (u.flat hS))
theorem xn(ls:List Lp)(l:Lp):cnt (ls++[l])=aL l.1 l.2 (cnt ls):=by
 unfold cnt
 rw[List.foldl_append];rfl
theorem gF(a:Int)(k:Nat)(cs:List Int):atC (a,List.replicate k 0) cs=a:=by
 unfold atC comesTo
 have:∀(k:Nat)(cs:List Int),(List.zipWith (λ a b=>a*b) (List.replicate k (0:Int)) cs).sum=0:=by
  intro k
  induction k with
  | zero=>intro cs;simp
  | succ k ih=>
    intro cs
    cases cs with
    | nil=>simp
    | cons c cs=>simp[List.replicate_succ,ih]
 rw[this];show a+0=a;omega
theorem Kz(a:Int)(cs:List Int)(c:Int):atC (a,List.replicate cs.length 0++[1]) (cs++[c])=a+c:=by
 unfold atC comesTo
 have:∀cs:List Int,(List.zipWith (λ a b=>a*b) (List.replicate cs.length (0:Int)++[1]) (cs++[c])).sum=c:=by
  intro cs
  induction cs with
  | nil=>simp
  | cons d cs ih=>simp[List.replicate_succ,ih]
 rw[this]
theorem Km(a b:Int)(fs cs:List Int):atC (a+b,fs) cs=atC (a,fs) cs+b:=by
 unfold atC comesTo
 dsimp only
 omega
theorem pM{ls:List Lp}{l:Lp}(h:cs∈cnt (ls++[l])):∃cs' c,cs'∈cnt ls/\cs=cs'++[c]/\atC l.1 cs'≤c/\c<atC l.2 cs':=by
 rw[xn]at h
 obtain⟨ds,hd,h⟩:=List.mem_flatMap.mp h
 unfold bz at h
 obtain⟨c,hc,rfl⟩:=List.mem_map.mp h
 unfold upI at hc
 obtain⟨k,hk,rfl⟩:=List.mem_map.mp hc
 have hk:=List.mem_range.mp hk
 exact⟨ds,_,hd,rfl,by omega,by omega⟩
theorem JX{ls:List Lp}{l:Lp}{sz:Nat}(h:∀cs∈cnt ls,atC l.2 cs-atC l.1 cs≤(sz:Int)):(cnt (ls++[l])).length≤(cnt ls).length*sz:=by
 rw[xn]
 refine pB λ cs hc=>?_
 rw[cI]
 have:=h cs hc
 omega
def Bef(bf:D)(ls:List Lp):Prop:=bf=.non∨∃b0 b1:Int,bf=.tup [.int b0,.int b1]/\ -3≤b0/\b0≤3/\1≤b1/\b1≤4/\1≤ls.length/\∀cs∈cnt ls,∃cs' c,cs=cs'++[c]/\b0≤c/\c<b0+b1
def LpI(ls:List Lp):Prop:=∀(i:Nat)(l:Lp),ls[i]? =some l->BdF l.1 i/\BdF l.2 i
theorem LpI.snoc{ls:List Lp}{l:Lp}(h:LpI ls)(h1:BdF l.1 ls.length)(h2:BdF l.2 ls.length):LpI (ls++[l]):=by
 intro i x hx
 by_cases hi:i<ls.length
 . rw[x9 hi]at hx;exact h i x hx
 . rw[List.getElem?_append_right (by omega)]at hx
   have:i=ls.length:=by
    have:=(z0.mp hx).1
    simp at this;omega
   subst this
   simp at hx
   subst hx
   exact⟨h1,h2⟩
def nlO(o:Option D):Prop:=∀d,o=some d->au d=true
theorem cJ:nlO none:=λ d h=>by cases h
theorem jq(n:Int):nlO (some (.int n)):=λ d h=>by cases h;rfl
def Hi(n:Nat)(o:Option D):Prop:=nlO o∨∃j,o=some (.loc j)/\n≤j
theorem Cr{J:List (List D)}{o:Option D}(h:nlO o):iI n J o=o:=by
 cases o with
 | none=>rfl
 | some d=>
   cases d with
   | loc j=>have:=h _ rfl;simp[au]at this
   | _=>rfl
theorem Cu{J:List (List D)}(h:j<n):iI n J (some (.loc j))=some (.loc j):=by simp[iI,h]
theorem rW{J:List (List D)}{o:Option D}(hJ:flat J)(h:Hi n o):nlO (iI n J o):=by
 rcases h with h | ⟨j,rfl,hj⟩
 . rw[Cr h];exact h
 . intro d hd
   have:¬j<n:=by omega
   simp only[iI,if_neg this]at hd
   cases e:J[j-n]? with
   | none=>rw[e]at hd;cases hd
   | some ds=>rw[e]at hd;cases hd;exact hJ ds (y4 e)
theorem fJ(ls:List Lp):ao (ls.map dL)=true:=by
 induction ls with
 | nil=>rfl
 | cons y ys ih=>
   simp only[List.map_cons,ao,ih,Bool.and_true]
   show ao [dF y.1,dF y.2]=true
   simp only[ao,eZ,Bool.and_true]
def Wid(ls:List Lp)(zs:List Nat):Prop:=zs.length=ls.length/\∀(i:Nat)(l:Lp)(z:Nat),ls[i]? =some l->zs[i]? =some z->∀cs∈cnt (ls.take i),atC l.2 cs-atC l.1 cs≤(z:Int)
def prd(zs:List Nat):Nat:=zs.foldr (· *·) 1
theorem JC(zs:List Nat)(z:Nat):prd (zs++[z])=prd zs*z:=by
 induction zs with
 | nil=>show z*1=1*z;omega
 | cons y zs ih=>show y*prd (zs++[z])=y*prd zs*z;rw[ih,Nat.mul_assoc]
theorem Wid.nil:Wid [] []:=⟨rfl,λ i l z h=>by simp at h⟩
theorem Wid.snoc{ls:List Lp}{l:Lp}{z:Nat}(h:Wid ls zs)(hc:∀cs∈cnt ls,atC l.2 cs-atC l.1 cs≤(z:Int)):Wid (ls++[l]) (zs++[z]):=by
 refine⟨by rw[x8,x8,h.1];rfl,λ i l' z' h1 h2 cs hcs=>?_⟩
 by_cases hi:i<ls.length
 . rw[x9 hi]at h1
   rw[x9 (by rw[h.1];exact hi)]at h2
   rw[List.take_append_of_le_length (by omega)]at hcs
   exact h.2 i l' z' h1 h2 cs hcs
 . have hi2:=(z0.mp h1).1
   rw[x8,List.length_singleton]at hi2
   have:i=ls.length:=by omega
   subst this
   have e1:l=l':=by simpa using h1
   rw[←h.1]at h2
   have e2:z=z':=by simpa using h2
   subst e1 e2
   rw[List.take_left]at hcs
   exact hc cs hcs
def Wdd(ls:List Lp)(room m:Nat):Prop:=∃zs,Wid ls zs/\prd zs*room≤m/\∀z∈zs,1≤z
theorem Wdd.snoc{ls:List Lp}{l:Lp}{room size:Nat}(h:Wdd ls room m)(s1:1≤size)(hc:∀cs∈cnt ls,atC l.2 cs-atC l.1 cs≤(size:Int)):Wdd (ls++[l]) (room/size) m:=by
 obtain⟨zs,z1,z2,z3⟩:=h
 refine⟨zs++[size],z1.snoc hc,?_,λ z hz=>?_⟩
 . rw[JC,Nat.mul_assoc]
   exact Nat.le_trans (Nat.mul_le_mul_left _ (Nat.mul_div_le room size)) z2
 . rcases List.mem_append.mp hz with hz | hz
   . exact z3 z hz
   . rw[List.mem_singleton.mp hz];exact s1
theorem Wdd.end{ls:List Lp}{room:Nat}(h:Wdd ls room m)(h1:1≤room):Wdd ls 1 m:=by
 obtain⟨zs,z1,z2,z3⟩:=h
 exact⟨zs,z1,by rw[Nat.mul_one];exact Nat.le_trans (Nat.le_mul_of_pos_right _ h1) z2,z3⟩
def yf:Ct:=λ ds S W=>∃(k:Nat) (m:Nat),ds=[.loc k,.int m]/\aR S k/\flat S/\1≤m/\m≤1000/\∀ls S',Lps ls->(cnt ls).length≤m/\Wdd ls 1 m->aW S k S'->aR S' k->flat S'->W (.tup (ls.map dL)) S'
theorem zeros(n:Int):(List.replicate n.toNat [D.int 0]).flatten=(List.replicate n.toNat (0:Int)).map D.int:=by
 generalize n.toNat=m
 induction m with
 | zero=>rfl
 | succ m ih=>simp[List.replicate_succ,ih]
theorem Qn{Ω:Wd}{b:Bl Ω}{Γ:Gam}{W:DL.Fin}(h:b.wp Γ S {W with nx:=wL S.length W.nx}):b.fza.wp Γ S W:=h
theorem Es{d:D}{Γ:Gam}{R:Gam->Prop}(h:R (Γ.set j (some d))):(Tg.nm j).wp d Γ R:=h
theorem aW.split2{T:Store}{a b:List D}(p:aR S k)(u:aW (S++[a]++[b]) k T):∃S',T=S'++[a]++[b]/\aW S k S'/\aR S' k:=by
 obtain⟨T1,rfl,u1,p1⟩:=u.split (p.app _)
 obtain⟨S1,rfl,u2,p2⟩:=u1.split p
 exact⟨S1,rfl,u2,p2⟩
theorem vY(h:n=S.length):(S++[l]++J)[n]? =some l:=by
 subst h
 rw[x9 (by simp)];exact bL _ _
theorem BZ{l':List D}(h:n=S.length):(S++[l]++J).set n l'=S++[l']++J:=by
 subst h
 rw[List.set_append_left _ _ (by simp),cj]
theorem bV(ls:List Lp):∀cs∈cnt ls,cs.length=ls.length:=by
 have:∀(ls:List Lp)(acc:List (List Int))(n:Nat),(∀cs∈acc,cs.length=n)->∀cs∈ls.foldl (λ acc l=>aL l.1 l.2 acc) acc,cs.length=n+ls.length:=by
  intro ls
  induction ls with
  | nil=>intro acc n h cs hc;simpa using h cs hc
  | cons l ls ih=>
    intro acc n h cs hc
    have:=ih (aL l.1 l.2 acc) (n+1) (λ ds hd=>by
     obtain⟨es,he,hd⟩:=List.mem_flatMap.mp hd
     unfold bz at hd
     obtain⟨c,_,rfl⟩:=List.mem_map.mp hd
     simp[h es he]) cs hc
    rw[this,List.length_cons];omega
 intro cs hc
 have:=this ls [[]] 0 (by simp) cs hc
 omega
def Fp(S:Store)(k m i:Nat)(Γ':Gam)(T:Store):Prop:=∃S2 ls room bf o5 o6 o7 o8 o9 o10 o11,T=S2++[List.map dL ls]/\aW S k S2/\aR S2 k/\ls.length=i/\LpI ls/\1≤room/\((cnt ls).length*room≤m/\Wdd ls room m)/\Bef bf ls/\au bf=true/\(nlO o5/\nlO o6/\nlO o7/\nlO o8/\nlO o9/\nlO o10/\nlO o11)/\Γ'=[some (.loc k),some (.int m),some (.loc S.length),some (.int (room:Nat)),some bf,o5,o6,o7,o8,o9,o10,o11]
theorem xf{o:Option D}{d:D}(h:Hi n o)(e:o=some d):au d=true∨∃j,d=.loc j:=by
 rcases h with h | ⟨j,rfl,_⟩
 . exact .inl (h d e)
 . cases e;exact .inr ⟨j,rfl⟩
theorem Gb{S3:Store}{room size:Nat}{ls:List Lp}{l:Lp}{bf:D}{low way:Int}{o9 o10 o11:Option D}(hp:aR S k)(hS:flat S)(u:aW S k S3)(p:aR S3 k)(hJ:flat J)(hln:ls.length=i)(hlp:LpI ls)(b1:BdF l.1 i)(b2:BdF l.2 i)(s1:1≤size)(s2:size≤room)(hr2:(cnt ls).length*room≤m/\Wdd ls room m)
 (hc:∀cs∈cnt ls,atC l.2 cs-atC l.1 cs≤(size:Int))(hbf:Bef bf (ls++[l]))(hnb:au bf=true)(n9:Hi (S.length+1) o9)(n10:Hi (S.length+1) o10)(n11:Hi (S.length+1) o11):
 wL (S.length+1) (Fp S k m (i+1)) [some (.loc k),some (.int m),some (.loc S.length),some (.int ((room:Int)/(size:Int))),some bf,some (.int i),some (.int size),some (.int low),some (.int way),o9,o10,o11] (S3++[(ls++[l]).map dL]++J):=by
 have hl3:=u.len
 have hk:=hp.lt
 have e1:(room:Int)/(size:Int)=((room/size:Nat):Int):=(Int.natCast_ediv room size).symm
 have hlen:(S3++[(ls++[l]).map dL]).length=S.length+1:=by simp[hl3]
 refine .inr ⟨J,S3++[(ls++[l]).map dL],rfl,by rw[hlen];exact y9 _,hJ,cV (u.flat hS) (fJ _),?_,?_⟩
 . intro x d hx
   match x,hx with
   | 0,hx=>cases hx;exact .inr ⟨_,rfl⟩
   | 1,hx=>cases hx;exact .inl rfl
   | 2,hx=>cases hx;exact .inr ⟨_,rfl⟩
   | 3,hx=>cases hx;exact .inl rfl
   | 4,hx=>cases hx;exact .inl hnb
   | 5,hx=>cases hx;exact .inl rfl
   | 6,hx=>cases hx;exact .inl rfl
   | 7,hx=>cases hx;exact .inl rfl
   | 8,hx=>cases hx;exact .inl rfl
   | 9,hx=>exact xf n9 (by simpa using hx)
   | 10,hx=>exact xf n10 (by simpa using hx)
   | 11,hx=>exact xf n11 (by simpa using hx)
   | x+12,hx=>simp at hx
 . rw [hlen]
   refine⟨S3,ls++[l],room/size,bf,some (.int i),some (.int size),some (.int low),some (.int way),_,_,_,rfl,u,p,by simp[hln],hlp.snoc (by rw[hln];exact b1) (by rw[hln];exact b2),Nat.div_pos s2 s1,?_,hbf,hnb,⟨jq _,jq _,jq _,jq _,rW hJ n9,rW hJ n10,rW hJ n11⟩,?_⟩
   . refine⟨?_,hr2.2.snoc s1 hc⟩
     have hr2:=hr2.1
     have h1:=JX (l:=l) hc
     have h2:=Nat.mul_le_mul_right (room/size) h1
     have h3:(cnt ls).length*size*(room/size)≤(cnt ls).length*room:=by
      rw[Nat.mul_assoc];exact Nat.mul_le_mul_left _ (Nat.mul_div_le room size)
     omega
   . show[_,_,_,_,_,_,_,_,_,_,_,_]=[_,_,_,_,_,_,_,_,_,_,_,_]
     rw[Cu (by omega),Cu (by omega),Cr (o:=some bf) (λ d h=>by cases h;exact hnb),e1]
     rfl
theorem Dy(F:Fun Ω.K "_law_loops" "_law_loops" lA f fd)(N0:Ω.cd=none)(B:Bi Ω.mg)(Cq12:Cal Ω "_law_take" 2 2 eV):Ok Ω 3 f fd Gx yf:=by
 refine aF N0 (N:=Gy) F (Bl.drp (Jj B Cq12)) (by kernel_rfl!) ?_
 rintro ds S W ⟨k,m,rfl,hp,hS,hm1,hm2,hw⟩ hl
 walk_at "b"
 refine aN (hp.app _) (by decide) (by decide) λ v T v0 v1 u1 p1=>?_
 obtain⟨S1,rfl,u1,p1⟩:=u1.split hp
 walk_at "b"
 refine⟨⟨by omega,by omega⟩,bc ⟨Fp S k m,⟨S1,[],m,.non,none,none,none,none,none,none,none,rfl,u1,p1,rfl,λ i l h=>by simp at h,hm1,⟨by simp[cnt],[],Wid.nil,by show 1*m≤m;omega,λ z hz=>by cases hz⟩,.inl rfl,rfl,⟨cJ,cJ,cJ,cJ,cJ,cJ,cJ⟩,rfl⟩,?_,?_⟩⟩
 . rintro i e Γ' T he ⟨S2,ls,room,bf,o5,o6,o7,o8,o9,o10,o11,rfl,u2,p2,hln,hlp,hr1,hr2,hbf,hnb,⟨n5,n6,n7,n8,n9,n10,n11⟩,rfl⟩
   obtain⟨hi,rfl⟩:=bC he
   have hi3:i≤2:=by omega
   have ez:(0:Int)+(i:Int)=(i:Int):=by omega
   rw[ez]
   have hS2:(S2++[ls.map dL]).length=S.length+1:=by simp[u2.len]
   suffices body:∀Wf:DL.Fin,(∀G T,wL (S.length+1) (Fp S k m (i+1)) G T->Wf.nx G T)->(lZ B Cq12).wp [some (.loc k),some (.int m),some (.loc S.length),some (.int (room:Nat)),some bf,some (.int (i:Int)),o6,o7,o8,o9,o10,o11] (S2++[ls.map dL]) Wf by
    refine Es (Qn ?_)
    simp only[List.set_cons_succ,List.set_cons_zero]
    refine body _ λ G T h=>?_
    rw[hS2]
    exact h
   intro Wf hnx
   walk_at "b"
   refine aN (p2.app _) (by split<;>omega) (by split<;>omega) λ x T3 x0 x1 u3 p3=>?_
   obtain⟨S3,rfl,u3,p3⟩:=u3.split p2
   have u3:=u2.trans u3
   have hx:1+x≤(room:Int)/\1+x≤4:=by split at x1<;>omega
   clear x1
   walk_at "b"
   refine aN (p3.app _) (by decide) (by decide) λ y T3 y0 y1 u4 p4=>?_
   obtain⟨S4,rfl,u4,p4⟩:=u4.split p3
   have u4:=u3.trans u4
   walk_at "b"
   refine aN (p4.app _) (by decide) (by decide) λ way T3 w0 w1 u5 p5=>?_
   obtain⟨S5,rfl,u5,p5⟩:=u5.split p4
   have u5:=u4.trans u5
   walk_at "b"
   refine⟨_,_,rfl,rfl,⟨by omega,by omega⟩,by simp;omega,?_⟩
   rw[zeros,Int.toNat_natCast]
   obtain⟨sz,hsz⟩:∃n:Nat,1+x=(n:Int):=⟨(1+x).toNat,by omega⟩
   rw[hsz]at hx ⊢
   have hsz1:1≤sz:=by omega
   have hr3:sz≤room:=by omega
   have tail:∀(S':Store)(l:Lp)(J:Store)(size:Nat)(bf':D)(o9 o10 o11:Option D),aW S k S'->aR S' k->flat J->BdF l.1 i->BdF l.2 i->1≤size->size≤4->size≤room->(∀cs∈cnt ls,atC l.2 cs-atC l.1 cs≤(size:Int))->Bef bf' (ls++[l])->au bf'=true->Hi (S.length+1) o9->Hi (S.length+1) o10->Hi (S.length+1) o11->
    (b7 B Cq12).wp [some (.loc k),some (.int m),some (.loc S.length),some (.int room),some bf',some (.int i),some (.int size),some (.int (y-3)),some (.int way),o9,o10,o11] (S'++[(ls++[l]).map dL]++J) Wf:=by
    intro S' l J size bf' o9 o10 o11 u p hJ b1 b2 s1 s4 s2 hc hbf hnb n9 n10 n11
    walk_at "b"
    exact hnx _ _ (Gb hp hS u p hJ hln hlp b1 b2 s1 s2 hr2 hc hbf hnb n9 n10 n11)
   have zl:(List.replicate i (0:Int)).length=i:=by simp
   have z9:Hi (S.length+1) (some (.lst ((List.replicate i (0:Int)).map D.int))):=.inl λ d h=>by cases h;exact bZ _
   have zb:∀a:Int,-9≤a->a≤9->BdF (a,List.replicate i 0) i:=λ a h1 h2=>⟨zl,h1,h2,λ n hn=>by have:=(List.mem_replicate.mp hn).2;omega⟩
   have br3:∀Wf':DL.Fin,(∀G T,(b7 B Cq12).wp G T Wf->Wf'.nx G T)->(gV B Cq12).wp [some (.loc k),some (.int m),some (.loc S.length),some (.int room),some bf,some (.int i),some (.int sz),some (.int (y-3)),some (.int way),some (.lst ((List.replicate i (0:Int)).map D.int)),o10,o11] (S5++[ls.map dL]) Wf':=by
    intro Wf' hx'
    have app:∀h:Int,y-3≤h->h≤y-3+sz->∃ds,(S5++[ls.map dL])[S.length]? =some ds/\ds.length<1000000/\Wf'.nx [some (.loc k),some (.int m),some (.loc S.length),some (.int room),some (.tup [.int (y-3),.int sz]),some (.int i),some (.int sz),some (.int (y-3)),some (.int way),some (.lst ((List.replicate i (0:Int)).map D.int)),o10,o11] ((S5++[ls.map dL]).set S.length (ds++[dL ((y-3,List.replicate i 0),(h,List.replicate i 0))])):=by
     intro h h1 h2
     refine⟨_,bU u5.len.symm,by simp;omega,?_⟩
     rw[fc u5.len.symm]
     have:=tail S5 ((y-3,List.replicate i 0),(h,List.replicate i 0)) [] sz (.tup [.int (y-3),.int sz]) (some (.lst ((List.replicate i (0:Int)).map D.int))) o10 o11 u5 p5 (λ l h=>by cases h) (zb _ (by omega) (by omega)) (zb _ (by omega) (by omega)) hsz1 (by omega) hr3 (λ cs _=>by
      show atC (h,List.replicate i 0) cs-atC (y-3,List.replicate i 0) cs≤_
      rw[gF,gF];omega) (.inr ⟨y-3,sz,rfl,by omega,by omega,by omega,by omega,by simp,λ cs hcs=>by
      obtain⟨cs',c,_,e,h3,h4⟩:=pM hcs
      rw[gF]at h3 h4
      exact⟨cs',c,e,h3,by omega⟩⟩) rfl z9 (.inl n10) (.inl n11)
     rw[List.append_nil,List.map_append]at this
     exact hx' _ _ this
    walk_at "b"
    refine⟨_,_,rfl,rfl,by simp;omega,?_⟩
    walk_at "b"
    have bb:∀b:Bool,y-3≤y-3+(sz:Int)*(if b=true then 1 else 0)/\y-3+(sz:Int)*(if b=true then 1 else 0)≤y-3+sz:=λ b=>by cases b<;>simp<;>omega
    refine⟨λ q=>?_,λ q=>?_⟩
    . walk_at "b"
      obtain⟨g1,g2⟩:=bb true
      generalize (y-3+(sz:Int)*(if true=true then 1 else 0))=h at g1 g2 ⊢
      refine⟨_,_,rfl,rfl,by simp;omega,?_⟩
      walk_at "b"
      obtain⟨ds,h1,h2,h3⟩:=app h g1 g2
      refine⟨ds,h1,h2,?_⟩
      walk_at "b"
      exact h3
    . walk_at "b"
      obtain⟨g1,g2⟩:=bb (decide (y-3<3))
      generalize (y-3+(sz:Int)*(if decide (y-3<3)=true then 1 else 0))=h at g1 g2 ⊢
      refine⟨_,_,rfl,rfl,by simp;omega,?_⟩
      walk_at "b"
      obtain⟨ds,h1,h2,h3⟩:=app h g1 g2
      refine⟨ds,h1,h2,?_⟩
      walk_at "b"
      exact h3
   have br2:0<i->∀Wf':DL.Fin,(∀G T,(b7 B Cq12).wp G T Wf->Wf'.nx G T)->(gm B Cq12).wp [some (.loc k),some (.int m),some (.loc S.length),some (.int room),some bf,some (.int i),some (.int sz),some (.int (y-3)),some (.int way),some (.lst ((List.replicate i (0:Int)).map D.int)),o10,o11] (S5++[ls.map dL]) Wf':=by
    intro hi0 Wf' hx'
    walk_at "b"
    refine⟨_,_,rfl,rfl,⟨by omega,by omega⟩,by simp;omega,?_⟩
    rw[zeros,Int.toNat_natCast]
    walk_at "b"
    refine aN ((p5.app _).app _) (by decide) (by decide) λ a T6 a0 a1 u6 p6=>?_
    obtain⟨S6,rfl,u6,p6⟩:=u6.split2 p5
    have u6:=u5.trans u6
    walk_at "n"
    obtain⟨z,g1,g2⟩:=gf (ds:=[D.int 1,.int (-1),.int 2,.int (-2)]) a0 a1
    have hz:=y4 g2
    obtain⟨c,rfl,hc1,hc2⟩:∃c:Int,z=.int c/\ -2≤c/\c≤2:=by
     simp only[List.mem_cons,List.not_mem_nil,or_false]at hz
     rcases hz with rfl | rfl | rfl | rfl<;>exact⟨_,rfl,by decide,by decide⟩
    refine⟨_,g1,?_⟩
    walk_at "b"
    refine aN ((p6.app _).app _) (by omega) (by omega) λ j T7 j0 j1 u7 p7=>?_
    obtain⟨S7,rfl,u7,p7⟩:=u7.split2 p6
    have u7:=u6.trans u7
    walk_at "n"
    obtain⟨jn,rfl⟩:∃jn:Nat,j=(jn:Int):=⟨j.toNat,by omega⟩
    have hjn:jn<i:=by omega
    have len7:(S5++[ls.map dL]).length=(S7++[ls.map dL]).length:=by simp[u5.len,u7.len]
    refine⟨_,jn,bU len7,?_,?_⟩
    . unfold ixN
      simp
      omega
    rw[fc len7]
    have e1:((List.replicate i (0:Int)).map D.int).set jn (D.int c)=((List.replicate i (0:Int)).set jn c).map D.int:=by rw[List.map_set]
    rw[e1]
    have hah:∀n∈(List.replicate i (0:Int)).set jn c,-2≤n/\n≤2:=λ n hn=>by
     rcases List.mem_or_eq_of_mem_set hn with hn | rfl
     . have:=(List.mem_replicate.mp hn).2;omega
     . exact⟨hc1,hc2⟩
    have hal:((List.replicate i (0:Int)).set jn c).length=i:=by simp
    generalize (List.replicate i (0:Int)).set jn c=ah at hah hal
    have l7:(S5++[ls.map dL]).length=S.length+1:=by simp[u5.len]
    rw[l7]at len7 ⊢
    have ga:(S7++[ls.map dL]++[ah.map D.int])[S.length+1]? =some (ah.map D.int):=bU len7
    walk_at "b"
    refine⟨_,_,rfl,ga,by simp;omega,?_⟩
    walk_at "b"
    refine⟨_,_,rfl,ga,by simp;omega,?_⟩
    walk_at "b"
    refine⟨_,vY u7.len.symm,by simp;omega,?_⟩
    rw[BZ u7.len.symm]
    walk_at "b"
    have:=tail S7 ((y-3,ah),(y-3+sz,ah)) [ah.map D.int] sz .non (some (.lst ((List.replicate i (0:Int)).map D.int))) (some (.loc (S.length+1))) o11 u7 p7 (λ l h=>by
     have:l=ah.map D.int:=by simpa using h
     subst this;exact bZ _) ⟨hal,by show-9≤y-3;omega,by show y-3≤9;omega,hah⟩ ⟨hal,by show-9≤y-3+sz;omega,by show y-3+(sz:Int)≤9;omega,hah⟩ hsz1 (by omega) hr3 (λ cs _=>by
     show atC (y-3+sz,ah) cs-atC (y-3,ah) cs≤_
     rw[Km];omega) (.inl rfl) rfl z9 (.inr ⟨_,rfl,y9 _⟩) (.inl n11)
    rw[List.map_append]at this
    exact hx' _ _ this
   have br1:∀b0 b1:Int,bf=.tup [.int b0,.int b1]->way<2->b1≤room->∀Wf':DL.Fin,(∀G T,(b7 B Cq12).wp G T Wf->Wf'.nx G T)->(lC B Cq12).wp [some (.loc k),some (.int m),some (.loc S.length),some (.int room),some bf,some (.int i),some (.int sz),some (.int (y-3)),some (.int way),some (.lst ((List.replicate i (0:Int)).map D.int)),o10,o11] (S5++[ls.map dL]) Wf':=by
    intro b0 b1 ebf hway hb1 Wf' hx'
    subst ebf
    rcases hbf with hbf | ⟨c0,c1,e,q1,q2,q3,q4,q5,q6⟩
    . cases hbf
    cases e
    walk_at "b"
    refine⟨_,_,rfl,rfl,⟨by omega,by omega⟩,by simp;omega,?_⟩
    have hi1:1≤i:=by omega
    have eA:(List.replicate ((i:Int)-1).toNat [D.int 0]).flatten++[D.int 1]=(List.replicate (i-1) (0:Int)++[1]).map D.int:=by
     rw[zeros,show((i:Int)-1).toNat=i-1 by omega,List.map_append];rfl
    have hAl:(List.replicate (i-1) (0:Int)++[1]).length=i:=by simp;omega
    have hAb:∀n∈List.replicate (i-1) (0:Int)++[1],-2≤n/\n≤2:=λ n hn=>by
     rcases List.mem_append.mp hn with hn | hn
     . have:=(List.mem_replicate.mp hn).2;omega
     . have:n=1:=by simpa using hn
       omega
    have hAt:∀(a:Int)(cs':List Int)(c:Int),cs'++[c]∈cnt ls->atC (a,List.replicate (i-1) (0:Int)++[1]) (cs'++[c])=a+c:=λ a cs' c h=>by
     have h1:=bV ls _ h
     rw[x8,List.length_singleton]at h1
     rw[show i-1=cs'.length by omega]
     exact Kz a cs' c
    generalize hAA:List.replicate (i-1) (0:Int)++[1]=A at eA hAl hAb hAt
    obtain⟨bn,rfl⟩:∃bn:Nat,b1=(bn:Int):=⟨b1.toNat,by omega⟩
    have l5:(S5++[ls.map dL]).length=S.length+1:=by simp[u5.len]
    walk_at "b"
    refine⟨_,_,rfl,rfl,by simp;omega,?_⟩
    rw[eA]
    have ga:∀J,(S5++[ls.map dL]++[A.map D.int]++J)[S.length+1]? =some (A.map D.int):=λ J=>vY l5.symm
    have ga0:(S5++[ls.map dL]++[A.map D.int])[S.length+1]? =some (A.map D.int):=bU l5.symm
    have l6:(S5++[ls.map dL]++[A.map D.int]).length=S.length+2:=by simp[u5.len]
    walk_at "n"
    rw[l5]
    walk_at "b"
    refine⟨_,_,rfl,rfl,by simp;omega,?_⟩
    walk_at "b"
    refine⟨_,_,rfl,ga0,by simp;omega,?_⟩
    walk_at "b"
    rw[l6]
    refine⟨_,_,rfl,ga _,by simp;omega,?_⟩
    walk_at "b"
    refine⟨[b0,(bn:Int)],rfl,?_⟩
    walk_at "b"
    refine⟨_,_,rfl,rfl,by simp;omega,?_⟩
    walk_at "b"
    refine⟨_,bU l6.symm,by simp,?_⟩
    rw[fc l6.symm]
    walk_at "n"
    have hsm:[b0,(bn:Int)].sum=b0+(bn:Int):=by simp
    rw[hsm]
    have fin:∀(l:Lp)(St:List D),ao St=true->BdF l.1 i->BdF l.2 i->(∀cs∈cnt ls,atC l.2 cs-atC l.1 cs≤(bn:Int))->∃ds,(S5++[ls.map dL]++[A.map D.int]++[St])[S.length]? =some ds/\ds.length<1000000/\Wf'.nx [some (.loc k),some (.int m),some (.loc S.length),some (.int room),some .non,some (.int i),some (.int bn),some (.int (y-3)),some (.int way),some (.lst ((List.replicate i (0:Int)).map D.int)),some (.loc (S.length+1)),some (.loc (S.length+2))] ((S5++[ls.map dL]++[A.map D.int]++[St]).set S.length (ds++[dL l])):=by
     intro l St hSt c1 c2 c3
     have e2:∀L:List D,S5++[L]++[A.map D.int]++[St]=S5++[L]++[A.map D.int,St]:=λ L=>by simp
     rw[e2]
     refine⟨_,vY u5.len.symm,by simp;omega,?_⟩
     rw[BZ u5.len.symm]
     have:=tail S5 l [A.map D.int,St] bn .non (some (.lst ((List.replicate i (0:Int)).map D.int))) (some (.loc (S.length+1))) (some (.loc (S.length+2))) u5 p5 (λ x h=>by
      rcases List.mem_cons.mp h with rfl | h
      . exact bZ _
      . have:x=St:=by simpa using h
        subst this;exact hSt) c1 c2 (by omega) (by omega) (by omega) c3 (.inl rfl) rfl z9 (.inr ⟨_,rfl,y9 _⟩) (.inr ⟨_,rfl,Nat.le_succ _⟩)
     rw[List.map_append]at this
     exact hx' _ _ this
    have hSt:ao ([dL ((b0,List.replicate i 0),(1,A))]++[dL ((0,A),(b0+(bn:Int),List.replicate i 0))])=true:=fJ [_,_]
    have:way=0∨way=1:=by omega
    rcases this with rfl | rfl
    . refine⟨_,dL ((b0,List.replicate i 0),(1,A)),bU l6.symm,rfl,?_⟩
      obtain⟨ds,h1,h2,h3⟩:=fin ((b0,List.replicate i 0),(1,A)) _ hSt (zb b0 (by omega) (by omega)) ⟨hAl,(by decide:(-9:Int)≤1),(by decide:(1:Int)≤9),hAb⟩ (λ cs hcs=>by
       obtain⟨cs',c,rfl,g1,g2⟩:=q6 cs hcs
       show atC (1,A) _-atC (b0,List.replicate i 0) _≤_
       rw[hAt _ _ _ hcs,gF];omega)
      refine⟨ds,h1,h2,?_⟩
      walk_at "b"
      exact h3
    . refine⟨_,dL ((0,A),(b0+(bn:Int),List.replicate i 0)),bU l6.symm,rfl,?_⟩
      obtain⟨ds,h1,h2,h3⟩:=fin ((0,A),(b0+(bn:Int),List.replicate i 0)) _ hSt ⟨hAl,(by decide:(-9:Int)≤0),(by decide:(0:Int)≤9),hAb⟩ (zb _ (by omega) (by omega)) (λ cs hcs=>by
       obtain⟨cs',c,rfl,g1,g2⟩:=q6 cs hcs
       show atC (b0+(bn:Int),List.replicate i 0) _-atC (0,A) _≤_
       rw[hAt _ _ _ hcs,gF];omega)
      refine⟨ds,h1,h2,?_⟩
      walk_at "b"
      exact h3
   have els:∀Wf':DL.Fin,(∀G T,(b7 B Cq12).wp G T Wf->Wf'.nx G T)->(Bl.cons (Sm.ite (Te.and (Bt.cons (Te.cmp .Lt (Ex.var 8) (Ex.int 4)) (Bt.one (Te.cmp .Gt (Ex.var 5) (Ex.int 0))))) (gm B Cq12) (gV B Cq12)) Bl.nil).wp [some (.loc k),some (.int m),some (.loc S.length),some (.int room),some bf,some (.int i),some (.int sz),some (.int (y-3)),some (.int way),some (.lst ((List.replicate i (0:Int)).map D.int)),o10,o11] (S5++[ls.map dL]) Wf':=by
    intro Wf' hx'
    walk_at "b"
    refine⟨λ q=>?_,λ q=>⟨λ z=>ff z,λ _=>br3 _ hx'⟩⟩
    walk_at "b"
    refine⟨λ q2=>br2 (by have:=of_decide_eq_true q2;omega) _ hx',λ q2=>br3 _ hx'⟩
   walk_at "b"
   refine⟨λ q=>?_,λ q=>⟨λ z=>ff z,λ _=>els _ λ G T h=>h⟩⟩
   have q:=of_decide_eq_true q
   rcases hbf with rfl | ⟨b0,b1,rfl,hb⟩
   . walk_at "b"
     refine⟨λ q=>?_,λ q=>⟨λ z=>ff z,λ _=>br3 _ λ G T h=>h⟩⟩
     walk_at "b"
     exact⟨λ q2=>br2 (by have:=of_decide_eq_true q2;omega) _ λ G T h=>h,λ q2=>br3 _ λ G T h=>h⟩
   . walk_at "b"
     exact⟨λ q2=>br1 b0 b1 rfl q (of_decide_eq_true q2) _ λ G T h=>h,λ q2=>els _ λ G T h=>h⟩
 . rintro Γ' T ⟨S2,ls,room,bf,o5,o6,o7,o8,o9,o10,o11,rfl,u2,p2,hln,hlp,hr1,hr2,hbf,hnb,_,rfl⟩
   rw[az]at hln
   walk_at "b"
   refine⟨_,bU u2.len.symm,.inr ⟨[_],S2,rfl,by rw[u2.len];exact y9 _,fJ ls,u2.flat hS,hw ls _ ⟨by omega,by omega,hlp⟩ ?_ u2 p2 (u2.flat hS)⟩⟩
   exact⟨Nat.le_trans (Nat.le_mul_of_pos_right _ hr1) hr2.1,hr2.2.end hr1⟩
theorem ql{α:Type}{enc:α->D}{P:α->Prop}:∀{ys:List D},(∀(i:Nat)(y:D),ys[i]? =some y->∃a,y=enc a/\P a)->∃as,ys=List.map enc as/\∀a∈as,P a
 | [],_=>⟨[],rfl,by simp⟩
 | y::ys,h=>by
   obtain⟨a,rfl,ha⟩:=h 0 y rfl
   obtain⟨as,rfl,has⟩:=ql (enc:=enc) (P:=P) (ys:=ys) λ i y h'=>h (i+1) y (by simpa using h')
   exact⟨a::as,rfl,by
    intro b hb
    rcases List.mem_cons.mp hb with rfl | hb
    . exact ha
    . exact has b hb⟩
def TpB(ws:List Int)(d t:Nat)(pl:List Fm):Prop:=∃w,ws[t]? =some w/\(pl.length:Int)=w/\∀f∈pl,FmB d 1 f
def RdB(ws:List Int)(d:Nat)(r:Rd):Prop:= -1000000000000000000000000000000<r.fac/\r.fac<1000000000000000000000000000000/\TpB ws d r.tab r.pl
def StB(d:Nat)(f:Fm):Prop:=f.2.length=d/\Kp f.2/\ -1000000000000000000000000000000<f.1/\f.1<1000000000000000000000000000000
def DdB(ws:List Int)(d:Nat)(x:Dd):Prop:=TpB ws d x.tab x.pl/\StB d x.st/\x.rds.length≤3/\∀r∈x.rds,RdB ws d r
def WsB(ws:List Int):Prop:=1≤ws.length/\ws.length≤3/\∀w∈ws,1≤w/\w≤2
def CZ:Ct:=λ ds S W=>∃(k d:Nat) (ws:List Int),ds=[.loc k,dWs ws,.int d]/\aR S k/\flat S/\d≤10/\WsB ws/\∀x S',DdB ws d x->aW S k S'->aR S' k->flat S'->W (dDd x) S'
theorem Mi{t:Int}(hw:WsB ws)(h0:0≤t)(h1:t<(ws.map D.int).length):∃w:Int,atI (ws.map D.int) t=some (.int w)/\ws[t.toNat]? =some w/\1≤w/\w≤2:=by
 obtain⟨x,a,b⟩:=gf h0 h1
 rw[y8]at b
 cases e:ws[t.toNat]? with
 | none=>rw[e]at b;cases b
 | some w=>rw[e]at b;cases b;exact⟨w,a,rfl,hw.2.2 w (y4 e)⟩
theorem xN(pl:List Fm):au (dP pl)=true:=by
 show ao (pl.map dF)=true
 induction pl with
 | nil=>rfl
 | cons y ys ih=>simp only[List.map_cons,ao,ih,eZ,Bool.and_true]
theorem qx(rs:List Rd):ao (rs.map dRd)=true:=by
 induction rs with
 | nil=>rfl
 | cons y ys ih=>
   simp only[List.map_cons,ao,ih,Bool.and_true]
   show ao [D.int _,D.int _,dP y.pl]=true
   simp only[ao,xN,Bool.and_true];rfl
theorem uw(x:Dd):au (dDd x)=true:=by
 show ao [D.int _,dP x.pl,dF x.st,.tup (x.rds.map dRd)]=true
 have:au (.tup (x.rds.map dRd))=true:=qx x.rds
 simp only[ao,xN,eZ,this,Bool.and_true];rfl
theorem vN:(10:Int) ^ (30:Int).toNat=1000000000000000000000000000000:=by decide
def My(S:Store)(k d:Nat)(ws:List Int)(t:Int)(pl:List Fm)(st:Fm)(i:Nat)(Γ':Gam)(T:Store):Prop:=∃S2 rds o7 o8 o9 o10,T=S2++[List.map dRd rds]/\aW S k S2/\aR S2 k/\rds.length=i/\(∀r∈rds,RdB ws d r)/\Γ'=[some (.loc k),some (dWs ws),some (.int d),some (.int t),some (.tup (pl.map dF)),some (dF st),some (.loc S.length),o7,o8,o9,o10]
theorem Jf(F:Fun Ω.K "_law_deed" "_law_deed" pP f fd)(N0:Ω.cd=none)(B:Bi Ω.mg)(Cq12:Cal Ω "_law_take" 2 2 eV)(Cq4:Cal Ω "_law_form" 3 3 Dn):Ok Ω 4 f fd Mf CZ:=by
 refine aF N0 (N:=JB) F (Bl.drp (La B Cq12 Cq4)) (by kernel_rfl!) ?_
 rintro ds S W ⟨k,d,ws,rfl,hp,hS,hd,hws,hw⟩ hl
 obtain⟨hw1,hw2,hw3⟩:=id hws
 walk_at "b"
 have hlen:((ws.map D.int).length:Int)=(ws.length:Int):=by rw[y7]
 refine aN hp (by rw[hlen];omega) (by rw[hlen];omega) λ t S1 t0 t1 u1 p1=>?_
 obtain⟨w,g1,g2,gw1,gw2⟩:=Mi hws t0 t1
 walk_at "n"
 refine⟨_,g1,?_⟩
 walk_at "b"
 refine⟨⟨by omega,by omega⟩,lQ (λ _ y=>∃f,y=dF f/\FmB d 1 f) (λ S'=>aW S k S'/\aR S' k/\flat S') (by rw[az];omega) ⟨u1,p1,u1.flat hS⟩ ?_ ?_⟩
 . rintro i e S' he ⟨u,p,f⟩ R hR
   walk_at "b"
   exact⟨rfl,k,d,1,rfl,p,f,hd,by decide,by decide,λ f S4 hf u4 p4 f4=>hR _ _ ⟨f,rfl,hf⟩ ⟨u.trans u4,p4,f4⟩⟩
 rintro ys S2 hyl hys ⟨u2,p2,f2⟩
 obtain⟨pl,rfl,hpl⟩:=ql hys
 rw[az,y7]at hyl
 walk_at "b"
 rw[vN]
 refine aN p2 (by decide) (by decide) λ s S3 s0 s1 u3 p3=>?_
 walk_at "n"
 obtain⟨z,h1,h2⟩:=gf (ds:=[D.int 1,.int 9,.int (1000000000000000000000000000000-1)]) s0 s1
 have hz:=y4 h2
 obtain⟨c,rfl,hc1,hc2⟩:∃c:Int,z=.int c/\1≤c/\c<1000000000000000000000000000000:=by
  simp only[List.mem_cons,List.not_mem_nil,or_false]at hz
  rcases hz with rfl | rfl | rfl<;>exact⟨_,rfl,by decide,by decide⟩
 refine⟨_,h1,?_⟩
 have u3:=u2.trans u3
 walk_at "b"
 refine⟨rfl,k,d,c,rfl,p3,u3.flat hS,hd,hc1,hc2,λ st S4 hst u4 p4 f4=>?_⟩
 have u4:=u3.trans u4
 walk_at "b"
 refine aN (p4.app _) (by decide) (by decide) λ n T n0 n1 u5 p5=>?_
 obtain⟨S5,rfl,u5,p5⟩:=u5.split p4
 have u5:=u4.trans u5
 walk_at "n"
 refine⟨⟨by omega,by omega⟩,bc ⟨My S k d ws t pl st,⟨S5,[],none,none,none,none,rfl,u5,p5,rfl,λ r h=>(by cases h),by rw[←u4.len];rfl⟩,?_,?_⟩⟩
 . rintro i e Γ' T he ⟨S6,rds,o7,o8,o9,o10,rfl,u6,p6,hrl,hrd,rfl⟩
   obtain⟨hi,rfl⟩:=bC he
   suffices body:∀Wf:DL.Fin,(∀G T,My S k d ws t pl st (i+1) G T->Wf.nx G T)->(nZ B Cq12 Cq4).wp [some (.loc k),some (dWs ws),some (.int d),some (.int t),some (.tup (pl.map dF)),some (dF st),some (.loc S.length),some (.int (0+(i:Int))),o8,o9,o10] (S6++[rds.map dRd]) Wf by
    refine Es ?_
    simp only[List.set_cons_succ,List.set_cons_zero]
    exact body _ λ G T h=>h
   intro Wf hnx
   walk_at "b"
   refine aN (p6.app _) (by rw[hlen];omega) (by rw[hlen];omega) λ o T7 o0 o1 u7 p7=>?_
   obtain⟨S7,rfl,u7,p7⟩:=u7.split p6
   have u7:=u6.trans u7
   obtain⟨w',g1',g2',gw1',gw2'⟩:=Mi hws o0 o1
   walk_at "b"
   refine aN (p7.app _) (by decide) (by decide) λ way T8 w0 w1 u8 p8=>?_
   obtain⟨S8,rfl,u8,p8⟩:=u8.split p7
   have u8:=u7.trans u8
   have rest:∀(c:Int)(S9:Store),aW S k S9->aR S9 k-> -1000000000000000000000000000000<c->c<1000000000000000000000000000000->(j9 B Cq12 Cq4).wp [some (.loc k),some (dWs ws),some (.int d),some (.int t),some (.tup (pl.map dF)),some (dF st),some (.loc S.length),some (.int (0+(i:Int))),some (.int o),some (.int way),some (.int c)] (S9++[rds.map dRd]) Wf:=by
    intro c S9 u9 p9 c1 c2
    walk_at "n"
    refine⟨_,g1',?_⟩
    walk_at "b"
    refine⟨⟨by omega,by omega⟩,lQ (λ _ y=>∃f,y=dF f/\FmB d 1 f) (λ T=>∃S',T=S'++[rds.map dRd]/\aW S k S'/\aR S' k) (by rw[az];omega) ⟨S9,rfl,u9,p9⟩ ?_ ?_⟩
    . rintro j e T he ⟨S',rfl,u,p⟩ R hR
      walk_at "b"
      refine⟨rfl,k,d,1,rfl,p.app _,cV (u.flat hS) (qx _),hd,by decide,by decide,λ f S4 hf u4 p4 f4=>?_⟩
      obtain⟨S5,rfl,u5,p5⟩:=u4.split p
      exact hR _ _ ⟨f,rfl,hf⟩ ⟨S5,rfl,u.trans u5,p5⟩
    rintro ys T hyl hys ⟨S10,rfl,u10,p10⟩
    obtain⟨pl',rfl,hpl'⟩:=ql hys
    rw[az,y7]at hyl
    walk_at "b"
    refine⟨_,bU u10.len.symm,by simp;omega,?_⟩
    rw[fc u10.len.symm]
    obtain⟨on,rfl⟩:∃on:Nat,o=(on:Int):=⟨o.toNat,by omega⟩
    refine hnx _ _ ⟨S10,rds++[⟨c,on,pl'⟩],some (.int (0+(i:Int))),some (.int on),some (.int way),some (.int c),by rw[List.map_append];rfl,u10,p10,by simp[hrl],λ r hr=>?_,rfl⟩
    rcases List.mem_append.mp hr with hr | hr
    . exact hrd r hr
    . have:r=⟨c,on,pl'⟩:=by simpa using hr
      subst this
      exact⟨c1,c2,w',by simpa using g2',by show(pl'.length:Int)=w';omega,hpl'⟩
   walk_at "n"
   obtain⟨z,h1,h2⟩:=gf (ds:=[D.int 1,.int (-1),.int 2,.int 3,.int 0,.int 1,.int (-5),.int 0]) w0 w1
   have hz:=y4 h2
   obtain⟨c,rfl,hc1,hc2⟩:∃c:Int,z=.int c/\ -1000000000000000000000000000000<c/\c<1000000000000000000000000000000:=by
    simp only[List.mem_cons,List.not_mem_nil,or_false]at hz
    rcases hz with rfl | rfl | rfl | rfl | rfl | rfl | rfl | rfl<;>exact⟨_,rfl,by decide,by decide⟩
   refine⟨(by decide:(8:Nat)≤1000000),?_⟩
   walk_at "n"
   refine⟨_,h1,?_⟩
   walk_at "b"
   refine⟨λ q=>?_,λ q=>rest c S8 u8 p8 hc1 hc2⟩
   walk_at "b"
   rw[vN]
   refine aN (p8.app _) (by decide) (by decide) λ v T9 v0 v1 u9 p9=>?_
   obtain⟨S9,rfl,u9,p9⟩:=u9.split p8
   walk_at "b"
   rw[vN]
   exact rest _ S9 (u8.trans u9) p9 (by omega) (by omega)
 . rintro Γ' T ⟨S6,rds,o7,o8,o9,o10,rfl,u6,p6,hrl,hrd,rfl⟩
   rw[az]at hrl
   obtain⟨tn,rfl⟩:∃tn:Nat,t=(tn:Int):=⟨t.toNat,by omega⟩
   walk_at "b"
   refine⟨_,bU u6.len.symm,?_⟩
   walk_at "b"
   have ok:DdB ws d ⟨tn,pl,st,rds⟩:=⟨⟨w,by simpa using g2,by show(pl.length:Int)=w;omega,hpl⟩,⟨hst.1,hst.2.1,by have:=hst.2.2;show _<st.1;omega,by have:=hst.2.2;show st.1<_;omega⟩,by show rds.length≤3;omega,hrd⟩
   exact .inr ⟨[_],S6,rfl,by rw[u6.len];exact y9 _,uw ⟨tn,pl,st,rds⟩,u6.flat hS,hw ⟨tn,pl,st,rds⟩ _ ok u6 p6 (u6.flat hS)⟩
def NsB(ws:List Int)(m:Nat)(n:Ns):Prop:=Lps n.lps/\1≤n.dds.length/\n.dds.length≤4/\(cnt n.lps).length≤max 1 (m/n.dds.length)/\∀x∈n.dds,DdB ws n.lps.length x
def PgB(m:Nat)(p:Pg):Prop:=WsB p.ws/\1≤p.nss.length/\p.nss.length≤3/\∀n∈p.nss,NsB p.ws (m/p.nss.length) n
def PgW(m:Nat)(p:Pg):Prop:=∀n∈p.nss,Wdd n.lps 1 (max 1 (m/p.nss.length/n.dds.length))
def Cj:Ct:=λ ds S W=>∃(k m:Nat),ds=[.loc k,.int m]/\aR S k/\flat S/\12≤m/\m≤60/\∀p S',PgB m p/\PgW m p->aW S k S'->aR S' k->flat S'->W (dPg p) S'
theorem Ef(xs:List Dd):ao (xs.map dDd)=true:=by
 induction xs with
 | nil=>rfl
 | cons y ys ih=>simp only[List.map_cons,ao,ih,uw,Bool.and_true]
theorem Gv(n:Ns):au (dNs n)=true:=by
 show ao [.tup (n.lps.map dL),.tup (n.dds.map dDd)]=true
 have h1:au (.tup (n.lps.map dL))=true:=fJ _
 have h2:au (.tup (n.dds.map dDd))=true:=Ef _
 simp only[ao,h1,h2,Bool.and_true]
theorem jM(xs:List Ns):ao (xs.map dNs)=true:=by
 induction xs with
 | nil=>rfl
 | cons y ys ih=>simp only[List.map_cons,ao,ih,Gv,Bool.and_true]
theorem Jv(p:Pg):au (dPg p)=true:=by
 show ao [dWs p.ws,.tup (p.nss.map dNs)]=true
 have h1:au (dWs p.ws)=true:=bZ _
 have h2:au (.tup (p.nss.map dNs))=true:=jM _
 simp only[ao,h1,h2,Bool.and_true]
def Ml(S:Store)(k m:Nat)(ws:List Int)(many:Nat)(i:Nat)(Γ':Gam)(T:Store):Prop:=∃S2 nss o5 o6 o7,T=S2++[List.map dNs nss]/\aW S k S2/\aR S2 k/\nss.length=i/\(∀n∈nss,NsB ws (m/many) n/\Wdd n.lps 1 (max 1 (m/many/n.dds.length)))/\Γ'=[some (.loc k),some (.int m),some (dWs ws),some (.int many),some (.loc S.length),o5,o6,o7]
theorem yL(F:Fun Ω.K "_law_program" "_law_program" iQ f fd)(N0:Ω.cd=none)(B:Bi Ω.mg)(Cq12:Cal Ω "_law_take" 2 2 eV)(Cq5:Cal Ω "_law_loops" 3 2 yf)(Cq3:Cal Ω "_law_deed" 4 3 CZ):Ok Ω 5 f fd Aw Cj:=by
 refine aF N0 (N:=zQ) F (Bl.drp (Ak B Cq12 Cq5 Cq3)) (by kernel_rfl!) ?_
 rintro ds S W ⟨k,m,rfl,hp,hS,hm1,hm2,hw⟩ hl
 walk_at "b"
 refine aN hp (by decide) (by decide) λ v S1 v0 v1 u1 p1=>?_
 walk_at "b"
 refine⟨⟨by omega,by omega⟩,lQ (λ _ y=>∃n:Int,y=.int n/\(1≤n/\n≤2)) (λ S'=>aW S k S'/\aR S' k) (by rw[az];omega) ⟨u1,p1⟩ ?_ ?_⟩
 . rintro i d S' hd ⟨u,p⟩ R hR
   walk_at "b"
   refine aN p (by decide) (by decide) λ w S2 w0 w1 u2 p2=>?_
   walk_at "b"
   exact hR _ _ ⟨_,rfl,by omega,by omega⟩ ⟨u.trans u2,p2⟩
 rintro ys S2 hyl hys ⟨u2,p2⟩
 obtain⟨ws,rfl,hws⟩:=oK hys
 rw[az,y7]at hyl
 have hW:WsB ws:=⟨by omega,by omega,hws⟩
 walk_at "b"
 refine aN p2 (by decide) (by decide) λ mv S3 m0 m1 u3 p3=>?_
 have u3:=u2.trans u3
 obtain⟨many,hmany⟩:∃n:Nat,1+mv=(n:Int):=⟨(1+mv).toNat,by omega⟩
 walk_at "b"
 rw[hmany]
 refine⟨⟨by omega,by omega⟩,bc ⟨Ml S k m ws many,⟨S3,[],none,none,none,rfl,u3,p3,rfl,λ r h=>(by cases h),by rw[←u3.len];rfl⟩,?_,?_⟩⟩
 . rintro i e Γ' T he ⟨S4,nss,o5,o6,o7,rfl,u4,p4,hnl,hns,rfl⟩
   obtain⟨hi,rfl⟩:=bC he
   suffices body:∀Wf:DL.Fin,(∀G T,Ml S k m ws many (i+1) G T->Wf.nx G T)->(jf B Cq12 Cq5 Cq3).wp [some (.loc k),some (.int m),some (dWs ws),some (.int many),some (.loc S.length),some (.int (0+(i:Int))),o6,o7] (S4++[nss.map dNs]) Wf by
    refine Es ?_
    simp only[List.set_cons_succ,List.set_cons_zero]
    exact body _ λ G T h=>h
   intro Wf hnx
   walk_at "b"
   refine aN (p4.app _) (by decide) (by decide) λ dv T5 d0 d1 u5 p5=>?_
   obtain⟨S5,rfl,u5,p5⟩:=u5.split p4
   have u5:=u4.trans u5
   obtain⟨dn,hdn⟩:∃n:Nat,1+dv=(n:Int):=⟨(1+dv).toNat,by omega⟩
   walk_at "b"
   rw[hdn]
   have em:(if(m:Int)/(many:Int)/(dn:Int)>1 then(m:Int)/(many:Int)/(dn:Int)else 1)=((max 1 (m/many/dn):Nat):Int):=by
    rw[←Int.natCast_ediv,←Int.natCast_ediv]
    split<;>omega
   have hdiv:m/many/dn≤60:=Nat.le_trans (Nat.div_le_self _ _) (Nat.le_trans (Nat.div_le_self _ _) hm2)
   rw[em]
   refine⟨rfl,k,max 1 (m/many/dn),rfl,p5.app _,cV (u5.flat hS) (jM _),by omega,by omega,λ ls T6 hls hcn u6 p6 f6=>?_⟩
   obtain⟨S6,rfl,u6,p6⟩:=u6.split p5
   have u6:=u5.trans u6
   walk_at "b"
   have l3:=hls.2.1
   refine⟨⟨by omega,by omega⟩,lQ (λ _ y=>∃x,y=dDd x/\DdB ws ls.length x) (λ T=>∃S',T=S'++[nss.map dNs]/\aW S k S'/\aR S' k) (by rw[az];omega) ⟨S6,rfl,u6,p6⟩ ?_ ?_⟩
   . rintro j e T he ⟨S',rfl,u,p⟩ R hR
     walk_at "b"
     rw[y7]
     refine⟨rfl,k,ls.length,ws,rfl,p.app _,cV (u.flat hS) (jM _),by omega,hW,λ f S4 hf u4 p4 f4=>?_⟩
     obtain⟨S5,rfl,u5,p5⟩:=u4.split p
     exact hR _ _ ⟨f,rfl,hf⟩ ⟨S5,rfl,u.trans u5,p5⟩
   rintro ys T hyl hys ⟨S7,rfl,u7,p7⟩
   obtain⟨dds,rfl,hdds⟩:=ql hys
   rw[az,y7]at hyl
   walk_at "b"
   refine⟨_,bU u7.len.symm,by simp;omega,?_⟩
   rw[fc u7.len.symm]
   refine hnx _ _ ⟨S7,nss++[⟨ls,dds⟩],some (.int (0+(i:Int))),some (.int dn),some (.tup (ls.map dL)),by rw[List.map_append];rfl,u7,p7,by simp[hnl],λ r hr=>?_,rfl⟩
   rcases List.mem_append.mp hr with hr | hr
   . exact hns r hr
   . have:r=⟨ls,dds⟩:=by simpa using hr
     subst this
     have e:dds.length=dn:=by omega
     exact⟨⟨hls,by show 1≤dds.length;omega,by show dds.length≤4;omega,by show _≤max 1 (m/many/dds.length);rw[e];exact hcn.1,hdds⟩,by show Wdd ls 1 (max 1 (m/many/dds.length));rw[e];exact hcn.2⟩
 . rintro Γ' T ⟨S4,nss,o5,o6,o7,rfl,u4,p4,hnl,hns,rfl⟩
   rw[az]at hnl
   walk_at "b"
   refine⟨_,bU u4.len.symm,?_⟩
   walk_at "b"
   have ok:PgB m ⟨ws,nss⟩:=⟨hW,by show 1≤nss.length;omega,by show nss.length≤3;omega,λ n hn=>by
    show NsB ws (m/nss.length) n
    rw[show nss.length=many by omega]
    exact(hns n hn).1⟩
   have okw:PgW m ⟨ws,nss⟩:=λ n hn=>by
    show Wdd n.lps 1 (max 1 (m/nss.length/n.dds.length))
    rw[show nss.length=many by omega]
    exact(hns n hn).2
   exact .inr ⟨[_],S4,rfl,by rw[u4.len];exact y9 _,Jv ⟨ws,nss⟩,u4.flat hS,hw ⟨ws,nss⟩ _ ⟨ok,okw⟩ u4 p4 (u4.flat hS)⟩
def vR:Ct:=λ ds S W=>∃(f:Fm) (cs:List Int),ds=[dF f,dC cs]/\f.2.length=cs.length/\cs.length≤10/\C64 cs/\W (.int (atC f cs)) S
def qJ(fs cs:List Int):D->D
 | .int i=>.int (fs.getD i.toNat 0*cs.getD i.toNat 0)
 | d=>d
theorem Jk{fs:List Int}(h:fs.length=cs.length):(DL.upTo 0 cs.length).map (qJ fs cs)=(List.zipWith (λ a b=>a*b) fs cs).map D.int:=by
 refine List.ext_getElem (by simp[h,az]) λ i h1 h2=>?_
 have hi:i<cs.length:=by simpa[az]using h1
 have hf:i<fs.length:=by omega
 simp[DL.upTo,qJ,List.getD,hi,hf]
theorem PT(F:Fun Ω.K "_law_at" "_law_at" yO f fd)(N0:Ω.cd=none)(B:Bi Ω.mg):Ok Ω 1 f fd Sv vR:=by
 refine aF N0 (N:=RG) F (R5 B) (by kernel_rfl!) ?_
 rintro ds S W ⟨⟨a,fs⟩,cs,rfl,hf,hz,hc,hw⟩ hl
 dsimp only at hf
 walk_at "b"
 refine⟨_,aU (j:=0) rfl,?_⟩
 walk_at "b"
 have e0:((cs.map D.int).length:Int).toNat=cs.length:=by simp
 refine⟨⟨by omega,by simp;omega⟩,?_⟩
 rw[e0]
 refine cY (qJ fs cs) (by rw[az];omega) ?_ ?_
 . intro i e he Q hq
   obtain⟨hi,rfl⟩:=bC he
   have hf':i<fs.length:=by omega
   have g1:atI (D.int a::fs.map D.int) (1+(0+(i:Int)))=some (.int fs[i]):=by
    have:(1+(0+(i:Int)))=((i+1:Nat):Int):=by omega
    rw[this]
    exact aU (by simp[hf'])
   have g2:atI (cs.map D.int) (0+(i:Int))=some (.int cs[i]):=by
    have:(0+(i:Int))=((i:Nat):Int):=by omega
    rw[this]
    exact aU (by simp[hi])
   have hci:=hc cs[i] (List.getElem_mem _)
   walk_at "b"
   refine⟨_,g1,?_⟩
   walk_at "b"
   refine⟨_,g2,?_⟩
   walk_at "b"
   have e:qJ fs cs (.int (0+(i:Int)))=.int (fs[i]*cs[i]):=by
    have:(0+(i:Int)).toNat=i:=by omega
    simp[qJ,List.getD,hi,hf']
   rw[e]at hq
   exact hq
 . rw[Jk hf]
   refine⟨_,rfl,?_⟩
   walk_at "b"
   exact hw
def CV:Ct:=λ ds S W=>∃(t:Nat) (pl:List Fm) (cs:List Int),ds=[.int t,dP pl,dC cs]/\pl.length≤1000/\(∀f∈pl,f.2.length=cs.length)/\cs.length≤10/\C64 cs/\W (aH (spot t pl cs)) S
theorem G9(F:Fun Ω.K "_law_spot" "_law_spot" oU f fd)(N0:Ω.cd=none)(B:Bi Ω.mg)(Cq0:Cal Ω "_law_at" 1 2 vR):Ok Ω 2 f fd Ko CV:=by
 refine aF N0 (N:=JT) F (K5 B Cq0) (by kernel_rfl!) ?_
 rintro ds S W ⟨t,pl,cs,rfl,hpl,hfl,hcl,hcs,hw⟩ hl
 walk_at "b"
 refine d9 (λ f=>.int (atC f cs)) (by omega) ?_ ?_
 . intro i f hf Q hq
   walk_at "b"
   exact⟨rfl,f,cs,rfl,hfl f (y4 hf),hcl,hcs,hq⟩
 . walk_at "b"
   have e:(spot t pl cs).2.map D.int=pl.map λ f=>D.int (atC f cs):=by unfold spot;rw[List.map_map];rfl
   unfold aH at hw
   rw[e]at hw
   exact hw
theorem Cs.c64(h:Cs i cs):C64 cs:=λ c hc=>by
 have:=h.2 c hc
 have:=wu i
 omega
def yC:Ct:=λ ds S W=>∃ls,ds=[.tup (List.map dL ls)]/\Lps ls/\flat S/\W (.lst ((cnt ls).map dC)) S
theorem yH{ds:List D}{o:Option D}(h:nlO o):rJ k ds o=o:=by
 cases o with
 | none=>rfl
 | some d=>
   cases d with
   | loc j=>have:=h _ rfl;simp[au]at this
   | _=>rfl
theorem JN(cs:List Int):au (dC cs)=true:=bZ cs
theorem zY(F:Fun Ω.K "_law_counts" "_law_counts" jX f fd)(N0:Ω.cd=none)(B:Bi Ω.mg)(Cq0:Cal Ω "_law_at" 1 2 vR):Ok Ω 2 f fd Ed yC:=by
 refine aF N0 (N:=DQ) F (FQ B Cq0) (by kernel_rfl!) ?_
 rintro ds S W ⟨ls,rfl,hL,hS,hw⟩ hl
 walk_at "b"
 refine bc ⟨λ i Γ' S'=>(∃o2 o3 o4 o5 o6,Γ'=[some (.tup (ls.map dL)),some (.lst ((cnt (ls.take i)).map dC)),o2,o3,o4,o5,o6]/\nlO o5/\nlO o6)/\S'=S,⟨⟨_,_,_,_,_,rfl,cJ,cJ⟩,rfl⟩,?_,?_⟩
 . rintro i e Γ' S' he ⟨⟨o2,o3,o4,o5,o6,rfl,n5,n6⟩,rfl⟩
   rw[y8]at he
   cases e1:ls[i]? with
   | none=>rw[e1]at he;cases he
   | some l=>
     rw[e1]at he
     cases he
     have hi:=(z0.mp e1).1
     have h3:=hL.2.1
     obtain⟨lo,hi_⟩:=l
     obtain⟨b1,b2⟩:=hL.2.2 i _ e1
     dsimp only at b1 b2
     have hcs:=mq hL i (by omega)
     have hln:=(hL.fits.2 (i+1) (by omega)).1
     have hgo:=jN e1
     rw[hgo]at hln
     dsimp only at hgo hln
     generalize hG:cnt (ls.take i)=G at*
     walk_at "b"
     refine⟨rfl,?_⟩
     walk_at "b"
     refine bc ⟨λ m Γ' T=>(∃o5 o6,Γ'=[some (.tup (ls.map dL)),some (.lst (G.map dC)),some (dF lo),some (dF hi_),some (.loc S'.length),o5,o6]/\nlO o5/\nlO o6)/\T=S'++[(aL lo hi_ (G.take m)).map dC],⟨⟨_,_,rfl,n5,n6⟩,rfl⟩,?_,?_⟩
     . rintro m e Γ' T he ⟨⟨o5,o6,rfl,n5,n6⟩,rfl⟩
       obtain⟨cs,e2,rfl⟩:=cG he
       have hc:=hcs cs (y4 e2)
       have hb:=wu (i+1)
       have a1:=jl (by omega) b1 hc
       have a2:=jl (by omega) b2 hc
       have lf:=xK (lo:=lo) (hi:=hi_) e2
       walk_at "b"
       refine⟨rfl,lo,cs,rfl,by rw[b1.1,hc.1],by rw[hc.1];omega,hc.c64,?_⟩
       walk_at "b"
       refine⟨rfl,hi_,cs,rfl,by rw[b2.1,hc.1],by rw[hc.1];omega,hc.c64,?_⟩
       walk_at "b"
       refine⟨⟨by omega,by omega,by omega,by omega⟩,bc ⟨λ j Γ' T=>(∃o6,Γ'=[some (.tup (ls.map dL)),some (.lst (G.map dC)),some (dF lo),some (dF hi_),some (.loc S'.length),some (dC cs),o6]/\nlO o6)/\T=S'++[(aL lo hi_ (G.take m)++(bz lo hi_ cs).take j).map dC],⟨⟨_,rfl,n6⟩,by simp⟩,?_,?_⟩⟩
       . rintro j e Γ' T he ⟨⟨o6,rfl,n6⟩,rfl⟩
         obtain⟨hj,rfl⟩:=bC he
         have hj':j<(bz lo hi_ cs).length:=by rw[cI];exact hj
         walk_at "b"
         refine⟨by rw[y7,hc.1,List.length_singleton];omega,_,bL _ _,by rw[y7,x8,List.length_take];omega,?_⟩
         refine⟨⟨_,rfl,jq _⟩,?_⟩
         rw[cj]
         have e3:(bz lo hi_ cs)[j]? =some (cs++[atC lo cs+(j:Int)]):=by
          unfold bz
          rw[y8,Bj (by rw[cI]at hj';exact hj')];rfl
         have e4:dC (cs++[atC lo cs+(j:Int)])=D.tup (cs.map D.int++[D.int (atC lo cs+(j:Int))]):=by
          unfold dC;rw[List.map_append];rfl
         rw[bj e3,←List.append_assoc,List.map_append (l₂:=[_]),List.map_singleton,e4]
       . rintro Γ' T ⟨⟨o6,rfl,n6⟩,rfl⟩
         refine⟨⟨_,_,rfl,λ d h=>by cases h;exact JN cs,n6⟩,?_⟩
         have e5:(bz lo hi_ cs).take (DL.upTo (atC lo cs) (atC hi_ cs-atC lo cs).toNat).length=bz lo hi_ cs:=by
          rw[az];exact List.take_of_length_le (by rw[cI];exact y9 _)
         rw[e5,gP e2]
     . rintro Γ' T ⟨⟨o5,o6,rfl,n5,n6⟩,rfl⟩
       rw[y7,List.take_length,←hgo]
       walk_at "b"
       refine .inr ⟨_,_,rfl,y9 _,lL _,hS,?_,⟨some (dF lo),some (dF hi_),some (.lst ((cnt (ls.take (i+1))).map dC)),o5,o6,?_,n5,n6⟩,rfl⟩
       . intro x d hx
         match x,hx with
         | 0,hx=>cases hx;exact .inl (fJ _)
         | 1,hx=>cases hx;exact .inr ⟨_,rfl⟩
         | 2,hx=>cases hx;exact .inl (eZ _)
         | 3,hx=>cases hx;exact .inl (eZ _)
         | 4,hx=>cases hx;exact .inr ⟨_,rfl⟩
         | 5,hx=>exact .inl (n5 d (by simpa using hx))
         | 6,hx=>exact .inl (n6 d (by simpa using hx))
         | x+7,hx=>simp at hx
       . show[_,_,_,_,_,_,_]=[_,_,_,_,_,_,_]
         rw[yH n5,yH n6]
         simp[rJ,dF]
 . rintro Γ' S' ⟨⟨o2,o3,o4,o5,o6,rfl,n5,n6⟩,rfl⟩
   rw[y7,List.take_length]
   walk_at "b"
   exact hw
def dPt(cs:List Int)(r:Rd):D:=.tup [.int r.fac,aH (spot r.tab r.pl cs)]
def cX(cs:List Int)(x:Dd):D:=.tup [aH (spot x.tab x.pl cs),.int (atC x.st cs),.lst (x.rds.map (dPt cs))]
def pQ(n:Ns):List D:=(cnt n.lps).flatMap λ cs=>n.dds.map (cX cs)
def FT(p:Pg):List D:=p.nss.flatMap pQ
def yu:Ct:=λ ds S W=>∃(p:Pg) (m:Nat),ds=[dPg p]/\PgB m p/\m≤60/\flat S/\hand W (FT p) S
theorem wW{α β:Type}{f:α->List β}{b:Nat}:∀{l:List α},(∀a∈l,(f a).length≤b)->(l.flatMap f).length≤l.length*b
 | [],_=>by simp
 | a::l,h=>by
   have ih:=wW (l:=l) λ x hx=>h x (x4 _ hx)
   have:=h a x6
   rw[List.flatMap_cons,x8,List.length_cons,Nat.succ_mul]
   omega
theorem iD(c:Cell):au (aH c)=true:=by
 have h:au (.tup (c.2.map D.int))=true:=bZ _
 show ao [D.int _,.tup (c.2.map D.int)]=true
 simp only[ao,h,Bool.and_true];rfl
theorem cL{α:Type}{f:α->D}(h:∀a,au (f a)=true):∀l:List α,ao (l.map f)=true
 | []=>rfl
 | a::l=>by simp only[List.map_cons,ao,h,cL h l,Bool.and_true]
theorem Gw(cs:List Int)(r:Rd):au (dPt cs r)=true:=by
 show ao [D.int _,aH _]=true
 simp only[ao,iD,Bool.and_true];rfl
theorem qy(cs:List Int)(x:Dd):au (cX cs x)=true:=by
 have h:au (.lst (x.rds.map (dPt cs)))=true:=cL (Gw cs) _
 show ao [aH _,D.int _,.lst (x.rds.map (dPt cs))]=true
 simp only[ao,iD,h,Bool.and_true];rfl
theorem jF:∀{l:List D},(∀d∈l,au d=true)->ao l=true
 | [],_=>rfl
 | d::l,h=>by simp only[ao,h d x6,jF λ x hx=>h x (x4 _ hx),Bool.and_true]
theorem Ay(p:Pg):ao (FT p)=true:=jF λ d hd=>by
 obtain⟨n,_,hd⟩:=List.mem_flatMap.mp hd
 obtain⟨cs,_,hd⟩:=List.mem_flatMap.mp hd
 obtain⟨x,_,rfl⟩:=List.mem_map.mp hd
 exact qy cs x
theorem sX{α β:Type}{f:α->List β}{l:List α}{a:α}(h:l[i]? =some a):(l.take (i+1)).flatMap f=(l.take i).flatMap f++f a:=by
 rw[bj h,List.flatMap_append];simp
theorem Fl(F:Fun Ω.K "_law_steps" "_law_steps" lX f fd)(N0:Ω.cd=none)(Cq0:Cal Ω "_law_at" 1 2 vR)(Cq2:Cal Ω "_law_counts" 2 1 yC)(Cq9:Cal Ω "_law_spot" 2 3 CV):Ok Ω 3 f fd Hu yu:=by
 refine aF N0 (N:=GX) F (Bl.frz (Ig Cq0 Cq2 Cq9)) (by kernel_rfl!) ?_
 rintro ds S W ⟨p,m,rfl,hP,hm,hS,hw⟩ hl
 obtain⟨hW,hn1,hn3,hns⟩:=hP
 have big:∀n∈p.nss,(cnt n.lps).length≤60/\n.dds.length≤4:=λ n hn=>by
  obtain⟨_,_,h4,hc,_⟩:=hns n hn
  have h1:m/p.nss.length/n.dds.length≤60:=Nat.le_trans (Nat.div_le_self _ _) (Nat.le_trans (Nat.div_le_self _ _) hm)
  exact⟨by omega,h4⟩
 have b1:∀(n:Ns)(j:Nat),n∈p.nss->(((cnt n.lps).take j).flatMap λ cs=>n.dds.map (cX cs)).length≤240:=λ n j hn=>by
  obtain⟨h1,h2⟩:=big n hn
  have:=wW (l:=(cnt n.lps).take j) (f:=λ cs=>n.dds.map (cX cs)) (b:=4) (λ cs _=>by rw[y7];exact h2)
  rw[List.length_take]at this
  omega
 have b2:∀i:Nat,((p.nss.take i).flatMap pQ).length≤720:=λ i=>by
  have:=wW (l:=p.nss.take i) (f:=pQ) (b:=240) (λ n hn=>by
   have:=b1 n (cnt n.lps).length (List.mem_of_mem_take hn)
   rw[List.take_length]at this
   exact this)
  rw[List.length_take]at this
  omega
 walk_at "b"
 refine bc ⟨λ i Γ' S'=>(∃o2 o3 o4 o5 o6 o7 o8 o9,Γ'=[some (dPg p),some (.loc S.length),o2,o3,o4,o5,o6,o7,o8,o9])/\S'=S++[(p.nss.take i).flatMap pQ],⟨⟨_,_,_,_,_,_,_,_,rfl⟩,rfl⟩,?_,?_⟩
 . rintro i e Γ' S' he ⟨⟨o2,o3,o4,o5,o6,o7,o8,o9,rfl⟩,rfl⟩
   obtain⟨n,hn,rfl⟩:=cG he
   have hnm:=y4 hn
   obtain⟨hL,d1,d4,hc,hdd⟩:=hns n hnm
   obtain⟨g1,g2⟩:=big n hnm
   have gb:=b2 i
   walk_at "b"
   refine⟨rfl,?_⟩
   walk_at "b"
   refine⟨rfl,n.lps,rfl,hL,cV hS ?_,?_⟩
   . exact jF λ d hd=>by
      obtain⟨n,_,hd⟩:=List.mem_flatMap.mp hd
      obtain⟨cs,_,hd⟩:=List.mem_flatMap.mp hd
      obtain⟨x,_,rfl⟩:=List.mem_map.mp hd
      exact qy cs x
   walk_at "n"
   refine bc ⟨λ j Γ' S'=>(∃o4 o5 o6 o7 o8 o9,Γ'=[some (dPg p),some (.loc S.length),some (.tup (n.lps.map dL)),some (.tup (n.dds.map dDd)),o4,o5,o6,o7,o8,o9])/\S'=S++[(p.nss.take i).flatMap pQ++((cnt n.lps).take j).flatMap λ cs=>n.dds.map (cX cs)],⟨⟨_,_,_,_,_,_,rfl⟩,by simp⟩,?_,?_⟩
   . rintro j e Γ' S' he ⟨⟨o4,o5,o6,o7,o8,o9,rfl⟩,rfl⟩
     obtain⟨cs,hcs,rfl⟩:=cG he
     have hC:Cs n.lps.length cs:=mq hL n.lps.length (y9 _) cs (by rw[List.take_length];exact y4 hcs)
     have hcl:cs.length≤10:=by have:=hC.1;have:=hL.2.1;omega
     have gj:=b1 n j hnm
     walk_at "b"
     refine bc ⟨λ t Γ' S'=>(∃o5 o6 o7 o8 o9,Γ'=[some (dPg p),some (.loc S.length),some (.tup (n.lps.map dL)),some (.tup (n.dds.map dDd)),some (dC cs),o5,o6,o7,o8,o9])/\S'=S++[((p.nss.take i).flatMap pQ++((cnt n.lps).take j).flatMap λ cs=>n.dds.map (cX cs))++(n.dds.take t).map (cX cs)],⟨⟨_,_,_,_,_,rfl⟩,by simp⟩,?_,?_⟩
     . rintro t e Γ' S' he ⟨⟨o5,o6,o7,o8,o9,rfl⟩,rfl⟩
       obtain⟨x,hx,rfl⟩:=cG he
       obtain⟨⟨w,_,hwl,hpl⟩,hst,hr3,hrd⟩:=hdd x (y4 hx)
       have plen:∀{t:Nat}{pl:List Fm},TpB p.ws n.lps.length t pl->pl.length≤1000/\∀f∈pl,f.2.length=cs.length:=λ{t pl} h=>by
        obtain⟨w,hw,hl,hf⟩:=h
        have:=hW.2.2 w (y4 hw)
        exact⟨by omega,λ f h=>by rw[(hf f h).1,hC.1]⟩
       walk_at "b"
       refine⟨rfl,?_⟩
       walk_at "b"
       refine d9 (dPt cs) (by omega) ?_ ?_
       . intro y r hr Q hq
         obtain⟨_,_,htp⟩:=hrd r (y4 hr)
         obtain⟨q1,q2⟩:=plen htp
         walk_at "b"
         refine⟨rfl,?_⟩
         walk_at "b"
         refine⟨rfl,r.tab,r.pl,cs,rfl,q1,q2,hcl,hC.c64,?_⟩
         walk_at "b"
         exact hq
       obtain⟨q1,q2⟩:=plen ⟨w,‹_›,hwl,hpl⟩
       walk_at "b"
       refine⟨rfl,x.tab,x.pl,cs,rfl,q1,q2,hcl,hC.c64,?_⟩
       walk_at "b"
       refine⟨rfl,x.st,cs,rfl,by rw[hst.1,hC.1],hcl,hC.c64,?_⟩
       walk_at "b"
       refine⟨_,bL _ _,by simp only[x8,y7,List.length_take];omega,?_⟩
       rw[cj]
       refine⟨⟨_,_,_,_,_,rfl⟩,?_⟩
       rw[bj hx,List.map_append (l₂:=[_]),List.append_assoc];rfl
     . rintro Γ' S' ⟨⟨o5,o6,o7,o8,o9,rfl⟩,rfl⟩
       refine⟨⟨_,_,_,_,_,_,rfl⟩,?_⟩
       rw[y7,List.take_length,sX hcs,←List.append_assoc]
   . rintro Γ' S' ⟨⟨o4,o5,o6,o7,o8,o9,rfl⟩,rfl⟩
     refine⟨⟨_,_,_,_,_,_,_,_,rfl⟩,?_⟩
     rw[y7,List.take_length,sX hn];rfl
 . rintro Γ' S' ⟨⟨o2,o3,o4,o5,o6,o7,o8,o9,rfl⟩,rfl⟩
   rw[y7,List.take_length]
   exact jK hw (Ay p) hS
theorem all_map{α:Type}{enc:α->D}{q:D->Bool}{l:List α}(h:∀a∈l,q (enc a)=true):(l.map enc).all q=true:=by
 rw[List.all_eq_true]
 intro x hx
 obtain⟨a,ha,rfl⟩:=List.mem_map.mp hx
 exact h a ha
theorem fD{α:Type}{enc:α->D}{l:List α}(h1:a≤(l.length:Int))(h2:(l.length:Int)≤b):bJ (.tup (l.map enc)) a b=true:=by
 show(decide _&&decide _)=true
 rw[y7,decide_eq_true h1,decide_eq_true h2];rfl
theorem tL{f:Fm}(h:f.2.length=d):cN (dF f) (d:Int)=true:=by
 show(decide _&&((f.1::f.2).map D.int).all whole)=true
 rw[decide_eq_true (by simp;omega),all_map (λ _ _=>rfl)];rfl
theorem yE{n:Int}(h1:a≤n)(h2:n≤b):jT a b (.int n)=true:=by
 show(decide _&&decide _)=true
 rw[decide_eq_true h1,decide_eq_true h2];rfl
theorem J0{f:Fm}(h:FmB d 1 f):isPlace (d:Int) (dF f)=true:=by
 obtain⟨h1,h2,h3⟩:=h
 show(cN (dF f) (d:Int)&&((f.1::f.2).map D.int).all (jT (-99) 99))=true
 rw[tL h1,all_map λ n hn=>?_]
 . rfl
 . rcases List.mem_cons.mp hn with rfl | hn
   . exact yE (by omega) (by omega)
   . exact yE (h2 n hn).1 (h2 n hn).2
theorem yQ{n:Int}(h1: -1000000000000000000000000000000<n)(h2:n<1000000000000000000000000000000):pq n=true:=by
 unfold pq
 rw[vN]
 exact decide_eq_true (by split<;>omega)
theorem JL{f:Fm}(h:StB d f):isStart (dF f) (d:Int)=true:=by
 obtain⟨h1,h2,h3,h4⟩:=h
 show(cN (dF f) (d:Int)&&((f.1::f.2).map D.int).all rC)=true
 rw[tL h1,all_map λ n hn=>?_]
 . rfl
 . rcases List.mem_cons.mp hn with rfl | hn
   . exact yQ h3 h4
   . have:=h2 n hn
     exact yQ (by omega) (by omega)
theorem MN{t:Nat}{pl:List Fm}(h:TpB ws d t pl):iV (.int t) (dP pl) ws (d:Int)=true:=by
 obtain⟨w,hw,hl,hf⟩:=h
 have ht:=(z0.mp hw).1
 have e:ws.getD ((t:Int)).toNat 0=w:=by simp[List.getD,hw]
 show((decide _&&decide _)&&(bJ (.tup (pl.map dF)) (ws.getD ((t:Int)).toNat 0) (ws.getD ((t:Int)).toNat 0)&&(pl.map dF).all (isPlace d)))=true
 rw[e,decide_eq_true (p:=(0:Int)≤t) (by omega),decide_eq_true (p:=(t:Int)<ws.length) (by omega),fD (by omega) (by omega),all_map λ f hf'=>J0 (hf f hf')];rfl
theorem M3{x:Dd}(h:DdB ws d x):eE ws (d:Int) (dDd x)=true:=by
 obtain⟨h1,h2,h3,h4⟩:=h
 show(iV (.int x.tab) (dP x.pl) ws d&&(isStart (dF x.st) d&&(bJ (.tup (x.rds.map dRd)) 0 3&&(x.rds.map dRd).all (jo ws d))))=true
 rw[MN h1,JL h2,fD (by omega) (by omega),all_map λ r hr=>?_]
 . rfl
 . obtain⟨a,b,c⟩:=h4 r hr
   show(pq r.fac&&iV (.int r.tab) (dP r.pl) ws d)=true
   rw[yQ a b,MN c];rfl
theorem v9{f:Fm}(h:BdF f i):cA (dF f) (i:Int)=true:=by
 obtain⟨h1,h2,h3,h4⟩:=h
 show(cN (dF f) (i:Int)&&(decide _&&(decide _&&(f.2.map D.int).all small)))=true
 rw[tL h1,decide_eq_true h2,decide_eq_true h3,all_map λ n hn=>?_]
 . rfl
 . have:=h4 n hn
   show(decide _&&decide _)=true
   rw[decide_eq_true this.1,decide_eq_true this.2];rfl
theorem Ln{ls:List Lp}(h:Lps ls):fj (.tup (ls.map dL))=true:=by
 obtain⟨h1,h2,h3⟩:=h
 show((decide _&&decide _)&&((ls.map dL).mapIdx λ i d=>gr d i).all id)=true
 rw[y7,decide_eq_true (by omega),decide_eq_true (by omega),List.all_eq_true.mpr λ b hb=>?_]
 . rfl
 . obtain⟨i,hi⟩:=List.getElem?_of_mem hb
   rw[List.getElem?_mapIdx,y8]at hi
   cases e:ls[i]? with
   | none=>rw[e]at hi;cases hi
   | some l=>
     rw[e]at hi
     cases hi
     show(cA (dF l.1) i&&cA (dF l.2) i)=true
     rw[v9 (h3 i l e).1,v9 (h3 i l e).2];rfl
theorem NZ{n:Ns}(h:NsB ws m n):gH ws (dNs n)=true:=by
 obtain⟨h1,h2,h3,h4,h5⟩:=h
 show(fj (.tup (n.lps.map dL))&&(bJ (.tup (n.dds.map dDd)) 1 4&&(n.dds.map dDd).all (eE ws ((n.lps.map dL).length:Int))))=true
 rw[Ln h1,fD (by omega) (by omega),y7,all_map λ x hx=>M3 (h5 x hx)];rfl
theorem PgB.widths{p:Pg}(h:PgB m p):f9 (dWs p.ws)=true:=by
 obtain⟨⟨h1,h2,h3⟩,_⟩:=h
 show(bJ (.tup (p.ws.map D.int)) 1 3&&(p.ws.map D.int).all (jT 1 2))=true
 rw[fD (by omega) (by omega),all_map λ w hw=>yE (h3 w hw).1 (h3 w hw).2];rfl
theorem PgB.nests{p:Pg}(h:PgB m p):mY (.tup (p.nss.map dNs)) p.ws=true:=by
 obtain⟨_,h1,h2,h3⟩:=h
 show(bJ (.tup (p.nss.map dNs)) 1 3&&(p.nss.map dNs).all (gH p.ws))=true
 rw[fD (by omega) (by omega),all_map λ n hn=>NZ (h3 n hn)];rfl
theorem PgB.ok{p:Pg}(h:PgB m p):∀n∈p.nss,mG n:=λ n hn=>by
 obtain⟨h1,h2,h3,_⟩:=h.2.2.2 n hn
 exact⟨h1.1,h1.fits,by omega⟩
theorem QL{l:List Int}(h:∀x∈l,x≤b):l.sum≤(l.length:Int)*b:=by
 induction l with
 | nil=>simp
 | cons x l ih=>
   have:=ih λ y hy=>h y (x4 _ hy)
   have:=h x x6
   rw[List.sum_cons,List.length_cons,Int.natCast_add,Int.add_mul]
   omega
theorem PgB.many{p:Pg}(h:PgB m p)(hm:12≤m):many p.nss≤m:=by
 obtain⟨_,h1,h2,h3⟩:=h
 have h4:4≤m/p.nss.length:=by
  rw[Nat.le_div_iff_mul_le (by omega)];omega
 have one:∀n∈p.nss,((cnt n.lps).length:Int)*(n.dds.length:Int)≤((m/p.nss.length:Nat):Int):=λ n hn=>by
  obtain⟨_,d1,d4,hc,_⟩:=h3 n hn
  have h5:1≤m/p.nss.length/n.dds.length:=by
   rw[Nat.le_div_iff_mul_le (by omega)];omega
  have h6:(cnt n.lps).length*n.dds.length≤m/p.nss.length:=by
   have h7:(cnt n.lps).length≤m/p.nss.length/n.dds.length:=by omega
   exact Nat.le_trans (Nat.mul_le_mul_right _ h7) (Nat.div_mul_le_self _ _)
  rw[←Int.natCast_mul]
  exact Int.ofNat_le.mpr h6
 show(p.nss.map λ n=>((cnt n.lps).length:Int)*(n.dds.length:Int)).sum≤_
 have:=QL (l:=p.nss.map λ n=>((cnt n.lps).length:Int)*(n.dds.length:Int)) (b:=((m/p.nss.length:Nat):Int)) (λ x hx=>by
  obtain⟨n,hn,rfl⟩:=List.mem_map.mp hx
  exact one n hn)
 rw[y7]at this
 have h8:p.nss.length*(m/p.nss.length)≤m:=Nat.mul_div_le _ _
 have h9:(p.nss.length:Int)*((m/p.nss.length:Nat):Int)≤(m:Int):=by rw[←Int.natCast_mul];exact Int.ofNat_le.mpr h8
 omega
theorem KZ{p:Pg}(h:PgB m p)(h12:12≤m)(h60:m≤60)(hS:flat S)(w:W (dPg p) S):wX [dWs p.ws,.tup (p.nss.map dNs)] S W:=
 ⟨p,rfl,h.widths,h.nests,by have:=h.2.2.1;omega,h.ok,by have:=h.many h12;omega,hS,w⟩
theorem GR{nss:List Ns}{s:Stp}(h:s∈ak nss):∃n,nss[s.1]? =some n/\s.2.1∈cnt n.lps/\s.2.2<n.dds.length:=by
 unfold ak at h
 obtain⟨l,hl,hs⟩:=List.mem_flatten.mp h
 obtain⟨i,hi,rfl⟩:=List.mem_mapIdx.mp hl
 unfold bQ at hs
 obtain⟨cs,hcs,hs⟩:=List.mem_flatMap.mp hs
 obtain⟨t,ht,rfl⟩:=List.mem_map.mp hs
 exact⟨nss[i],y3 hi,hcs,List.mem_range.mp ht⟩
def fB(p:Pg)(s:Stp):D:=match p.nss[s.1]? with
 | some n=>(match n.dds[s.2.2]? with | some x=>dCs x s.2.1 | none=>.non)
 | none=>.non
def mJ:Ct:=λ ds S W=>∃p:Pg,ds=[dPg p]/\p.nss.length≤1000/\(∀n∈p.nss,mG n/\∀x∈n.dds,Kg x)/\(ak p.nss).length≤1000000/\flat S/\W (.lst ((ak p.nss).map (fB p))) S
theorem mG.c64{n:Ns}(h:mG n){cs:List Int}(hc:cs∈cnt n.lps):C64 cs:=λ c hcc=>by
 have:=((h.2.1.2 n.lps.length (y9 _)).2 cs (by rw[List.take_length];exact hc)).2 c hcc
 omega
theorem uO(F:Fun Ω.K "cells_of" "cells_of" gB f fd)(N0:Ω.cd=none)(Cq42:Cal Ω "steps_of" 4 1 jd)(Cq16:Cal Ω "cells_of_step" 3 2 oh):Ok Ω 5 f fd wA mJ:=by
 refine aF N0 (N:=zm) F (v6 Cq42 Cq16) (by kernel_rfl!) ?_
 rintro ds S W ⟨p,rfl,hz,hok,hlen,hS,hw⟩ hl
 walk_at "b"
 refine⟨rfl,p,rfl,hz,λ n hn=>(hok n hn).1,hlen,hS,.inl ?_⟩
 walk_at "n"
 refine d9 (fB p) hlen ?_ hw
 intro i s hs Q hq
 obtain⟨n,h1,h2,h3⟩:=GR (y4 hs)
 obtain⟨ok,dd⟩:=hok n (y4 h1)
 have e:n.dds[s.2.2]? =some n.dds[s.2.2]:=y3 h3
 have ec:fB p s=dCs n.dds[s.2.2] s.2.1:=by
  unfold fB
  rw[h1]
  show(match n.dds[s.2.2]? with | some x=>dCs x s.2.1 | none=>D.non)=_
  rw[e]
 rw[ec]at hq
 walk_at "b"
 exact⟨rfl,p,s,n,n.dds[s.2.2],rfl,h1,e,dd _ (List.getElem_mem _),ok.c64 h2,hq⟩
theorem TpB.pl{t:Nat}{pl:List Fm}(hW:WsB ws)(hd:d≤3)(h:TpB ws d t pl):Ez pl:=by
 obtain⟨w,hw,hl,hf⟩:=h
 have:=hW.2.2 w (y4 hw)
 exact⟨by omega,λ f hf'=>by rw[(hf f hf').1];omega⟩
theorem PgB.deeds{p:Pg}(h:PgB m p):∀n∈p.nss,mG n/\∀x∈n.dds,Kg x:=λ n hn=>by
 refine⟨h.ok n hn,λ x hx=>?_⟩
 obtain⟨hL,_,_,_,hd⟩:=h.2.2.2 n hn
 obtain⟨h1,h2,h3,h4⟩:=hd x hx
 exact⟨h1.pl h.1 hL.2.1,by omega,λ r hr=>(h4 r hr).2.2.pl h.1 hL.2.1⟩
theorem Fe(i:Nat)(n:Ns):(bQ i n).length=(cnt n.lps).length*n.dds.length:=by
 unfold bQ
 generalize cnt n.lps=l
 induction l with
 | nil=>simp
 | cons c l ih=>rw[List.flatMap_cons,x8,ih,List.length_cons,Nat.succ_mul];simp[Nat.add_comm]
theorem jP(nss:List Ns):((ak nss).length:Int)=many nss:=by
 have:∀i,i≤nss.length->((ak (nss.take i)).length:Int)=many (nss.take i):=by
  intro i
  induction i with
  | zero=>intro _;rfl
  | succ i ih=>
    intro hi
    have hl:=y3 (l:=nss) (i:=i) (by omega)
    rw[dz hl,x8,Int.natCast_add,ih (by omega),Fe,bj hl]
    unfold many
    rw[List.map_append,List.sum_append]
    simp
 have:=this nss.length (y9 _)
 rw[List.take_length]at this
 exact this
theorem Jb{p:Pg}(h:PgB m p)(h12:12≤m)(h60:m≤60)(hS:flat S)(w:W (.lst ((ak p.nss).map (fB p))) S):mJ [dPg p] S W:=
 ⟨p,rfl,by have:=h.2.2.1;omega,h.deeds,by have:=h.many h12;have:=jP p.nss;omega,hS,w⟩
theorem ue{p:Pg}(h:PgB m p)(h12:12≤m)(h60:m≤60)(hS:flat S)(w:hand W ((ak p.nss).map dSt) S):jd [dPg p] S W:=
 ⟨p,rfl,by have:=h.2.2.1;omega,h.ok,by have:=h.many h12;have:=jP p.nss;omega,hS,w⟩
def toC(c:Cell):Int×List Int:=((c.1:Int),c.2)
theorem K6(l:List Cell):l.map aH=(l.map toC).map cD:=by rw[List.map_map];rfl
def tch(a b:Cell×List Cell):List Cell:=(if a.1=b.1∨a.1∈b.2 then[a.1]else[])++(if b.1∈a.2 then[b.1]else[])
def jL(a b:Cell×List Cell):Bool:=(decide (a.1=b.1)||decide (a.1∈b.2))||decide (b.1∈a.2)
def dCR(a:Cell×List Cell):D:=.tup [aH a.1,.lst (a.2.map aH)]
theorem uL:∀(xs ys:List Int),cC (xs.map D.int) (ys.map D.int)=decide (xs=ys)
 | [],[]=>by simp[cC]
 | [],_::_=>by simp[cC]
 | _::_,[]=>by simp[cC]
 | x::xs,y::ys=>by
   simp only[List.map_cons,cC,eqD,uL xs ys]
   rw[Bool.eq_iff_iff]
   simp
theorem xH(a b:Cell):eqD (aH a) (aH b)=decide (a=b):=by
 unfold aH
 simp only[eqD,cC,uL,Bool.and_true]
 rw[Bool.eq_iff_iff]
 simp[Prod.ext_iff]
 intro _
 omega
theorem JF(c:Cell)(l:List Cell):((l.map aH).any λ d=>eqD d (aH c))=decide (c∈l):=by
 rw[List.any_map]
 rw[Bool.eq_iff_iff,List.any_eq_true]
 simp only[Function.comp_apply,xH,decide_eq_true_eq]
 exact⟨λ⟨x,h1,h2⟩=>h2▸h1,λ h=>⟨c,h,rfl⟩⟩
theorem mK:∀xs:List Int,cU (xs.map D.int)=true
 | []=>rfl
 | x::xs=>by simp only[List.map_cons,cU,okD,mK xs,Bool.and_true]
theorem jB:∀xs:List Int,aY (xs.map D.int)=0
 | []=>rfl
 | x::xs=>by simp only[List.map_cons,aY,deep,jB xs];rfl
theorem gD(c:Cell):okD (aH c)=true:=by unfold aH;simp only[okD,cU,mK,Bool.and_true]
theorem mF(c:Cell):deep (aH c)=2:=by unfold aH;simp only[deep,aY,jB];rfl
theorem qR:∀l:List Cell,cU (l.map aH)=true
 | []=>rfl
 | c::l=>by simp only[List.map_cons,cU,gD,qR l,Bool.and_true]
theorem oF:∀l:List Cell,aY (l.map aH)≤2
 | []=>by simp[aY]
 | c::l=>by have:=oF l;simp only[List.map_cons,aY,mF];omega
theorem cell_eq{a b:Cell}{W:Bool->Store->Prop}(w:W (decide (a=b)) S):aZ .Eq (aH a) (aH b) S W:=by
 rw[←xH]at w
 unfold aZ
 exact⟨⟨gD a,gD b,by show deep (aH a)≤50;rw[mF];decide⟩,w⟩
theorem cell_in{c:Cell}{l:List Cell}{W:Bool->Store->Prop}(w:W (decide (c∈l)) S):aZ .In (aH c) (.lst (l.map aH)) S W:=by
 rw[←JF]at w
 exact cIn (ds:=l.map aH) rfl (gD c) (qR l) (Nat.le_trans (oF l) (by decide)) w
theorem KD(l:List Cell):((sset id (l.map toC)).map cD).isEmpty=l.isEmpty:=by
 match l with
 | []=>rfl
 | [a]=>rfl
 | [a,b]=>
   show((if toC b=toC a then[toC a]else if ltC (toC b) (toC a)=true then[toC b,toC a]else[toC a,toC b]).map cD).isEmpty=false
   split
   . rfl
   . split<;>rfl
 | _::_::_::_=>rfl
theorem yG{l:List Cell}{d:D}(h:d∈(sset id (l.map toC)).map cD):∃c:Cell,d=aH c:=by
 obtain⟨x,hx,rfl⟩:=List.mem_map.mp h
 have :x∈l.map toC:=by
  match l,hx with
  | [a],hx=>exact hx
  | [a,b],hx=>
    have hx:x∈(if toC b=toC a then[toC a]else if ltC (toC b) (toC a)=true then[toC b,toC a]else[toC a,toC b]):=hx
    split at hx
    . simp at hx ⊢;exact .inl hx
    . split at hx
      . simp at hx ⊢;exact hx.symm
      . exact hx
  | _::_::_::_,hx=>exact hx
 obtain⟨c,_,rfl⟩:=List.mem_map.mp this
 exact⟨c,rfl⟩
theorem my:∀{L:List D},(∀d∈L,∃c:Cell,d=aH c)->cU L=true/\aY L≤2/\ao L=true
 | [],_=>⟨rfl,Nat.zero_le _,rfl⟩
 | d::L,h=>by
   obtain⟨c,rfl⟩:=h d x6
   obtain⟨h1,h2,h3⟩:=my λ x hx=>h x (x4 _ hx)
   refine⟨by simp only[cU,gD,h1,Bool.and_true],by simp only[aY,mF];omega,by simp only[ao,iD,h3,Bool.and_true]⟩
theorem BK(a b:Cell×List Cell):(tch a b).length≤2:=by
 unfold tch
 split<;>split<;>simp
theorem Pz(a b:Cell×List Cell):(!(tch a b).isEmpty)=jL a b:=by
 unfold tch jL
 by_cases h1:a.1=b.1
 . simp[h1]
 . by_cases h2:a.1∈b.2
   . simp[h2]
   . by_cases h3:b.1∈a.2<;>simp[h1,h2,h3]
def uC:Ct:=λ ds S W=>∃a b:Cell×List Cell,ds=[dCR a,dCR b]/\flat S/\W (.lst ((sset id ((tch a b).map toC)).map cD)) S
theorem mL(F:Fun Ω.K "touched_cells" "touched_cells" dm f fd)(N0:Ω.cd=none)(B:Bi Ω.mg):Ok Ω 1 f fd nG uC:=by
 refine aF N0 (N:=nP) F (Bl.drp (nT B)) (by kernel_rfl!) ?_
 rintro ds S W ⟨a,b,rfl,hS,hw⟩ hl
 have nl:au (.lst ((sset id ((tch a b).map toC)).map cD))=true:=(my λ d hd=>yG hd).2.2
 have fin:∀l:List Cell,l=tch a b->(eF B).wp [some (dCR a),some (dCR b),some (.loc S.length)] (S++[l.map aH]) {nx:=λ _ S1=>W .non S1,rt:=Drp S.length W}:=by
  rintro l rfl
  walk_at "b"
  refine⟨(tch a b).map toC,by rw[y7];exact BK a b,.inr ⟨_,rfl,?_⟩,?_⟩
  . rw[←K6];exact bL _ _
  . exact .inr ⟨_,S,rfl,y9 _,nl,hS,hw⟩
 have two:∀l:List Cell,l=(if a.1=b.1∨a.1∈b.2 then[a.1]else[])->(eG B).wp [some (dCR a),some (dCR b),some (.loc S.length)] (S++[l.map aH]) {nx:=λ _ S1=>W .non S1,rt:=Drp S.length W}:=by
  intro l el
  have hlen:l.length≤1:=by rw[el];split<;>simp
  walk_at "b"
  refine cell_in ?_
  by_cases h:b.1∈a.2
  . rw[decide_eq_true h]
    walk_at "b"
    refine⟨_,bL _ _,by rw[y7];omega,?_⟩
    rw[cj]
    have:=fin (l++[b.1]) (by unfold tch;rw[el,if_pos h])
    rw[List.map_append]at this
    exact this
  . rw[decide_eq_false h]
    walk_at "b"
    exact fin l (by unfold tch;rw[el,if_neg h,List.append_nil])
 walk_at "b"
 refine cell_eq ?_
 by_cases h:a.1=b.1
 . rw[decide_eq_true h]
   walk_at "b"
   refine⟨_,bL _ _,by simp,?_⟩
   rw[cj]
   exact two [a.1] (by rw[if_pos (.inl h)])
 . rw[decide_eq_false h]
   walk_at "b"
   refine cell_in ?_
   by_cases h2:a.1∈b.2
   . rw[decide_eq_true h2]
     walk_at "b"
     refine⟨_,bL _ _,by simp,?_⟩
     rw[cj]
     exact two [a.1] (by rw[if_pos (.inr h2)])
   . rw[decide_eq_false h2]
     refine bF ?_
     exact two [] (by rw[if_neg (λ z=>z.elim h h2)])
def aD(p:Pg):List (Dd×List Int):=p.nss.flatMap λ n=>(cnt n.lps).flatMap λ cs=>n.dds.map λ x=>(x,cs)
def crs(x:Dd×List Int):Cell×List Cell:=(spot x.1.tab x.1.pl x.2,x.1.rds.map λ r=>spot r.tab r.pl x.2)
theorem Og(x:Dd×List Int):dCR (crs x)=dCs x.1 x.2:=by
 unfold dCR crs dCs
 rw[List.map_map];rfl
theorem jY{α β:Type}{f g:α->List β}:∀{l:List α},(∀a∈l,f a=g a)->l.flatMap f=l.flatMap g
 | [],_=>rfl
 | a::l,h=>by rw[List.flatMap_cons,List.flatMap_cons,h a x6,jY λ x hx=>h x (x4 _ hx)]
theorem Kd(p:Pg):FT p=(aD p).map λ x=>cX x.2 x.1:=by
 unfold FT aD
 rw[List.map_flatMap]
 refine jY λ n _=>?_
 unfold pQ
 rw[List.map_flatMap]
 refine jY λ cs _=>?_
 rw[List.map_map];rfl
theorem vV{p:Pg}{n:Ns}(h:p.nss[i]? =some n):(bQ i n).map (fB p)=((cnt n.lps).flatMap λ cs=>n.dds.map λ x=>(x,cs)).map λ x=>dCR (crs x):=by
 unfold bQ
 rw[List.map_flatMap,List.map_flatMap]
 refine jY λ cs _=>?_
 rw[List.map_map,List.map_map]
 apply List.ext_getElem
 . simp
 . intro s h1 h2
   have hs:s<n.dds.length:=by simpa using h2
   rw[List.getElem_map,List.getElem_map,List.getElem_range]
   show fB p (i,cs,s)=dCR (crs (n.dds[s],cs))
   rw[Og]
   unfold fB
   show(match p.nss[i]? with | some n=>(match n.dds[s]? with | some x=>dCs x cs | none=>D.non) | none=>D.non)=_
   rw[h]
   show(match n.dds[s]? with | some x=>dCs x cs | none=>D.non)=_
   rw[y3 hs]
theorem lD(p:Pg):(ak p.nss).map (fB p)=(aD p).map λ x=>dCR (crs x):=by
 unfold ak aD
 rw[List.map_flatten,List.map_flatMap,List.flatMap_def]
 congr 1
 apply List.ext_getElem
 . simp
 . intro i h1 h2
   have hi:i<p.nss.length:=by simpa using h2
   rw[List.getElem_map,List.getElem_mapIdx,List.getElem_map]
   exact vV (y3 hi)
def vX:Ct:=λ ds S W=>∃x y:Dd×List Int,ds=[cX x.2 x.1,cX y.2 y.1]/\x.1.rds.length≤1000/\y.1.rds.length≤1000/\W (.bl (jL (crs x) (crs y))) S
theorem wR{c:Cell}{x:Dd×List Int}{W:Bool->Store->Prop}(w:W (decide (c∈(crs x).2)) S):aZ .In (aH c) (.lst (x.1.rds.map λ r=>aH (spot r.tab r.pl x.2))) S W:=by
 have e:(x.1.rds.map λ r=>aH (spot r.tab r.pl x.2))=(crs x).2.map aH:=by unfold crs;rw[List.map_map];rfl
 rw[e]
 exact cell_in w
theorem DN(F:Fun Ω.K "_law_touch" "_law_touch" lO f fd)(N0:Ω.cd=none):Ok Ω 1 f fd GJ vX:=by
 refine aF N0 (N:=HS) F (Hg) (by kernel_rfl!) ?_
 rintro ds S W ⟨x,y,rfl,hx,hy,hw⟩ hl
 unfold jL at hw
 walk_at "b"
 refine cell_eq (a:=(crs x).1) (b:=(crs y).1) ?_
 by_cases h:(crs x).1=(crs y).1
 . rw[decide_eq_true h]at hw ⊢
   walk_at "b"
   exact hw
 . rw [decide_eq_false h]at hw ⊢
   walk_at "b"
   refine d9 (λ r:Rd=>aH (spot r.tab r.pl y.2)) (by omega) ?_ ?_
   . intro k r hr Q hq
     walk_at "b"
     refine⟨rfl,?_⟩
     walk_at "b"
     exact hq
   refine wR (c:=(crs x).1) (x:=y) ?_
   by_cases h2:(crs x).1∈(crs y).2
   . rw[decide_eq_true h2]at hw ⊢
     walk_at "b"
     exact hw
   . rw[decide_eq_false h2]at hw ⊢
     walk_at "b"
     refine d9 (λ r:Rd=>aH (spot r.tab r.pl x.2)) (by omega) ?_ ?_
     . intro k r hr Q hq
       walk_at "b"
       refine⟨rfl,?_⟩
       walk_at "b"
       exact hq
     refine wR (c:=(crs y).1) (x:=x) ?_
     exact hw
def ssC(a b:Cell×List Cell):List (Int×List Int):=sset id ((tch a b).map toC)
theorem Nh(a b:Cell×List Cell):(ssC a b).length≤2:=by
 unfold ssC
 have h:=BK a b
 generalize tch a b=l at h
 match l,h with
 | [],_=>exact Nat.zero_le _
 | [x],_=>exact Nat.le_succ _
 | [x,y],_=>
   show(if toC y=toC x then[toC x]else if ltC (toC y) (toC x)=true then[toC y,toC x]else[toC x,toC y]).length≤2
   split
   . exact Nat.le_succ _
   . split<;>exact y9 _
theorem Cw(c:List (Int×List Int)):(c.map cD).isEmpty=c.isEmpty:=by cases c<;>rfl
abbrev Pr:=Nat×Nat×List (Int×List Int)
abbrev CR:=Cell×List Cell
def lw(xs:List CR)(i j:Nat):List Pr:=match xs[i]?,xs[j]? with
 | some a,some b=>if(ssC a b).isEmpty then[]else[(i,j,ssC a b)]
 | _,_=>[]
def dB(xs:List CR)(i k:Nat):List Pr:=(List.range k).flatMap λ t=>lw xs i (i+1+t)
def dD(xs:List CR)(k:Nat):List Pr:=(List.range k).flatMap λ i=>dB xs i (xs.length-(i+1))
theorem Bd{xs:List CR}{a b:CR}(ha:xs[i]? =some a)(hb:xs[j]? =some b):lw xs i j=if(ssC a b).isEmpty then[]else[(i,j,ssC a b)]:=by
 unfold lw;rw[ha,hb]
theorem fW(xs:List CR)(i k:Nat):dB xs i (k+1)=dB xs i k++lw xs i (i+1+k):=by
 unfold dB;rw[List.range_succ,List.flatMap_append];simp
theorem jW(xs:List CR)(k:Nat):dD xs (k+1)=dD xs k++dB xs k (xs.length-(k+1)):=by
 unfold dD;rw[List.range_succ,List.flatMap_append];simp
theorem JH(xs:List CR)(i j:Nat):(lw xs i j).length≤1:=by
 unfold lw
 split
 . split<;>simp
 . simp
theorem iB(xs:List CR)(i:Nat):∀k,(dB xs i k).length≤k
 | 0=>by simp[dB]
 | k+1=>by rw[fW,x8];have:=iB xs i k;have:=JH xs i (i+1+k);omega
theorem iC(xs:List CR):∀k,(dD xs k).length≤k*xs.length
 | 0=>by simp[dD]
 | k+1=>by
   rw[jW,x8,Nat.succ_mul]
   have:=iC xs k
   have:=iB xs k (xs.length-(k+1))
   omega
def dPr(q:Pr):D:=.tup [.int (q.1:Int),.int (q.2.1:Int),.lst (q.2.2.map cD)]
theorem Lq(c:Int×List Int):au (cD c)=true:=by
 have h:ao (c.2.map D.int)=true:=bZ _
 unfold cD
 simp only[au,ao,h,Bool.and_true]
theorem Eh(l:List (Int×List Int)):ao (l.map cD)=true:=cL Lq l
theorem uh(q:Pr):au (dPr q)=true:=by
 unfold dPr
 simp only[au,ao,Eh,Bool.and_true]
theorem jJ{p:Pg}(hP:PgB m p)(h12:12≤m)(h60:m≤60):(aD p).length≤60:=by
 have h1:=hP.many h12
 have h2:=jP p.nss
 have h3:(ak p.nss).length=(aD p).length:=by
  have:=congrArg List.length (lD p)
  rw[y7,y7]at this
  exact this
 omega
def wB:Ct:=λ ds S W=>∃(p:Pg) (m:Nat),ds=[dPg p]/\PgB m p/\12≤m/\m≤60/\flat S/\hand W ((dD ((aD p).map crs) (aD p).length).map dPr) S
theorem Fi(F:Fun Ω.K "pairs" "pairs" lW f fd)(N0:Ω.cd=none)(B:Bi Ω.mg)(Cq15:Cal Ω "cells_of" 5 1 mJ)(Cq43:Cal Ω "touched_cells" 1 2 uC):Ok Ω 6 f fd HY wB:=by
 refine aF N0 (N:=Ip) F (Bl.frz (Jr B Cq15 Cq43)) (by kernel_rfl!) ?_
 rintro ds S W ⟨p,m,rfl,hP,h12,h60,hS,hw⟩ hl
 have hN:=jJ hP h12 h60
 have eC:(ak p.nss).map (fB p)=((aD p).map crs).map dCR:=by rw[lD,List.map_map];rfl
 walk_at "b"
 refine⟨rfl,Jb hP h12 h60 hS ?_⟩
 rw[eC]
 have hL:((aD p).map crs).length=(aD p).length:=y7 _
 rw[←hL]at hw hN
 generalize (aD p).map crs=xs at*
 walk_at "b"
 rw[y7]
 refine⟨⟨by omega,by omega⟩,bc ⟨λ i Γ' S'=>∃o3 o4 o5,Γ'=[some (dPg p),some (.lst (xs.map dCR)),some (.loc S.length),o3,o4,o5]/\S'=S++[(dD xs i).map dPr],⟨_,_,_,rfl,rfl⟩,?_,?_⟩⟩
 . rintro i e Γ' S' he ⟨o3,o4,o5,rfl,rfl⟩
   obtain⟨hi,rfl⟩:=bC he
   have e2:(0:Int)+(i:Int)=(i:Int):=by omega
   rw[e2]
   have hi':i<xs.length:=by omega
   have ax:atI (xs.map dCR) ((i:Nat):Int)=some (dCR xs[i]):=aU (by rw[y8,y3 hi'];rfl)
   walk_at "b"
   rw[y7]
   refine⟨⟨by omega,by omega⟩,bc ⟨λ k Γ' S'=>∃o4 o5,Γ'=[some (dPg p),some (.lst (xs.map dCR)),some (.loc S.length),some (.int (i:Int)),o4,o5]/\S'=S++[(dD xs i++dB xs i k).map dPr],⟨_,_,rfl,by unfold dB;simp⟩,?_,?_⟩⟩
   . rintro k e Γ' S' he ⟨o4,o5,rfl,rfl⟩
     obtain⟨hk,rfl⟩:=bC he
     have e3:((i:Int)+1)+(k:Int)=((i+1+k:Nat):Int):=by omega
     rw[e3]
     have hj:i+1+k<xs.length:=by omega
     have aj:atI (xs.map dCR) ((i+1+k:Nat):Int)=some (dCR xs[i+1+k]):=aU (by rw[y8,y3 hj];rfl)
     have ePr:=Bd (y3 hi') (y3 hj)
     walk_at "b"
     refine⟨_,ax,?_⟩
     walk_at "b"
     refine⟨_,aj,?_⟩
     walk_at "b"
     refine⟨rfl,xs[i],xs[i+1+k],rfl,cV hS (cL uh _),?_⟩
     have ok:=my (L:=(ssC xs[i] xs[i+1+k]).map cD) λ d hd=>yG hd
     have hcl:=Nh xs[i] xs[i+1+k]
     walk_at "b"
     have es:sset id ((tch xs[i] xs[i+1+k]).map toC)=ssC xs[i] xs[i+1+k]:=rfl
     rw[es]
     generalize hc:ssC xs[i] xs[i+1+k]=c at*
     refine⟨c.map cD,rfl,.inl rfl,by rw[y7];omega,?_⟩
     rw[Cw]
     cases hz:c.isEmpty with
     | true=>
       refine bF ?_
       refine⟨_,_,rfl,?_⟩
       rw[fW,ePr,if_pos hz,List.append_nil]
     | false=>
       walk_at "b"
       have hil:(dD xs i++dB xs i k).length≤4000:=by
        rw[x8]
        have a1:=iC xs i
        have a2:=iB xs i k
        have a3:i*xs.length≤60*60:=Nat.mul_le_mul (by omega) (by omega)
        omega
       refine⟨_,bL _ _,by rw[y7];omega,?_⟩
       rw[cj]
       refine⟨_,_,rfl,?_⟩
       rw[fW,ePr,if_neg (by rw[hz];exact y6),←List.append_assoc,List.map_append (l₂:=[_])]
       rfl
   . rintro Γ' S' ⟨o4,o5,rfl,rfl⟩
     refine⟨_,_,_,rfl,?_⟩
     rw[jW,az]
     rw[show(((xs.length:Nat):Int)-((i:Int)+1)).toNat=xs.length-(i+1)from by omega]
 . rintro Γ' S' ⟨o3,o4,o5,rfl,rfl⟩
   rw[az,Int.toNat_natCast]
   exact jK hw (cL uh _) hS
def dif(a b:List Int):List Int:=List.zipWith (λ x y=>y-x) a b
def lin(f:Fm)(cs:List Int):Int:=(List.zipWith (λ a b=>a*b) f.2 cs).sum
theorem Ck(f:Fm)(cs:List Int):atC f cs=f.1+lin f cs:=rfl
theorem Dl{a b:List Int}(h:a.length=b.length):(dif a b).length=a.length:=by
 unfold dif;rw[List.length_zipWith,h,Nat.min_self]
theorem Lk{a b:List Int}(h:a.length=b.length)(x y:Int):dif (a++[x]) (b++[y])=dif a b++[y-x]:=by
 unfold dif
 rw[List.zipWith_append h]
 rfl
theorem Qa(f:Fm):∀{a b:List Int},a.length=b.length->lin f (dif a b)=lin f b-lin f a:=by
 obtain⟨f1,f2⟩:=f
 unfold lin dif
 dsimp only
 induction f2 with
 | nil=>intro a b _;simp
 | cons c f2 ih=>
   intro a b h
   cases a with
   | nil=>
     cases b with
     | nil=>simp
     | cons=>simp at h
   | cons x a=>
     cases b with
     | nil=>simp at h
     | cons y b=>
       have ih:=ih (a:=a) (b:=b) (by simpa using h)
       rw[List.zipWith_cons_cons,List.zipWith_cons_cons,List.zipWith_cons_cons,List.zipWith_cons_cons,List.sum_cons,List.sum_cons,List.sum_cons,ih,Int.mul_sub]
       omega
def dls(ls:List Lp)(zs:List Nat):Nat->List (List Int)
 | 0=>[[]]
 | i+1=>match ls[i]?,zs[i]? with
   | some l,some z=>(dls ls zs i).flatMap λ d=>(List.range (2*z-1)).map λ(t:Nat)=>d++[lin l.1 d+((t:Int)-((z:Int)-1))]
   | _,_=>[]
theorem Js{ls:List Lp}{l:Lp}{z:Nat}(h1:ls[i]? =some l)(h2:zs[i]? =some z):dls ls zs (i+1)=(dls ls zs i).flatMap λ d=>(List.range (2*z-1)).map λ(t:Nat)=>d++[lin l.1 d+((t:Int)-((z:Int)-1))]:=by
 show(match ls[i]?,zs[i]? with | some l,some z=>(dls ls zs i).flatMap λ d=>(List.range (2*z-1)).map λ(t:Nat)=>d++[lin l.1 d+((t:Int)-((z:Int)-1))] | _,_=>[])=_
 rw[h1,h2]
theorem Oe{ls:List Lp}{l:Lp}{z:Nat}(h1:ls[i]? =some l)(h2:zs[i]? =some z):(dls ls zs (i+1)).length=(dls ls zs i).length*(2*z-1):=by
 rw[Js h1 h2]
 generalize dls ls zs i=L
 induction L with
 | nil=>simp
 | cons d L ih=>rw[List.flatMap_cons,x8,ih,y7,List.length_range,List.length_cons,Nat.add_mul,Nat.one_mul,Nat.add_comm]
theorem Oz{ls:List Lp}(hw:Wid ls zs):∀i,i≤ls.length->∀a∈cnt (ls.take i),∀b∈cnt (ls.take i),dif a b∈dls ls zs i:=by
 intro i
 induction i with
 | zero=>
   intro _ a ha b hb
   rw[List.take_zero]at ha hb
   have ha:a=[]:=by simpa[cnt]using ha
   have hb:b=[]:=by simpa[cnt]using hb
   subst ha hb
   exact List.mem_singleton.mpr rfl
 | succ i ih=>
   intro hi a ha b hb
   have h1:ls[i]? =some ls[i]:=y3 (by omega)
   have h2:zs[i]? =some (zs[i]'(by rw[hw.1];omega)):=y3 (by rw[hw.1];omega)
   rw[List.take_succ,h1]at ha hb
   obtain⟨a',x,ha',ea,xa1,xa2⟩:=pM ha
   obtain⟨b',y,hb',eb,yb1,yb2⟩:=pM hb
   have la:=bV _ _ ha'
   have lb:=bV _ _ hb'
   have wa:=hw.2 i _ _ h1 h2 a' ha'
   have wb:=hw.2 i _ _ h1 h2 b' hb'
   rw[ea,eb,Lk (by rw[la,lb]),Js h1 h2]
   refine List.mem_flatMap.mpr ⟨dif a' b',ih (by omega) a' ha' b' hb',?_⟩
   generalize zs[i]'_=z at*
   generalize ls[i]'_=l at*
   have e:=Qa l.1 (a:=a') (b:=b') (by rw[la,lb])
   rw[Ck l.1]at xa1 yb1
   rw[Ck l.1]at wa wb
   generalize atC l.2 a'=ha2 at*
   generalize atC l.2 b'=hb2 at*
   generalize lin l.1 a'=u at*
   generalize lin l.1 b'=v at*
   refine List.mem_map.mpr ⟨(y-x-(v-u)+((z:Int)-1)).toNat,List.mem_range.mpr (by omega),?_⟩
   rw[e]
   congr 2
   omega
def dZ:List Int->Bool
 | []=>false
 | x::xs=>if x=0 then dZ xs else decide (0<x)
def ngL(c:List Int):List Int:=c.map λ x=>0-x
theorem CP:∀{a b:List Int},a.length=b.length->eU a b=true->dZ (dif a b)=true
 | [],[],_,h=>by simp[eU]at h
 | [],_::_,h,_=>by simp at h
 | _::_,[],h,_=>by simp at h
 | x ::a,y::b,hl,h=>by
   simp only[eU]at h
   show(if y-x=0 then dZ (dif a b)else decide (0<y-x))=true
   by_cases e:x=y
   . rw[if_pos e]at h
     rw[if_pos (by omega)]
     exact CP (by simpa using hl) h
   . rw[if_neg e]at h
     rw[if_neg (by omega)]
     have:=of_decide_eq_true h
     exact decide_eq_true (by omega)
theorem yx:∀a:List Int,dif a a=List.replicate a.length 0
 | []=>rfl
 | x::a=>by
   show(x-x)::dif a a=_
   rw[yx a,Int.sub_self]
   rfl
theorem Jo:∀{c:List Int},dZ c=true->dZ (ngL c)=false
 | [],h=>by cases h
 | x ::c,h=>by
   simp only[dZ]at h
   show(if 0-x=0 then dZ (ngL c)else decide (0<0-x))=false
   by_cases e:x=0
   . rw[if_pos e]at h
     rw[if_pos (by omega)]
     exact Jo h
   . rw[if_neg e]at h
     have:=of_decide_eq_true h
     rw[if_neg (by omega)]
     exact decide_eq_false (by omega)
theorem Il:∀(a b:List Int),ngL (dif a b)=dif b a
 | [],b=>by cases b<;>rfl
 | _::_,[]=>rfl
 | x::a,y::b=>by
   show(0-(y-x))::ngL (dif a b)=(x-y)::dif b a
   rw[Il a b]
   congr 1
   omega
theorem Ih{c d:List Int}(h:ngL c=ngL d):c=d:=by
 have e:∀c:List Int,ngL (ngL c)=c:=λ c=>by
  unfold ngL
  rw[List.map_map]
  conv=>rhs;rw[←List.map_id c]
  exact List.map_congr_left λ x _=>by show 0-(0-x)=x;omega
 rw[←e c,h,e d]
theorem HN{α:Type}[BEq α][LawfulBEq α]:∀{l U:List α},l.Nodup->(∀x∈l,x∈U)->l.length≤U.length:=by
 intro l
 induction l with
 | nil=>intro U _ _;exact Nat.zero_le _
 | cons a l ih=>
   intro U nd h
   obtain⟨n1,n2⟩:=List.nodup_cons.mp nd
   have hU:=h a x6
   have:=ih (U:=U.erase a) n2 λ x hx=>(List.mem_erase_of_ne (λ e=>n1 (by rw[←e];exact hx))).mpr (h x (x4 _ hx))
   rw[List.length_erase_of_mem hU]at this
   have:=List.length_pos_of_mem hU
   rw[List.length_cons]
   omega
theorem Do{α:Type}(q:α->Bool)(l:List α):l.length=(l.filter q).length+(l.filter λ c=>!q c).length:=by
 induction l with
 | nil=>rfl
 | cons c l ih=>
   cases e:q c
   . rw[List.filter_cons_of_neg (by rw[e];exact y6),List.filter_cons_of_pos (by rw[e];rfl),List.length_cons,List.length_cons,ih];omega
   . rw[List.filter_cons_of_pos e,List.filter_cons_of_neg (by rw[e];exact y6),List.length_cons,List.length_cons,ih];omega
def Spn(n:Ns)(c:List Int):Prop:=∃a b,a∈cnt n.lps/\b∈cnt n.lps/\c=dif a b/\(dZ c=true∨c=List.replicate n.lps.length 0)
theorem Nu{n:Ns}(hw:Wid n.lps zs){l:List (List Int)}(nd:l.Nodup)(h:∀c∈l,Spn n c):2*l.length≤(dls n.lps zs n.lps.length).length+1:=by
 have has:=Oz hw n.lps.length (y9 _)
 rw[List.take_length]at has
 have hp:l.length≤(l.filter dZ).length+1:=by
  have h1:(l.filter λ c=>!dZ c).length≤1:=by
   have:=HN (l:=l.filter λ c=>!dZ c) (U:=[List.replicate n.lps.length 0]) (nd.filter _) λ c hc=>by
    obtain⟨c1,c2⟩:=List.mem_filter.mp hc
    obtain⟨a,b,_,_,_,q | q⟩:=h c c1
    . rw[q]at c2;cases c2
    . exact List.mem_singleton.mpr q
   exact this
  have h2:=Do dZ l
  omega
 have hall:=HN (l:=l++(l.filter dZ).map ngL) (U:=dls n.lps zs n.lps.length) (by
  rw[List.nodup_append]
  refine⟨nd,?_,λ x hx y hy e=>?_⟩
  . rw[List.Nodup,List.pairwise_map]
    exact List.Pairwise.imp (λ{a b} hab e=>hab (Ih e)) (nd.filter _)
  . subst e
    obtain⟨c,hc,rfl⟩:=List.mem_map.mp hy
    obtain⟨c1,c2⟩:=List.mem_filter.mp hc
    obtain⟨a,b,_,_,_,q | q⟩:=h _ hx
    . rw[Jo c2]at q;cases q
    . have e0:ngL c=ngL (List.replicate n.lps.length 0):=by
       rw[q]
       unfold ngL
       rw[List.map_replicate]
       rfl
      have:=Ih e0
      rw[this]at c2
      have z:∀k,dZ (List.replicate k 0)=false:=λ k=>by
       induction k with
       | zero=>rfl
       | succ k ih=>rw[List.replicate_succ];show(if(0:Int)=0 then _ else _)=_;rw[if_pos rfl];exact ih
      rw[z]at c2
      cases c2) (λ x hx=>by
  rcases List.mem_append.mp hx with hx | hx
  . obtain⟨a,b,ha,hb,e,_⟩:=h x hx
    rw[e];exact has a ha b hb
  . obtain⟨c,hc,rfl⟩:=List.mem_map.mp hx
    obtain⟨a,b,ha,hb,e,_⟩:=h c (List.mem_filter.mp hc).1
    rw[e,Il];exact has b hb a ha)
 rw[x8,y7]at hall
 omega
def pZ(M B:Nat):Bool:=(List.range (M+1)).all λ a=>(List.range (M+1)).all λ b=>(List.range (M+1)).all λ c=>!(Nat.ble 1 a&&(Nat.ble 1 b&&(Nat.ble 1 c&&Nat.ble (a*(b*c)) M)))||Nat.ble ((2*a-1)*(2*b-1)*(2*c-1)) B
theorem sO{M B a b c:Nat}(h:pZ M B=true)(ha:1≤a)(hb:1≤b)(hc:1≤c)(hm:a*(b*c)≤M):(2*a-1)*(2*b-1)*(2*c-1)≤B:=by
 have hbc:1≤b*c:=Nat.mul_pos hb hc
 have a1:a≤M:=Nat.le_trans (Nat.le_mul_of_pos_right _ hbc) hm
 have bc1:b*c≤M:=Nat.le_trans (Nat.le_mul_of_pos_left _ ha) hm
 have b1:b≤M:=Nat.le_trans (Nat.le_mul_of_pos_right _ hc) bc1
 have c1:c≤M:=Nat.le_trans (Nat.le_mul_of_pos_left _ hb) bc1
 unfold pZ at h
 have h:=List.all_eq_true.mp (List.all_eq_true.mp (List.all_eq_true.mp h a (List.mem_range.mpr (by omega))) b (List.mem_range.mpr (by omega))) c (List.mem_range.mpr (by omega))
 rw[Nat.ble_eq_true_of_le ha,Nat.ble_eq_true_of_le hb,Nat.ble_eq_true_of_le hc,Nat.ble_eq_true_of_le hm]at h
 exact Nat.le_of_ble_eq_true h
theorem SN:pZ 24 105=true:=by decide+kernel
theorem Tz:pZ 12 45=true:=by decide+kernel
theorem Vc:pZ 8 27=true:=by decide+kernel
theorem Pa{n:Ns}{M B:Nat}(hL:Lps n.lps)(hn:pZ M B=true)(hm:m≤M)(hw:Wdd n.lps 1 m){l:List (List Int)}(nd:l.Nodup)(h:∀c∈l,Spn n c):2*l.length≤B+1:=by
 obtain⟨zs,z1,z2,z3⟩:=hw
 rw[Nat.mul_one]at z2
 have hl:=Nu z1 nd h
 obtain⟨l1,l2,_⟩:=hL
 have zl:=z1.1
 have step:∀i,i<n.lps.length->∀z,zs[i]? =some z->(dls n.lps zs (i+1)).length=(dls n.lps zs i).length*(2*z-1):=λ i hi z hz=>Oe (y3 hi) hz
 have e0:(dls n.lps zs 0).length=1:=rfl
 match zs,zl,z2,z3,step,hl,e0 with
 | [],zl,_,_,_,_,_=>simp at zl;omega
 | [a],zl,z2,z3,step,hl,e0=>
   have q:=sO hn (a:=a) (b:=1) (c:=1) (z3 a (by simp)) (by omega) (by omega) (by have:prd [a]=a*1:=rfl;omega)
   have el:n.lps.length=1:=by simpa using zl.symm
   have s0:=step 0 (by omega) a rfl
   rw[el,s0,e0]at hl
   simp at q hl
   omega
 | [a,b],zl,z2,z3,step,hl,e0=>
   have q:=sO hn (a:=a) (b:=b) (c:=1) (z3 a (by simp)) (z3 b (by simp)) (by omega) (Nat.le_trans z2 hm)
   have el:n.lps.length=2:=by simpa using zl.symm
   have s0:=step 0 (by omega) a rfl
   have s1:=step 1 (by omega) b rfl
   rw[el,s1,s0,e0]at hl
   simp at q hl
   omega
 | [a,b,c],zl,z2,z3,step,hl,e0=>
   have q:=sO hn (a:=a) (b:=b) (c:=c) (z3 a (by simp)) (z3 b (by simp)) (z3 c (by simp)) (by
    have e:prd [a,b,c]=a*(b*(c*1)):=rfl
    rw[Nat.mul_one]at e
    rw[←e];exact Nat.le_trans z2 hm)
   have el:n.lps.length=3:=by simpa using zl.symm
   have s0:=step 0 (by omega) a rfl
   have s1:=step 1 (by omega) b rfl
   have s2:=step 2 (by omega) c rfl
   rw[el,s2,s1,s0,e0,Nat.one_mul]at hl
   omega
 | _::_::_::_::_,zl,_,_,_,_,_=>simp at zl;omega
theorem PB{b:Nat}:∀{nss:List Ns},(∀n∈nss,∀l:List (List Int),l.Nodup->(∀c∈l,Spn n c)->l.length≤b)->∀l:List (List Int),l.Nodup->(∀c∈l,∃n∈nss,Spn n c)->l.length≤nss.length*b:=by
 intro nss
 induction nss with
 | nil=>
   intro _ l _ h
   cases l with
   | nil=>exact Nat.zero_le _
   | cons c l=>obtain⟨n,hn,_⟩:=h c x6;cases hn
 | cons n nss ih=>
   intro hb l nd h
   have dec:∀c,Decidable (Spn n c):=λ c=>Classical.propDecidable _
   have h1:=hb n x6 (l.filter λ c=>decide (Spn n c)) (nd.filter _) λ c hc=>of_decide_eq_true (List.mem_filter.mp hc).2
   have h2:=ih (λ n' hn'=>hb n' (x4 _ hn')) (l.filter λ c=>!decide (Spn n c)) (nd.filter _) λ c hc=>by
    obtain⟨c1,c2⟩:=List.mem_filter.mp hc
    obtain⟨n',hn',hs⟩:=h c c1
    rcases List.mem_cons.mp hn' with rfl | hn'
    . rw[decide_eq_true hs]at c2;cases c2
    . exact⟨n',hn',hs⟩
   have h3:=Do (λ c=>decide (Spn n c)) l
   rw[List.length_cons,Nat.succ_mul]
   omega
theorem Ik{p:Pg}(hP:PgB 24 p)(hW:PgW 24 p):∀l:List (List Int),l.Nodup->(∀c∈l,∃n∈p.nss,Spn n c)->l.length≤63:=by
 intro l nd h
 have h1:=hP.2.1
 have h3:=hP.2.2.1
 have go:∀M B b,pZ M B=true->B+1≤2*b+1->max 1 (24/p.nss.length)≤M->p.nss.length*b≤63->l.length≤63:=by
  intro M B b hn hB hM hb
  refine Nat.le_trans (PB (b:=b) (λ n hnn l' nd' h'=>?_) l nd h) hb
  have hm:max 1 (24/p.nss.length/n.dds.length)≤M:=by
   have:=Nat.div_le_self (24/p.nss.length) n.dds.length
   omega
  have:=Pa (hP.2.2.2 n hnn).1 hn hm (hW n hnn) nd' h'
  omega
 have hc:p.nss.length=1∨p.nss.length=2∨p.nss.length=3:=by omega
 rcases hc with e | e | e
 . exact go 24 105 53 SN (by decide) (by rw[e];decide) (by rw[e];decide)
 . exact go 12 45 23 Tz (by decide) (by rw[e];decide) (by rw[e];decide)
 . exact go 8 27 14 Vc (by decide) (by rw[e];decide) (by rw[e];decide)
theorem zc:∀{x y:List Int}(s t:List Int),x.length=y.length->eU x y=true->eU (x++s) (y++t)=true
 | [],[],_,_,_,h=>by simp[eU]at h
 | a ::x,c::y,s,t,hl,h=>by
   simp only[eU,List.cons_append]at h ⊢
   split at h
   . rename_i e
     rw[if_pos e]
     exact zc s t (by simpa using hl) h
   . rename_i e
     rw[if_neg e];exact h
 | [],_::_,_,_,hl,_=>by simp at hl
 | _::_,[],_,_,hl,_=>by simp at hl
theorem uB{u v:Int}(h:u<v):∀(x:List Int),eU (x++[u]) (x++[v])=true
 | []=>by simp[eU,h,Int.ne_of_lt h]
 | a::x=>by simp only[eU,List.cons_append,if_true];exact uB h x
def iu(xs:List (List Int)):Prop:=xs.Pairwise λ x y=>x.length=y.length/\eU x y=true
theorem Dq(lo hi:Fm)(cs:List Int):iu (bz lo hi cs):=by
 unfold iu bz
 rw[List.pairwise_map]
 unfold upI
 rw[List.pairwise_map]
 refine List.Pairwise.imp (λ{a b} h=>⟨by simp,uB (by omega) cs⟩) List.pairwise_lt_range
theorem Hd{lo hi:Fm}{ahead:List (List Int)}(h:iu ahead):iu (aL lo hi ahead):=by
 unfold iu aL
 rw[List.pairwise_flatMap]
 refine⟨λ a _=>Dq lo hi a,List.Pairwise.imp (λ{a b} hab x hx y hy=>?_) h⟩
 unfold bz at hx hy
 obtain⟨c,_,rfl⟩:=List.mem_map.mp hx
 obtain⟨d,_,rfl⟩:=List.mem_map.mp hy
 exact⟨by simp[hab.1],zc _ _ hab.1 hab.2⟩
theorem Hm(ls:List Lp):iu (cnt ls):=by
 unfold cnt
 have:∀(ls:List Lp)(acc:List (List Int)),iu acc->iu (ls.foldl (λ acc l=>aL l.1 l.2 acc) acc):=by
  intro ls
  induction ls with
  | nil=>exact λ acc h=>h
  | cons l ls ih=>exact λ acc h=>ih _ (Hd h)
 exact this ls _ (List.pairwise_singleton _ _)
def UpS(s t:Stp):Prop:=s.1=t.1->s.2.1=t.2.1∨(s.2.1.length=t.2.1.length/\eU s.2.1 t.2.1=true)
theorem Gs(nss:List Ns):(ak nss).Pairwise UpS:=by
 unfold ak
 rw[List.pairwise_flatten]
 refine⟨λ l hl=>?_,?_⟩
 . obtain⟨i,hi⟩:=List.getElem?_of_mem hl
   rw[List.getElem?_mapIdx]at hi
   cases e:nss[i]? with
   | none=>rw[e]at hi;cases hi
   | some n=>
     rw[e]at hi
     cases hi
     unfold bQ
     rw[List.pairwise_flatMap]
     refine⟨λ cs hc=>?_,?_⟩
     . rw[List.pairwise_map]
       exact List.Pairwise.imp (λ{a b} hab=>λ _=>.inl rfl) List.pairwise_lt_range
     . refine List.Pairwise.imp (λ{a b} hab x hx y hy=>?_) (Hm n.lps)
       obtain⟨s,_,rfl⟩:=List.mem_map.mp hx
       obtain⟨t,_,rfl⟩:=List.mem_map.mp hy
       exact λ _=>.inr hab
 . rw[List.pairwise_iff_getElem]
   intro i j hi hj hij x hx y hy
   rw[List.getElem_mapIdx]at hx hy
   unfold bQ at hx hy
   obtain⟨a,_,hx⟩:=List.mem_flatMap.mp hx
   obtain⟨s,_,rfl⟩:=List.mem_map.mp hx
   obtain⟨b,_,hy⟩:=List.mem_flatMap.mp hy
   obtain⟨t,_,rfl⟩:=List.mem_map.mp hy
   intro e
   have e:i=j:=e
   omega
theorem lR{nss:List Ns}{s:Stp}(h:s∈ak nss):∃n,nss[s.1]? =some n/\s.2.1∈cnt n.lps:=by
 unfold ak at h
 obtain⟨l,hl,hs⟩:=List.mem_flatten.mp h
 obtain⟨i,hi⟩:=List.getElem?_of_mem hl
 rw[List.getElem?_mapIdx]at hi
 cases e:nss[i]? with
 | none=>rw[e]at hi;cases hi
 | some n=>
   rw[e]at hi
   cases hi
   unfold bQ at hs
   obtain⟨a,ha,hx⟩:=List.mem_flatMap.mp hs
   obtain⟨t,_,rfl⟩:=List.mem_map.mp hx
   exact⟨n,e,ha⟩
def spn(s t:Stp):Option (List Int):=if s.1=t.1 then some (dif s.2.1 t.2.1)else none
def spD:Option (List Int)->D
 | none=>.non
 | some c=>tD c
theorem Bw{nss:List Ns}{s t:Stp}(hs:s∈ak nss)(ht:t∈ak nss)(e:s.1=t.1):s.2.1.length=t.2.1.length:=by
 obtain⟨n,h1,h2⟩:=lR hs
 obtain⟨n',h3,h4⟩:=lR ht
 rw[e,h3]at h1
 cases h1
 rw[bV _ _ h2,bV _ _ h4]
def gsp(ss:List Stp)(q:Pr):Option (List Int):=match ss[q.1]?,ss[q.2.1]? with
 | some s,some t=>spn s t
 | _,_=>none
theorem yo{ss:List Stp}{q:Pr}{s t:Stp}(h1:ss[q.1]? =some s)(h2:ss[q.2.1]? =some t):gsp ss q=spn s t:=by
 unfold gsp
 rw[h1,h2]
theorem MK{xs:List CR}{q:Pr}(h:q∈dD xs k):q.1<q.2.1/\q.2.1<xs.length:=by
 obtain⟨i,_,h⟩:=List.mem_flatMap.mp h
 obtain⟨t,ht,h⟩:=List.mem_flatMap.mp h
 unfold lw at h
 split at h
 . rename_i a b ha hb
   split at h
   . cases h
   . rw[List.mem_singleton]at h
     subst h
     have:=(z0.mp hb).1
     exact⟨by show i<i+1+t;omega,this⟩
 . cases h
theorem Qh{p:Pg}{s t:Stp}(hi:(ak p.nss)[i]? =some s)(hj:(ak p.nss)[j]? =some t)(hij:i<j){c:List Int}(h:spn s t=some c):∃n∈p.nss,Spn n c:=by
 unfold spn at h
 by_cases e:s.1=t.1
 . rw[if_pos e]at h
   have h:=(Option.some.inj h).symm
   obtain⟨n,h1,h2⟩:=lR (y4 hi)
   obtain⟨n',h3,h4⟩:=lR (y4 hj)
   rw[e,h3]at h1
   obtain rfl:n'=n:=Option.some.inj h1
   refine⟨n',y4 h3,s.2.1,t.2.1,h2,h4,h,?_⟩
   obtain⟨a1,a2⟩:=z0.mp hi
   obtain⟨b1,b2⟩:=z0.mp hj
   have up:=List.pairwise_iff_getElem.mp (Gs p.nss) i j a1 b1 hij
   rw[a2,b2]at up
   rcases up e with u | ⟨u,v⟩
   . right
     rw[h,←u,yx,bV _ _ h2]
   . left
     rw[h]
     exact CP u v
 . rw[if_neg e]at h;cases h
def spL(p:Pg):List (List Int):=(dD ((aD p).map crs) (aD p).length).filterMap (gsp (ak p.nss))
theorem iw(p:Pg):(ak p.nss).length=(aD p).length:=by
 have:=congrArg List.length (lD p)
 rw[y7,y7]at this
 exact this
theorem HW{p:Pg}{c:List Int}(h:c∈spL p):∃n∈p.nss,Spn n c:=by
 obtain⟨q,hq,e⟩:=List.mem_filterMap.mp h
 obtain⟨h1,h2⟩:=MK hq
 rw[y7,←iw]at h2
 have g1:=y3 (l:=ak p.nss) (i:=q.1) (by omega)
 have g2:=y3 (l:=ak p.nss) (i:=q.2.1) h2
 rw[yo g1 g2]at e
 exact Qh g1 g2 h1 e
theorem Qy{n:Ns}{c:List Int}(hL:Lps n.lps)(h:Spn n c):c≠[]:=by
 obtain⟨a,b,ha,hb,rfl,_⟩:=h
 have la:=bV _ _ ha
 have lb:=bV _ _ hb
 intro e
 have h0:=congrArg List.length e
 rw[Dl (by rw[la,lb]),la]at h0
 have h1:=hL.1
 rw[h0]at h1
 exact absurd h1 (by simp)
theorem Bk{p:Pg}(hP:PgB 24 p)(hW:PgW 24 p):(∀l:List (List Int),l.Nodup->(∀x∈l,x∈spL p)->l.length≤63)/\∀c∈spL p,c≠[]:=
 ⟨λ l nd h=>Ik hP hW l nd λ c hc=>HW (h c hc),λ c hc=>by
  obtain⟨n,hn,hs⟩:=HW hc
  exact Qy (hP.2.2.2 n hn).1 hs⟩
theorem Ov:∀{ks ks':List (List Int)},ks.Pairwise (λ a b=>ltI a b=true)->ks'.Pairwise (λ a b=>ltI a b=true)->(∀c,c∈ks↔c∈ks')->ks=ks':=by
 intro ks
 induction ks with
 | nil=>
   intro ks' _ _ h
   cases ks' with
   | nil=>rfl
   | cons c ks'=>exact absurd ((h c).mpr x6) (by simp)
 | cons a ks ih=>
   intro ks' h1 h2 h
   cases ks' with
   | nil=>exact absurd ((h a).mp x6) (by simp)
   | cons b ks'=>
     obtain⟨a1,a2⟩:=List.pairwise_cons.mp h1
     obtain⟨b1,b2⟩:=List.pairwise_cons.mp h2
     have e:a=b:=by
      rcases List.mem_cons.mp ((h a).mp x6)with e | ha
      . exact e
      . rcases List.mem_cons.mp ((h b).mpr x6)with e | hb
        . exact e.symm
        . have x:=a1 b hb
          have y:=b1 a ha
          rw[t8 x]at y
          cases y
     subst e
     have na:∀{l:List (List Int)},(∀x∈l,ltI a x=true)->a∉l:=λ hl hm=>by
      have:=hl a hm
      rw[pD]at this
      cases this
     rw[ih a2 b2 λ c=>⟨λ hc=>by
      rcases List.mem_cons.mp ((h c).mp (x4 _ hc))with e | hc'
      . exact absurd (e▸hc) (na a1)
      . exact hc',λ hc=>by
      rcases List.mem_cons.mp ((h c).mpr (x4 _ hc))with e | hc'
      . exact absurd (e▸hc) (na b1)
      . exact hc'⟩]
theorem TY{α:Type}(e:α->D)(l l':List α):List.zipWith (λ x y=>D.tup [x,y]) (l.map e) (l'.map e)=(l.zip l').map λ q=>D.tup [e q.1,e q.2]:=by
 rw[List.zipWith_map,List.zip,List.map_zipWith]
theorem Ox(a b:List Int):dif a b=(a.zip b).map λ q=>q.2-q.1:=by
 unfold dif
 rw[List.zip,List.map_zipWith]
def Fj:Ct:=λ ds S W=>∃s t:Stp,ds=[dSt s,dSt t]/\s.2.1.length≤1000/\W (spD (spn s t)) S
theorem nR(F:Fun Ω.K "span_between" "span_between" dJ f fd)(N0:Ω.cd=none)(B:Bi Ω.mg):Ok Ω 1 f fd oR Fj:=by
 refine aF N0 (N:=oM) F (ph B) (by kernel_rfl!) ?_
 rintro ds S W ⟨s,t,rfl,hz,hw⟩ hl
 walk_at "b"
 refine⟨λ c=>?_,λ c=>?_⟩
 . have c:¬((s.1:Int)=(t.1:Int)):=by simpa using c
   have e:spn s t=none:=if_neg λ z=>c (by rw[z])
   rw[e]at hw
   walk_at "b"
   exact hw
 . have c:(s.1:Int)=(t.1:Int):=by simpa using c
   have e:spn s t=some (dif s.2.1 t.2.1):=if_pos (by omega)
   rw[e,Ox]at hw
   walk_at "b"
   rw[TY]
   refine Cp (λ q:Int×Int=>D.int (q.2-q.1)) (by rw[List.length_zip];omega) trivial ?_ (.inl ?_)
   . rintro i ⟨x,y⟩ hq Q hQ
     walk_at "b"
     refine⟨rfl,?_⟩
     walk_at "b"
     exact hQ
   walk_at "b"
   have e2:spD (some ((s.2.1.zip t.2.1).map λ q=>q.2-q.1))=.tup ((s.2.1.zip t.2.1).map λ q=>D.int (q.2-q.1)):=by
    show D.tup _=_
    rw[List.map_map]
    rfl
   rw[e2]at hw
   exact hw
def Hb:Ct:=λ ds S W=>∃(p:Pg) (m i j:Nat) (s t:Stp),ds=[dPg p,.int (i:Int),.int (j:Int)]/\PgB m p/\12≤m/\m≤60/\flat S/\(ak p.nss)[i]? =some s/\(ak p.nss)[j]? =some t/\s.2.1.length≤1000/\W (spD (spn s t)) S
theorem Iv(F:Fun Ω.K "span" "span" pI f fd)(N0:Ω.cd=none)(Cq42:Cal Ω "steps_of" 4 1 jd)(Cq40:Cal Ω "span_between" 1 2 Fj):Ok Ω 5 f fd KJ Hb:=by
 refine aF N0 (N:=KN) F (JM Cq42 Cq40) (by kernel_rfl!) ?_
 rintro ds S W ⟨p,m,i,j,s,t,rfl,hP,h12,h60,hS,hs,ht,hz,hw⟩ hl
 have ax:atI ((ak p.nss).map dSt) ((i:Nat):Int)=some (dSt s):=aU (by rw[y8,hs];rfl)
 have ay:atI ((ak p.nss).map dSt) ((j:Nat):Int)=some (dSt t):=aU (by rw[y8,ht];rfl)
 walk_at "b"
 refine⟨rfl,ue hP h12 h60 hS (.inl ?_)⟩
 walk_at "b"
 refine⟨_,ax,?_⟩
 walk_at "b"
 refine⟨_,ay,?_⟩
 walk_at "b"
 exact⟨rfl,s,t,rfl,hz,hw⟩
theorem M8{α:Type}(g:α->Option (List Int))(l:List α):((l.map λ q=>spD (g q)).filter λ d=>!(match d with | .non=>true | _=>false)).map id=(l.filterMap g).map tD:=by
 induction l with
 | nil=>rfl
 | cons a l ih=>
   rw[List.map_cons]
   cases e:g a with
   | none=>
     rw[List.filterMap_cons_none e]
     exact ih
   | some c=>
     rw[List.filterMap_cons_some e,List.map_cons,←ih]
     rfl
def CK:Ct:=λ ds S W=>∃p:Pg,ds=[dPg p]/\PgB 24 p/\PgW 24 p/\flat S/\∀ks:List (List Int),ks.Pairwise (λ a b=>ltI a b=true)->(∀c,c∈ks↔c∈spL p)->W (.lst (ks.map tD)) S
theorem iy{p:Pg}(hP:PgB m p){s:Stp}(h:s∈ak p.nss):s.2.1.length≤1000:=by
 obtain⟨n,h1,h2⟩:=lR h
 rw[bV _ _ h2]
 have:=(hP.2.2.2 n (y4 h1)).1.2.1
 omega
theorem Dv(F:Fun Ω.K "spans" "spans" lE f fd)(N0:Ω.cd=none)(B:Bi Ω.mg)(Cq42:Cal Ω "steps_of" 4 1 jd)(Cq37:Cal Ω "pairs" 6 1 wB)(Cq40:Cal Ω "span_between" 1 2 Fj):Ok Ω 7 f fd G4 CK:=by
 refine aF N0 (N:=Hz) F (Jg B Cq42 Cq37 Cq40) (by kernel_rfl!) ?_
 rintro ds S W ⟨p,rfl,hP,hW,hS,hw⟩ hl
 obtain⟨few,ne⟩:=Bk hP hW
 have hN:=jJ hP (by decide) (by decide)
 have hal:=iC ((aD p).map crs) (aD p).length
 rw[y7]at hal
 have hal3:(aD p).length*(aD p).length≤60*60:=Nat.mul_le_mul hN hN
 walk_at "b"
 refine⟨rfl,ue hP (by decide) (by decide) hS (.inl ?_)⟩
 walk_at "b"
 refine⟨rfl,p,24,rfl,hP,by decide,by decide,hS,.inl ?_⟩
 walk_at "b"
 refine Cp (λ q:Pr=>spD (gsp (ak p.nss) q)) (by omega) trivial ?_ (.inl ?_)
 . intro k q hq Q hQ
   obtain⟨h1,h2⟩:=MK (y4 hq)
   rw[y7,←iw]at h2
   have g1:=y3 (l:=ak p.nss) (i:=q.1) (by omega)
   have g2:=y3 (l:=ak p.nss) (i:=q.2.1) h2
   rw[yo g1 g2]at hQ
   have ax:atI ((ak p.nss).map dSt) ((q.1:Nat):Int)=some (dSt (ak p.nss)[q.1]):=aU (by rw[y8,g1];rfl)
   have ay:atI ((ak p.nss).map dSt) ((q.2.1:Nat):Int)=some (dSt (ak p.nss)[q.2.1]):=aU (by rw[y8,g2];rfl)
   walk_at "b"
   refine⟨rfl,?_⟩
   walk_at "b"
   refine⟨_,ax,?_⟩
   walk_at "b"
   refine⟨_,ay,?_⟩
   walk_at "b"
   exact⟨rfl,_,_,rfl,iy hP (List.getElem_mem _),hQ⟩
 walk_at "b"
 refine Tr (λ d=>!(match d with | .non=>true | _=>false)) id (by rw[y7];omega) ?_ ?_
 . intro k d hd Q Q' h1 h2
   obtain⟨q,hq,rfl⟩:=cG hd
   cases e:gsp (ak p.nss) q with
   | none=>
     rw[e]at h1 h2
     walk_at "b"
     exact h2 rfl
   | some c=>
     rw[e]at h1 h2
     walk_at "b"
     exact h1 rfl
 rw[M8]
 refine⟨spL p,few,ne,.inl rfl,λ ks k1 k2=>?_⟩
 walk_at "b"
 exact hw ks k1 k2
def dSd(s:Stp):D:=.tup [.int s.1,dC s.2.1]
theorem Ql(i:Nat)(cs:List Int)(n:Nat):(List.replicate n [D.tup [.int (i:Int),dC cs]]).flatten=((List.range n).map λ s=>((i,cs,s):Stp)).map dSd:=by
 rw[List.map_map]
 induction n with
 | zero=>rfl
 | succ n ih=>
   rw[List.replicate_succ',List.flatten_append,ih,List.range_succ,List.map_append]
   rfl
def sdN(i:Nat)(n:Ns)(t:Nat):List Stp:=((cnt n.lps).take t).flatMap λ cs=>(List.range n.dds.length).map λ s=>(i,cs,s)
theorem BW(i:Nat)(n:Ns):sdN i n (cnt n.lps).length=bQ i n:=by unfold sdN bQ;rw[List.take_length]
def BV:Ct:=λ ds S W=>∃(p:Pg) (m:Nat),ds=[dPg p]/\PgB m p/\12≤m/\m≤60/\flat S/\W (.lst ((ak p.nss).map dSd)) S
theorem Fx(nss:List Ns)(i:Nat):(ak (nss.take i)).length≤(ak nss).length:=by
 have e:∃more,ak nss=ak (nss.take i)++more:=by
  unfold ak
  conv=>enter [1,more,1,1];rw[←List.take_append_drop i nss]
  rw[List.mapIdx_append,List.flatten_append]
  exact⟨_,rfl⟩
 obtain⟨more,e⟩:=e
 rw[e,x8];omega
theorem Pk(i:Nat)(n:Ns)(t:Nat):(sdN i n t).length≤(bQ i n).length:=by
 rw[←BW]
 unfold sdN
 rw[List.take_length]
 conv=>rhs;rw[←List.take_append_drop t (cnt n.lps),List.flatMap_append,x8]
 omega
theorem Et(F:Fun Ω.K "_law_stood" "_law_stood" mO f fd)(N0:Ω.cd=none)(B:Bi Ω.mg)(Cq2:Cal Ω "_law_counts" 2 1 yC):Ok Ω 3 f fd Je BV:=by
 refine aF N0 (N:=Ii) F (Gm B Cq2) (by kernel_rfl!) ?_
 rintro ds S W ⟨p,m,rfl,hP,h12,h60,hS,hw⟩ hl
 have hN:=jJ hP h12 h60
 rw[←iw]at hN
 walk_at "b"
 refine PN ⟨λ i Γ' S'=>(∃o2 o3 o4 o5,Γ'=[some (dPg p),some (.lst ((ak (p.nss.take i)).map dSd)),o2,o3,o4,o5])/\S'=S,⟨⟨_,_,_,_,rfl⟩,rfl⟩,?_,?_⟩
 . rintro i e Γ' T he ⟨⟨o2,o3,o4,o5,rfl⟩,hT⟩
   subst hT
   obtain⟨e',he',rfl⟩:=Ce he
   obtain⟨n,hn,rfl⟩:=cG he'
   have hNs:=hP.2.2.2 n (y4 hn)
   have l1:=Fx p.nss (i+1)
   rw[dz hn,x8]at l1
   refine⟨_,_,rfl,rfl,?_⟩
   walk_at "b"
   refine⟨rfl,n.lps,rfl,hNs.1,hS,?_⟩
   refine bc ⟨λ t Γ' S'=>(∃o5,Γ'=[some (dPg p),some (.lst ((ak (p.nss.take i)++sdN i n t).map dSd)),some (.int (i:Int)),some (.tup (n.lps.map dL)),some (.tup (n.dds.map dDd)),o5])/\S'=T,⟨⟨o5,by unfold sdN;rw[List.take_zero,List.flatMap_nil,List.append_nil];rfl⟩,rfl⟩,?_,?_⟩
   . rintro t d Γ' T' hd ⟨⟨o5,rfl⟩,hT⟩
     subst hT
     obtain⟨cs,hcs,rfl⟩:=cG hd
     have l2:=Pk i n t
     have d4:=hNs.2.2.1
     walk_at "b"
     refine⟨_,_,rfl,rfl,⟨by omega,by rw[y7];omega⟩,by rw[y7,Int.toNat_natCast];simp;omega,?_⟩
     rw[y7,Int.toNat_natCast,Ql]
     walk_at "b"
     have e1:sdN i n (t+1)=sdN i n t++(List.range n.dds.length).map λ s=>((i,cs,s):Stp):=sX hcs
     refine⟨⟨some (dC cs),?_⟩,rfl⟩
     rw[e1,←List.append_assoc,←List.map_append]
     rfl
   . rintro Γ' S' ⟨⟨o5,rfl⟩,rfl⟩
     rw[y7,BW,←dz hn]
     exact⟨⟨_,_,_,_,rfl⟩,rfl⟩
 . rintro Γ' S' ⟨⟨o2,o3,o4,o5,rfl⟩,rfl⟩
   walk_at "b"
   rw[List.length_mapIdx,y7,List.take_length]
   exact hw
def subAt(a b:List Int):D->D
 | .int i=>.int (b.getD i.toNat 0-a.getD i.toNat 0)
 | d=>d
theorem G8{a b:List Int}(h:a.length=b.length):(DL.upTo 0 a.length).map (subAt a b)=(dif a b).map D.int:=by
 refine List.ext_getElem (by rw[y7,y7,Dl h,az]) λ i h1 h2=>?_
 have hi:i<a.length:=by simpa[az]using h1
 have hf:i<b.length:=by omega
 simp[DL.upTo,subAt,dif,List.getD,hi,hf]
def Bq:Ct:=λ ds S W=>∃s t:Stp,ds=[dSd s,dSd t]/\(s.1=t.1->s.2.1.length=t.2.1.length)/\s.2.1.length≤1000/\W (spD (spn s t)) S
theorem Jm(F:Fun Ω.K "_law_span" "_law_span" pA f fd)(N0:Ω.cd=none)(B:Bi Ω.mg):Ok Ω 1 f fd JD Bq:=by
 refine aF N0 (N:=Ke) F (Ku B) (by kernel_rfl!) ?_
 rintro ds S W ⟨s,t,rfl,hst,hz,hw⟩ hl
 walk_at "b"
 refine⟨λ c=>?_,λ c=>?_⟩
 . have c:¬((s.1:Int)=(t.1:Int)):=by simpa using c
   have e:spn s t=none:=if_neg λ z=>c (by rw[z])
   rw[e]at hw
   walk_at "b"
   exact hw
 . have c:(s.1:Int)=(t.1:Int):=by simpa using c
   have c2:s.1=t.1:=by omega
   have hlen:=hst c2
   have e:spn s t=some (dif s.2.1 t.2.1):=if_pos c2
   rw[e]at hw
   have hw:W (.tup ((dif s.2.1 t.2.1).map D.int)) S:=hw
   walk_at "b"
   have e0:((s.2.1.map D.int).length:Int).toNat=s.2.1.length:=by simp
   refine⟨⟨by omega,by simp;omega⟩,?_⟩
   rw[e0]
   refine cY (subAt s.2.1 t.2.1) (by rw[az];omega) ?_ ?_
   . intro i e he Q hq
     obtain⟨hi,rfl⟩:=bC he
     have hf':i<t.2.1.length:=by omega
     have g1:atI (t.2.1.map D.int) (0+(i:Int))=some (.int t.2.1[i]):=by
      have:(0+(i:Int))=((i:Nat):Int):=by omega
      rw[this]
      exact aU (by simp[hf'])
     have g2:atI (s.2.1.map D.int) (0+(i:Int))=some (.int s.2.1[i]):=by
      have:(0+(i:Int))=((i:Nat):Int):=by omega
      rw[this]
      exact aU (by simp[hi])
     walk_at "b"
     refine⟨_,g1,?_⟩
     walk_at "b"
     refine⟨_,g2,?_⟩
     walk_at "b"
     have e:subAt s.2.1 t.2.1 (.int (0+(i:Int)))=.int (t.2.1[i]-s.2.1[i]):=by
      simp[subAt,List.getD,hi,hf']
     rw[e]at hq
     exact hq
   . rw[G8 hlen]
     walk_at "b"
     exact hw
theorem R9(a b:CR):(ssC a b).isEmpty= !jL a b:=by
 have h1:=KD (tch a b)
 have h2:=Cw (ssC a b)
 have h3:=Pz a b
 rw[←h3,Bool.not_not,←h1,←h2]
 rfl
theorem Ks{p:Pg}(hP:PgB m p):∀z∈aD p,z.1.rds.length≤1000:=λ z hm=>by
 obtain⟨n,hn,hm⟩:=List.mem_flatMap.mp hm
 obtain⟨cs,_,hm⟩:=List.mem_flatMap.mp hm
 obtain⟨x,hx,hm⟩:=List.mem_map.mp hm
 rw[←hm]
 exact((hP.deeds n hn).2 x hx).2.1
theorem qg(c:List Int):au (tD c)=true:=bZ _
theorem RW(c:List Int):okD (tD c)=true:=mK c
theorem BP(c:List Int):deep (tD c)=1:=by
 show aY _+1=1
 rw[jB]
def vQ(ss:List Stp)(xs:List CR)(i j:Nat):List (List Int):=(lw xs i j).filterMap (gsp ss)
def gQ(ss:List Stp)(xs:List CR)(i k:Nat):List (List Int):=(dB xs i k).filterMap (gsp ss)
def iG(ss:List Stp)(xs:List CR)(k:Nat):List (List Int):=(dD xs k).filterMap (gsp ss)
theorem Gg(ss:List Stp)(xs:List CR)(i k:Nat):gQ ss xs i (k+1)=gQ ss xs i k++vQ ss xs i (i+1+k):=by
 unfold gQ vQ;rw[fW,List.filterMap_append]
theorem Ge(ss:List Stp)(xs:List CR)(k:Nat):iG ss xs (k+1)=iG ss xs k++gQ ss xs k (xs.length-(k+1)):=by
 unfold gQ iG;rw[jW,List.filterMap_append]
theorem Jy{ss:List Stp}{xs:List CR}{s t:Stp}{a b:CR}(h1:ss[i]? =some s)(h2:ss[j]? =some t)(h3:xs[i]? =some a)(h4:xs[j]? =some b):vQ ss xs i j=if s.1=t.1/\jL a b=true then[dif s.2.1 t.2.1]else[]:=by
 unfold vQ
 rw[Bd h3 h4,R9]
 cases q:jL a b with
 | false=>
   have e:¬(s.1=t.1/\false=true):=λ z=>y6 z.2
   rw[if_neg e];rfl
 | true=>
   rw[show(!true)=false from rfl,if_neg y6]
   have e:gsp ss (i,j,ssC a b)=spn s t:=yo h1 h2
   by_cases c:s.1=t.1
   . rw[if_pos ⟨c,rfl⟩,List.filterMap_cons_some (b:=dif s.2.1 t.2.1) (by rw[e];exact if_pos c)]
     rfl
   . rw[if_neg (λ z=>c z.1),List.filterMap_cons_none (by rw[e];exact if_neg c)]
     rfl
theorem Le(ss:List Stp)(xs:List CR)(i k:Nat):(gQ ss xs i k).length≤k:=Nat.le_trans (List.length_filterMap_le _ _) (iB xs i k)
theorem KQ(ss:List Stp)(xs:List CR)(k:Nat):(iG ss xs k).length≤k*xs.length:=Nat.le_trans (List.length_filterMap_le _ _) (iC xs k)
theorem Gj{o:Option (List Int)}{W:Bool->Store->Prop}(w:W false S):aZ .NotEq (spD o) (spD o) S W:=by
 unfold aZ
 cases o with
 | none=>exact .inr ⟨rfl,rfl,by decide,w⟩
 | some c=>exact .inr ⟨rfl,qg c,by show deep (tD c)≤50;rw[BP];decide,w⟩
theorem Qx{ks:List (List Int)}{W:Bool->Store->Prop}(_:ks.length≤63)(w:W true S):aZ .Eq (.lst (ks.map tD)) (.lst (ks.map tD)) S W:=by
 have h1:cU (ks.map tD)=true:=by
  induction ks with
  | nil=>rfl
  | cons c ks ih=>simp only[List.map_cons,cU,RW,ih (by simp at*;omega),Bool.and_true]
 have h2:aY (ks.map tD)≤1:=by
  clear h1 w
  induction ks with
  | nil=>simp[aY]
  | cons c ks ih=>have:=ih (by simp at*;omega);simp only[List.map_cons,aY,BP];omega
 unfold aZ
 refine⟨⟨h1,h1,by show aY _+1≤50;omega⟩,?_⟩
 have e:eqD (vw S (.lst (ks.map tD))) (vw S (.lst (ks.map tD)))=true:=j5 _ (cL qg _)
 rw[e]
 exact w
theorem QH (F:Fun Ω.K "law" "law" jE f fd)(N0:Ω.cd=none)(B:Bi Ω.mg)(Cq38:Cal Ω "program_of" 10 2 wX)(Cq39:Cal Ω "span" 5 3 Hb)(Cq41:Cal Ω "spans" 7 1 CK)(Cq6:Cal Ω "_law_pen" 2 2 Ij)(Cq12:Cal Ω "_law_take" 2 2 eV)(Cq7:Cal Ω "_law_program" 5 2 Cj)(Cq10:Cal Ω "_law_steps" 3 1 yu)(Cq13:Cal Ω "_law_touch" 1 2 vX)(Cq11:Cal Ω "_law_stood" 3 1 BV)(Cq8:Cal Ω "_law_span" 1 2 Bq):Ok Ω 11 f fd Ms m7:=by
 refine aF N0 (N:=Uk) F (Ub B Cq38 Cq39 Cq41 Cq6 Cq12 Cq7 Cq10 Cq13 Cq11 Cq8) (by kernel_rfl!) ?_
 rintro ds S W ⟨ns,rfl,hn,hw,hS0⟩ hl
 subst hS0
 walk_at "b"
 refine⟨rfl,ns,1,rfl,by decide,λ c=>?_⟩
 have p0:aR ([]++[iW ns c 1]) 0:=⟨ns,c,1,by simp,by decide⟩
 have f0:flat ([]++[iW ns c 1]):=cV (λ l hl=>by cases hl) (oH ..)
 generalize ([]++[iW ns c 1]:Store)=S0 at*
 walk_at "b"
 refine⟨rfl,0,24,rfl,p0,f0,by decide,by decide,λ p S1 hPW u1 p1 f1=>?_⟩
 obtain⟨hP,hW⟩:=hPW
 walk_at "b"
 refine⟨rfl,p,24,rfl,hP,by decide,f1,.inl ?_⟩
 walk_at "b"
 refine⟨rfl,p,24,rfl,hP,by decide,by decide,f1,?_⟩
 walk_at "b"
 refine⟨rfl,KZ hP (by decide) (by decide) f1 ?_⟩
 rw[Kd]
 have hN:=jJ hP (by decide) (by decide)
 have hr:=Ks hP
 obtain⟨few,ne⟩:=Bk hP hW
 have eN:=iw p
 walk_at "b"
 rw[y7]
 obtain⟨q,hq,q30,q0⟩:∃q:Nat,(if((aD p).length:Int)*((aD p).length:Int)<30 then((aD p).length:Int)*((aD p).length:Int)else 30)=(q:Int)/\q≤30/\(0<q->0<(aD p).length):=by
  by_cases c:((aD p).length:Int)*((aD p).length:Int)<30
  . rw[if_pos c]
    rw[←Int.natCast_mul]at c ⊢
    refine⟨_,rfl,by omega,λ z=>Nat.pos_of_ne_zero λ e=>?_⟩
    rw[e]at z
    cases z
  . rw[if_neg c]
    refine⟨30,rfl,y9 _,λ _=>Nat.pos_of_ne_zero λ e=>?_⟩
    rw[e]at c
    exact c (by decide)
 rw[hq]
 refine⟨⟨by omega,by omega⟩,bc ⟨λ i Γ' T=>(∃o6 o7 o8 o9 o10,Γ'=[some (.lst (ns.map .int)),some (.loc 0),some (dPg p),some (.lst ((aD p).map λ x=>cX x.2 x.1)),some (.lst ((ak p.nss).map dSd)),some (dPg p),o6,o7,o8,o9,o10])/\flat T/\aR T 0,⟨⟨_,_,_,_,_,rfl⟩,f1,p1⟩,?_,?_⟩⟩
 . rintro i e Γ' T he ⟨⟨o6,o7,o8,o9,o10,rfl⟩,fT,pT⟩
   obtain⟨hi,rfl⟩:=bC he
   have nz:=q0 (by omega)
   walk_at "b"
   rw[y7]
   refine aN pT (by omega) (by omega) λ v T2 v0 v1 u2 p2=>?_
   have f2:=u2.flat fT
   walk_at "b"
   rw[y7]
   refine aN p2 (by omega) (by omega) λ w T3 w0 w1 u3 p3=>?_
   have f3:=u3.flat f2
   obtain⟨vi,rfl⟩:∃n:Nat,v=(n:Int):=⟨v.toNat,by omega⟩
   obtain⟨wi,rfl⟩:∃n:Nat,w=(n:Int):=⟨w.toNat,by omega⟩
   have g1:=y3 (l:=ak p.nss) (i:=vi) (by omega)
   have g2:=y3 (l:=ak p.nss) (i:=wi) (by omega)
   have m1:=y4 g1
   have m2:=y4 g2
   generalize (ak p.nss)[vi]'_=s at*
   generalize (ak p.nss)[wi]'_=t at*
   walk_at "b"
   refine⟨rfl,p,24,vi,wi,s,t,rfl,hP,by decide,by decide,f3,g1,g2,iy hP m1,?_⟩
   have ax:atI ((ak p.nss).map dSd) ((vi:Nat):Int)=some (dSd s):=aU (by rw[y8,g1];rfl)
   have ay:atI ((ak p.nss).map dSd) ((wi:Nat):Int)=some (dSd t):=aU (by rw[y8,g2];rfl)
   walk_at "b"
   refine⟨_,ax,?_⟩
   walk_at "b"
   refine⟨_,ay,?_⟩
   walk_at "b"
   refine⟨rfl,s,t,rfl,Bw m1 m2,iy hP m1,?_⟩
   cases spn s t with
   | none=>
     walk_at "b"
     refine Gj ?_
     walk_at "b"
     exact⟨⟨_,_,_,_,_,rfl⟩,f3,p3⟩
   | some c=>
     walk_at "b"
     refine Gj ?_
     walk_at "b"
     exact⟨⟨_,_,_,_,_,rfl⟩,f3,p3⟩
 . rintro Γ' T ⟨⟨o6,o7,o8,o9,o10,rfl⟩,fT,pT⟩
   walk_at "b"
   rw[y7]
   have eD:iG (ak p.nss) ((aD p).map crs) (aD p).length=spL p:=rfl
   have hL:((aD p).map crs).length=(aD p).length:=y7 _
   refine⟨⟨by omega,by omega⟩,bc ⟨λ i Γ' U=>(∃o6 o7 o8 o9,Γ'=[some (.lst (ns.map .int)),some (.loc 0),some (dPg p),some (.lst ((aD p).map λ x=>cX x.2 x.1)),some (.lst ((ak p.nss).map dSd)),some (dPg p),o6,o7,o8,o9,some (.loc T.length)])/\U=T++[(iG (ak p.nss) ((aD p).map crs) i).map tD],⟨⟨_,_,_,_,rfl⟩,rfl⟩,?_,?_⟩⟩
   . rintro i e Γ' U he ⟨⟨o6,o7,o8,o9,rfl⟩,hU⟩
     subst hU
     obtain⟨hi,rfl⟩:=bC he
     have e2:(0:Int)+(i:Int)=(i:Int):=by omega
     rw[e2]
     have hi':i<(aD p).length:=by omega
     have g1:=y3 (l:=ak p.nss) (i:=i) (by omega)
     have k1:=y3 (l:=aD p) (i:=i) hi'
     have m1:=y4 g1
     have r1:=hr _ (y4 k1)
     generalize (ak p.nss)[i]'_=s at*
     generalize (aD p)[i]'_=x at*
     have ax:atI ((ak p.nss).map dSd) ((i:Nat):Int)=some (dSd s):=aU (by rw[y8,g1];rfl)
     have bx:atI ((aD p).map λ x=>cX x.2 x.1) ((i:Nat):Int)=some (cX x.2 x.1):=aU (by rw[y8,k1];rfl)
     have c1:((aD p).map crs)[i]? =some (crs x):=by rw[y8,k1];rfl
     walk_at "b"
     rw[y7]
     refine⟨⟨by omega,by omega⟩,bc ⟨λ k Γ' U=>(∃o6 o8 o9,Γ'=[some (.lst (ns.map .int)),some (.loc 0),some (dPg p),some (.lst ((aD p).map λ x=>cX x.2 x.1)),some (.lst ((ak p.nss).map dSd)),some (dPg p),o6,some (.int (i:Int)),o8,o9,some (.loc T.length)])/\U=T++[(iG (ak p.nss) ((aD p).map crs) i++gQ (ak p.nss) ((aD p).map crs) i k).map tD],⟨⟨_,_,_,rfl⟩,by unfold gQ dB;simp⟩,?_,?_⟩⟩
     . rintro k e Γ' U he ⟨⟨o6,o8,o9,rfl⟩,hU⟩
       subst hU
       obtain⟨hk,rfl⟩:=bC he
       have e3:((i:Int)+1)+(k:Int)=((i+1+k:Nat):Int):=by omega
       rw[e3]
       have hj:i+1+k<(aD p).length:=by omega
       have g2:=y3 (l:=ak p.nss) (i:=i+1+k) (by omega)
       have k2:=y3 (l:=aD p) (i:=i+1+k) hj
       have m2:=y4 g2
       have r2:=hr _ (y4 k2)
       generalize (ak p.nss)[i+1+k]'_=t at*
       generalize (aD p)[i+1+k]'_=y at*
       have ay:atI ((ak p.nss).map dSd) ((i+1+k:Nat):Int)=some (dSd t):=aU (by rw[y8,g2];rfl)
       have bY:atI ((aD p).map λ x=>cX x.2 x.1) ((i+1+k:Nat):Int)=some (cX y.2 y.1):=aU (by rw[y8,k2];rfl)
       have c2:((aD p).map crs)[i+1+k]? =some (crs y):=by rw[y8,k2];rfl
       have eAt:=Jy g1 g2 c1 c2
       have eS:=Gg (ak p.nss) ((aD p).map crs) i k
       rw[eAt]at eS
       walk_at "b"
       refine⟨_,ax,?_⟩
       walk_at "b"
       refine⟨_,ay,?_⟩
       walk_at "b"
       have no:¬(s.1=t.1/\jL (crs x) (crs y)=true)->iG (ak p.nss) ((aD p).map crs) i++gQ (ak p.nss) ((aD p).map crs) i (k+1)=iG (ak p.nss) ((aD p).map crs) i++gQ (ak p.nss) ((aD p).map crs) i k:=λ z=>by
        rw[eS,if_neg z,List.append_nil]
       refine⟨λ q=>?_,λ q=>⟨λ z=>ff z,λ _=>?_⟩⟩
       . have q:(s.1:Int)=(t.1:Int):=by simpa using q
         have q:s.1=t.1:=by omega
         walk_at "b"
         refine⟨_,bx,?_⟩
         walk_at "b"
         refine⟨_,bY,?_⟩
         walk_at "b"
         refine⟨rfl,x,y,rfl,r1,r2,?_⟩
         cases tb:jL (crs x) (crs y)with
         | false=>
           walk_at "b"
           exact⟨⟨_,_,_,rfl⟩,by rw[no (λ z=>by rw[tb]at z;exact y6 z.2)]⟩
         | true=>
           walk_at "b"
           refine⟨_,ax,?_⟩
           walk_at "b"
           refine⟨_,ay,?_⟩
           walk_at "b"
           refine⟨rfl,s,t,rfl,Bw m1 m2,iy hP m1,?_⟩
           have hil:(iG (ak p.nss) ((aD p).map crs) i++gQ (ak p.nss) ((aD p).map crs) i k).length≤4000:=by
            rw[x8]
            have a1:=KQ (ak p.nss) ((aD p).map crs) i
            have a2:=Le (ak p.nss) ((aD p).map crs) i k
            rw[hL]at a1
            have a3:i*(aD p).length≤60*60:=Nat.mul_le_mul (by omega) (by omega)
            omega
           refine⟨_,bL _ _,by rw[y7];omega,?_⟩
           rw[cj]
           refine⟨⟨_,_,_,rfl⟩,?_⟩
           have e5:spn s t=some (dif s.2.1 t.2.1):=if_pos q
           rw[eS,if_pos ⟨q,tb⟩,←List.append_assoc,List.map_append (l₂:=[_]),e5]
           rfl
       . have q:¬((s.1:Int)=(t.1:Int)):=by simpa using q
         walk_at "b"
         exact⟨⟨_,_,_,rfl⟩,by rw[no (λ z=>q (by rw[z.1]))]⟩
     . rintro Γ' U ⟨⟨o6,o8,o9,rfl⟩,hU⟩
       subst hU
       refine⟨⟨_,_,_,_,rfl⟩,?_⟩
       rw[Ge,az,hL]
       rw[show(((aD p).length:Int)-((i:Int)+1)).toNat=(aD p).length-(i+1)from by omega]
   . rintro Γ' U ⟨⟨o6,o7,o8,o9,rfl⟩,hU⟩
     subst hU
     rw[az,Int.toNat_natCast,eD]
     walk_at "b"
     refine⟨rfl,p,rfl,hP,hW,cV fT (cL qg _),λ ks k1 k2=>?_⟩
     walk_at "b"
     refine⟨spL p,few,ne,.inr ⟨_,rfl,bL _ _⟩,λ ks' k3 k4=>?_⟩
     have ek:=Ov k1 k3 λ c=>(k2 c).trans (k4 c).symm
     subst ek
     have kl:ks.length≤63:=few ks (k1.imp λ{a b} h e=>by rw[e,pD]at h;cases h) λ x hx=>(k2 x).mp hx
     refine Qx kl ?_
     walk_at "b"
     refine d9 (λ _:List Int=>D.bl true) (by omega) ?_ ?_
     . intro i c hc Q hQ
       walk_at "b"
       exact hQ
     walk_at "b"
     refine⟨ks.map λ _=>true,by rw[List.map_map];rfl,?_⟩
     rw[show(ks.map λ _=>true).all id=true from by simp]
     exact hw _
end K17
namespace K17
open PySem PySem.Spec L2 DL RF
open PyProof.Rows
variable {Ω : Wd} {f : Addr} {fd : FuncData}
theorem by1{G:List Value->Prop}(h:∀a0:Value,G [a0])(us:List Value)(e:us.length=1):G us:=by
 obtain⟨a0,us,rfl⟩:=List.exists_cons_of_length_eq_add_one e
 replace e:=Nat.succ.inj e
 obtain rfl:=List.eq_nil_of_length_eq_zero e
 exact h a0
theorem by2{G:List Value->Prop}(h:∀a0 a1:Value,G [a0,a1])(us:List Value)(e:us.length=2):G us:=by
 obtain⟨a0,us,rfl⟩:=List.exists_cons_of_length_eq_add_one e
 replace e:=Nat.succ.inj e
 obtain⟨a1,us,rfl⟩:=List.exists_cons_of_length_eq_add_one e
 replace e:=Nat.succ.inj e
 obtain rfl:=List.eq_nil_of_length_eq_zero e
 exact h a0 a1
theorem by3{G:List Value->Prop}(h:∀a0 a1 a2:Value,G [a0,a1,a2])(us:List Value)(e:us.length=3):G us:=by
 obtain⟨a0,us,rfl⟩:=List.exists_cons_of_length_eq_add_one e
 replace e:=Nat.succ.inj e
 obtain⟨a1,us,rfl⟩:=List.exists_cons_of_length_eq_add_one e
 replace e:=Nat.succ.inj e
 obtain⟨a2,us,rfl⟩:=List.exists_cons_of_length_eq_add_one e
 replace e:=Nat.succ.inj e
 obtain rfl:=List.eq_nil_of_length_eq_zero e
 exact h a0 a1 a2
theorem by4{G:List Value->Prop}(h:∀a0 a1 a2 a3:Value,G [a0,a1,a2,a3])(us:List Value)(e:us.length=4):G us:=by
 obtain⟨a0,us,rfl⟩:=List.exists_cons_of_length_eq_add_one e
 replace e:=Nat.succ.inj e
 obtain⟨a1,us,rfl⟩:=List.exists_cons_of_length_eq_add_one e
 replace e:=Nat.succ.inj e
 obtain⟨a2,us,rfl⟩:=List.exists_cons_of_length_eq_add_one e
 replace e:=Nat.succ.inj e
 obtain⟨a3,us,rfl⟩:=List.exists_cons_of_length_eq_add_one e
 replace e:=Nat.succ.inj e
 obtain rfl:=List.eq_nil_of_length_eq_zero e
 exact h a0 a1 a2 a3
def FI(K:PySem.W.Frag)(x:Str)(t:Stmt):Prop:=∃(f:Addr) (oc:Value) (od:Option Addr) (kV dc pm:Value) (an:Option Addr) (cd ct:Value) (sl:Array (Option Value)),PySem.W.nsIn K mainGlobals x=some (some (.ref f))/\K.lookup f=some ⟨oc,od,.func (PySem.W.fnOf x x (eY t) (cF t) (aO t) .none kV dc pm an cd ct),sl⟩/\PySem.W.codeIn K cd x=true/\PySem.W.keepIn K (.ref f)=true
theorem FI.mk{K:PySem.W.Frag}{x:Str}{t:Stmt}{f:Addr}{oc:Value}{od:Option Addr}{kV dc pm:Value}{an:Option Addr}{cd ct:Value}{sl:Array (Option Value)}(a:PySem.W.nsIn K mainGlobals x=some (some (.ref f)))(l:K.lookup f=some ⟨oc,od,.func (PySem.W.fnOf x x (eY t) (cF t) (aO t) .none kV dc pm an cd ct),sl⟩)(c:PySem.W.codeIn K cd x=true)(k:PySem.W.keepIn K (.ref f)=true):FI K x t:=⟨f,oc,od,kV,dc,pm,an,cd,ct,sl,a,l,c,k⟩
abbrev FU(Ω:Wd)(x:Str)(t:Stmt):Prop:=∃f fd,Fun Ω.K x x t f fd/\Ω.mg x=some (.ref f)
theorem FI.use{Ω:Wd}{h:Heap}{x:Str}{t:Stmt}(X:Ω.K.In h)(G:h.Ns mainGlobals Ω.mg)(q:FI Ω.K x t):FU Ω x t:=by
 obtain⟨f,oc,od,kV,dc,pm,an,cd,ct,sl,a,l,c,k⟩:=q
 exact⟨f,_,Hv (st:=t) l c k,PySem.W.mg_of X G a⟩
theorem Qt{Ω:Wd}(B:Bi Ω.mg)
(u0:FU Ω "is_whole" gZ)
(u1:FU Ω "is_tuple_of" d7)
(u2:FU Ω "is_widths" fQ)
(u3:FU Ω "is_form" iT)
(u4:FU Ω "is_bound" gJ)
(u5:FU Ω "is_loop" iY)
(u6:FU Ω "is_loops" gO)
(u7:FU Ω "has_few_figures" cQ)
(u8:FU Ω "is_start" gn)
(u9:FU Ω "is_place_form" dw)
(u10:FU Ω "is_table_with_place" cu)
(u11:FU Ω "is_read" iZ)
(u12:FU Ω "is_reads" gK)
(u13:FU Ω "is_deed" jb)
(u14:FU Ω "is_nest" iR)
(u15:FU Ω "is_nests" gk)
(u16:FU Ω "comes_to" g8)
(u17:FU Ω "with_next_count" cT)
(u18:FU Ω "counts_of" fO)
(u19:FU Ω "number_of_steps" cR)
(u20:FU Ω "program_of" fu)
(u21:FU Ω "steps_of" gq)
(u22:FU Ω "span_between" dJ)
(u23:FU Ω "span" pI)
(u24:FU Ω "deed_of" iM)
(u25:FU Ω "cell_at" jc)
(u26:FU Ω "cells_of_step" dq)
(u27:FU Ω "cells_of" gB)
(u28:FU Ω "touched_cells" dm)
(u29:FU Ω "pairs" lW)
(u30:FU Ω "spans" lE)
(u31:FU Ω "_law_cell" pK)
(u32:FU Ω "_law_pen" tO)
(u33:FU Ω "_law_take" oW)
(u34:FU Ω "_law_loops" lA)
(u35:FU Ω "_law_form" oX)
(u36:FU Ω "_law_deed" pP)
(u37:FU Ω "_law_program" iQ)
(u38:FU Ω "_law_at" yO)
(u39:FU Ω "_law_counts" jX)
(u40:FU Ω "_law_spot" oU)
(u41:FU Ω "_law_steps" lX)
(u42:FU Ω "_law_touch" lO)
(u43:FU Ω "_law_stood" mO)
(u44:FU Ω "_law_span" pA)
{f:Addr}{fd:FuncData}(F:Fun Ω.K "law" "law" jE f fd)(N0:Ω.cd=none):Ok Ω 11 f fd Ms m7:=by
 obtain⟨_,_,F0,g0⟩:=u0
 have Cq34:=callee F0 (vm F0 N0 B) g0 (F0.binds λ _ _ _ _ _ _=>by1 λ _=>rfl)
 obtain⟨_,_,F0,g0⟩:=u1
 have Cq33:=callee F0 (pU F0 N0 B) g0 (F0.binds λ _ _ _ _ _ _=>by3 λ _ _ _=>rfl)
 obtain⟨_,_,F0,g0⟩:=u2
 have Cq35:=callee F0 (rY F0 N0 B Cq34 Cq33) g0 (F0.binds λ _ _ _ _ _ _=>by1 λ _=>rfl)
 obtain⟨_,_,F0,g0⟩:=u3
 have Cq23:=callee F0 (wk F0 N0 B Cq34 Cq33) g0 (F0.binds λ _ _ _ _ _ _=>by2 λ _ _=>rfl)
 obtain⟨_,_,F0,g0⟩:=u4
 have Cq21:=callee F0 (uW F0 N0 B Cq23) g0 (F0.binds λ _ _ _ _ _ _=>by2 λ _ _=>rfl)
 obtain⟨_,_,F0,g0⟩:=u5
 have Cq24:=callee F0 (zp F0 N0 Cq33 Cq21) g0 (F0.binds λ _ _ _ _ _ _=>by2 λ _ _=>rfl)
 obtain⟨_,_,F0,g0⟩:=u6
 have Cq25:=callee F0 (vC F0 N0 B Cq33 Cq24) g0 (F0.binds λ _ _ _ _ _ _=>by1 λ _=>rfl)
 obtain⟨_,_,F0,g0⟩:=u7
 have Cq20:=callee F0 (jR F0 N0 B) g0 (F0.binds λ _ _ _ _ _ _=>by1 λ _=>rfl)
 obtain⟨_,_,F0,g0⟩:=u8
 have Cq31:=callee F0 (uT F0 N0 B Cq23 Cq20) g0 (F0.binds λ _ _ _ _ _ _=>by2 λ _ _=>rfl)
 obtain⟨_,_,F0,g0⟩:=u9
 have Cq28:=callee F0 (lu F0 N0 B Cq23) g0 (F0.binds λ _ _ _ _ _ _=>by2 λ _ _=>rfl)
 obtain⟨_,_,F0,g0⟩:=u10
 have Cq32:=callee F0 (gW F0 N0 B Cq34 Cq33 Cq28) g0 (F0.binds λ _ _ _ _ _ _=>by4 λ _ _ _ _=>rfl)
 obtain⟨_,_,F0,g0⟩:=u11
 have Cq29:=callee F0 (wK F0 N0 Cq34 Cq33 Cq20 Cq32) g0 (F0.binds λ _ _ _ _ _ _=>by3 λ _ _ _=>rfl)
 obtain⟨_,_,F0,g0⟩:=u12
 have Cq30:=callee F0 (vq F0 N0 B Cq33 Cq29) g0 (F0.binds λ _ _ _ _ _ _=>by3 λ _ _ _=>rfl)
 obtain⟨_,_,F0,g0⟩:=u13
 have Cq22:=callee F0 (v4 F0 N0 Cq33 Cq31 Cq32 Cq30) g0 (F0.binds λ _ _ _ _ _ _=>by3 λ _ _ _=>rfl)
 obtain⟨_,_,F0,g0⟩:=u14
 have Cq26:=callee F0 (za F0 N0 B Cq33 Cq25 Cq22) g0 (F0.binds λ _ _ _ _ _ _=>by2 λ _ _=>rfl)
 obtain⟨_,_,F0,g0⟩:=u15
 have Cq27:=callee F0 (uQ F0 N0 B Cq33 Cq26) g0 (F0.binds λ _ _ _ _ _ _=>by2 λ _ _=>rfl)
 obtain⟨_,_,F0,g0⟩:=u16
 have Cq17:=callee F0 (vo F0 N0 B) g0 (F0.binds λ _ _ _ _ _ _=>by2 λ _ _=>rfl)
 obtain⟨_,_,F0,g0⟩:=u17
 have Cq44:=callee F0 (jZ F0 N0 B Cq17) g0 (F0.binds λ _ _ _ _ _ _=>by3 λ _ _ _=>rfl)
 obtain⟨_,_,F0,g0⟩:=u18
 have Cq18:=callee F0 (sW F0 N0 Cq44) g0 (F0.binds λ _ _ _ _ _ _=>by1 λ _=>rfl)
 obtain⟨_,_,F0,g0⟩:=u19
 have Cq36:=callee F0 (jD F0 N0 B Cq18) g0 (F0.binds λ _ _ _ _ _ _=>by1 λ _=>rfl)
 obtain⟨_,_,F0,g0⟩:=u20
 have Cq38:=callee F0 (qI F0 N0 B Cq35 Cq27 Cq36) g0 (F0.binds λ _ _ _ _ _ _=>by2 λ _ _=>rfl)
 obtain⟨_,_,F0,g0⟩:=u21
 have Cq42:=callee F0 (uY F0 N0 B Cq18) g0 (F0.binds λ _ _ _ _ _ _=>by1 λ _=>rfl)
 obtain⟨_,_,F0,g0⟩:=u22
 have Cq40:=callee F0 (nR F0 N0 B) g0 (F0.binds λ _ _ _ _ _ _=>by2 λ _ _=>rfl)
 obtain⟨_,_,F0,g0⟩:=u23
 have Cq39:=callee F0 (Iv F0 N0 Cq42 Cq40) g0 (F0.binds λ _ _ _ _ _ _=>by3 λ _ _ _=>rfl)
 obtain⟨_,_,F0,g0⟩:=u24
 have Cq19:=callee F0 (xR F0 N0) g0 (F0.binds λ _ _ _ _ _ _=>by2 λ _ _=>rfl)
 obtain⟨_,_,F0,g0⟩:=u25
 have Cq14:=callee F0 (xq F0 N0 B Cq17) g0 (F0.binds λ _ _ _ _ _ _=>by3 λ _ _ _=>rfl)
 obtain⟨_,_,F0,g0⟩:=u26
 have Cq16:=callee F0 (mH F0 N0 Cq19 Cq14) g0 (F0.binds λ _ _ _ _ _ _=>by2 λ _ _=>rfl)
 obtain⟨_,_,F0,g0⟩:=u27
 have Cq15:=callee F0 (uO F0 N0 Cq42 Cq16) g0 (F0.binds λ _ _ _ _ _ _=>by1 λ _=>rfl)
 obtain⟨_,_,F0,g0⟩:=u28
 have Cq43:=callee F0 (mL F0 N0 B) g0 (F0.binds λ _ _ _ _ _ _=>by2 λ _ _=>rfl)
 obtain⟨_,_,F0,g0⟩:=u29
 have Cq37:=callee F0 (Fi F0 N0 B Cq15 Cq43) g0 (F0.binds λ _ _ _ _ _ _=>by1 λ _=>rfl)
 obtain⟨_,_,F0,g0⟩:=u30
 have Cq41:=callee F0 (Dv F0 N0 B Cq42 Cq37 Cq40) g0 (F0.binds λ _ _ _ _ _ _=>by1 λ _=>rfl)
 obtain⟨_,_,F0,g0⟩:=u31
 have Cq1:=callee F0 (HQ F0 N0 B) g0 (F0.binds λ _ _ _ _ _ _=>by2 λ _ _=>rfl)
 obtain⟨_,_,F0,g0⟩:=u32
 have Cq6:=callee F0 (Kc F0 N0 Cq1) g0 (F0.binds λ _ _ _ _ _ _=>by2 λ _ _=>rfl)
 obtain⟨_,_,F0,g0⟩:=u33
 have Cq12:=callee F0 (Hx F0 N0 Cq1) g0 (F0.binds λ _ _ _ _ _ _=>by2 λ _ _=>rfl)
 obtain⟨_,_,F0,g0⟩:=u34
 have Cq5:=callee F0 (Dy F0 N0 B Cq12) g0 (F0.binds λ _ _ _ _ _ _=>by2 λ _ _=>rfl)
 obtain⟨_,_,F0,g0⟩:=u35
 have Cq4:=callee F0 (G6 F0 N0 B Cq12) g0 (F0.binds λ _ _ _ _ _ _=>by3 λ _ _ _=>rfl)
 obtain⟨_,_,F0,g0⟩:=u36
 have Cq3:=callee F0 (Jf F0 N0 B Cq12 Cq4) g0 (F0.binds λ _ _ _ _ _ _=>by3 λ _ _ _=>rfl)
 obtain⟨_,_,F0,g0⟩:=u37
 have Cq7:=callee F0 (yL F0 N0 B Cq12 Cq5 Cq3) g0 (F0.binds λ _ _ _ _ _ _=>by2 λ _ _=>rfl)
 obtain⟨_,_,F0,g0⟩:=u38
 have Cq0:=callee F0 (PT F0 N0 B) g0 (F0.binds λ _ _ _ _ _ _=>by2 λ _ _=>rfl)
 obtain⟨_,_,F0,g0⟩:=u39
 have Cq2:=callee F0 (zY F0 N0 B Cq0) g0 (F0.binds λ _ _ _ _ _ _=>by1 λ _=>rfl)
 obtain⟨_,_,F0,g0⟩:=u40
 have Cq9:=callee F0 (G9 F0 N0 B Cq0) g0 (F0.binds λ _ _ _ _ _ _=>by3 λ _ _ _=>rfl)
 obtain⟨_,_,F0,g0⟩:=u41
 have Cq10:=callee F0 (Fl F0 N0 Cq0 Cq2 Cq9) g0 (F0.binds λ _ _ _ _ _ _=>by1 λ _=>rfl)
 obtain⟨_,_,F0,g0⟩:=u42
 have Cq13:=callee F0 (DN F0 N0) g0 (F0.binds λ _ _ _ _ _ _=>by2 λ _ _=>rfl)
 obtain⟨_,_,F0,g0⟩:=u43
 have Cq11:=callee F0 (Et F0 N0 B Cq2) g0 (F0.binds λ _ _ _ _ _ _=>by1 λ _=>rfl)
 obtain⟨_,_,F0,g0⟩:=u44
 have Cq8:=callee F0 (Jm F0 N0 B) g0 (F0.binds λ _ _ _ _ _ _=>by2 λ _ _=>rfl)
 exact QH F N0 B Cq38 Cq39 Cq41 Cq6 Cq12 Cq7 Cq10 Cq13 Cq11 Cq8
theorem all_mk{l:PySem.W.OpenLaw}{w:World}{K:PySem.W.Frag}{h:Heap}{mg:Str->Option Value}{fa:Addr}(X:K.In h)(G:h.Ns mainGlobals mg)(hfa:mg "law"=some (.ref fa))(q:FI K "law" jE)
(q0:FI K "is_whole" gZ)
(q1:FI K "is_tuple_of" d7)
(q2:FI K "is_widths" fQ)
(q3:FI K "is_form" iT)
(q4:FI K "is_bound" gJ)
(q5:FI K "is_loop" iY)
(q6:FI K "is_loops" gO)
(q7:FI K "has_few_figures" cQ)
(q8:FI K "is_start" gn)
(q9:FI K "is_place_form" dw)
(q10:FI K "is_table_with_place" cu)
(q11:FI K "is_read" iZ)
(q12:FI K "is_reads" gK)
(q13:FI K "is_deed" jb)
(q14:FI K "is_nest" iR)
(q15:FI K "is_nests" gk)
(q16:FI K "comes_to" g8)
(q17:FI K "with_next_count" cT)
(q18:FI K "counts_of" fO)
(q19:FI K "number_of_steps" cR)
(q20:FI K "program_of" fu)
(q21:FI K "steps_of" gq)
(q22:FI K "span_between" dJ)
(q23:FI K "span" pI)
(q24:FI K "deed_of" iM)
(q25:FI K "cell_at" jc)
(q26:FI K "cells_of_step" dq)
(q27:FI K "cells_of" gB)
(q28:FI K "touched_cells" dm)
(q29:FI K "pairs" lW)
(q30:FI K "spans" lE)
(q31:FI K "_law_cell" pK)
(q32:FI K "_law_pen" tO)
(q33:FI K "_law_take" oW)
(q34:FI K "_law_loops" lA)
(q35:FI K "_law_form" oX)
(q36:FI K "_law_deed" pP)
(q37:FI K "_law_program" iQ)
(q38:FI K "_law_at" yO)
(q39:FI K "_law_counts" jX)
(q40:FI K "_law_spot" oU)
(q41:FI K "_law_steps" lX)
(q42:FI K "_law_touch" lO)
(q43:FI K "_law_stood" mO)
(q44:FI K "_law_span" pA)
 {t_MOST_STEPS:Tok}(z_MOST_STEPS:PySem.W.nsIn K mainGlobals "MOST_STEPS"=some (some (.int 60 t_MOST_STEPS)))
 (z_abs:PySem.W.nsIn K mainGlobals "abs"=some none)
 (z_all:PySem.W.nsIn K mainGlobals "all"=some none)
 (z_bool:PySem.W.nsIn K mainGlobals "bool"=some none)
 (z_enumerate:PySem.W.nsIn K mainGlobals "enumerate"=some none)
 (z_int:PySem.W.nsIn K mainGlobals "int"=some none)
 (z_isinstance:PySem.W.nsIn K mainGlobals "isinstance"=some none)
 (z_len:PySem.W.nsIn K mainGlobals "len"=some none)
 (z_list:PySem.W.nsIn K mainGlobals "list"=some none)
 (z_max:PySem.W.nsIn K mainGlobals "max"=some none)
 (z_min:PySem.W.nsIn K mainGlobals "min"=some none)
 (z_range:PySem.W.nsIn K mainGlobals "range"=some none)
 (z_set:PySem.W.nsIn K mainGlobals "set"=some none)
 (z_sorted:PySem.W.nsIn K mainGlobals "sorted"=some none)
 (z_sum:PySem.W.nsIn K mainGlobals "sum"=some none)
 (z_tuple:PySem.W.nsIn K mainGlobals "tuple"=some none)
 (z_zip:PySem.W.nsIn K mainGlobals "zip"=some none)
 :∃fd:FuncData,(∀(s:Shared)(v:Value),BindsTo s fd ⟨[v],[]⟩ [("_law_script",v)])/\∀base:Heap,K.In base->base.Ns mainGlobals mg->FnOk l.prog w K mg base CX0 11 fa fd ["_law_script"] (spC K 1 m7):=by
 obtain⟨f,oc,od,kV,dc,pm,an,cd,ct,sl,a,l',c,k⟩:=q
 have e:=hfa.symm.trans (PySem.W.mg_of X G a)
 cases e
 refine⟨PySem.W.fnOf "law" "law" (eY jE) (cF jE) (aO jE) .none kV dc pm an cd ct,λ s v=>.of_eq rfl,λ base _ _=>?_⟩
 have B:Bi mg:=⟨⟨_,PySem.W.mg_of X G z_MOST_STEPS⟩,PySem.W.mg_none_of X G z_abs,PySem.W.mg_none_of X G z_all,PySem.W.mg_none_of X G z_bool,PySem.W.mg_none_of X G z_enumerate,PySem.W.mg_none_of X G z_int,PySem.W.mg_none_of X G z_isinstance,PySem.W.mg_none_of X G z_len,PySem.W.mg_none_of X G z_list,PySem.W.mg_none_of X G z_max,PySem.W.mg_none_of X G z_min,PySem.W.mg_none_of X G z_range,PySem.W.mg_none_of X G z_set,PySem.W.mg_none_of X G z_sorted,PySem.W.mg_none_of X G z_sum,PySem.W.mg_none_of X G z_tuple,PySem.W.mg_none_of X G z_zip⟩
 exact Qt (Ω:=⟨_,w,K,mg,base,none⟩) B (q0.use X G) (q1.use X G) (q2.use X G) (q3.use X G) (q4.use X G) (q5.use X G) (q6.use X G) (q7.use X G) (q8.use X G) (q9.use X G) (q10.use X G) (q11.use X G) (q12.use X G) (q13.use X G) (q14.use X G) (q15.use X G) (q16.use X G) (q17.use X G) (q18.use X G) (q19.use X G) (q20.use X G) (q21.use X G) (q22.use X G) (q23.use X G) (q24.use X G) (q25.use X G) (q26.use X G) (q27.use X G) (q28.use X G) (q29.use X G) (q30.use X G) (q31.use X G) (q32.use X G) (q33.use X G) (q34.use X G) (q35.use X G) (q36.use X G) (q37.use X G) (q38.use X G) (q39.use X G) (q40.use X G) (q41.use X G) (q42.use X G) (q43.use X G) (q44.use X G) (Hv (st:=jE) l' c k) rfl
end K17
local macro_rules|`(universe $[$x]*)=>do return Lean.mkNullNode (←x.mapM fun i=>do
 let n:=Lean.mkIdent (.mkSimple s!"tw{i.getId.toString.toList.tail.foldl (fun a c=>a*62+c.toNat-if c.isDigit then 48 else if c.isUpper then 55 else 61) 0}")
 `(def $n:ident:=()))
namespace PySem.W.Fast
universe uANB9ybNioEt u8sf0vFY003U u2yY3UJyOBQJ u4Xfx0uU1IsB uHaeO4JpqYdo uDDwhviVX3u2 u3Etr3Arz8o uP1hxqJNol4 uD1hVxNJvlWR uJD96EGmeyAB uA2Z7d0KM2ea uKebKIQloyZF uzDylgX8Bvr u5zCkWRQNwHi u2HF3ydFCzH5 u2NKC5NjoVhA uDYAY0ZoMw68 u5Hfbt2mRc9i uKBqYDsyZi20 u7lx7KtuStMV u2ka44nOzgAf u7M3B0129CLu uFMTdX3AjTSG u27CTcntEtAq u51wNbhTAPtJ u3XRUqmhtr3a u5oHR4tdeFMj u8m2xyesQ04D u8XgrNaQKGyH u2qTUXylXNGe u1r1KWGIscr3 uISV9pIoxTtu uFgwMk0m8Ih4 u7PViKT2LmA4 uZdnRdh08wi u2XsUfZxFbbk u9wDuhbdRCy3 uJuYT0iyRoDA u20DNdWCRexe uKK3X0hWlP6F u6xaPfVipMQY uGITj9WwM5M1 uDcYSjuWytOe u4PkWZKp0m1G u8RRTLRHQtYF uDcxVUJLsYl1 u65v4Y1PIJrd u5kzK1K7xn95 uLqm4PcjBcG7 u6hDdM9GhMPN uASy7jvT7zuI uKu1qdl7rPtf uKxO228JGCoJ uBDjPDFLukl3 u5PRabSZEaVe u4YpnwPkuHsb uEgXMwFzh6DJ uE8AL7v5ssaP uJTdAgAPfhw1 uZATQQYTvNd uHaW4B5ADovH uH0SZPZvqxbT uFo40UCK8fSN u7Y6j0Ftld99 uKZwEwJYfnQj uIV4wWYQhL6m u5kVhzmjmH6v uH8FZGx9ZD1t uDzai7MzyPYa u9qOWfPzVVYF uJCYHJE4H8kk u4p1BQJSjrb3 uKjVNc1XAhHG uAuqSZ1kTaT5 uHJ58jmxJ5Cc uEjlJ4ubL6uH uAEXOAnflyMp uDcd6uDHsLMK uCiHSxt8v6tG u8uMrMQ4IAEg uKlyHCAIp6Hs uGsLktwhQNUU u1LIAynp5Iwt uBnQnonkx2vr uCIbxiZ8BUZv u8uc17YGNQAu uGMRExh8zRcc u75FWgLppHmC uIb59p8UcA0a u5RLl104C5St u8rpZXhoHVQq uBryQyD484rD uLNlSZo8JhHx uIZsKbOQUDtp u3CKITA00K84 uDefF92cXTQJ uKAjCPrQBX2o u4AkS5pebTga u7YJMrmAYQEJ u7Vk9PNEguvl uCaJkVlhoQh5 uceUAo20l3o uFNR93LyDWht u96xsE0Wtxfz uFxQpkCMbQxL uJ12f3OnYysb uKMP6PhOFlMs uJZWp6Qd48Hg u3Yy9kCMbbdl u3KGrjgItHbv uCXVa4tJGpjm uF7xUw4ZymCt uEsZuTZv92Bz uIv0Xh5SaKBx u6wC9rh8SrCj uGJnAaGItlkx u9HbE1FMZEO0 uIY6IZIpfyOB uARIP2Qkl5ZC u46F7EmH51Dc u1E4hdWIMjDd uBHVoM0lhHA4 uLuKa1yysxv1 u5GiCAGbVrNy u23XAu59l8gk u3G7cdxgBdY2 uIi1imzYXDeu uF047LRxXfy0 u5ys7DwHrppg uChV7dEx8e97 uLcAqVNHUyUL uAQLhLGjZjSE uGshQfA46sb7 u69cw1KVPX4V u7S8B1NXo3bV uLJpoX5w4Q75 uKlB3p7qR8y3 uBwhEBM2t0Ut u4ZLYY7FjYgu u7RPsEauPMyy u7X6zNtpNH60 uBGdPmhsTbS8 uJL8TdpDPp3a u7mbZpyTpDCE u6XRShn3RTls uGOAx3Aj49NN uHpoLKiRdg6g u2p2SkKjm3JK u82X9yYWSlHu uAbvvPFJNMD3 u3zM6ELCNIcF u2BGTJoGGbxh uF2wZcqqIq8a uA4HyGOffsMG u1vZNx81Ipsy uEvEwAvliFl8 uLYuCFhv1Ja1 uFOTiz4ybD07 uEjVIcMSGJjW u87Bl5LhXaf0 u3DOEmDKnLbM uLmsZOpzLjrr u21nTo0g8NTk uSGongycyiT u6XkZpNbLhNv u2ccBNDpLNFC uEREfBDezR7Z uDtyg0DsCOcI u3lov6Sq7IyO uLBR5yRwTYrR u6N52hIvqeB9 uIhA05yUyRk6 uEttXM2vhUGk u9LIif9UkMMH uG5XtsCdUJsH u9Vc6SOgbA4d uAELZBELG48s u8oIssLjaUKH uCTn7FJ41e3D u1cgqFamGVNQ u6kHHk2g8UVi uEnFr00qnpGI uKlDWRlNMzoc uJ3iMzNDurt3 uGLZ33qwZL17 u4nwyG1FpDvv uIlt2IwiOsp7 uJZpftWJbcuy uAiPbFreNtDZ uAs4JZdwjKSc uARhHMYe4itm u2zAbTEp7mP4 uB2ITggRlAg4 uFPDFniHCyVA u8RWUWZJ9Jde uGCxKkL0P8c1 uI4ZJOaCIfAs u4BbJtxoWgx4 uJXLGNIUgYJy uK3MVsdGShGx uEDXZUXpyzLk uKk5irRVun2C u6TII6OqKfcU uEggpczWxke1 u9d3RrPbJZUG uFUuAII9V9Dp u1mmFj6U8QZw uCfa9lcxFoET u94lheiI6iD8 uCCpZidi3TBp uFU5rstsCY9X u2UEcFZswJyP uEz1Ng4zKRZn u4tX9qvEzkZu u9GsjqVCz74w uJJfBNKchJQH u5Ys5DO4Mu0N u1ORDFyQjvbd u6swLYA5JMWj u1h93L4mAe5e uAD5g6qE2llu u2JKpnzSrnTz uCKZuzEz23pp uKpQQWIK8xhe u2M7tbcOsAJ5 u9v96eLri3Bf u7r0ZyPRROAw u2gL95LIziIA u9qEz0ztmpjO u3cb3LjKX7ik u8uywDEBwAEm uADLyN25qSV3 uHk0BGZKUuwo u5C7cOFDNqKN u7eKcShGyiGy uHewEqrKR7xl uB6bClOEjaQS uJf27b8kwXYC u8w49mHfgUgS uGgjcVsW3dJ1 uEwycLvdf7EA uDkxXhChDlCk uGwESwJeOED u1LAqVld9tVu uDqRg2sEnRxi uGnIQpQ5CNex uHY4Rho9NNqj uFcOhntltv1k uB34h3YGFXJE uHvA5sDnozsU uIV4rRiuredn u4GYzVgaCQiD u6sX9YA9pqZW uD4Np9QHN3EA u6bfiCSh77V8 uLDeV7pArJqH u1zQdUFieOft uJmAcgg6j9eY u10rbr69DmOr uGVPv1IyFI78 u9ucUOL4wpzM uFhICYMgngzN u61j89MoJ57H u1H51dBTStTd u3SEwjf4SwZy u3746jzefuwe u40HQtKzpWz0 u6g9qAvtdF2v u8KrDW4TPtDs u8QUH0TKrRu2 uGsq5pZQW19J u71R8o88fYwL uLsMUfcLTY96 uFjYfaU1EIWz uIADU1uxCefP uAeeGbu5LDW1 uCnAniDhhzsA u9UP3S2oMC5z u2eaBz7RdTGv uArivVNZsTUr u7UgIMTKmJw8 uLe3RfnbCdfT uL4o4aAYMJqM uo60wTpu5L5 uDvSju4icp9S u43mHwVLU0K1 uExH0eQmVh0M uJ0zdwPmHEfC u3mem4O82IQ2 uEpK7sNnQdaA uYfLdWkfXc u5Kch0iRdU84
end PySem.W.Fast
open PySem PySem.W PyProof.Rows
set_option maxRecDepth 100000 in
set_option maxHeartbeats 0 in
theorem PySem.Challenge.cw_nestturn_k17_spans_of_steps_holds : PySem.Challenge.rw_nestturn_k17_spans_of_steps.Holds := by
 w_on; o_law; k_head; (case hw => w_witness2)
 k_fill
 refine RF.walk (l := PySem.Challenge.rw_nestturn_k17_spans_of_steps) (lev := 11) (x := "_law_script") rfl rfl ⟨rfl, by decide, by decide⟩ (λ w h Y => by first | exact PySem.W.kIn_of Y | exact PySem.W.km_in_of Y) ?F
 case F =>
  intro w mg fa h KX G hmg
  refine' K17.all_mk KX G hmg ?_ ?_ ?_ ?_ ?_ ?_ ?_ ?_ ?_ ?_ ?_ ?_ ?_ ?_ ?_ ?_ ?_ ?_ ?_ ?_ ?_ ?_ ?_ ?_ ?_ ?_ ?_ ?_ ?_ ?_ ?_ ?_ ?_ ?_ ?_ ?_ ?_ ?_ ?_ ?_ ?_ ?_ ?_ ?_ ?_ ?_ ?_ ?_ ?_ ?_ ?_ ?_ ?_ ?_ ?_ ?_ ?_ ?_ ?_ ?_ ?_ ?_ ?_
  all_goals try first | (refine' K17.FI.mk ?a ?l ?c ?k; (case a => k_is); (case l => k_is); (case c => k_is); (case k => k_is)) | (show _ = _; k_is)
