import PyProof.Rows.All
import Wide.All
import OpenK.AllK
import Wide.FinOn
import Lean
import PyProof.EqAt
import PyProof.EqKinds
import PyProof.TupleCall
import KE.KEqDict
import PyProof.ZipIter
import PyProof.ListMulAny
import KE.KTryMore
import PyProof.NsDelKeeps
import KE.KUnpack
import KE.KRevIter
import PyProof.DictUpdate
import PyProof.ListRange
import PyProof.Rows.CallKwBuiltin
import PyProof.WalkInts
import KE.KSortTup
import KE.KLam
import KE.KNestM
import PyProof.CollectIter
import PyProof.StrCalls
import PyProof.StrCalls2
import PyProof.StrOps
import PyProof.Rows.StrSplitJoin
import KE.KIntText
import PyProof.StrWalks
import PyProof.FString
import PyProof.StrBlockI
import PyProof.FactsAll.tuple_2
import PyProof.FactsAll.tuple_3
import PyProof.StrLawsChain
import PyProof.StrLawsTight
import PyProof.StrLawsIn
import KE.IntTextLaws
import PyProof.Rows.ReprOcc
import KE.KTryOn
import PySem.Challenge.RW_nestturn_k53_texts_refused
set_option bootstrap.genMatcherCode false
set_option compiler.extract_closed false
set_option genSizeOfSpec false
set_option genSizeOf false
theorem fE{α:Prop}(h:false=true):α:=(Bool.false_ne_true h).elim
noncomputable section
set_option Elab.async false
set_option linter.all false
def z0:=@List.getElem?_eq_some_iff
def y0:=@List.getElem?_eq_getElem
def y8:=@List.mem_of_getElem?
def y9:=@Bool.false_ne_true
def x5:=@List.length_map
def x6:=@List.getElem?_map
def x8:=@Nat.le_refl
def x9:=@List.mem_cons_of_mem
def w9:=@List.size_toArray
def v3:=@List.mem_cons_self
set_option bootstrap.genMatcherCode false
set_option maxRecDepth 100000
local macro_rules | `(tactic| omega) => `(tactic| first | with_reducible assumption | with_reducible exact Int.natCast_nonneg _ | with_reducible exact Nat.le_trans (by assumption) (by decide) | with_reducible exact Int.le_trans (by decide) (Int.natCast_nonneg _) | with_reducible exact Int.lt_of_le_of_lt (Int.ofNat_le.mpr (by assumption)) (by decide) | lia)
local macro_rules|`(def $i:declId $s:optDeclSig $v:declVal)=>`(noncomputable def $i:declId $s:optDeclSig $v:declVal)
local macro_rules|`(abbrev $i:declId $s:optDeclSig $v:declVal)=>`(noncomputable abbrev $i:declId $s:optDeclSig $v:declVal)
namespace L2
open PySem PySem.Spec PyProof.Rows
abbrev Key:=Sum Int Str
def Ma:Key->Value->Bool
 | .inl k,v=>Value.isInt k v
 | .inr x,v=>Value.isStrOf x v
def Wl(w:World):Key->Int
 | .inl k=>hashInt k
 | .inr x=>hashStr w x
theorem bf:∀{k:Key}{v:Value},Ma k v=true->(∃i t,k=Sum.inl i/\v=Value.int i t)∨(∃x t,k=Sum.inr x/\v=Value.str x t)
 | .inl i,v,h=>by
   obtain⟨t,e⟩:=Value.isInt_shape (k:=i) (v:=v) h
   exact .inl ⟨i,t,rfl,e⟩
 | .inr x,v,h=>by
   obtain⟨t,e⟩:=Value.isStrOf_shape (x:=x) (v:=v) h
   exact .inr ⟨x,t,rfl,e⟩
theorem Q7(a b:Int):decide ((Sum.inl a:Key)=Sum.inl b)=(a==b):=by
 by_cases e:a=b
 . subst e;simp
 . have h:¬(Sum.inl a:Key)=Sum.inl b:=λ q=>e (Sum.inl.inj q)
   rw[decide_eq_false h]
   exact(beq_eq_false_iff_ne.mpr e).symm
theorem RW(a b:Str):decide ((Sum.inr a:Key)=Sum.inr b)=decide (a=b):=by
 by_cases e:a=b
 . subst e;simp
 . have h:¬(Sum.inr a:Key)=Sum.inr b:=λ q=>e (Sum.inr.inj q)
   rw[decide_eq_false h,decide_eq_false e]
theorem RB(a:Int)(b:Str):decide ((Sum.inl a:Key)=Sum.inr b)=false:=decide_eq_false (λ q=>nomatch q)
theorem Qc(a:Str)(b:Int):decide ((Sum.inr a:Key)=Sum.inl b)=false:=decide_eq_false (λ q=>nomatch q)
def dH(prog:Program)(w:World):PySem.KeyKind prog w Key where
 is:=Ma
 hash:=Wl w
 inj:=λ v a b ha hb=>by
  rcases bf ha with⟨i,t,rfl,rfl⟩ | ⟨x,t,rfl,rfl⟩
  . rcases bf hb with⟨j,u,rfl,e⟩ | ⟨y,u,rfl,e⟩
    . injection e with e1 _;rw[e1]
    . exact nomatch e
  . rcases bf hb with⟨j,u,rfl,e⟩ | ⟨y,u,rfl,e⟩
    . exact nomatch e
    . injection e with e1 _;rw[e1]
 byValue:=λ k v h=>by
  rcases bf h with⟨i,t,rfl,rfl⟩ | ⟨x,t,rfl,rfl⟩<;>rfl
 pyHash:=λ hv h=>by
  rcases bf hv with⟨i,t,rfl,rfl⟩ | ⟨x,t,rfl,rfl⟩
  . exact wpAny_pyHash_int h
  . exact wpAny_pyHash_str h
 eqBool:=λ hu hv h=>by
  rcases bf hu with⟨i,t,rfl,rfl⟩ | ⟨x,t,rfl,rfl⟩
  . rcases bf hv with⟨j,u,rfl,rfl⟩ | ⟨y,u,rfl,rfl⟩
    . rw[Q7]at h;exact wpAny_eqBool_int h
    . rw[RB]at h;exact SeqAt.EqAt.int_str i t y u _ _ _ _ h
  . rcases bf hv with⟨j,u,rfl,rfl⟩ | ⟨y,u,rfl,rfl⟩
    . rw[Qc]at h;exact SeqAt.EqAt.str_int x t j u _ _ _ _ h
    . rw[RW]at h;exact wpAny_eqBool_str h
 «strs»:=λ k x t v h=>by
  rcases bf h with⟨i,u,rfl,e⟩ | ⟨y,u,rfl,e⟩
  . exact nomatch e
  . injection e with e1 _
    subst e1
    cases v<;>rfl
variable {b : Addr}
inductive V where
 | non | bl(b:Bool) | int(i:Int) | str(x:Str) | byt(b:Array UInt8) | flt(b:UInt64) | ref(a:Addr) | ty(n:String)
 deriving DecidableEq
def RelV:V->Value->Prop
 | .non,u=>u=Value.none
 | .bl b,u=>u=Value.bool b
 | .int i,u=>∃t,u=Value.int i t
 | .str x,u=>∃t,u=Value.str x t
 | .byt b,u=>∃t,u=Value.bytes b t
 | .flt b,u=>∃t,u=Value.float b t
 | .ref a,u=>u=Value.ref a
 | .ty n,u=>u=Value.type n
abbrev Vals:List V->List Value->Prop:=Paired RelV
theorem Vals.length{xs:List V}{us:List Value}(r:Vals xs us):xs.length=us.length:=Paired.length r
theorem Vals.get:∀{xs:List V}{us:List Value}{i:Nat}{x:V},Vals xs us->xs[i]? =some x->∃u,us[i]? =some u/\RelV x u
 | _,_,_,_,.nil,e=>by simp at e
 | _,_,0,_,.cons r _,e=>by simp at e;subst e;exact⟨_,rfl,r⟩
 | _,_,i+1,x,.cons _ t,e=>by
   obtain⟨u,h1,h2⟩:=Vals.get (i:=i) (x:=x) t (by simpa using e)
   exact⟨u,by simpa using h1,h2⟩
theorem Vals.set{x:V}{u:Value}(r:RelV x u):∀{xs:List V}{us:List Value}(i:Nat),Vals xs us->Vals (xs.set i x) (us.set i u)
 | _,_,_,.nil=>.nil
 | _,_,0,.cons _ t=>.cons r t
 | _,_,i+1,.cons q t=>.cons q (Vals.set r i t)
theorem Vals.append:∀{xs ys:List V}{us ws:List Value},Vals xs us->Vals ys ws->Vals (xs++ys) (us++ws)
 | _,_,_,_,.nil,s=>s
 | _,_,_,_,.cons r t,s=>.cons r (Vals.append t s)
theorem Vals.take:∀{xs:List V}{us:List Value}(n:Nat),Vals xs us->Vals (xs.take n) (us.take n)
 | _,_,0,_=>.nil
 | _,_,_+1,.nil=>.nil
 | _,_,n+1,.cons r t=>.cons r (Vals.take n t)
theorem Vals.drop:∀{xs:List V}{us:List Value}(n:Nat),Vals xs us->Vals (xs.drop n) (us.drop n)
 | _,_,0,r=>r
 | _,_,_+1,.nil=>.nil
 | _,_,n+1,.cons _ t=>Vals.drop n t
def Ru:Option V->Option Value->Prop
 | some v,some u=>RelV v u
 | none,none=>True
 | _,_=>False
def KV{κ:Type}:List (κ×V)->List (κ×Value)->Prop:=Paired λ(p:κ×V) (q:κ×Value)=>p.1=q.1/\RelV p.2 q.2
def kV:Key->V
 | .inl i=>.int i
 | .inr x=>.str x
inductive HO where
 /-- a list -/
 | lst(xs:List V)
 /-- a tuple (never changes) -/
 | tup(xs:List V)
 /-- a dict whose keys are ints and texts; one whose keys are tuples of ints and texts (the empty one is both) -/
 | dK(kvs:List (Key×V)) | dT(kvs:List (List Key×V))
 /-- a set of ints: its members, its size -/
 | set(S:Int->Bool)(n:Nat)
 /-- an instance of the class at C, its dict at dx, its attributes -/
 | ins(C dx:Addr)(fs:List (Str×V))
 /-- the dict of the instance at x -/
 | own(x:Addr)
 /-- the dict of an exception -/
 | xd(fs:List (Str×V))
 /-- a bound method, f of x -/
 | met(f x:Addr)
 /-- a range object lo, lo + 1, .. below hi -/
 | rng(lo hi:Int)
 /-- a thing that is known to the object (the script; a dict while a loop walks it): read, never written while it is so -/
 | frz(o:Obj)(u:HO)
 /-- a code object's table -/
 | tbl(ps:Array Value)
 /-- any other thing, by what is true of its one object (a def of one's own: SetO a S n := HO.ext λ h => ..) -/
 | ext(φ:Heap->Prop)
abbrev Hp:=Addr->Option HO
def upd(H:Hp)(a:Addr)(o:HO):Hp:=λ b=>if b=a then some o else H b
theorem aC{H:Hp}{a:Addr}{o:HO}:upd H a o a=some o:=by unfold upd;rw[if_pos rfl]
theorem aj{H:Hp}{a:Addr}{o:HO}(h:b≠a):upd H a o b=H b:=by unfold upd;rw[if_neg h]
theorem aB{H:Hp}{a:Addr}{o:HO}(h:H a=some o)(h':H b=none):a≠b:=by
 intro e;subst e;rw[h]at h';cases h'
section
variable (P : Program) (w : World)
def aO(H:Hp)(h:Heap)(a:Addr):HO->Prop
 | .lst xs=>xs.length≤sizeLine/\∃(its:List Value) (n:Nat),Vals xs its/\h.get? a=some {cls:=.type "list",data:=.seq its.toArray n}
 | .tup xs=>xs.length≤sizeLine/\∃its:List Value,Vals xs its/\IsTup h a its.toArray
 | .dK kvs=>kvs.length≤sizeLine/\(a==sysModules)=false/\∃vs,KV kvs vs/\h.DictOf (dH P w) a vs
 | .dT kvs=>kvs.length≤sizeLine/\(a==sysModules)=false/\∃xs:List (List Key×Addr×Value),
  Paired (λ(p:List Key×V) (q:List Key×Addr×Value)=>p.1=q.1/\H q.2.1=some (.tup (p.1.map kV))/\RelV p.2 q.2.2) kvs xs/\
  ∃o es ep,h.get? a=some o/\o.ExactDict/\o.data=.dict es ep/\es.toList=xs.map (entryOfKey (tupleKind (dH P w)))/\(xs.map (·.1)).Nodup
 | .set S n=>h.SetOf (intKind P w) a S n
 | .ins C dx fs=>H dx=some (.own a)/\fs.length≤1000/\dx≠a/\h.get? a=some (PySem.W.instObj C dx)/\
  ∃mA,h.Ns1 dx mA/\(∀f,Ru (fs.lookup f) (mA f))/\PySem.Within mA (fs.map (·.1))
 | .own _=>∃o,h.get? a=some o
 | .xd fs=>∃mA,h.Ns1 a mA/\∀f,Ru (fs.lookup f) (mA f)
 | .rng lo hi=>∃t u v,h.get? a=some {cls:=.type "range",data:=.fields #[.int lo t,.int hi u,.int 1 v]}
 | .frz o u=>h.get? a=some o/\aO H h a u
 | .tbl ps=>h.get? a=some {cls:=.none,data:=.fields ps}
 | .met f x=>h.get? a=some (PySem.W.methodObj (.ref f) (.ref x))
 | .ext φ=>φ h/\(∃o,h.get? a=some o)/\∀h1 h2:Heap,φ h1->(∀o,h1.get? a=some o->h2.get? a=some o)->φ h2
def HOk(H:Hp)(h:Heap):Prop:=∀a o,H a=some o->aO P w H h a o
end
section
variable {P : Program} {w : World} {H H' : Hp} {h h' : Heap} {a : Addr} {o : HO}
theorem aO.lt(x:aO P w H h a o):a<h.objs.size:=by
 cases o with
 | lst xs=>obtain⟨_,_,_,_,e⟩:=x;exact Heap.lt_size e
 | tup xs=>obtain⟨_,_,_,p⟩:=x;exact p.lt
 | dK kvs=>obtain⟨_,_,_,_,o,_,_,e,_⟩:=x;exact Heap.lt_size e
 | dT kvs=>obtain⟨_,_,_,_,o,_,_,e,_⟩:=x;exact Heap.lt_size e
 | set S n=>obtain⟨o,_,_,_,e,_⟩:=x;exact Heap.lt_size e
 | ins C dx fs=>obtain⟨_,_,_,e,_⟩:=x;exact Heap.lt_size e
 | own y=>obtain⟨_,e⟩:=x;exact Heap.lt_size e
 | xd fs=>obtain⟨_,⟨_,_,_,e,_⟩,_⟩:=x;exact Heap.lt_size e
 | rng lo hi=>obtain⟨_,_,_,e⟩:=x;exact Heap.lt_size e
 | frz ob u=>obtain⟨e,_⟩:=x;exact Heap.lt_size e
 | tbl ps=>exact Heap.lt_size (show h.get? a=some _ from x)
 | met f y=>exact Heap.lt_size (show h.get? a=some _ from x)
 | ext φ=>obtain⟨_,⟨_,e⟩,_⟩:=x;exact Heap.lt_size e
theorem Paired.mapP{α β:Type}{F G:α->β->Prop}:∀{l₁:List α}{l₂:List β},Paired F l₁ l₂->(∀a b,F a b->G a b)->Paired G l₁ l₂
 | _,_,.nil,_=>.nil
 | _,_,.cons r t,f=>.cons (f _ _ r) (Paired.mapP t f)
theorem aO.stay(x:aO P w H h a o)(k:∀b u,(b=a∨H b=some (.own a))->h.get? b=some u->h'.get? b=some u)
 (ho:∀b,H b=some (.own a)->H' b=some (.own a))(ht:∀b xs,H b=some (.tup xs)->H' b=some (.tup xs)):aO P w H' h' a o:=by
 induction o with
 | lst xs=>obtain⟨z,its,n,r,e⟩:=x;exact⟨z,its,n,r,k _ _ (.inl rfl) e⟩
 | tup xs=>obtain⟨z,its,r,ob,e,c⟩:=x;exact⟨z,its,r,ob,k _ _ (.inl rfl) e,c⟩
 | dK kvs=>obtain⟨z,y,vs,r,ob,es,ep,e,c⟩:=x;exact⟨z,y,vs,r,ob,es,ep,k _ _ (.inl rfl) e,c⟩
 | dT kvs=>
   obtain⟨z,y,xs,r,ob,es,ep,e,c⟩:=x
   exact⟨z,y,xs,Paired.mapP r λ p q z=>⟨z.1,ht _ _ z.2.1,z.2.2⟩,ob,es,ep,k _ _ (.inl rfl) e,c⟩
 | set S n=>obtain⟨ob,es,ep,t,e,c⟩:=x;exact⟨ob,es,ep,t,k _ _ (.inl rfl) e,c⟩
 | ins C dx fs=>
   obtain⟨d,z,ne,e,mA,⟨od,es,ep,e2,c⟩,r⟩:=x
   exact⟨ho _ d,z,ne,k _ _ (.inl rfl) e,mA,⟨od,es,ep,k _ _ (.inr d) e2,c⟩,r⟩
 | own y=>obtain⟨ob,e⟩:=x;exact⟨ob,k _ _ (.inl rfl) e⟩
 | xd fs=>obtain⟨mA,⟨od,es,ep,e,c⟩,r⟩:=x;exact⟨mA,⟨od,es,ep,k _ _ (.inl rfl) e,c⟩,r⟩
 | rng lo hi=>obtain⟨t,u,v,e⟩:=x;exact⟨t,u,v,k _ _ (.inl rfl) e⟩
 | frz ob u ih=>obtain⟨e,q⟩:=x;exact⟨k _ _ (.inl rfl) e,ih q⟩
 | tbl ps=>
   have e:h.get? a=some {cls:=.none,data:=.fields ps}:=x
   show h'.get? a=some {cls:=.none,data:=.fields ps}
   exact k a _ (.inl rfl) e
 | met f y=>
   have e:h.get? a=some (PySem.W.methodObj (.ref f) (.ref y)):=x
   show h'.get? a=some (PySem.W.methodObj (.ref f) (.ref y))
   exact k a _ (.inl rfl) e
 | ext φ=>obtain⟨p,⟨o,e⟩,st⟩:=x;exact⟨st _ _ p λ o q=>k _ _ (.inl rfl) q,⟨o,k _ _ (.inl rfl) e⟩,st⟩
theorem HOk.lt(x:HOk P w H h)(e:H a=some o):a<h.objs.size:=(x a o e).lt
theorem HOk.fresh(x:HOk P w H h)(e:h.objs.size≤a):H a=none:=by
 cases q:H a with
 | none=>rfl
 | some u=>exact absurd (Nat.lt_of_lt_of_le (x.lt q) e) (Nat.lt_irrefl _)
theorem HOk.kept(x:HOk P w H h)(k:∀b u,h.get? b=some u->h'.get? b=some u):HOk P w H h':=λ a o e=>
 (x a o e).stay (λ b u _ q=>k b u q) (λ _ q=>q) λ _ _ q=>q
theorem HOk.laid(x:HOk P w H h)(k:∀b u,h.get? b=some u->h'.get? b=some u)(hp:h.objs.size≤a)(new:aO P w (upd H a o) h' a o):HOk P w (upd H a o) h':=λ b u e=>by
 have hn:=x.fresh hp
 by_cases hb:b=a
 . subst hb;rw[aC]at e;cases e;exact new
 . rw[aj hb]at e
   exact(x b u e).stay (λ c v _ q=>k c v q) (λ c q=>by rw[aj (aB q hn)];exact q) λ c xs q=>by rw[aj (aB q hn)];exact q
end
def Rd(H:Hp)(a:Addr)(u:HO):Prop:=H a=some u∨∃o,H a=some (.frz o u)
theorem Rd.ok{P:Program}{w:World}{H:Hp}{h:Heap}{a:Addr}{u:HO}(r:Rd H a u)(x:HOk P w H h):aO P w H h a u:=by
 rcases r with r | ⟨o,r⟩
 . exact x a u r
 . obtain⟨_,q⟩:=x a _ r
   exact q
def Mut:Option HO->Prop
 | some (.lst _)=>True
 | some (.dK _)=>True
 | some (.dT _)=>True
 | some (.set _ _)=>True
 | some (.ins _ _ _)=>True
 | some (.ext _)=>True
 | _=>False
section
variable {P : Program} {w : World} {H : Hp} {h h' : Heap} {x e : Addr} {o' : HO}
theorem HOk.write(ok:HOk P w H h)(mu:Mut (H x))(he:e=x∨H e=some (.own x))(k:∀b u,b≠e->h.get? b=some u->h'.get? b=some u)(heo:∃u,h'.get? e=some u)
 (new:aO P w (upd H x o') h' x o'):HOk P w (upd H x o') h':=λ b u q=>by
 have nown:∀c y,H c=some (.own y)->c≠x:=λ c y r z=>by subst z;rw[r]at mu;exact mu
 have ntup:∀c xs,H c=some (.tup xs)->c≠x:=λ c xs r z=>by subst z;rw[r]at mu;exact mu
 by_cases hb:b=x
 . subst hb;rw[aC]at q;cases q;exact new
 . rw [aj hb]at q
   by_cases hbe:b=e
   . have q':H b=some (.own x):=by
      rcases he with z | z
      . exact absurd (hbe.trans z) hb
      . rw[hbe];exact z
     rw[q]at q';cases q'
     obtain⟨v,hv⟩:=heo
     exact⟨v,by rw[hbe];exact hv⟩
   . refine(ok b u q).stay (λ c v hc r=>k c v ?_ r) (λ c r=>by rw[aj (nown c b r)];exact r) λ c xs r=>by rw[aj (ntup c xs r)];exact r
     rcases hc with rfl | hc
     . exact hbe
     . rintro rfl
       rcases he with z | z
       . exact nown c b hc z
       . rw[hc]at z;cases z;exact hb rfl
end
structure Un(fs ex:List Addr)(H H':Hp)(h h':Heap):Prop where
 keep:∀b o,h.get? b=some o->H b=none->b∉fs->b∉ex->h'.get? b=some o
 slot:∀b o,h.get? b=some o->H b=none->b∈fs->b∉ex->∃sl,h'.get? b=some {o with slots:=sl}
 free:∀b o,h.get? b=some o->H b=none->b∉ex->H' b=none
 there:∀b o,h.get? b=some o->b∉ex->∃o',h'.get? b=some o'
 tups:∀b xs,H b=some (.tup xs)->H' b=some (.tup xs)
 frzs:∀b o u,H b=some (.frz o u)->H' b=some (.frz o u)
 tbls:∀b ps,H b=some (.tbl ps)->∃more,H' b=some (.tbl (ps++more))
section
variable {fs fs' ex ex' : List Addr} {H H1 H2 : Hp} {h h1 h2 h' : Heap} {a x e : Addr} {o : HO}
theorem Un.any(u:Un fs ex H H1 h h1){b:Addr}{ob:Obj}(q:h.get? b=some ob)(n:H b=none)(hx:b∉ex):∃sl,h1.get? b=some {ob with slots:=sl}:=by
 by_cases hb:b∈fs
 . exact u.slot b ob q n hb hx
 . exact⟨ob.slots,u.keep b ob q n hb hx⟩
theorem Un.kept(k:∀b u,h.get? b=some u->h'.get? b=some u):Un fs ex H H h h':=
 ⟨λ b ob q _ _ _=>k b ob q,λ b ob q _ _ _=>⟨ob.slots,k b ob q⟩,λ _ _ _ n _=>n,λ b ob q _=>⟨ob,k b ob q⟩,λ _ _ q=>q,λ _ _ _ q=>q,λ _ ps q=>⟨#[],by rw[q];simp⟩⟩
theorem Un.refl:Un fs ex H H h h:=Un.kept λ _ _ q=>q
theorem Un.laid(k:∀b u,h.get? b=some u->h'.get? b=some u)(hp:h.objs.size≤a)(hn:H a=none):Un fs ex H (upd H a o) h h' where
 keep:=λ b u q _ _ _=>k b u q
 slot:=λ b u q _ _ _=>⟨u.slots,k b u q⟩
 free:=λ b u q n _=>by rw[aj (Nat.ne_of_lt (Nat.lt_of_lt_of_le (Heap.lt_size q) hp))];exact n
 there:=λ b u q _=>⟨u,k b u q⟩
 tups:=λ b xs q=>by rw[aj (aB q hn)];exact q
 frzs:=λ b u xs q=>by rw[aj (aB q hn)];exact q
 tbls:=λ b ps q=>⟨#[],by rw[aj (aB q hn),q];simp⟩
theorem Un.write(mu:Mut (H x))(he:e=x∨H e=some (.own x))(k:∀b u,b≠e->h.get? b=some u->h'.get? b=some u)(heo:∃u,h'.get? e=some u):Un fs ex H (upd H x o) h h':=by
 have hx:∀b,H b=none->b≠x:=λ b n z=>by subst z;rw[n]at mu;exact mu
 have hb:∀b,H b=none->b≠e:=λ b n z=>by
  subst z
  rcases he with r | r
  . exact hx b n r
  . rw[n]at r;cases r
 have hm:∀b u,H b=some u->¬Mut (some u)->b≠x:=λ b u q nm z=>by subst z;rw[q]at mu;exact nm mu
 refine⟨λ b u q n _ _=>k b u (hb b n) q,λ b u q n _ _=>⟨u.slots,k b u (hb b n) q⟩,λ b u q n _=>by rw[aj (hx b n)];exact n,λ b u q _=>?_,
  λ b xs q=>by rw[aj (hm b _ q λ z=>z)];exact q,λ b u xs q=>by rw[aj (hm b _ q λ z=>z)];exact q,λ b ps q=>⟨#[],by rw[aj (hm b _ q λ z=>z),q];simp⟩⟩
 by_cases hbe:b=e
 . subst hbe;exact heo
 . exact⟨u,k b u hbe q⟩
end
def trk(h:Heap)(H:Hp):List Addr:=(List.range h.objs.size).filter λ a=>(H a).isSome
def kW(h:Heap)(H:Hp):Heap:=PySem.W.hideAll h (trk h H)
theorem Ij(h:Heap)(H:Hp):(kW h H).objs.size=h.objs.size:=PySem.W.hideAll_size _ _
theorem Kr{h:Heap}{H:Hp}{o:Obj}(e:h.get? b=some o)(n:H b=none):(kW h H).get? b=some o:=
 PySem.W.hideAll_get _ e λ hm=>by
  have q:(H b).isSome=true:=(List.mem_filter.mp hm).2
  rw[n]at q;simp at q
theorem OJ{h:Heap}{H:Hp}{o:Obj}(e:(kW h H).get? b=some o):h.get? b=some o/\H b=none:=by
 have e':h.get? b=some o:=PySem.W.of_hideAll (trk h H) e
 refine⟨e',?_⟩
 cases q:H b with
 | none=>rfl
 | some x=>
   have hm:b∈trk h H:=List.mem_filter.mpr ⟨List.mem_range.mpr (Heap.lt_size e'),by simp[q]⟩
   have z:(kW h H).get? b=none:=PySem.W.hideAll_none (trk h H) hm
   rw[z]at e;cases e
end L2
namespace L2
open PySem PySem.Spec PyProof.Rows
variable {t' : Nat}
structure Mod(K:PySem.W.Frag)(mg:Str->Option Value)(base:Heap):Prop where
 kin:K.In base
 glob:base.Ns mainGlobals mg
 blt:∃mb,base.Ns builtinsNs mb/\∀x:Str,x≠"__name__"->mb x=bootBuiltins x
 nolimit:base.NoLimit
set_option genInjectivity false in
structure Cx where
 prog:Program
 w:World
 K:PySem.W.Frag
 mg:Str->Option Value
 base:Heap
 A:Around
 N:List Str
 s₀:Shared
 H₀:Hp
 env:Env
 outer:List Env
 stack:List Env
 ex:List Addr
 fn:Str->Bool
 calm:Bool
 pn:List (Addr×Obj)
 xe:Value->Shared->Prop
def frs(l:List Env):List Addr:=l.filterMap (·.frame)
abbrev Cx.fs(X:Cx):List Addr:=frs X.outer
def Vis(sc:Scope)(x:Str):Prop:=sc.names.lookup x=some .local∨sc.names.lookup x=some .cell∨sc.names.lookup x=some .free
def Loc(sc:Scope)(x:Str):Prop:=sc.names.lookup x=some .local∨sc.names.lookup x=some .cell
def Look(env:Env)(h:Heap)(m:Str->Option Value)(x:Str)(u:Value):Prop:=
 (env.kindOf x=some .local/\m x=some u)∨((env.kindOf x=some .cell∨env.kindOf x=some .free)/\∃c,env.cells.lookup x=some c/\h.IsCell c (some u))
structure Cx.Ok(X:Cx):Prop where
 mod:Mod X.K X.mg X.base
 kind:X.env.scope.kind=.function
 glob:X.env.globals=mainGlobals
 blt:X.env.builtins=builtinsNs
 above:X.s₀.heap.objs.size≤X.env.locals
 inj:∀x y c,X.env.cells.lookup x=some c->X.env.cells.lookup y=some c->x=y
 has:∀x,(X.env.kindOf x=some .cell∨X.env.kindOf x=some .free)->∃c,X.env.cells.lookup x=some c
 cab:∀x c,X.fn x=true->X.env.cells.lookup x=some c->X.s₀.heap.objs.size≤c
 hd:X.calm=true->X.A.handled=none
 frames:X.A.frames=some X.stack
 stk:X.stack=X.outer∨(X.stack=X.env::X.outer/\X.env.frame=some X.env.locals)
 exf:∀b∈X.ex,b≠X.env.locals/\∀x c,X.env.cells.lookup x=some c->c≠b
 bs:∀b o,X.base.get? b=some o->X.s₀.heap.get? b=some o/\X.H₀ b=none
 bsz:X.base.objs.size≤X.s₀.heap.objs.size
 noex:∀b o,X.base.get? b=some o->b∉X.ex
 exfs:∀b∈X.ex,b∉X.fs
 funs:X.s₀.heap.FunFrames X.base X.outer
 frf:∀b∈X.fs,X.H₀ b=none
structure Inv(X:Cx)(pins:List (Addr×Obj))(σ:List (Option V))(H:Hp)(s:Shared):Prop where
 ok:X.Ok
 os:s.os=X.s₀.os
 bare:AllBare s.gens
 base:Un X.fs X.ex X.H₀ H X.s₀.heap s.heap
 loc:∃m,s.heap.Ns X.env.locals m/\∀(i:Nat)(x:Str)(v:V),X.N[i]? =some x->σ[i]? =some (some v)->Vis X.env.scope x->∃u,RelV v u/\Look X.env s.heap m x u
 cell:∀x c,X.env.cells.lookup x=some c->∃v,s.heap.IsCell c v
 free:H X.env.locals=none
 freeC:∀x c,X.env.cells.lookup x=some c->H c=none
 pin:∀p∈X.pn++pins,s.heap.get? p.1=some p.2/\H p.1=none/\p.1≠X.env.locals/\p.1∉X.fs/\∀v,p.2.data≠.cell v
 hok:HOk X.prog X.w H s.heap
 len:σ.length=X.N.length
section
variable {X : Cx} {pins : List (Addr × Obj)} {σ : List (Option V)} {H H' : Hp} {s : Shared} {h' : Heap}
theorem Cx.Ok.nofr(ok:X.Ok){b:Addr}{o:Obj}(e:X.base.get? b=some o):b∉X.fs:=λ hb=>by
 have:=(ok.funs.mem hb).1
 rw[e]at this;cases this
theorem Inv.bs(I:Inv X pins σ H s):∀b o,X.base.get? b=some o->s.heap.get? b=some o/\H b=none:=λ b o e=>
 ⟨I.base.keep b o (I.ok.bs b o e).1 (I.ok.bs b o e).2 (I.ok.nofr e) (I.ok.noex b o e),I.base.free b o (I.ok.bs b o e).1 (I.ok.bs b o e).2 (I.ok.noex b o e)⟩
theorem Inv.bk(I:Inv X pins σ H s):∀b o,X.base.get? b=some o->s.heap.get? b=some o:=λ b o e=>(I.bs b o e).1
theorem Inv.mod(I:Inv X pins σ H s):Mod X.K X.mg X.base:=I.ok.mod
theorem Inv.kIn(I:Inv X pins σ H s):X.K.In s.heap:=I.ok.mod.kin.keeps I.bk
theorem Inv.lt(I:Inv X pins σ H s):X.env.locals<s.heap.objs.size:=let ⟨_,hn,_⟩:=I.loc;hn.lt
theorem Inv.sz(I:Inv X pins σ H s):X.s₀.heap.objs.size≤s.heap.objs.size:=Nat.le_trans I.ok.above (Nat.le_of_lt I.lt)
theorem Inv.nofs(I:Inv X pins σ H s){a:Addr}(h:s.heap.objs.size≤a):a∉X.fs:=λ hb=>by
 obtain⟨_,o,ho,_⟩:=I.ok.funs.mem hb
 exact absurd (Nat.lt_of_lt_of_le (Heap.lt_size ho) (Nat.le_trans I.sz h)) (Nat.lt_irrefl _)
theorem Inv.cne(I:Inv X pins σ H s):∀x c,X.env.cells.lookup x=some c->c≠X.env.locals:=λ x c e z=>by
 obtain⟨v,o,ho,hd⟩:=I.cell x c e
 obtain⟨m,⟨o',es,ep,ho',hd',_⟩,_⟩:=I.loc
 rw[z,ho']at ho;cases ho;rw[hd']at hd;cases hd
theorem Inv.funs(I:Inv X pins σ H s):s.heap.FunFrames X.base X.outer:=by
 have all:∀(l:List Env),(∀b∈frs l,b∈X.fs)->X.s₀.heap.FunFrames X.base l->s.heap.FunFrames X.base l:=by
  intro l
  induction l with
  | nil=>intro _ _;trivial
  | cons env r ih=>
    intro hs hl
    obtain⟨hk,⟨L,o,hf,hn,ho,hd⟩,hr⟩:=hl
    have hL:L∈X.fs:=hs L (by unfold frs;rw[List.filterMap_cons,hf];exact v3)
    obtain⟨sl,e⟩:=I.base.slot L o ho (I.ok.frf L hL) hL λ z=>I.ok.exfs L z hL
    exact⟨hk,⟨L,_,hf,hn,e,hd⟩,ih (λ b hb=>hs b (by unfold frs;rw[List.filterMap_cons,hf];exact x9 _ hb)) hr⟩
 exact all X.outer (λ _ hb=>hb) I.ok.funs
theorem Inv.stack(I:Inv X pins σ H s):s.heap.FunFrames X.base X.stack:=by
 rcases I.ok.stk with e | ⟨e,hf⟩
 . rw[e];exact I.funs
 . rw[e]
   obtain⟨m,hn,_⟩:=I.loc
   refine .cons (by rw[I.ok.kind];decide) hf hn ?_ I.funs
   exact Heap.get?_none_of_le (Nat.le_trans I.ok.bsz I.ok.above)
theorem Inv.stkSub(I:Inv X pins σ H s):∀b∈frs X.stack,b∈X.env.locals::X.fs:=λ b hb=>by
 rcases I.ok.stk with e | ⟨e,hf⟩
 . rw[e]at hb;exact x9 _ hb
 . rw[e]at hb
   unfold frs at hb
   rw[List.filterMap_cons,hf]at hb
   exact hb
theorem Inv.stkFree(I:Inv X pins σ H s):∀b∈frs X.stack,H b=none:=λ b hb=>by
 rcases List.mem_cons.mp (I.stkSub b hb)with e | hb
 . rw[e];exact I.free
 . obtain⟨_,o,ho,_⟩:=I.ok.funs.mem hb
   exact I.base.free b o ho (I.ok.frf b hb) λ z=>I.ok.exfs b z hb
theorem Inv.step{g':Array GenState}{d':Drawn}{ch:List Addr}(I:Inv X pins σ H s)
 (hch:∀b∈ch,(b∈X.ex∨X.s₀.heap.objs.size≤b)/\b≠X.env.locals/\(∀x c,X.env.cells.lookup x=some c->c≠b)/\∀p∈X.pn++pins,p.1≠b)
 (keep:∀b o,b≠X.env.locals->b∉X.fs->b∉ch->s.heap.get? b=some o->H b=none->h'.get? b=some o)
 (slot:∀b o,b≠X.env.locals->b∈X.fs->b∉ch->s.heap.get? b=some o->H b=none->∃sl,h'.get? b=some {o with slots:=sl})(free:∀b o,b∉ch->s.heap.get? b=some o->H b=none->H' b=none)
 (there:∀b o,b∉ch->s.heap.get? b=some o->∃o',h'.get? b=some o')
 (tups:∀b xs,H b=some (.tup xs)->H' b=some (.tup xs))(frzs:∀b o u,H b=some (.frz o u)->H' b=some (.frz o u))(tbls:∀b ps,H b=some (.tbl ps)->∃more,H' b=some (.tbl (ps++more)))
 (ns:∀m,s.heap.Ns X.env.locals m->h'.Ns X.env.locals m)(hok:HOk X.prog X.w H' h')(hg:AllBare g'):
 Inv X pins σ H' {s with heap:=h',gens:=g',drawn:=d',toks:=t'}:=by
 have neL:∀b o,X.s₀.heap.get? b=some o->b≠X.env.locals:=λ b o e=>Nat.ne_of_lt (Nat.lt_of_lt_of_le (Heap.lt_size e) I.ok.above)
 have neC:∀b o,X.s₀.heap.get? b=some o->b∉X.ex->b∉ch:=λ b o e hx hb=>by
  rcases(hch b hb).1 with z | z
  . exact hx z
  . exact absurd (Nat.lt_of_lt_of_le (Heap.lt_size e) z) (Nat.lt_irrefl _)
 have cellK:∀x c,X.env.cells.lookup x=some c->∀v,s.heap.IsCell c v->h'.IsCell c v:=λ x c e v ⟨o,ho,hd⟩=>by
  have nch:c∉ch:=λ z=>(hch c z).2.2.1 x c e rfl
  by_cases hc:c∈X.fs
  . obtain⟨sl,q⟩:=slot c o (I.cne x c e) hc nch ho (I.freeC x c e)
    exact⟨_,q,hd⟩
  . exact⟨o,keep c o (I.cne x c e) hc nch ho (I.freeC x c e),hd⟩
 refine⟨I.ok,I.os,hg,⟨λ b o e n hb hx=>?_,λ b o e n hb hx=>?_,λ b o e n hx=>?_,λ b o e hx=>?_,λ b xs e=>tups b xs (I.base.tups b xs e),λ b o xs e=>frzs b o xs (I.base.frzs b o xs e),λ b ps e=>?_⟩,?_,λ x c e=>?_,?_,λ x c e=>?_,λ p hp=>?_,hok,I.len⟩
 . exact keep b o (neL b o e) hb (neC b o e hx) (I.base.keep b o e n hb hx) (I.base.free b o e n hx)
 . obtain⟨sl,e1⟩:=I.base.slot b o e n hb hx
   obtain⟨sl',e2⟩:=slot b _ (neL b o e) hb (neC b o e hx) e1 (I.base.free b o e n hx)
   exact⟨sl',e2⟩
 . obtain⟨o',e1⟩:=I.base.there b o e hx
   exact free b o' (neC b o e hx) e1 (I.base.free b o e n hx)
 . obtain⟨o',e1⟩:=I.base.there b o e hx
   exact there b o' (neC b o e hx) e1
 . obtain⟨m1,e1⟩:=I.base.tbls b ps e
   obtain⟨m2,e2⟩:=tbls b _ e1
   exact⟨m1++m2,by rw[e2,Array.append_assoc]⟩
 . obtain⟨m,hn,hl⟩:=I.loc
   refine⟨m,ns m hn,λ i x v e1 e2 e3=>?_⟩
   obtain⟨u,r,l⟩:=hl i x v e1 e2 e3
   refine⟨u,r,?_⟩
   rcases l with l | ⟨k,c,e,z⟩
   . exact .inl l
   . exact .inr ⟨k,c,e,cellK x c e _ z⟩
 . obtain⟨v,z⟩:=I.cell x c e
   exact⟨v,cellK x c e v z⟩
 . obtain⟨m,⟨o,_,_,ho,_⟩,_⟩:=I.loc
   exact free _ o (λ z=>(hch _ z).2.1 rfl) ho I.free
 . obtain⟨v,o,ho,hd⟩:=I.cell x c e
   exact free c o (λ z=>(hch c z).2.2.1 x c e rfl) ho (I.freeC x c e)
 . obtain⟨e,n,ne,nf,d⟩:=I.pin p hp
   have nch:p.1∉ch:=λ z=>(hch p.1 z).2.2.2 p hp rfl
   exact⟨keep p.1 p.2 ne nf nch e n,free p.1 p.2 nch e n,ne,nf,d⟩
theorem Inv.un(I:Inv X pins σ H s)(u:Un X.fs [] H H' s.heap h')(hok:HOk X.prog X.w H' h'):Inv X pins σ H' {s with heap:=h',toks:=t'}:=by
 obtain⟨m,⟨o,es,ep,ho,r⟩,_⟩:=id I.loc
 obtain⟨sl,hL⟩:=u.any ho I.free (by simp)
 exact I.step (g':=s.gens) (d':=s.drawn) (ch:=[]) (λ _ z=>nomatch z) (λ b o _ hb _ e n=>u.keep b o e n hb (by simp)) (λ b o _ hb _ e n=>u.slot b o e n hb (by simp)) (λ b o _ e n=>u.free b o e n (by simp)) (λ b o _ e=>u.there b o e (by simp)) u.tups u.frzs u.tbls (λ m' hm=>by
  obtain⟨o',es',ep',ho',r'⟩:=hm
  rw[ho]at ho';cases ho'
  exact⟨_,es',ep',hL,r'⟩) hok I.bare
theorem Inv.call{g':Array GenState}{d':Drawn}{ch:List Addr}(I:Inv X pins σ H s)(u:Un (frs X.stack) ch H H' s.heap h')(hok:HOk X.prog X.w H' h')(hg:AllBare g')
 (hch:∀b∈ch,(b∈X.ex∨X.s₀.heap.objs.size≤b)/\b≠X.env.locals/\(∀x c,X.env.cells.lookup x=some c->c≠b)/\∀p∈X.pn++pins,p.1≠b):
 Inv X pins σ H' {s with heap:=h',gens:=g',drawn:=d',toks:=t'}:=by
 obtain⟨m,⟨o,es,ep,ho,r⟩,_⟩:=id I.loc
 obtain⟨sl,hL⟩:=u.any ho I.free λ z=>(hch _ z).2.1 rfl
 exact I.step (ch:=ch) hch (λ b o hL hb hc e n=>u.keep b o e n (λ z=>(List.mem_cons.mp (I.stkSub b z)).elim hL hb) hc) (λ b o _ _ hc e n=>u.any e n hc) (λ b o hc e n=>u.free b o e n hc) (λ b o hc e=>u.there b o e hc) u.tups u.frzs u.tbls (λ m' hm=>by
  obtain⟨o',es',ep',ho',r'⟩:=hm
  rw[ho]at ho';cases ho'
  exact⟨_,es',ep',hL,r'⟩) hok hg
theorem Inv.turned{it:Addr}(I:Inv X pins σ H s)(k:∀b o,b≠it->s.heap.get? b=some o->h'.get? b=some o)(hn:H it=none)(hL:it≠X.env.locals)
 (h1:it∈X.ex∨X.s₀.heap.objs.size≤it)(h2:∀x c,X.env.cells.lookup x=some c->c≠it)(h3:∀p∈X.pn++pins,p.1≠it):Inv X pins σ H {s with heap:=h',toks:=t'}:=by
 have nit:∀b u,H b=some u->b≠it:=λ b u e z=>by rw[z,hn]at e;cases e
 refine I.step (g':=s.gens) (d':=s.drawn) (ch:=[it]) (λ b hb=>?_) (λ b o _ _ hc e _=>k b o (λ z=>hc (by simp[z])) e) (λ b o _ _ hc e _=>⟨o.slots,k b o (λ z=>hc (by simp[z])) e⟩) (λ _ _ _ _ n=>n)
  (λ b o hc e=>⟨o,k b o (λ z=>hc (by simp[z])) e⟩) (λ _ _ e=>e) (λ _ _ _ e=>e) (λ b ps e=>⟨#[],by rw[e];simp⟩) (λ m hm=>?_) (λ b u e=>?_) I.bare
 . have e:b=it:=by simpa using hb
   subst e
   exact⟨h1,hL,h2,h3⟩
 . obtain⟨o,es,ep,ho,r⟩:=hm
   exact⟨o,es,ep,k _ o (Ne.symm hL) ho,r⟩
 . refine(I.hok b u e).stay (λ c v hc q=>k c v ?_ q) (λ _ q=>q) λ _ _ q=>q
   rcases hc with z | z
   . rw[z];exact nit b u e
   . exact nit c _ z
theorem Inv.tok(I:Inv X pins σ H s)(t:Nat):Inv X pins σ H {s with toks:=t}:=I.un (h':=s.heap) (t':=t) Un.refl I.hok
theorem Inv.kept(I:Inv X pins σ H s)(k:∀b u,s.heap.get? b=some u->h'.get? b=some u):Inv X pins σ H {s with heap:=h',toks:=t'}:=I.un (Un.kept k) (I.hok.kept k)
theorem Inv.laid{a:Addr}{o:HO}(I:Inv X pins σ H s)(k:∀b u,s.heap.get? b=some u->h'.get? b=some u)(hp:s.heap.objs.size≤a)(new:aO X.prog X.w (upd H a o) h' a o):
 Inv X pins σ (upd H a o) {s with heap:=h',toks:=t'}:=I.un (Un.laid k hp (I.hok.fresh hp)) (I.hok.laid k hp new)
theorem Inv.write{x e:Addr}{o:HO}(I:Inv X pins σ H s)(mu:Mut (H x))(he:e=x∨H e=some (.own x))(k:∀b u,b≠e->s.heap.get? b=some u->h'.get? b=some u)(heo:∃u,h'.get? e=some u)
 (new:aO X.prog X.w (upd H x o) h' x o):Inv X pins σ (upd H x o) {s with heap:=h',toks:=t'}:=I.un (Un.write mu he k heo) (I.hok.write mu he k heo new)
theorem Inv.pins_of{pins':List (Addr×Obj)}(I:Inv X pins σ H s)(h:∀p∈pins',s.heap.get? p.1=some p.2/\H p.1=none/\p.1≠X.env.locals/\p.1∉X.fs/\∀v,p.2.data≠.cell v):Inv X pins' σ H s:=
 ⟨I.ok,I.os,I.bare,I.base,I.loc,I.cell,I.free,I.freeC,λ p hp=>(List.mem_append.mp hp).elim (λ z=>I.pin p (List.mem_append_left _ z)) (h p),I.hok,I.len⟩
theorem ou{N:List Str}(hN:N.Nodup){i j:Nat}{x:Str}(a:N[i]? =some x)(b:N[j]? =some x):i=j:=by
 obtain⟨h1,e1⟩:=z0.mp a
 obtain⟨h2,e2⟩:=z0.mp b
 exact(List.getElem_inj hN).mp (e1.trans e2.symm)
theorem vo{M:Model}{A:Around}{E:Value->Shared->Prop}{i:Nat}{x:Str}{v:V}{u:Value}{Q:Unit->Shared->Prop}(I:Inv X pins σ H s)(hN:X.N.Nodup)(hi:X.N[i]? =some x)(hx:Loc X.env.scope x)(r:RelV v u)
 (h:∀s',Inv X pins (σ.set i (some v)) H s'->(∃a,Heap.SameBut a s.heap s'.heap/\(a=X.env.locals∨X.env.cells.lookup x=some a))->Q () s')(hf:X.fn x=true∨X.env.scope.names.lookup x=some .local:=by first | exact .inl rfl | exact .inr rfl | assumption):wpAny M A (storeName X.env x u) Q E s:=by
 obtain⟨m,hn,hl⟩:=id I.loc
 have hcls:(X.env.scope.kind==.class||(X.env.scope.kind==.module&&X.env.locals !=X.env.globals))=false:=by rw[I.ok.kind];rfl
 have hiσ:i<σ.length:=by rw[I.len];exact(z0.mp hi).1
 have cne:=I.cne
 have tracked:∀{a:Addr}{h':Heap},(∃o,s.heap.get? a=some o/\H a=none)->Heap.SameBut a s.heap h'->HOk X.prog X.w H h':=λ{a h'} ha hs b ob e=>by
  obtain⟨_,_,hfree⟩:=ha
  refine(I.hok b ob e).stay (λ c w' hc q=>(hs.2 c ?_).trans q) (λ _ q=>q) λ _ _ q=>q
  rintro rfl
  rcases hc with rfl | hc
  . rw[hfree]at e;cases e
  . rw[hfree]at hc;cases hc
 rcases hx with hk | hk
 . refine wpAny_storeName_local hk hn (λ h' hn' hs=>?_) hcls
   obtain⟨oL,_,_,hoL,_⟩:=id hn
   refine h _ ⟨I.ok,I.os,I.bare,⟨λ b o e n hb hx=>?_,λ b o e n hb hx=>?_,I.base.free,λ b o e hx=>?_,I.base.tups,I.base.frzs,I.base.tbls⟩,⟨_,hn',λ j y v' e1 e2 e3=>?_⟩,λ y c e=>?_,I.free,I.freeC,λ p hp=>?_,tracked ⟨oL,hoL,I.free⟩ hs,by simpa using I.len⟩ ⟨_,hs,.inl rfl⟩
   . exact(hs.2 b (Nat.ne_of_lt (Nat.lt_of_lt_of_le (Heap.lt_size e) I.ok.above))).trans (I.base.keep b o e n hb hx)
   . obtain⟨sl,e1⟩:=I.base.slot b o e n hb hx
     exact⟨sl,(hs.2 b (Nat.ne_of_lt (Nat.lt_of_lt_of_le (Heap.lt_size e) I.ok.above))).trans e1⟩
   . obtain⟨o',e1⟩:=I.base.there b o e hx
     exact⟨o',(hs.2 b (Nat.ne_of_lt (Nat.lt_of_lt_of_le (Heap.lt_size e) I.ok.above))).trans e1⟩
   . by_cases hj:j=i
     . subst hj
       rw[hi]at e1;cases e1
       rw[List.getElem?_set_self hiσ]at e2
       cases e2
       exact⟨u,r,.inl ⟨hk,by simp⟩⟩
     . rw[List.getElem?_set_ne (Ne.symm hj)]at e2
       obtain⟨u',r',q⟩:=hl j y v' e1 e2 e3
       refine⟨u',r',?_⟩
       rcases q with⟨k,e⟩ | ⟨k,c,e,z⟩
       . refine .inl ⟨k,?_⟩
         have:y≠x:=λ e=>hj (ou hN e1 (e▸hi))
         simp[this,e]
       . exact .inr ⟨k,c,e,z.sameBut hs (cne y c e)⟩
   . obtain⟨w',z⟩:=I.cell y c e
     exact⟨w',z.sameBut hs (cne y c e)⟩
   . obtain⟨e,n,ne,nf,d⟩:=I.pin p hp
     exact⟨(hs.2 p.1 ne).trans e,n,ne,nf,d⟩
 . have hfn:X.fn x=true:=by
    rcases hf with z | z
    . exact z
    . rw[z]at hk;cases hk
   obtain⟨c,hc⟩:=I.ok.has x (.inl hk)
   obtain⟨w',z⟩:=I.cell x c hc
   refine wpAny_storeName_cell I.ok.kind hk hc z (λ h' hc' hs=>?_)
   obtain⟨oc,hoc,hocd⟩:=id z
   refine h {s with heap:=h'} ⟨I.ok,I.os,I.bare,⟨λ b o e n hb hx=>?_,λ b o e n hb hx=>?_,I.base.free,λ b o e hx=>?_,I.base.tups,I.base.frzs,I.base.tbls⟩,⟨m,hn.sameBut hs (Ne.symm (cne x c hc)),λ j y v' e1 e2 e3=>?_⟩,λ y c' e=>?_,I.free,I.freeC,λ p hp=>?_,tracked ⟨oc,hoc,I.freeC x c hc⟩ hs,by simpa using I.len⟩ ⟨c,hs,.inr hc⟩
   . exact(hs.2 b (Nat.ne_of_lt (Nat.lt_of_lt_of_le (Heap.lt_size e) (I.ok.cab x c hfn hc)))).trans (I.base.keep b o e n hb hx)
   . obtain⟨sl,e1⟩:=I.base.slot b o e n hb hx
     exact⟨sl,(hs.2 b (Nat.ne_of_lt (Nat.lt_of_lt_of_le (Heap.lt_size e) (I.ok.cab x c hfn hc)))).trans e1⟩
   . obtain⟨o',e1⟩:=I.base.there b o e hx
     exact⟨o',(hs.2 b (Nat.ne_of_lt (Nat.lt_of_lt_of_le (Heap.lt_size e) (I.ok.cab x c hfn hc)))).trans e1⟩
   . by_cases hj:j=i
     . subst hj
       rw[hi]at e1;cases e1
       rw[List.getElem?_set_self hiσ]at e2
       cases e2
       exact⟨u,r,.inr ⟨.inl hk,c,hc,hc'⟩⟩
     . rw[List.getElem?_set_ne (Ne.symm hj)]at e2
       obtain⟨u',r',q⟩:=hl j y v' e1 e2 e3
       refine⟨u',r',?_⟩
       rcases q with q | ⟨k,c',e,z'⟩
       . exact .inl q
       . refine .inr ⟨k,c',e,z'.sameBut hs ?_⟩
         rintro rfl
         exact hj (ou hN e1 (I.ok.inj _ _ _ e hc▸hi))
   . by_cases hcc:c'=c
     . subst hcc;exact⟨_,hc'⟩
     . obtain⟨w2,z2⟩:=I.cell y c' e
       exact⟨w2,z2.sameBut hs hcc⟩
   . obtain⟨e,n,ne,nf,d⟩:=I.pin p hp
     refine⟨(hs.2 p.1 ?_).trans e,n,ne,nf,d⟩
     intro q
     rw[q,hoc]at e
     have q':oc=p.2:=Option.some.inj e
     exact d w' (by rw[←q'];exact hocd)
theorem gV{M:Model}{A:Around}{E:Value->Shared->Prop}{i:Nat}{x:Str}{v:V}{u:Value}{Q:Unit->Shared->Prop}(I:Inv X pins σ H s)(hN:X.N.Nodup)(hi:X.N[i]? =some x)(hx:Loc X.env.scope x)(r:RelV v u)
 (h:∀s',Inv X pins (σ.set i (some v)) H s'->Q () s')(hf:X.fn x=true∨X.env.scope.names.lookup x=some .local:=by first | exact .inl rfl | exact .inr rfl | assumption):wpAny M A (storeName X.env x u) Q E s:=
 vo I hN hi hx r (λ s' I' _=>h s' I') hf
theorem Inv.call'{s':Shared}{ch:List Addr}(I:Inv X pins σ H s)(ho:s'.os=s.os)(u:Un (frs X.stack) ch H H' s.heap s'.heap)(hok:HOk X.prog X.w H' s'.heap)(hg:AllBare s'.gens)
 (hch:∀b∈ch,(b∈X.ex∨X.s₀.heap.objs.size≤b)/\b≠X.env.locals/\(∀x c,X.env.cells.lookup x=some c->c≠b)/\∀p∈X.pn++pins,p.1≠b):Inv X pins σ H' s':=by
 obtain⟨h',g',d',t',o'⟩:=s'
 have e:o'=s.os:=ho
 subst e
 exact I.call (g':=g') (t':=t') (d':=d') u hok hg hch
end
abbrev XK:=Value->Option Addr->Hp->Prop
abbrev St:=List (Option V)
abbrev VK:=V->Hp->Prop
abbrev TE:=St->Hp->VK->Prop
abbrev TT:=St->Hp->(Bool->Hp->Prop)->Prop
abbrev TA:=St->Hp->(List V->Hp->Prop)->Prop
structure Ends where
 nx:St->Hp->Prop
 rt:VK
 bk:St->Hp->Prop:=λ _ _=>False
 ct:St->Hp->Prop:=λ _ _=>False
abbrev TS:=Ends->St->Hp->Prop
def EP(X:Cx)(pins:List (Addr×Obj))(σ:St)(Q:VK)(u:Value)(s':Shared):Prop:=∃v H',Inv X pins σ H' s'/\RelV v u/\Q v H'
def TP(X:Cx)(pins:List (Addr×Obj))(σ:St)(Q:Bool->Hp->Prop)(b:Bool)(s':Shared):Prop:=∃H',Inv X pins σ H' s'/\Q b H'
def AP(X:Cx)(pins:List (Addr×Obj))(σ:St)(Q:List V->Hp->Prop)(us:List Value)(s':Shared):Prop:=∃vs H',Inv X pins σ H' s'/\Vals vs us/\Q vs H'
def SP(X:Cx)(pins:List (Addr×Obj))(D:Ends)(f:Flow)(s':Shared):Prop:=
 match f with
 | .next=>∃σ' H',Inv X pins σ' H' s'/\D.nx σ' H'
 | .brk=>∃σ' H',Inv X pins σ' H' s'/\D.bk σ' H'
 | .cont=>∃σ' H',Inv X pins σ' H' s'/\D.ct σ' H'
 | .ret u=>∃v σ' H',Inv X pins σ' H' s'/\RelV v u/\D.rt v H'
def PE(X:Cx)(e:Expr)(t:TE):Prop:=
 ∀(pins:List (Addr×Obj))(s:Shared)(σ:St)(H:Hp)(Q:VK),Inv X pins σ H s->t σ H Q->wpAny (model X.prog X.w) X.A (eval e X.env) (EP X pins σ Q) X.xe s
def PA(X:Cx)(es:List Expr)(t:TA):Prop:=
 ∀(pos:Pos)(pins:List (Addr×Obj))(s:Shared)(σ:St)(H:Hp)(Q:List V->Hp->Prop),Inv X pins σ H s->t σ H Q->wpAny (model X.prog X.w) X.A (spliced (backTo pos (starEach es X.env))) (AP X pins σ Q) X.xe s
def PS(X:Cx)(st:Stmt)(t:TS):Prop:=
 ∀(pins:List (Addr×Obj))(s:Shared)(σ:St)(H:Hp)(D:Ends),Inv X pins σ H s->t D σ H->wpAny (model X.prog X.w) X.A (exec st X.env) (SP X pins D) X.xe s
def PSs(X:Cx)(st:List Stmt)(t:TS):Prop:=
 ∀(pins:List (Addr×Obj))(s:Shared)(σ:St)(H:Hp)(D:Ends),Inv X pins σ H s->t D σ H->wpAny (model X.prog X.w) X.A (execs st X.env) (SP X pins D) X.xe s
theorem thn{α:Type}{t:Sem α}{Q Q':α->Shared->Prop}{M:Model}{A:Around}{E:Value->Shared->Prop}{s:Shared}(h:wpAny M A t Q E s)(hQ:∀a s,Q a s->Q' a s):wpAny M A t Q' E s:=wpAny_mono h hQ λ _ _ x=>x
end L2
namespace L2
open PySem PySem.Spec PyProof.Rows
variable {x : Str} {u : Value}
section
variable {X : Cx}
def Wa(i:Nat):TE:=λ σ H Q=>∃v,σ[i]? =some (some v)/\Q v H
def tC(v:V):TE:=λ _ H Q=>Q v H
theorem yM{i:Nat}{pos:Pos}(hN:X.N[i]? =some x)(hv:Vis X.env.scope x)(hd:(x==("__debug__":Str))=false:=by decide)(hcd:(x==("__classdict__":Str))=false:=by decide):PE X (.Name x pos) (Wa i):=by
 intro pins s σ H Q I h
 obtain⟨v,e,h⟩:=h
 obtain⟨m,hn,hl⟩:=I.loc
 obtain⟨u,r,l⟩:=hl i x v hN e hv
 have fin:EP X pins σ Q u s:=⟨v,H,I,r,h⟩
 rcases l with⟨hk,hm⟩ | ⟨hk,c,hc,hcell⟩
 . exact wpAny_Name (wpAny_loadName_local I.ok.kind hk hn hm fin) hd
 . rcases hk with hk | hk
   . exact wpAny_Name (wpAny_loadName_cell I.ok.kind hk hc hcell fin) hd
   . exact wpAny_Name (wpAny_loadName_free I.ok.kind hk hc hcell fin hcd) hd
theorem Qt{i j pos}:PE X (.Constant (.int i) j pos) (tC (.int i)):=λ _ _ _ H _ I h=>wpAny_Constant_int ⟨.int i,H,I.tok _,⟨_,rfl⟩,h⟩
theorem Lz{b j pos}:PE X (.Constant (.bool b) j pos) (tC (.bl b)):=λ _ _ _ H _ I h=>Constant_bool ⟨.bl b,H,I,rfl,h⟩
theorem FP{j pos}:PE X (.Constant .none j pos) (tC .non):=λ _ _ _ H _ I h=>Constant_none ⟨.non,H,I,rfl,h⟩
theorem Gw{x j pos}:PE X (.Constant (.str x) j pos) (tC (.str x)):=λ _ _ _ H _ I h=>Calls.Constant_str ⟨.str x,H,I.tok _,⟨_,rfl⟩,h⟩
def Gl(X:Cx)(x:Str):Prop:=X.env.kindOf x=some .globalImplicit
theorem jB{E:Value->Shared->Prop}{pins:List (Addr×Obj)}{s:Shared}{σ:St}{H:Hp}{pos:Pos}{Q:Value->Shared->Prop}(I:Inv X pins σ H s)(hg:Gl X x)(hm:X.mg x=some u)(h:Q u s)
 (hd:(x==("__debug__":Str))=false:=by decide):wpAny (model X.prog X.w) X.A (eval (.Name x pos) X.env) Q E s:=
 Calls.Name_function_global I.ok.kind hg (Calls.loadGlobal_global (by rw[I.ok.glob];exact I.mod.glob.keeps I.bk) hm h) hd
theorem cZ{E:Value->Shared->Prop}{pins:List (Addr×Obj)}{s:Shared}{σ:St}{H:Hp}{pos:Pos}{Q:Value->Shared->Prop}(I:Inv X pins σ H s)(hg:Gl X x)(hm:X.mg x=none)(hv:bootBuiltins x=some u)(h:Q u s)
 (hn:x≠"__name__":=by decide)(hd:(x==("__debug__":Str))=false:=by decide):wpAny (model X.prog X.w) X.A (eval (.Name x pos) X.env) Q E s:=by
 obtain⟨mb,h1,h2⟩:=I.mod.blt
 exact Calls.Name_function_global I.ok.kind hg (Calls.loadGlobal_builtin (by rw[I.ok.glob];exact I.mod.glob.keeps I.bk) hm (by rw[I.ok.blt];exact h1.keeps I.bk) ((h2 x hn).trans hv) h) hd
theorem jP{v:V}{pos:Pos}(hg:Gl X x)(hm:X.mg x=some u)(r:RelV v u)(hd:(x==("__debug__":Str))=false:=by decide):PE X (.Name x pos) (tC v):=
 λ _ _ _ H _ I h=>jB I hg hm ⟨v,H,I,r,h⟩ hd
theorem uE{v:V}{pos:Pos}(hg:Gl X x)(hm:X.mg x=none)(hv:bootBuiltins x=some u)(r:RelV v u)(hn:x≠"__name__":=by decide)(hd:(x==("__debug__":Str))=false:=by decide):PE X (.Name x pos) (tC v):=
 λ _ _ _ H _ I h=>cZ I hg hm hv ⟨v,H,I,r,h⟩ hn hd
variable {a b : Expr} {ta tb : TE} {pos : Pos}
variable {tA tB' : TT} {rest : List Expr}
end
end L2
namespace L2
open PySem PySem.Spec PyProof.Rows
variable {K : PySem.W.Frag} {tg : Expr}
def SqL(K:PySem.W.Frag)(H:Hp)(a:Addr)(xs:List V):Prop:=
 Rd H a (.lst xs)∨
  ∃(o:Obj) (its:Array Value) (n:Nat),K.lookup a=some o/\o.cls=.type "list"/\o.dict=none/\o.data=.seq its n/\its.size≤sizeLine/\Vals xs its.toList
def SqT(K:PySem.W.Frag)(H:Hp)(a:Addr)(xs:List V):Prop:=
 Rd H a (.tup xs)∨
  ∃(o:Obj) (its:Array Value) (n:Nat),K.lookup a=some o/\o.cls=.type "tuple"/\o.data=.seq its n/\its.size≤sizeLine/\Vals xs its.toList
def VF:Value->Option V
 | .none=>some .non
 | .bool b=>some (.bl b)
 | .int i _=>some (.int i)
 | .str x _=>some (.str x)
 | .bytes b _=>some (.byt b)
 | .float b _=>some (.flt b)
 | .ref a=>some (.ref a)
 | .type n=>some (.ty n)
 | _=>none
theorem RelV.abs{x:V}{u:Value}(r:RelV x u):VF u=some x:=by
 cases x with
 | non=>cases r;rfl
 | bl _=>cases r;rfl
 | int _=>obtain⟨t,rfl⟩:=r;rfl
 | str _=>obtain⟨t,rfl⟩:=r;rfl
 | byt _=>obtain⟨t,rfl⟩:=r;rfl
 | flt _=>obtain⟨t,rfl⟩:=r;rfl
 | ref _=>cases r;rfl
 | ty _=>cases r;rfl
theorem RelV.inj{x y:V}{u:Value}(r:RelV x u)(q:RelV y u):x=y:=Option.some.inj (r.abs.symm.trans q.abs)
theorem Vals.inj:∀{xs ys:List V}{us:List Value},Vals xs us->Vals ys us->xs=ys
 | _,_,_,.nil,.nil=>rfl
 | _,_,_,.cons r t,.cons r' t'=>by rw[r.inj r',Vals.inj t t']
section
variable {X : Cx} {pins : List (Addr × Obj)} {σ : St} {H : Hp} {s : Shared} {a : Addr} {xs ys : List V}
theorem SqL.of(h:H a=some (.lst xs)):SqL K H a xs:=.inl (.inl h)
theorem SqT.of(h:H a=some (.tup xs)):SqT K H a xs:=.inl (.inl h)
theorem Inv.list(I:Inv X pins σ H s)(h:SqL X.K H a xs):∃its:List Value,Vals xs its/\PlainL s.heap a its.toArray/\xs.length≤sizeLine:=by
 rcases h with h | ⟨o,its,n,hk,hc,hd,hs,hz,r⟩
 . obtain⟨z,its,n,r,e⟩:=h.ok I.hok
   exact⟨its,r,⟨_,n,e,rfl,rfl,rfl⟩,z⟩
 . refine⟨its.toList,r,⟨o,n,I.kIn a o hk,hc,hd,by simpa using hs⟩,?_⟩
   have e:=r.length
   simp only[Array.length_toList]at e
   omega
theorem Inv.tuple(I:Inv X pins σ H s)(h:SqT X.K H a xs):∃its:List Value,Vals xs its/\IsTup s.heap a its.toArray/\xs.length≤sizeLine:=by
 rcases h with h | ⟨o,its,n,hk,hc,hs,hz,r⟩
 . obtain⟨z,its,r,p⟩:=h.ok I.hok
   exact⟨its,r,p,z⟩
 . refine⟨its.toList,r,⟨o,I.kIn a o hk,hc,n,by simpa using hs⟩,?_⟩
   have e:=r.length
   simp only[Array.length_toList]at e
   omega
theorem Inv.list_inj(I:Inv X pins σ H s)(h:SqL X.K H a xs)(h':SqL X.K H a ys):xs=ys:=by
 obtain⟨its,r,⟨o,n,e,_,_,d⟩,_⟩:=I.list h
 obtain⟨its',r',⟨o',n',e',_,_,d'⟩,_⟩:=I.list h'
 rw[e]at e';cases e'
 rw[d]at d'
 injection d' with d1 _
 have:its=its':=by simpa using congrArg Array.toList d1
 subst this
 exact r.inj r'
theorem Inv.tuple_inj(I:Inv X pins σ H s)(h:SqT X.K H a xs)(h':SqT X.K H a ys):xs=ys:=by
 obtain⟨its,r,⟨o,e,_,n,d⟩,_⟩:=I.tuple h
 obtain⟨its',r',⟨o',e',_,n',d'⟩,_⟩:=I.tuple h'
 rw[e]at e';cases e'
 rw[d]at d'
 injection d' with d1 _
 have:its=its':=by simpa using congrArg Array.toList d1
 subst this
 exact r.inj r'
end
abbrev Cx.wish(X:Cx)(E:Value->Shared->Prop):Cx:={X with xe:=E}
abbrev Cx.nox(X:Cx):Cx:=X.wish λ _ _=>False
theorem Cx.Ok.wish{X:Cx}(ok:X.Ok)(E:Value->Shared->Prop):(X.wish E).Ok:=
 ⟨ok.mod,ok.kind,ok.glob,ok.blt,ok.above,ok.inj,ok.has,ok.cab,ok.hd,ok.frames,ok.stk,ok.exf,ok.bs,ok.bsz,ok.noex,ok.exfs,ok.funs,ok.frf⟩
theorem Cx.Ok.unwish{X:Cx}{E:Value->Shared->Prop}(ok:(X.wish E).Ok):X.Ok:=
 ⟨ok.mod,ok.kind,ok.glob,ok.blt,ok.above,ok.inj,ok.has,ok.cab,ok.hd,ok.frames,ok.stk,ok.exf,ok.bs,ok.bsz,ok.noex,ok.exfs,ok.funs,ok.frf⟩
section
variable {X : Cx} {pins : List (Addr × Obj)} {σ : St} {H : Hp} {s : Shared} {E : Value -> Shared -> Prop}
theorem Inv.wish(I:Inv X pins σ H s)(E:Value->Shared->Prop):Inv (X.wish E) pins σ H s:=⟨I.ok.wish E,I.os,I.bare,I.base,I.loc,I.cell,I.free,I.freeC,I.pin,I.hok,I.len⟩
theorem Inv.unwish(I:Inv (X.wish E) pins σ H s):Inv X pins σ H s:=⟨I.ok.unwish,I.os,I.bare,I.base,I.loc,I.cell,I.free,I.freeC,I.pin,I.hok,I.len⟩
theorem SP.unwish{D:Ends}{f:Flow}{s':Shared}(h:SP (X.wish E) pins D f s'):SP X pins D f s':=by
 cases f with
 | next=>obtain⟨σ',H',I,q⟩:=h;exact⟨σ',H',I.unwish,q⟩
 | brk=>obtain⟨σ',H',I,q⟩:=h;exact⟨σ',H',I.unwish,q⟩
 | cont=>obtain⟨σ',H',I,q⟩:=h;exact⟨σ',H',I.unwish,q⟩
 | ret u=>obtain⟨v,σ',H',I,r,q⟩:=h;exact⟨v,σ',H',I.unwish,r,q⟩
theorem PSs.nox{st:List Stmt}{t:TS}(h:PSs X.nox st t):PSs X st t:=λ pins s σ H D I hw=>
 wpAny_mono (h pins s σ H D (I.wish _) hw) (λ _ _ q=>q.unwish) λ _ _ z=>False.elim z
end
section
variable {X : Cx} {st : Stmt} {rest : List Stmt} {t u : TS} {e : Expr} {te : TE} {pos : Pos}
theorem Inv.quiet{pins:List (Addr×Obj)}{σ:St}{H:Hp}{s:Shared}(I:Inv X pins σ H s):interactive X.env=false:=by simp[interactive,I.ok.kind]
end
abbrev TG:=V->St->Hp->(St->Hp->Prop)->Prop
def PG(X:Cx)(target:Expr)(t:TG):Prop:=
 ∀ (pins:List (Addr×Obj))(s:Shared)(σ:St)(H:Hp)(v:V)(u:Value)(Q:St->Hp->Prop),Inv X pins σ H s->RelV v u->t v σ H Q->
   wpAny (model X.prog X.w) X.A (assign target X.env u) (λ _ s'=>∃σ' H',Inv X pins σ' H' s'/\Q σ' H') X.xe s
abbrev V8:=V->V->V->Hp->(Hp->Prop)->Prop
def V1(X:Cx)(t:V8):Prop:=
 ∀ (pins:List (Addr×Obj))(s:Shared)(σ:St)(H:Hp)(o i v:V)(ov iv u:Value)(Q:Hp->Prop),Inv X pins σ H s->RelV o ov->RelV i iv->RelV v u->t o i v H Q->
   wpAny (model X.prog X.w) X.A (setItem ov iv u) (λ _ s'=>∃H',Inv X pins σ H' s'/\Q H') X.xe s
structure It where
 go:Nat->Hp->Prop
 yld:Nat->Hp->V->Hp->Prop
 stop:Nat->Hp->Prop
def cW(X:Cx)(pins:List (Addr×Obj))(H:Hp)(b:Addr):Prop:=
 H b=none/\b≠X.env.locals/\b∉X.fs/\(b∈X.ex∨X.s₀.heap.objs.size≤b)/\(∀x c,X.env.cells.lookup x=some c->c≠b)/\∀p∈X.pn++pins,p.1≠b
theorem Inv.fpOk{X:Cx}{pins:List (Addr×Obj)}{σ:St}{H H':Hp}{s:Shared}{b:Addr}(I:Inv X pins σ H s)(hb:s.heap.objs.size≤b)(hn:H' b=none):cW X pins H' b:=by
 refine⟨hn,Nat.ne_of_gt (Nat.lt_of_lt_of_le I.lt hb),I.nofs hb,.inr (Nat.le_trans I.sz hb),λ x c e z=>?_,λ p hp z=>?_⟩
 . obtain⟨v,q⟩:=I.cell x c e
   exact absurd (Nat.lt_of_lt_of_le q.lt (by rw[z];exact hb)) (Nat.lt_irrefl _)
 . exact absurd (Nat.lt_of_lt_of_le (Heap.lt_size (I.pin p hp).1) (by rw[z];exact hb)) (Nat.lt_irrefl _)
structure Turn(P:Program)(w:World)(K:PySem.W.Frag)(tg:Expr)(J:It)(fp:List Addr)(it:Addr)(tn:Nat->Heap->Prop):Prop where
 mem:it∈fp
 obj:∀i h,tn i h->∀b∈fp,∃o,h.get? b=some o/\∀v,o.data≠.cell v
 keep:∀i h h',tn i h->(∀b∈fp,∀o,h.get? b=some o->h'.get? b=some o)->tn i h'
 item:∀(X:Cx),X.prog=P->X.w=w->X.K=K->X.calm=true->∀(i:Nat)(pins:List (Addr×Obj))(s:Shared)(σ:St)(H:Hp)(E:Value->Shared->Prop),Inv X pins σ H s->(∀b∈fp,cW X pins H b)->tn i s.heap->J.go i H->
  wpAny (model P w) X.A (pyNext (.ref it)) (λ r s1=>∃u,r=some u/\
   wpAny (model P w) X.A (letOwnedTupleGo tg (.ref it) u) (λ _ s2=>∃x H',Inv X pins σ H' s2/\RelV x u/\J.yld i H x H'/\tn (i+1) s2.heap/\∀b∈fp,H' b=none) E s1) E s
 done:∀(X:Cx),X.prog=P->X.w=w->X.K=K->X.calm=true->∀(i:Nat)(pins:List (Addr×Obj))(s:Shared)(σ:St)(H:Hp)(E:Value->Shared->Prop),Inv X pins σ H s->(∀b∈fp,cW X pins H b)->tn i s.heap->J.stop i H->
  wpAny (model P w) X.A (pyNext (.ref it)) (λ r s1=>r=none/\Inv X pins σ H s1) E s
 self:∀(A:Around)(i:Nat)(s:Shared)(Q:Value->Shared->Prop)(E:Value->Shared->Prop),tn i s.heap->Q (.ref it) s->wpAny (model P w) A (pyIter (.ref it)) Q E s
abbrev TI:=St->Hp->(It->Hp->Prop)->Prop
def PIE(X:Cx)(pins:List (Addr×Obj))(σ:St)(tg:Expr)(R:It->Hp->Prop)(itv:Value)(s2:Shared):Prop:=
 ∃(it:Addr) (fp:List Addr) (tn:Nat->Heap->Prop) (J:It) (H':Hp),itv=.ref it/\Inv X pins σ H' s2/\Turn X.prog X.w X.K tg J fp it tn/\tn 0 s2.heap/\(∀b∈fp,cW X pins H' b)/\R J H'
def PI(X:Cx)(tg iter:Expr)(wi:TI):Prop:=
 ∀ (pins:List (Addr×Obj))(s:Shared)(σ:St)(H:Hp)(R:It->Hp->Prop),Inv X pins σ H s->wi σ H R->
   wpAny (model X.prog X.w) X.A (eval iter X.env) (λ v s1=>wpAny (model X.prog X.w) X.A (pyIter v) (PIE X pins σ tg R) X.xe s1) X.xe s
theorem wV{M:Model}{A:Around}{E:Value->Shared->Prop}{s:Shared}{it:Addr}{u:Value}{o:Obj}{n:String}{vs:Array Value}{Q:Unit->Shared->Prop}(ho:s.heap.get? it=some o)(hc:o.cls=.type n)(hd:o.data=.fields vs)
 (hn:["enumerate","zip","dict_itemiterator","dict_reverseitemiterator","odict_iterator","itertools.zip_longest","itertools.pairwise"].contains n=false)(hQ:Q () s):wpAny M A (letOwnedTupleGo tg (.ref it) u) Q E s:=by
 unfold letOwnedTupleGo
 cases tg<;>first
  | exact wpAny_pure hQ
  | (cases u<;>first
   | exact wpAny_pure hQ
   | (refine wpAny_bind (wpAny_load ho ?_)
      rw[hc,hd]
      show wpAny M A (if(["enumerate","zip","dict_itemiterator","dict_reverseitemiterator","odict_iterator","itertools.zip_longest","itertools.pairwise"].contains n&&vs[0]? ==some (rawInt _))=true then _ else _) Q E s
      rw[if_neg (by intro h;rw[hn,Bool.false_and]at h;cases h)]
      exact wpAny_pure hQ))
def Itl(K:PySem.W.Frag)(a:Addr):It:=
 ⟨λ i H=>∃xs x,SqL K H a xs/\xs[i]? =some x,λ i H x H'=>H'=H/\∀xs,SqL K H a xs->xs[i]? =some x,λ i H=>∃xs,SqL K H a xs/\xs.length≤i⟩
def Itt(K:PySem.W.Frag)(a:Addr):It:=
 ⟨λ i H=>∃xs x,SqT K H a xs/\xs[i]? =some x,λ i H x H'=>H'=H/\∀xs,SqT K H a xs->xs[i]? =some x,λ i H=>∃xs,SqT K H a xs/\xs.length≤i⟩
def Itr(lo:Int)(n:Nat):It:=⟨λ i _=>i<n,λ i H x H'=>H'=H/\x=.int (lo+i),λ i _=>n≤i⟩
theorem lX{P:Program}{w:World}(a it:Addr):Turn P w K tg (Itl K a) [it] it (λ i h=>h.IsListIter it a i) where
 mem:=by simp
 obj:=λ i h st b hb=>by
  have e:b=it:=by simpa using hb
  subst e
  obtain⟨o,e,c,d⟩:=st
  exact⟨o,e,λ v z=>by rw[d]at z;cases z⟩
 keep:=λ i h h' st k=>st.at λ o e=>k it (by simp) o e
 item:=by
  intro X hP hw hK hc i pins s σ H E I hf st hg
  subst hP hw hK
  obtain⟨xs,x,hq,hx⟩:=hg
  obtain⟨its,rv,p,hz⟩:=I.list hq
  obtain⟨u,hu,ru⟩:=rv.get hx
  obtain⟨f0,f1,f2,f3,f4,f5⟩:=hf it (by simp)
  refine wpAny_pyNext_list_item st p.isList (x:=u) (by simpa using hu) λ h' st' sb=>?_
  have I1:Inv X pins σ H {s with heap:=h'}:=I.turned (t':=s.toks) (λ b o hb e=>(sb.2 b hb).trans e) f0 f1 f3 f4 f5
  obtain⟨o,e,c,d⟩:=id st'
  exact⟨u,rfl,wV (s:={s with heap:=h'}) e c d (by decide) ⟨x,H,I1,ru,⟨rfl,λ ys hy=>by rw[I.list_inj hy hq];exact hx⟩,st',λ b hb=>(hf b hb).1⟩⟩
 done:=by
  intro X hP hw hK hc i pins s σ H E I hf st hg
  subst hP hw hK
  obtain⟨xs,hq,hx⟩:=hg
  obtain⟨its,rv,p,hz⟩:=I.list hq
  obtain⟨f0,f1,f2,f3,f4,f5⟩:=hf it (by simp)
  have hl:=rv.length
  exact wpAny_pyNext_list_end (I.ok.hd hc) st p.isList (by simp;omega) λ h' eb=>⟨rfl,I.turned (t':=s.toks) (λ b o hb e=>eb b o hb e) f0 f1 f3 f4 f5⟩
 self:=λ _ _ _ _ _ st h=>wpAny_pyIter_listiter st h
theorem pW{P:Program}{w:World}(a it:Addr):Turn P w K tg (Itt K a) [it] it (λ i h=>h.IsTupleIter it a i) where
 mem:=by simp
 obj:=λ i h st b hb=>by
  have e:b=it:=by simpa using hb
  subst e
  obtain⟨o,e,c,d⟩:=st
  exact⟨o,e,λ v z=>by rw[d]at z;cases z⟩
 keep:=λ i h h' st k=>st.at λ o e=>k it (by simp) o e
 item:=by
  intro X hP hw hK hc i pins s σ H E I hf st hg
  subst hP hw hK
  obtain⟨xs,x,hq,hx⟩:=hg
  obtain⟨its,rv,p,hz⟩:=I.tuple hq
  obtain⟨u,hu,ru⟩:=rv.get hx
  obtain⟨f0,f1,f2,f3,f4,f5⟩:=hf it (by simp)
  refine wpAny_pyNext_tuple_item st (show s.heap.IsTuple a its.toArray from p) (x:=u) (by simpa using hu) λ h' st' sb=>?_
  have I1:Inv X pins σ H {s with heap:=h'}:=I.turned (t':=s.toks) (λ b o hb e=>(sb.2 b hb).trans e) f0 f1 f3 f4 f5
  obtain⟨o,e,c,d⟩:=id st'
  exact⟨u,rfl,wV (s:={s with heap:=h'}) e c d (by decide) ⟨x,H,I1,ru,⟨rfl,λ ys hy=>by rw[I.tuple_inj hy hq];exact hx⟩,st',λ b hb=>(hf b hb).1⟩⟩
 done:=by
  intro X hP hw hK hc i pins s σ H E I hf st hg
  subst hP hw hK
  obtain⟨xs,hq,hx⟩:=hg
  obtain⟨its,rv,p,hz⟩:=I.tuple hq
  obtain⟨f0,f1,f2,f3,f4,f5⟩:=hf it (by simp)
  have hl:=rv.length
  exact wpAny_pyNext_tuple_end (I.ok.hd hc) st (show s.heap.IsTuple a its.toArray from p) (by simp;omega) λ h' eb=>⟨rfl,I.turned (t':=s.toks) (λ b o hb e=>eb b o hb e) f0 f1 f3 f4 f5⟩
 self:=λ _ _ _ _ _ st h=>wpAny_pyIter_tupleiter st h
theorem Ds{P:Program}{w:World}(it:Addr)(lo:Int)(n:Nat):Turn P w K tg (Itr lo n) [it] it (λ i h=>IsRangeIter h it (lo+(i:Nat)*1) ((n:Int)-(i:Nat)) 1) where
 mem:=by simp
 obj:=λ i h st b hb=>by
  have e:b=it:=by simpa using hb
  subst e
  exact⟨_,st,λ v z=>by
   have z':Data.fields _=Data.cell v:=z
   cases z'⟩
 keep:=λ i h h' st k=>k it (by simp) _ st
 item:=by
  intro X hP hw hK hc i pins s σ H E I hf st hg
  subst hP hw hK
  obtain⟨f0,f1,f2,f3,f4,f5⟩:=hf it (by simp)
  have W:=Walks.range (prog:=X.prog) (w:=X.w) (I.ok.hd hc) it lo 1 n
  refine W.item i s _ _ hg st λ v h' tk hv st' kk=>?_
  obtain⟨t,rfl⟩:=hv
  have I1:Inv X pins σ H {s with heap:=h',toks:=tk}:=I.turned (λ b o hb e=>kk b o (by simpa using hb) e) f0 f1 f3 f4 f5
  refine⟨_,rfl,wV (s:={s with heap:=h',toks:=tk}) (n:="range_iterator") st' rfl rfl (by decide) ⟨.int (lo+i),H,I1,⟨t,?_⟩,⟨rfl,rfl⟩,st',λ b hb=>(hf b hb).1⟩⟩
  rw[Int.mul_one]
 done:=by
  intro X hP hw hK hc i pins s σ H E I hf st hg
  subst hP hw hK
  obtain⟨f0,f1,f2,f3,f4,f5⟩:=hf it (by simp)
  exact wpAny_pyNext_range_end (I.ok.hd hc) st (by have:n≤i:=hg;omega) λ h' eb=>⟨rfl,I.turned (t':=s.toks) (λ b o hb e=>eb b o hb e) f0 f1 f3 f4 f5⟩
 self:=λ _ _ _ _ _ st h=>wpAny_pyIter_rangeiter st h
end L2
namespace L2
open PySem PySem.Spec PyProof.Rows
section
variable {X : Cx} {tg : Expr}
theorem xR{pins:List (Addr×Obj)}{σ:St}{H:Hp}{s:Shared}{R:It->Hp->Prop}{E:Value->Shared->Prop}{lo hi:Int}{t u v:Tok}{tk:Nat}(I:Inv X pins σ H s)(h1: -(2 ^ 62)≤lo)(h2:lo<2 ^ 62)(h3: -(2 ^ 62)≤hi)(h4:hi<2 ^ 62)
 (q:R (Itr lo (hi-lo).toNat) H):wpAny (model X.prog X.w) X.A (pyIter (.ref s.heap.objs.size)) (PIE X pins σ tg R) E {s with heap:=s.heap.push {cls:=.type "range",data:=.fields #[.int lo t,.int hi u,.int 1 v]},toks:=tk}:=by
 refine wpAny_pyIter_range (IsRange.new ..) (small_one h1 h2 h3 h4) ?_
 have I1:Inv X pins σ H {s with heap:=s.heap.push {cls:=.type "range",data:=.fields #[.int lo t,.int hi u,.int 1 v]},toks:=tk}:=I.kept λ b o e=>Heap.get?_push_of_some _ e
 refine⟨(s.heap.push {cls:=.type "range",data:=.fields #[.int lo t,.int hi u,.int 1 v]}).objs.size,[(s.heap.push {cls:=.type "range",data:=.fields #[.int lo t,.int hi u,.int 1 v]}).objs.size],_,_,H,rfl,
  I1.kept (t':=tk) λ b o e=>Heap.get?_push_of_some _ e,Ds _ lo (hi-lo).toNat,?_,λ b hb=>?_,q⟩
 . have e1:lo+((0:Nat):Int)*1=lo:=by simp
   have e2:(((hi-lo).toNat:Nat):Int)-((0:Nat):Int)=Builtin.Range.rangeSize lo hi 1:=by rw[rangeSize_one];split<;>omega
   show IsRangeIter _ _ (lo+((0:Nat):Int)*1) ((((hi-lo).toNat:Nat):Int)-((0:Nat):Int)) 1
   rw[e1,e2]
   exact Heap.get?_push_size _ rfl
 . have e:b=(s.heap.push {cls:=.type "range",data:=.fields #[.int lo t,.int hi u,.int 1 v]}).objs.size:=by simpa using hb
   subst e
   exact I1.fpOk (x8 _) (I1.hok.fresh (x8 _))
def Va(ta:TA):TI:=λ σ H R=>ta σ H λ vs H1=>∃j:Int,vs=[.int j]/\ -(2 ^ 62)≤j/\j<2 ^ 62/\R (Itr 0 j.toNat) H1
def U9(ta:TA):TI:=λ σ H R=>ta σ H λ vs H1=>∃i j:Int,vs=[.int i,.int j]/\(-(2 ^ 62)≤i/\i<2 ^ 62/\ -(2 ^ 62)≤j/\j<2 ^ 62)/\R (Itr i (j-i).toNat) H1
theorem FQ{a:Expr}{ta:TA}{p pos:Pos}(hg:Gl X "range")(hm:X.mg "range"=none)(ha:PA X [a] ta)(hs:starEach [a] X.env=[(false,eval a X.env)]:=by rfl):PI X tg (.Call (.Name "range" p) [a] [] pos) (Va ta):=by
 intro pins s σ H R I h
 refine Call_ (cZ I hg hm boot_range (PyProof.Rows.callWith_type1 (thn (ha pos pins s σ H _ I h) λ us s1 ⟨vs,H1,I1,r1,q1⟩=>?_) hs rfl))
 obtain⟨j,e,q1,q2,q⟩:=q1
 subst e
 cases r1 with
 | cons r rr=>
   cases rr
   obtain⟨t,rfl⟩:=r
   exact call_range_1 (xR I1 (by omega) (by omega) q1 q2 (by simpa using q))
theorem HY{a b:Expr}{ta:TA}{p pos:Pos}(hg:Gl X "range")(hm:X.mg "range"=none)(ha:PA X [a,b] ta)(hs:starEach [a,b] X.env=[(false,eval a X.env),(false,eval b X.env)]:=by rfl)(hs2:starEach [b] X.env=[(false,eval b X.env)]:=by rfl):
 PI X tg (.Call (.Name "range" p) [a,b] [] pos) (U9 ta):=by
 intro pins s σ H R I h
 refine Call_ (cZ I hg hm boot_range (PyProof.Rows.callWith_type1 (thn (ha pos pins s σ H _ I h) λ us s1 ⟨vs,H1,I1,r1,q1⟩=>?_) (by rw[hs,hs2]) (by rw[hs2];rfl)))
 obtain⟨i,j,e,⟨q1,q2,q3,q4⟩,q⟩:=q1
 subst e
 cases r1 with
 | cons r rr=>
   cases rr with
   | cons r' rr=>
     cases rr
     obtain⟨t,rfl⟩:=r
     obtain⟨t',rfl⟩:=r'
     exact call_range_2 (xR I1 q1 q2 q3 q4 q)
def V2(wi:TI)(g:TG)(tb:TS):TS:=λ D σ H=>wi σ H λ J H1=>∃W:Nat->Nat->St->Hp->Prop,(∃m,W 0 m σ H1)/\∀i m σ H,W i m σ H->
 (J.stop i H/\D.nx σ H)∨(J.go i H/\∃N:St->Hp->Prop,(∀σ' H',N σ' H'->∃m',m'<m/\W (i+1) m' σ' H')/\∀x H',J.yld i H x H'->g x σ H' λ σ2 H2=>tb {D with nx:=N,ct:=N,bk:=D.nx} σ2 H2)
def jN(fp:List Addr)(h:Heap):List (Addr×Obj):=fp.filterMap λ b=>(h.get? b).map λ o=>(b,o)
theorem cP{fp:List Addr}{h:Heap}{b:Addr}{o:Obj}(hb:b∈fp)(e:h.get? b=some o):(b,o)∈jN fp h:=List.mem_filterMap.mpr ⟨b,hb,by rw[e];rfl⟩
theorem HX{fp:List Addr}{h:Heap}{p:Addr×Obj}(hp:p∈jN fp h):p.1∈fp/\h.get? p.1=some p.2:=by
 obtain⟨b,hb,e⟩:=List.mem_filterMap.mp hp
 cases q:h.get? b with
 | none=>rw[q]at e;cases e
 | some o=>
   rw[q]at e
   have e':(b,o)=p:=Option.some.inj e
   subst e'
   exact⟨hb,q⟩
theorem Inv.pinned{pins:List (Addr×Obj)}{σ:St}{H:Hp}{s:Shared}{fp:List Addr}(I:Inv X pins σ H s)(hf:∀b∈fp,cW X pins H b)(ho:∀b∈fp,∃o,s.heap.get? b=some o/\∀v,o.data≠.cell v):Inv X (pins++jN fp s.heap) σ H s:=
 I.pins_of λ p hp=>(List.mem_append.mp hp).elim (λ z=>I.pin p (List.mem_append_right _ z)) λ z=>by
  obtain⟨hb,e⟩:=HX z
  obtain⟨f0,f1,f2,_⟩:=hf p.1 hb
  obtain⟨o,e',d⟩:=ho p.1 hb
  rw[e]at e';cases e'
  exact⟨e,f0,f1,f2,d⟩
theorem Inv.unpinned{pins pl:List (Addr×Obj)}{σ:St}{H:Hp}{s:Shared}(I:Inv X (pins++pl) σ H s):Inv X pins σ H s:=I.pins_of λ p hp=>I.pin p (List.mem_append_right _ (List.mem_append_left _ hp))
theorem zx{iter:Expr}{body:List Stmt}{wi:TI}{g:TG}{tb:TS}{pos:Pos}(hp:PassesOwn (model X.prog X.w) X.A X.env X.xe)(hc:X.calm=true)(hi:PI X tg iter wi)(hg:PG X tg g)(hb:PSs X body tb)
 (hs:∀x,foldedSetIterable iter X.env x=pure x:=by intro _;rfl):PS X (.For tg iter body [] pos) (V2 wi g tb):=by
 intro pins s σ H D I h
 refine wpAny_For (thn (hi pins s σ H _ I h) λ v s1 h1=>thn h1 λ itv s2 h2=>?_) hs
 obtain⟨it,fp,tn,J,H2,e,I2,T,st2,f2,W,⟨m0,w0⟩,turn⟩:=h2
 subst e
 have stat:∀{H':Hp},(∀b∈fp,H' b=none)->∀b∈fp,cW X pins H' b:=λ hn b hb=>⟨hn b hb,(f2 b hb).2⟩
 refine codeAny_forLoop_any (λ n s'=>∃i σ' H',Inv X pins σ' H' s'/\tn i s'.heap/\(∀b∈fp,H' b=none)/\W i n σ' H') ?_ m0 ⟨0,σ,H2,I2,st2,λ b hb=>(f2 b hb).1,w0⟩
 rintro n s3 ⟨i,σ3,H3,I3,st3,fr3,w3⟩
 rcases turn i n σ3 H3 w3 with⟨stop,qn⟩ | ⟨go,N,hN,step⟩
 . refine wpAny_passesOwn hp (thn (T.done X rfl rfl rfl hc i pins s3 σ3 H3 X.xe I3 (stat fr3) st3 stop) λ r s4 ⟨hr,I4⟩=>?_)
   subst hr
   exact wpAny_execs_nil ⟨σ3,H3,I4,qn⟩
 . refine wpAny_passesOwn hp (thn (T.item X rfl rfl rfl hc i pins s3 σ3 H3 X.xe I3 (stat fr3) st3 go) λ r s4 ⟨u,hr,h4⟩=>?_)
   subst hr
   refine wpAny_passesOwn hp (thn h4 λ _ s5 ⟨x,H5,I5,r5,y5,st5,fr5⟩=>?_)
   have I5':=I5.pinned (stat fr5) (T.obj _ _ st5)
   refine wpAny_passesOwn hp (thn (hg _ s5 σ3 H5 x u _ I5' r5 (step x H5 y5)) λ _ s6 ⟨σ6,H6,I6,q6⟩=>?_)
   refine wpAny_passesOwn hp (thn (hb _ s6 σ6 H6 _ I6 q6) λ f s7 q7=>?_)
   have again:∀{σ7:St}{H7:Hp},Inv X (pins++jN fp s5.heap) σ7 H7 s7->N σ7 H7->∃m,m<n/\∃i σ' H',Inv X pins σ' H' s7/\tn i s7.heap/\(∀b∈fp,H' b=none)/\W i m σ' H':=λ{σ7 H7} I7 n7=>by
    obtain⟨m',hm,w7⟩:=hN σ7 H7 n7
    refine⟨m',hm,i+1,σ7,H7,I7.unpinned,T.keep _ _ _ st5 λ b hb o e=>(I7.pin (b,o) (List.mem_append_right _ (List.mem_append_right _ (cP hb e)))).1,λ b hb=>?_,w7⟩
    obtain⟨o,e,d⟩:=T.obj _ _ st5 b hb
    exact(I7.pin (b,o) (List.mem_append_right _ (List.mem_append_right _ (cP hb e)))).2.1
   cases f with
   | next=>obtain⟨σ7,H7,I7,n7⟩:=q7;exact again I7 n7
   | cont=>obtain⟨σ7,H7,I7,n7⟩:=q7;exact again I7 n7
   | brk=>obtain⟨σ7,H7,I7,q7⟩:=q7;exact⟨σ7,H7,I7.unpinned,q7⟩
   | ret v=>obtain⟨x7,σ7,H7,I7,r7,q7⟩:=q7;exact⟨x7,σ7,H7,I7.unpinned,r7,q7⟩
end
abbrev R2:=V->V->Hp->VK->Prop
def OpR(X:Cx)(f:Value->Value->Sem Value)(r:R2):Prop:=
 ∀ (pins:List (Addr×Obj))(s:Shared)(σ:St)(H:Hp)(x y:V)(v u:Value)(Q:VK),Inv X pins σ H s->RelV x v->RelV y u->r x y H Q->
   wpAny (model X.prog X.w) X.A (f v u) (EP X pins σ Q) X.xe s
def UnR(X:Cx)(f:Value->Sem Value)(r:V->Hp->VK->Prop):Prop:=
 ∀ (pins:List (Addr×Obj))(s:Shared)(σ:St)(H:Hp)(x:V)(v:Value)(Q:VK),Inv X pins σ H s->RelV x v->r x H Q->
   wpAny (model X.prog X.w) X.A (f v) (EP X pins σ Q) X.xe s
def cN(X:Cx)(f:Value)(r:List V->Hp->VK->Prop):Prop:=
 ∀ (pins:List (Addr×Obj))(s:Shared)(σ:St)(H:Hp)(xs:List V)(us:List Value)(Q:VK),Inv X pins σ H s->Vals xs us->r xs H Q->
   wpAny (model X.prog X.w) X.A (call f us) (EP X pins σ Q) X.xe s
def tOp(r:R2)(ta tb:TE):TE:=λ σ H Q=>ta σ H λ x H1=>tb σ H1 λ y H2=>r x y H2 Q
def rI(C:Int->Int->Prop)(g:Int->Int->V):R2:=λ x y H Q=>∃i j,x=.int i/\y=.int j/\C i j/\Q (g i j) H
def rI0(g:Int->Int->V):R2:=λ x y H Q=>∃i j,x=.int i/\y=.int j/\Q (g i j) H
def rU(g:Int->V):V->Hp->VK->Prop:=λ x H Q=>∃i,x=.int i/\Q (g i) H
section
variable {X : Cx} {a b c : Expr} {ta tb tc : TE} {pos : Pos}
theorem VB(ha:PE X a ta)(hb:PE X b tb){pins:List (Addr×Obj)}{s:Shared}{σ:St}{H:Hp}{R:V->V->Hp->Prop}(I:Inv X pins σ H s)
 (h:ta σ H λ x H1=>tb σ H1 λ y H2=>R x y H2){Q:Value->Shared->Prop}{f:Value->Value->Sem Value}
 (hf:∀v u s2 x y H2,Inv X pins σ H2 s2->RelV x v->RelV y u->R x y H2->wpAny (model X.prog X.w) X.A (f v u) Q X.xe s2):
 wpAny (model X.prog X.w) X.A (eval a X.env) (λ v s₁=>wpAny (model X.prog X.w) X.A (eval b X.env) (λ u s₂=>wpAny (model X.prog X.w) X.A (f v u) Q X.xe s₂) X.xe s₁) X.xe s:=by
 refine thn (ha pins s σ H _ I h) λ v s1 ⟨x,H1,I1,r1,q1⟩=>?_
 refine thn (hb pins s1 σ H1 _ I1 q1) λ u s2 ⟨y,H2,I2,r2,q2⟩=>?_
 exact hf v u s2 x y H2 I2 r1 r2 q2
theorem opI{f:Value->Value->Sem Value}{C:Int->Int->Prop}{g:Int->Int->Int}
 (rule:∀(i j:Int)(t u:Tok)(s:Shared)(Q:Value->Shared->Prop)(E:Value->Shared->Prop),C i j->Q (.int (g i j) s.toks) {s with toks:=s.toks+1}->wpAny (model X.prog X.w) X.A (f (.int i t) (.int j u)) Q E s):
 OpR X f (rI C λ i j=>.int (g i j)):=by
 intro pins s σ H x y v u Q I rx ry h
 obtain⟨i,j,rfl,rfl,hc,q⟩:=h
 obtain⟨t,rfl⟩:=rx
 obtain⟨t',rfl⟩:=ry
 exact rule i j t t' s _ _ hc ⟨.int (g i j),H,I.tok _,⟨_,rfl⟩,q⟩
theorem Tv{f:Value->Value->Sem Value}{g:Int->Int->Int}
 (rule:∀(i j:Int)(t u:Tok)(s:Shared)(Q:Value->Shared->Prop)(E:Value->Shared->Prop),Q (.int (g i j) s.toks) {s with toks:=s.toks+1}->wpAny (model X.prog X.w) X.A (f (.int i t) (.int j u)) Q E s):
 OpR X f (rI0 λ i j=>.int (g i j)):=by
 intro pins s σ H x y v u Q I rx ry h
 obtain⟨i,j,rfl,rfl,q⟩:=h
 obtain⟨t,rfl⟩:=rx
 obtain⟨t',rfl⟩:=ry
 exact rule i j t t' s _ _ ⟨.int (g i j),H,I.tok _,⟨_,rfl⟩,q⟩
theorem El{f:Value->Value->Sem Value}{g:Int->Int->Bool}
 (rule:∀(i j:Int)(t u:Tok)(s:Shared)(Q:Value->Shared->Prop)(E:Value->Shared->Prop),Q (.bool (g i j)) s->wpAny (model X.prog X.w) X.A (f (.int i t) (.int j u)) Q E s):
 OpR X f (rI0 λ i j=>.bl (g i j)):=by
 intro pins s σ H x y v u Q I rx ry h
 obtain⟨i,j,rfl,rfl,q⟩:=h
 obtain⟨t,rfl⟩:=rx
 obtain⟨t',rfl⟩:=ry
 exact rule i j t t' s _ _ ⟨.bl (g i j),H,I,rfl,q⟩
def Wg(i j:Int):Prop:=0<j/\j<1073741824
def CPow(i j:Int):Prop:=0≤j/\j≤1000000/\i.natAbs<2 ^ 64
def xT(i j:Int):Prop:=(-(2 ^ 64)<i/\i<2 ^ 64)∨(-(2 ^ 64)<j/\j<2 ^ 64)
theorem xT.ok{i j:Int}(h:xT i j):IntMulOk i j:=by
 rcases h with⟨h1,h2⟩ | ⟨h1,h2⟩
 . exact .of_left (intBits_le_64 h1 h2)
 . exact .of_right (intBits_le_64 h1 h2)
theorem Qj:OpR X (binaryOp .Add) (rI0 λ i j=>.int (i+j)):=Tv λ _ _ _ _ _ _ _ q=>add_int q
theorem QM:OpR X (binaryOp .Sub) (rI0 λ i j=>.int (i-j)):=Tv λ _ _ _ _ _ _ _ q=>sub_int q
theorem Q4:OpR X (binaryOp .Mult) (rI xT λ i j=>.int (i*j)):=opI λ _ _ _ _ _ _ _ hc q=>mul_int q hc.ok
theorem Mi:OpR X (binaryOp .FloorDiv) (rI Wg λ i j=>.int (i/j)):=opI λ i j _ _ _ _ _ hc q=>by
 have h1:(0:Int)<j:=hc.1
 have h2:j<1073741824:=hc.2
 exact floordiv_int (by omega) (by rw[Int.fdiv_eq_ediv_of_nonneg i (by omega)];exact q) (.inl (PyProof.noPylong_small (by omega)))
theorem Ql:OpR X (binaryOp .Mod) (rI (λ _ j=>0<j) λ i j=>.int (i % j)):=opI λ i j _ _ _ _ _ hc q=>by
 have h1:(0:Int)<j:=hc
 exact mod_int' (by omega) (by rw[Int.fmod_eq_emod_of_nonneg i (by omega)];exact q)
theorem RZ:OpR X (binaryOp .Pow) (rI CPow λ i j=>.int (i ^ j.toNat)):=opI λ _ _ _ _ _ _ _ hc q=>pow_int_small hc.1 hc.2.1 hc.2.2 q
theorem unI{f:Value->Sem Value}{g:Int->Int}
 (rule:∀(i:Int)(t:Tok)(s:Shared)(Q:Value->Shared->Prop)(E:Value->Shared->Prop),Q (.int (g i) s.toks) {s with toks:=s.toks+1}->wpAny (model X.prog X.w) X.A (f (.int i t)) Q E s):
 UnR X f (rU λ i=>.int (g i)):=by
 intro pins s σ H x v Q I rx h
 obtain⟨i,rfl,q⟩:=h
 obtain⟨t,rfl⟩:=rx
 exact rule i t s _ _ ⟨.int (g i),H,I.tok _,⟨_,rfl⟩,q⟩
theorem Sy:UnR X (unaryOp .USub) (rU λ i=>.int (-i)):=unI λ _ _ _ _ _ q=>neg_int q
end
def Tu:V->V->Bool
 | .non,.non=>true | .non,.int _=>true | .int _,.non=>true | .non,.bl _=>true | .bl _,.non=>true | .non,.str _=>true | .str _,.non=>true
 | .int _,.int _=>true | .bl _,.bl _=>true | .str _,.str _=>true | .byt _,.byt _=>true
 | .int _,.str _=>true | .str _,.int _=>true | .bl _,.str _=>true | .str _,.bl _=>true
 | _,_=>false
def rEq:R2:=λ x y H Q=>Tu x y=true/\Q (.bl (decide (x=y))) H
def rNe:R2:=λ x y H Q=>Tu x y=true/\Q (.bl (!decide (x=y))) H
theorem nC{i j:Int}:decide (V.int i=V.int j)=(i==j):=by
 rw[Bool.eq_iff_iff]
 simp
theorem mG{i j:Bool}:decide (V.bl i=V.bl j)=(i==j):=by
 rw[Bool.eq_iff_iff]
 simp
theorem Cj{i j:Str}:decide (V.str i=V.str j)=(i==j):=by
 rw[Bool.eq_iff_iff]
 simp
theorem CT{i j:Array UInt8}:decide (V.byt i=V.byt j)=(i.toList==j.toList):=by
 rw[Bool.eq_iff_iff]
 cases i
 cases j
 simp
section
variable {X : Cx} {a b c : Expr} {ta tb tc : TE} {pos : Pos}
theorem aF{pins:List (Addr×Obj)}{σ:St}{H:Hp}{s:Shared}{Q:VK}{k k':Bool}(I:Inv X pins σ H s)(q:Q (.bl k) H)(e:k=k'):EP X pins σ Q (.bool k') s:=by
 subst e
 exact⟨.bl k,H,I,rfl,q⟩
theorem Ei:OpR X (compareOp .Eq) rEq:=by
 intro pins s σ H x y v u Q I rx ry h
 obtain⟨hs,q⟩:=h
 cases x with
 | non=>
   cases rx
   cases y with
   | non=>cases ry;exact PySem.EqNone.eq_none_none (aF I q (by simp))
   | bl j=>cases ry;exact PySem.EqNone.eq_none_bool (aF I q (by simp))
   | int j=>obtain⟨t',rfl⟩:=ry;exact PySem.EqNone.eq_none_int (aF I q (by simp))
   | str j=>obtain⟨t',rfl⟩:=ry;exact PySem.EqNone.eq_none_str (aF I q (by simp))
   | _=>exact absurd (show false=true from hs) y9
 | bl i=>
   cases rx
   cases y with
   | non=>cases ry;exact PySem.EqNone.eq_bool_none (aF I q (by simp))
   | bl j=>cases ry;exact eq_bool (aF I q mG)
   | str j=>obtain⟨t',rfl⟩:=ry;exact PySem.EqMixed.eq_bool_str (aF I q (by simp))
   | _=>exact absurd (show false=true from hs) y9
 | int i=>
   obtain⟨t,rfl⟩:=rx
   cases y with
   | non=>cases ry;exact PySem.EqNone.eq_int_none (aF I q (by simp))
   | int j=>obtain⟨t',rfl⟩:=ry;exact eq_int (aF I q nC)
   | str j=>obtain⟨t',rfl⟩:=ry;exact PySem.EqMixed.eq_int_str (aF I q (by simp))
   | _=>exact absurd (show false=true from hs) y9
 | str i=>
   obtain⟨t,rfl⟩:=rx
   cases y with
   | non=>cases ry;exact PySem.EqNone.eq_str_none (aF I q (by simp))
   | bl j=>cases ry;exact PySem.EqMixed.eq_str_bool (aF I q (by simp))
   | int j=>obtain⟨t',rfl⟩:=ry;exact PySem.EqMixed.eq_str_int (aF I q (by simp))
   | str j=>obtain⟨t',rfl⟩:=ry;exact eq_str (aF I q Cj)
   | _=>exact absurd (show false=true from hs) y9
 | byt i=>
   obtain⟨t,rfl⟩:=rx
   cases y with
   | byt j=>obtain⟨t',rfl⟩:=ry;exact PySem.W.eq_bytes (aF I q CT)
   | _=>exact absurd (show false=true from hs) y9
 | _=>cases y<;>exact absurd (show false=true from hs) y9
theorem Lr:OpR X (compareOp .NotEq) rNe:=by
 intro pins s σ H x y v u Q I rx ry h
 obtain⟨hs,q⟩:=h
 cases x with
 | non=>
   cases rx
   cases y with
   | non=>cases ry;exact PySem.EqNone.ne_none_none (aF I q (by simp))
   | bl j=>cases ry;exact PySem.EqNone.ne_none_bool (aF I q (by simp))
   | int j=>obtain⟨t',rfl⟩:=ry;exact PySem.EqNone.ne_none_int (aF I q (by simp))
   | str j=>obtain⟨t',rfl⟩:=ry;exact PySem.EqNone.ne_none_str (aF I q (by simp))
   | _=>exact absurd (show false=true from hs) y9
 | bl i=>
   cases rx
   cases y with
   | non=>cases ry;exact PySem.EqNone.ne_bool_none (aF I q (by simp))
   | bl j=>cases ry;exact ne_bool (aF I q (congrArg not mG))
   | str j=>obtain⟨t',rfl⟩:=ry;exact PySem.EqMixed.ne_bool_str (aF I q (by simp))
   | _=>exact absurd (show false=true from hs) y9
 | int i=>
   obtain⟨t,rfl⟩:=rx
   cases y with
   | non=>cases ry;exact PySem.EqNone.ne_int_none (aF I q (by simp))
   | int j=>obtain⟨t',rfl⟩:=ry;exact ne_int (aF I q (congrArg not nC))
   | str j=>obtain⟨t',rfl⟩:=ry;exact PySem.EqMixed.ne_int_str (aF I q (by simp))
   | _=>exact absurd (show false=true from hs) y9
 | str i=>
   obtain⟨t,rfl⟩:=rx
   cases y with
   | non=>cases ry;exact PySem.EqNone.ne_str_none (aF I q (by simp))
   | bl j=>cases ry;exact PySem.EqMixed.ne_str_bool (aF I q (by simp))
   | int j=>obtain⟨t',rfl⟩:=ry;exact PySem.EqMixed.ne_str_int (aF I q (by simp))
   | str j=>obtain⟨t',rfl⟩:=ry;exact ne_str (aF I q (congrArg not Cj))
   | _=>exact absurd (show false=true from hs) y9
 | byt i=>
   obtain⟨t,rfl⟩:=rx
   cases y with
   | byt j=>obtain⟨t',rfl⟩:=ry;exact PySem.W.ne_bytes (aF I q (congrArg not CT))
   | _=>exact absurd (show false=true from hs) y9
 | _=>cases y<;>exact absurd (show false=true from hs) y9
theorem UJ:OpR X (compareOp .Lt) (rI0 λ i j=>.bl (decide (i<j))):=El λ _ _ _ _ _ _ _ q=>lt_int q
theorem Ug:OpR X (compareOp .LtE) (rI0 λ i j=>.bl (decide (i≤j))):=El λ _ _ _ _ _ _ _ q=>le_int q
theorem Vo:OpR X (compareOp .Gt) (rI0 λ i j=>.bl (decide (j<i))):=El λ _ _ _ _ _ _ _ q=>gt_int q
theorem Vt:OpR X (compareOp .GtE) (rI0 λ i j=>.bl (decide (j≤i))):=El λ _ _ _ _ _ _ _ q=>ge_int q
theorem Ri:OpR X (compareOp .Is) (λ x y H Q=>y=.non/\Q (.bl (decide (x=.non))) H):=by
 intro pins s σ H x y v u Q I rx ry h
 obtain⟨rfl,q⟩:=h
 cases ry
 refine is_none_gen (aF I q ?_)
 cases x<;>first
  | (cases rx;rfl)
  | (obtain⟨t,rfl⟩:=rx;rfl)
theorem Oj:OpR X (compareOp .IsNot) (λ x y H Q=>y=.non/\Q (.bl (!decide (x=.non))) H):=by
 intro pins s σ H x y v u Q I rx ry h
 obtain⟨rfl,q⟩:=h
 cases ry
 refine isnot_none_gen (aF I q ?_)
 cases x<;>first
  | (cases rx;rfl)
  | (obtain⟨t,rfl⟩:=rx;rfl)
theorem Fo{xs:List V}{its:List Value}(r:Vals xs its):(!its.toArray.isEmpty)= !xs.isEmpty:=by
 cases r<;>simp
theorem my:(sizeLine:Nat)<2 ^ 63:=by rw[sizeLine_eq];decide
theorem Dw:OpR X (binaryOp .Add) (λ x y H Q=>∃i j,x=.str i/\y=.str j/\i.length+j.length≤sizeLine/\Q (.str (i++j)) H):=by
 intro pins s σ H x y v u Q I rx ry h
 obtain⟨i,j,rfl,rfl,hz,q⟩:=h
 obtain⟨t,rfl⟩:=rx
 obtain⟨t',rfl⟩:=ry
 exact add_str (λ t' tk=>⟨.str (i++j),H,I.tok _,⟨_,rfl⟩,q⟩) hz
theorem vals1{x:V}{us:List Value}(r:Vals [x] us):∃u,us=[u]/\RelV x u:=by
 cases r with
 | cons r1 r2=>cases r2;exact⟨_,rfl,r1⟩
theorem vals2{x y:V}{us:List Value}(r:Vals [x,y] us):∃u w',us=[u,w']/\RelV x u/\RelV y w':=by
 cases r with
 | cons r1 r2=>
   cases r2 with
   | cons r3 r4=>cases r4;exact⟨_,_,rfl,r1,r3⟩
theorem Kl:cN X (.builtin "abs") (λ xs H Q=>∃i,xs=[.int i]/\Q (.int (if i<0 then-i else i)) H):=by
 intro pins s σ H xs us Q I r h
 obtain⟨i,rfl,q⟩:=h
 obtain⟨u,rfl,t,rfl⟩:=vals1 r
 exact call_abs_int λ u tk=>⟨.int (if i<0 then-i else i),H,I.tok _,⟨_,rfl⟩,q⟩
theorem Gq:cN X (.type "int") (λ xs H Q=>(∃i,xs=[.int i]/\Q (.int i) H)∨∃k,xs=[.bl k]/\Q (.int (if k then 1 else 0)) H):=by
 intro pins s σ H xs us Q I r h
 rcases h with⟨i,rfl,q⟩ | ⟨k,rfl,q⟩
 . obtain⟨u,rfl,t,rfl⟩:=vals1 r
   exact call_int_int ⟨.int i,H,I,⟨_,rfl⟩,q⟩
 . obtain⟨u,rfl,r1⟩:=vals1 r
   cases r1
   exact call_int_bool ⟨.int (if k then 1 else 0),H,I.tok _,⟨_,rfl⟩,q⟩
theorem yw:cN X (.type "str") (λ xs H Q=>∃i,xs=[.int i]/\i.natAbs.log2<1920/\Q (.str (toString i)) H):=by
 intro pins s σ H xs us Q I r h
 obtain⟨i,rfl,hz,q⟩:=h
 obtain⟨u,rfl,t,rfl⟩:=vals1 r
 exact PySem.P.str_of_int hz ⟨.str _,H,I.tok _,⟨_,rfl⟩,q⟩
end
structure Room(k:Nat)(A:Around):Prop where
 hd:A.handled=none
 dp:A.depth+3*k+5<recursionLimit
 un:A.units+16*k+200<cLine
theorem Room.mono{j k:Nat}{A:Around}(r:Room k A)(h:j≤k):Room j A:=⟨r.hd,by have:=r.dp;omega,by have:=r.un;omega⟩
theorem Room.deeper{k:Nat}{A:Around}(r:Room (k+1) A)(env:Env):Room k (A.deeper env):=
 ⟨r.hd,by have:=r.dp;show A.depth+1+3*k+5<_;omega,by have:=r.un;show A.units+3+16*k+200<_;omega⟩
theorem Room.depth{k:Nat}{A:Around}(r:Room k A):A.depth<recursionLimit:=by have:=r.dp;omega
def Vw:TA:=λ _ H Q=>Q [] H
def U3(ta:TE)(tr:TA):TA:=λ σ H Q=>ta σ H λ x H1=>tr σ H1 λ xs H2=>Q (x::xs) H2
section
variable {X : Cx} {e : Expr} {es : List Expr} {te : TE} {t : TA} {pos : Pos}
theorem eE:PA X [] Vw:=λ _ _ _ _ H Q I h=>Calls.spliced_nil ⟨[],H,I,.nil,h⟩
theorem bw(ha:PE X e te)(hr:PA X es t)(hs:starEach (e::es) X.env=(false,eval e X.env)::starEach es X.env:=by rfl):PA X (e::es) (U3 te t):=by
 intro pos pins s σ H Q I h
 rw[hs]
 show wpAny _ _ (spliced ((false,eval e X.env)::backTo pos (starEach es X.env))) _ _ s
 refine Calls.spliced_cons (thn (ha pins s σ H _ I h) λ u s1 ⟨x,H1,I1,r1,q1⟩=>?_)
 exact thn (hr pos pins s1 σ H1 _ I1 q1) λ us s2 ⟨xs,H2,I2,r2,q2⟩=>⟨x::xs,H2,I2,.cons r1 r2,q2⟩
def Wh(t:TA):TE:=λ σ H Q=>t σ H λ xs H1=>xs.length≤sizeLine/\∀p,H1 p=none->Q (.ref p) (upd H1 p (.tup xs))
def Wj(t:TA):TE:=λ σ H Q=>t σ H λ xs H1=>xs.length≤sizeLine/\∀p,H1 p=none->Q (.ref p) (upd H1 p (.lst xs))
theorem QQ{x1}(h:PA X es t):PE X (.Tuple es x1 pos) (Wh t):=by
 intro pins s σ H Q I hq
 refine wpAny_Tuple_spliced (thn (h pos pins s σ H _ I hq) λ us s1 ⟨xs,H1,I1,r,z,q⟩=>⟨by rw[←r.length];exact z,?_⟩)
 have hf:H1 s1.heap.objs.size=none:=I1.hok.fresh (x8 _)
 refine⟨.ref s1.heap.objs.size,upd H1 s1.heap.objs.size (.tup xs),I1.laid (t':=s1.toks) (λ b u e=>Heap.get?_push_of_some _ e) (x8 _) ?_,rfl,q _ hf⟩
 exact⟨z,us,r,⟨_,Heap.get?_push_size _ rfl,rfl,_,rfl⟩⟩
theorem TJ(h:PA X es t):PE X (.List es pos) (Wj t):=by
 intro pins s σ H Q I hq
 refine wpAny_List_spliced (thn (h pos pins s σ H _ I hq) λ us s1 ⟨xs,H1,I1,r,z,q⟩=>⟨by rw[←r.length];exact z,?_⟩)
 have hf:H1 s1.heap.objs.size=none:=I1.hok.fresh (x8 _)
 refine⟨.ref s1.heap.objs.size,upd H1 s1.heap.objs.size (.lst xs),I1.laid (t':=s1.toks) (λ b u e=>Heap.get?_push_of_some _ e) (x8 _) ?_,rfl,q _ hf⟩
 exact⟨z,us,0,r,Heap.get?_push_size _ rfl⟩
end
abbrev Sp:=List V->Hp->VK->XK->Prop
abbrev CXT:=List Env->Hp->Shared->XK->Value->Shared->Prop
structure Env0(P:Program)(w:World)(K:PySem.W.Frag)(mg:Str->Option Value)(base:Heap)(A:Around)(outer:List Env)(s:Shared)(H:Hp):Prop where
 frames:A.frames=some outer
 mod:Mod K mg base
 bs:∀b o,base.get? b=some o->s.heap.get? b=some o/\H b=none
 bsz:base.objs.size≤s.heap.objs.size
 funs:s.heap.FunFrames base outer
 frf:∀b∈frs outer,H b=none
 hok:HOk P w H s.heap
 bare:AllBare s.gens
def CE(outer:List Env)(P:Program)(w:World)(H:Hp)(s:Shared)(Q:VK)(u:Value)(s':Shared):Prop:=
 ∃v H',s'.os=s.os/\AllBare s'.gens/\Un (frs outer) [] H H' s.heap s'.heap/\HOk P w H' s'.heap/\RelV v u/\Q v H'
def CR(CX:CXT)(outer:List Env)(P:Program)(w:World)(H:Hp)(s:Shared)(Q:VK)(E:XK)(r:Result)(s':Shared):Prop:=
 match r with
 | .ok (.ret u)=>CE outer P w H s Q u s'
 | .ok _=>False
 | .error e=>CX outer H s E e s'
structure FnOk(P:Program)(w:World)(K:PySem.W.Frag)(mg:Str->Option Value)(base:Heap)(CX:CXT)(k:Nat)(f:Addr)(fd:FuncData)(ps:List Str)(sp:Sp):Prop where
 len:∀vs H Q E,sp vs H Q E->vs.length=ps.length
 run:∀(A:Around)(outer:List Env)(s:Shared)(H:Hp)(args:Args)(us:List Value)(vs:List V)(Q:VK)(E:XK),Room k A->Env0 P w K mg base A outer s H->BindsTo s fd args (ps.zip us)->Vals vs us->sp vs H Q E->
  codeAny (model P w) A (.call (.ref f) args) (CR CX outer P w H s Q E) s
section
variable {X : Cx} {pins : List (Addr × Obj)} {σ : St} {H : Hp} {s s' : Shared}
theorem Inv.env0(I:Inv X pins σ H s):Env0 X.prog X.w X.K X.mg X.base X.A X.stack s H:=
 ⟨I.ok.frames,I.ok.mod,I.bs,Nat.le_trans I.ok.bsz I.sz,I.stack,I.stkFree,I.hok,I.bare⟩
theorem Inv.after{Q:VK}{u:Value}(I:Inv X pins σ H s)(h:CE X.stack X.prog X.w H s Q u s'):EP X pins σ Q u s':=by
 obtain⟨v,H',os,bare,un,hok,r,q⟩:=h
 obtain⟨hh,g,d,t,os'⟩:=s'
 obtain rfl:os'=s.os:=os
 exact⟨v,H',I.call (h':=hh) (g':=g) (d':=d) (t':=t) (ch:=[]) un hok bare (λ b z=>absurd z (by simp)),r,q⟩
end
def Binds(K:PySem.W.Frag)(fd:FuncData)(ps:List Str)(ds:List Value):Prop:=
 ∀(s:Shared)(us:List Value),K.In s.heap->(us++ds).length=ps.length->BindsTo s fd ⟨us,[]⟩ (ps.zip (us++ds))
theorem Binds.all{K:PySem.W.Frag}{fd:FuncData}{ps:List Str}(h:∀us:List Value,us.length=ps.length->bindArgs fd ⟨us,[]⟩=pure (ps.zip us)):Binds K fd ps []:=λ s us _ hl=>by
 rw[List.append_nil]at hl ⊢
 exact .of_eq (h us hl)
def Ia(CX:CXT)(X:Cx)(E:XK):Prop:=∀(pins:List (Addr×Obj))(σ:St)(H:Hp)(s:Shared)(e:Value)(s':Shared),Inv X pins σ H s->CX X.stack H s E e s'->X.xe e s'
section
variable {X : Cx} {CX : CXT} {k : Nat} {f C : Addr} {fd : FuncData} {ps : List Str} {sp : Sp} {dvs : List V} {ds : List Value} {E : XK} {x m : Str} {p pos apos : Pos} {e o : Expr} {es : List Expr} {ta : TE} {t : TA}
theorem Rh{pins:List (Addr×Obj)}{σ:St}{H:Hp}{s:Shared}{Q:VK}{us:List Value}{vs:List V}(F:FnOk X.prog X.w X.K X.mg X.base CX k f fd ps sp)(hr:Room k X.A)(hb:Binds X.K fd ps ds)(hd:Vals dvs ds)(hx:Ia CX X E)
 (I:Inv X pins σ H s)(r:Vals vs us)(h:sp (vs++dvs) H Q E):wpAny (model X.prog X.w) X.A (call (.ref f) us) (EP X pins σ Q) X.xe s:=by
 have r2:Vals (vs++dvs) (us++ds):=r.append hd
 have hl:(us++ds).length=ps.length:=by rw[←r2.length];exact F.len _ _ _ _ h
 refine wpAny_call (codeAny_mono (F.run X.A X.stack s H ⟨us,[]⟩ (us++ds) (vs++dvs) Q E hr I.env0 (hb s us I.kIn hl) r2 h) λ r s' hq=>?_)
 cases r with
 | error e=>exact hx pins σ H s e s' I hq
 | ok fl=>
   cases fl with
   | ret u=>exact I.after hq
   | next=>exact False.elim hq
   | brk=>exact False.elim hq
   | cont=>exact False.elim hq
end
structure FnScope(N P:List Str)(sc:Scope):Prop where
 kind:sc.kind=.function
 co:sc.isCoroutine=false
 gen:sc.isGenerator=false
 nd:N.Nodup
 pre:N.take P.length=P
 par:∀x∈P,sc.names.lookup x=some .local∨sc.names.lookup x=some .cell
 nofree:∀y∈sc.names,y.2≠.free
theorem uX{kindOf:Str->Option NameKind}{x:Str}:∀{binds:List (Str×Value)}{m:Str->Option Value},(∀v,(x,v)∉binds)->bindL kindOf binds m x=m x
 | [],_,_=>rfl
 | (n,v)::r,m,h=>by
   unfold bindL
   rw[uX λ w hw=>h w (x9 _ hw)]
   split
   . have:x≠n:=by rintro rfl;exact h v v3
     simp[this]
   . rfl
theorem uW{kindOf:Str->Option NameKind}{x:Str}:∀{binds:List (Str×Value)}{m:Str->Option Value},(∀v,(x,v)∉binds)->bindC kindOf binds m x=m x
 | [],_,_=>rfl
 | (n,v)::r,m,h=>by
   unfold bindC
   rw[uW λ w hw=>h w (x9 _ hw)]
   split
   . rfl
   . have:x≠n:=by rintro rfl;exact h v v3
     simp[this]
theorem vd{kindOf:Str->Option NameKind}{x:Str}{v:Value}:∀{P:List Str}{vs:List Value}{i:Nat}{m:Str->Option Value},P.Nodup->P[i]? =some x->vs[i]? =some v->kindOf x=some .local->
 bindL kindOf (P.zip vs) m x=some v
 | [],_,_,_,_,h,_,_=>by simp at h
 | _::_,[],_,_,_,_,h,_=>by simp at h
 | p::P,w::vs,0,m,nd,h1,h2,hk=>by
   simp at h1 h2;subst h1;subst h2
   show bindL kindOf ((p,w)::P.zip vs) m p=_
   unfold bindL
   rw[uX λ v hv=>(List.nodup_cons.mp nd).1 (List.of_mem_zip hv).1,if_pos hk]
   simp
 | p::P,w::vs,i+1,m,nd,h1,h2,hk=>by
   show bindL kindOf ((p,w)::P.zip vs) m x=_
   unfold bindL
   exact vd (i:=i) (List.nodup_cons.mp nd).2 (by simpa using h1) (by simpa using h2) hk
theorem vg{kindOf:Str->Option NameKind}{x:Str}{v:Value}:∀{P:List Str}{vs:List Value}{i:Nat}{m:Str->Option Value},P.Nodup->P[i]? =some x->vs[i]? =some v->kindOf x≠some .local->
 bindC kindOf (P.zip vs) m x=some v
 | [],_,_,_,_,h,_,_=>by simp at h
 | _::_,[],_,_,_,_,h,_=>by simp at h
 | p::P,w::vs,0,m,nd,h1,h2,hk=>by
   simp at h1 h2;subst h1;subst h2
   show bindC kindOf ((p,w)::P.zip vs) m p=_
   unfold bindC
   rw[uW λ v hv=>(List.nodup_cons.mp nd).1 (List.of_mem_zip hv).1,if_neg hk]
   simp
 | p::P,w::vs,i+1,m,nd,h1,h2,hk=>by
   show bindC kindOf ((p,w)::P.zip vs) m x=_
   unfold bindC
   exact vg (i:=i) (List.nodup_cons.mp nd).2 (by simpa using h1) (by simpa using h2) hk
def start(N:List Str)(vs:List V):St:=vs.map some++List.replicate (N.length-vs.length) none
def bY(CX:CXT)(P:Program)(w:World)(K:PySem.W.Frag)(mg:Str->Option Value)(base:Heap)(N:List Str)(qual:Str)(scope:Scope)(f:Addr)(cd:Value)(A:Around)(outer:List Env)(s:Shared)(H:Hp)(E:XK):Cx where
 prog:=P
 w:=w
 K:=K
 mg:=mg
 base:=base
 A:=A.deeper (envOfC qual scope s.heap.objs.size f cd)
 N:=N
 s₀:=s
 H₀:=H
 env:=envOfC qual scope s.heap.objs.size f cd
 outer:=outer
 stack:=envOfC qual scope s.heap.objs.size f cd::outer
 ex:=[]
 calm:=true
 fn:=λ _=>true
 pn:=[]
 xe:=λ e s'=>wpAny (model P w) (A.deeper (envOfC qual scope s.heap.objs.size f cd)) (leaving (envOfC qual scope s.heap.objs.size f cd) e) (λ _ s''=>CX outer H s E e s'') (λ e' s''=>CX outer H s E e' s'') s'
theorem yI{sc:Scope}{n:Nat}{x:Str}(h:sc.names.lookup x=some .cell):∃c,(cellsFrom n sc.names []).lookup x=some c:=by
 have q:=PySem.W.cellsFrom_some sc.names n [] (.inl h)
 exact Option.isSome_iff_exists.mp q
theorem Hf{CX:CXT}{P:Program}{w:World}{K:PySem.W.Frag}{mg:Str->Option Value}{base:Heap}{N ps:List Str}{qual:Str}{scope:Scope}{f:Addr}{cd:Value}{A:Around}{outer:List Env}{s s1:Shared}{H:Hp}{E:XK}{us:List Value}{vs:List V}
 (S:FnScope N ps scope)(hd:A.handled=none)(e0:Env0 P w K mg base A outer s H)(hl:vs.length=ps.length)(r:Vals vs us)
 (x:InCallC s s.heap.objs.size (bindL (envOfC qual scope s.heap.objs.size f cd).kindOf (ps.zip us) λ _=>none) (cellsFrom (s.heap.objs.size+1) scope.names []) (bindC (envOfC qual scope s.heap.objs.size f cd).kindOf (ps.zip us) λ _=>none) s1):
 Inv (bY CX P w K mg base N qual scope f cd A outer s H E) [] (start N vs) H s1:=by
 have hpl:ps.length≤N.length:=by have:=congrArg List.length S.pre;rw[List.length_take]at this;omega
 obtain⟨h1,tk,rfl,hk⟩:=x.done
 have noA:∀b:Addr,b∉(bY CX P w K mg base N qual scope f cd A outer s H E).ex:=λ b z=>absurd (show b∈([]:List Addr)from z) (by simp)
 refine⟨⟨e0.mod,S.kind,rfl,rfl,x8 _,λ y z c h1 h2=>?_,λ y hy=>?_,λ y c _ h=>?_,λ _=>hd,Around.frames_deeper e0.frames,.inr ⟨rfl,rfl⟩,λ b z=>absurd z (noA b),e0.bs,e0.bsz,λ b _ _=>noA b,λ b z=>absurd z (noA b),e0.funs,e0.frf⟩,
  rfl,e0.bare,Un.kept hk,⟨_,x.toInCall.ns,λ i y v h1 h2 h3=>?_⟩,λ y c h=>⟨_,x.cell y c h⟩,e0.hok.fresh (x8 _),λ y c h=>?_,λ p hp=>absurd (show p∈([]:List (Addr×Obj))from hp) (by simp),e0.hok.kept hk,?_⟩
 . exact name_of_addr x.apart (PySem.mem_of_lookup h1) (PySem.mem_of_lookup h2)
 . have hy:scope.names.lookup y=some .cell∨scope.names.lookup y=some .free:=hy
   rcases hy with hy | hy
   . exact yI hy
   . exact absurd rfl (S.nofree _ (PySem.mem_of_lookup hy))
 . exact Nat.le_of_lt (x.above y c (PySem.mem_of_lookup h))
 . have hi:i<vs.length:=by
    unfold start at h2
    by_cases hi:i<vs.length
    . exact hi
    . rw[List.getElem?_append_right (by simpa using hi)]at h2
      rw[List.getElem?_replicate]at h2
      split at h2<;>cases h2
   have ha:vs[i]? =some v:=by
    unfold start at h2
    rw[List.getElem?_append_left (by simpa using hi),x6]at h2
    cases e:vs[i]? with
    | none=>rw[e]at h2;cases h2
    | some a=>rw[e]at h2;cases h2;rfl
   obtain⟨u,hu,rv⟩:=r.get ha
   have hp:ps[i]? =some y:=by
    rw[←S.pre,List.getElem?_take_of_lt (by omega)];exact h1
   have ndP:ps.Nodup:=by rw[←S.pre];exact S.nd.sublist (List.take_sublist _ _)
   refine⟨u,rv,?_⟩
   rcases S.par y (y8 hp)with k | k
   . exact .inl ⟨k,vd ndP hp hu k⟩
   . obtain⟨c,e⟩:=yI (n:=s.heap.objs.size+1) k
     refine .inr ⟨.inl k,c,e,?_⟩
     have q:=x.cell y c e
     rw[vg ndP hp hu (by show scope.names.lookup y≠_;rw[k];decide)]at q
     exact q
 . exact e0.hok.fresh (Nat.le_of_lt (x.above y c (PySem.mem_of_lookup h)))
 . unfold start
   show _=N.length
   rw[List.length_append,x5,List.length_replicate]
   omega
theorem Lj{CX:CXT}{P:Program}{w:World}{K:PySem.W.Frag}{mg:Str->Option Value}{base:Heap}{k:Nat}{f:Addr}{name qual:Str}{params:Arguments}{body:List Stmt}{scope:Scope}{dV kV doc pm cdv ct oc:Value}{an od:Option Addr}
 {osl:Array (Option Value)}{N ps:List Str}{sp:Sp}(lk:K.lookup f=some ⟨oc,od,.func (PySem.W.fnOf name qual params body scope dV kV doc pm an cdv ct),osl⟩)(hcd:PySem.W.codeIn K cdv qual=true)(S:FnScope N ps scope)
 (len:∀vs H Q E,sp vs H Q E->vs.length=ps.length)
 (hbody:∀(A:Around)(outer:List Env)(s:Shared)(H:Hp)(vs:List V)(Q:VK)(E:XK),Room k (A.deeper (envOfC qual scope s.heap.objs.size f cdv))->sp vs H Q E->
  ∃t,PSs (bY CX P w K mg base N qual scope f cdv A outer s H E) body t/\t {nx:=λ _ H'=>Q .non H',rt:=Q} (start N vs) H):
 FnOk P w K mg base CX (k+1) f (PySem.W.fnOf name qual params body scope dV kV doc pm an cdv ct) ps sp:=by
 refine⟨len,λ A outer s H args us vs Q E hr e0 hb r hsp=>?_⟩
 have hl:=len _ _ _ _ hsp
 have KX:K.In s.heap:=e0.mod.kin.keeps λ b o e=>(e0.bs b o e).1
 have lim:s.heap.NoLimit:=e0.mod.nolimit.keeps λ b o e=>(e0.bs b o e).1
 have hkind:∀y∈ps.zip us,scope.names.lookup y.1=some .local∨(scope.names.lookup y.1=some .cell/\((cellsFrom (s.heap.objs.size+1) scope.names []).lookup y.1).isSome=true):=λ⟨n,v⟩ hy=>by
  rcases S.par n (List.of_mem_zip hy).1 with q | q
  . exact .inl q
  . exact .inr ⟨q,PySem.W.cellsFrom_some _ _ _ (.inl q)⟩
 refine codeAny_call_function hr.depth (KX _ _ lk) rfl S.co S.gen rfl (PySem.W.codeRec_of KX hcd) (hb _ _ _ _ ?_)
 refine wpAny_newFunctionEnv_cells S.kind hkind λ env he s1 x=>?_
 subst he
 refine⟨lim.keeps x.toInCall.keep,codeAny_func ?_⟩
 obtain⟨t,ht,hq⟩:=hbody A outer s H vs Q E (hr.deeper _) hsp
 have I:Inv (bY CX P w K mg base N qual scope f cdv A outer s H E) [] (start N vs) H s1:=Hf S hr.hd e0 hl r x
 refine wpAny_mono (ht [] s1 (start N vs) H _ I hq) (λ fl s' hs=>?_) λ e s' hs=>hs
 have fin:∀{σ':St}{H':Hp}{v:V}{u:Value},Inv (bY CX P w K mg base N qual scope f cdv A outer s H E) [] σ' H' s'->RelV v u->Q v H'->CE outer P w H s Q u s':=
  λ{σ' H' v u} J rv q=>⟨v,H',J.os,J.bare,J.base,J.hok,rv,q⟩
 cases fl with
 | ret u=>
   obtain⟨v,σ',H',J,rv,q⟩:=hs
   exact fin J rv q
 | next=>
   obtain⟨σ',H',J,q⟩:=hs
   exact fin (v:=V.non) (u:=Value.none) J rfl q
 | brk=>
   obtain⟨_,_,_,q⟩:=hs
   exact False.elim q
 | cont=>
   obtain⟨_,_,_,q⟩:=hs
   exact False.elim q
section
variable {X : Cx} {x : Str} {p pos : Pos} {e : Expr} {es : List Expr} {t : TA} {id T : String} {r : List V -> Hp -> VK -> Prop}
def tCB(r:List V->Hp->VK->Prop)(t:TA):TE:=λ σ H Q=>t σ H λ vs H1=>r vs H1 Q
theorem j5(hc:cN X (.builtin id) r)(hg:Gl X x)(hm:X.mg x=none)(hv:bootBuiltins x=some (.builtin id))(ha:PA X (e::es) t)(hn:x≠"__name__":=by decide)(hdb:(x==("__debug__":Str))=false:=by decide)
 (he:starEach (e::es) X.env=(false,eval e X.env)::starEach es X.env:=by rfl)(hpl:(backTo pos (starEach es X.env)).any (·.1)=false:=by rfl):PE X (.Call (.Name x p) (e::es) [] pos) (tCB r t):=by
 intro pins s σ H Q I h
 refine wpAny_Call_Name_kw (cZ I hg hm hv ?_ hn hdb)
 exact PyProof.Rows.callWith_builtin1 (thn (ha pos pins s σ H _ I h) λ us s1 ⟨vs,H1,I1,r1,q1⟩=>hc pins s1 σ H1 vs us Q I1 r1 q1) he hpl
theorem Hd(hc:cN X (.type T) r)(hg:Gl X x)(hm:X.mg x=none)(hv:bootBuiltins x=some (.type T))(ha:PA X (e::es) t)(hn:x≠"__name__":=by decide)(hdb:(x==("__debug__":Str))=false:=by decide)
 (he:starEach (e::es) X.env=(false,eval e X.env)::starEach es X.env:=by rfl)(hpl:(backTo pos (starEach es X.env)).any (·.1)=false:=by rfl):PE X (.Call (.Name x p) (e::es) [] pos) (tCB r t):=by
 intro pins s σ H Q I h
 refine wpAny_Call_Name_kw (cZ I hg hm hv ?_ hn hdb)
 exact PyProof.Rows.callWith_type1 (thn (ha pos pins s σ H _ I h) λ us s1 ⟨vs,H1,I1,r1,q1⟩=>hc pins s1 σ H1 vs us Q I1 r1 q1) he hpl
end
end L2
namespace HT
open PySem PyProof.Rows
section
variable {prog : Program} {w : World} {A : Around} {E : Value -> Shared -> Prop} {s : Shared}
theorem cat_tup{t b:Addr}{vs ws:List Value}{Q:Value->Shared->Prop}(ht:IsTup s.heap t vs.toArray)(hb:IsTup s.heap b ws.toArray)(hv:vs≠[])
 (h1:ws=[]->Q (.ref t) s)(h2:ws≠[]->Q (.ref s.heap.objs.size) {s with heap:=s.heap.push {cls:=.type "tuple",data:=.seq (vs++ws).toArray}})
 (hsz:vs.length+ws.length≤sizeLine):wpAny (model prog w) A (binaryOp .Add (.ref t) (.ref b)) Q E s:=by
 obtain⟨⟨cls,dd,data,sl⟩,ho,hc,n,hd⟩:=id ht
 obtain⟨⟨cls2,dd2,data2,sl2⟩,ho2,hc2,n2,hd2⟩:=id hb
 simp only at hc hd hc2 hd2
 subst hc hd hc2 hd2
 have e:vs.toArray++ws.toArray=(vs++ws).toArray:=by simp
 by_cases hw:ws=[]
 . exact concat_meets ⟨_,ho,rfl⟩ ⟨_,ho2,rfl⟩ noFill_tuple_add seq_tuple_add PySem.F.slot_tuple_add PySem.F.entry_tuple_add (PySem.F.args_tuple_add_2 _ _)
    (tuple_addW1 t b vs.toArray ws.toArray n n2 dd dd2 sl sl2 (by simpa using hv) (by simp[hw])) ⟨ho,ho2,h1 hw⟩
 . refine concat_meets ⟨_,ho,rfl⟩ ⟨_,ho2,rfl⟩ noFill_tuple_add seq_tuple_add PySem.F.slot_tuple_add PySem.F.entry_tuple_add (PySem.F.args_tuple_add_2 _ _)
    (tuple_addW2 t b vs.toArray ws.toArray n n2 dd dd2 sl sl2 (by simpa using hv) (by simpa using hw) (by rw[w9,w9];exact hsz)) ⟨ho,ho2,?_⟩
   rw[e]
   exact h2 hw
def sIx(n d:Nat):Option Int->Nat
 | none=>d
 | some v=>if v<0 then(v+(n:Int)).toNat else min v.toNat n
theorem sIx_none(n d:Nat):sIx n d none=d:=rfl
theorem sIx_nat(n d k:Nat):sIx n d (some (k:Int))=min k n:=by
 show(if(k:Int)<0 then((k:Int)+(n:Int)).toNat else min (k:Int).toNat n)=min k n
 rw[if_neg (by omega),Int.toNat_natCast]
theorem Qy(n d:Nat)(hd:d≤n)(o:Option Int):sIx n d o≤n:=by
 cases o with
 | none=>exact hd
 | some v=>
   show(if v<0 then(v+(n:Int)).toNat else min v.toNat n)≤n
   by_cases hv:v<0
   . rw[if_pos hv];omega
   . rw[if_neg hv];exact Nat.min_le_right _ _
theorem Ca(v:Int)(n d:Nat):(if v<0 then max (v+(n:Int)) 0 else min v (n:Int))=((sIx n d (some v):Nat):Int):=by
 show(if v<0 then max (v+(n:Int)) 0 else min v (n:Int))=(((if v<0 then(v+(n:Int)).toNat else min v.toNat n):Nat):Int)
 by_cases hv:v<0
 . simp only[if_pos hv];omega
 . simp only[if_neg hv];omega
theorem Ez(lo hi:Option Int)(n:Nat):Builtin.Slice.sliceAdjust lo hi 1 (n:Int)=(((sIx n 0 lo:Nat):Int),((sIx n n hi:Nat):Int)):=by
 have h1:¬((1:Int)<0):=by omega
 unfold Builtin.Slice.sliceAdjust
 simp only[h1,if_false]
 refine Prod.ext ?_ ?_
 . cases lo with
   | none=>rfl
   | some v=>exact Ca v n 0
 . cases hi with
   | none=>rfl
   | some v=>exact Ca v n n
theorem Er(i j:Nat):Builtin.Slice.slicePlaces (i:Int) (j:Int) 1=j-i:=by
 unfold Builtin.Slice.slicePlaces
 have h1:(1:Int)>0:=by omega
 simp only[h1,if_true,Int.ediv_one]
 split<;>omega
theorem qm{v:Value}{o:Option Int}{Q:Option Int->Shared->Prop}(p:IsPart v o)(h:Q o s):wpAny (model prog w) A (Builtin.Slice.slicePartIndex v) Q E s:=by
 cases p with
 | none=>exact slicePart_none h
 | int i t=>exact slicePart_int h
theorem sliceApplied_gen{sl:Addr}{vl vu:Value}{lo hi:Option Int}{n:Nat}{Q:Int×Int×Nat->Shared->Prop}(hs:s.heap.IsSliceOf sl vl vu .none)(pl:IsPart vl lo)(pu:IsPart vu hi)
 (h:Q (((sIx n 0 lo:Nat):Int),1,sIx n n hi-sIx n 0 lo) s):wpAny (model prog w) A (Builtin.Slice.sliceApplied (.ref sl) (pure (n:Int))) Q E s:=by
 obtain⟨os,hos,hcs,hds⟩:=id hs
 unfold Builtin.Slice.sliceApplied Builtin.Slice.sliceFields
 refine wpAny_bind (wpAny_bind (wpAny_field hos hds (x:=vl) rfl (wpAny_bind (wpAny_field hos hds (x:=vu) rfl (wpAny_bind (wpAny_field hos hds (x:=.none) rfl (wpAny_pure ?_)))))))
 refine wpAny_bind (slicePart_none ?_)
 show wpAny _ _ (if((1:Int)==0)=true then _ else _) _ _ s
 rw[if_neg (by decide)]
 refine wpAny_bind (qm pl (wpAny_bind (qm pu (wpAny_bind (wpAny_pure ?_)))))
 show wpAny _ _ (match Builtin.Slice.sliceAdjust lo hi 1 (n:Int)with | (lo,hi)=>pure (lo,(1:Int),Builtin.Slice.slicePlaces lo hi 1)) _ _ s
 rw[Ez lo hi n]
 show wpAny _ _ (pure (((sIx n 0 lo:Nat):Int),(1:Int),Builtin.Slice.slicePlaces ((sIx n 0 lo:Nat):Int) ((sIx n n hi:Nat):Int) 1)) _ _ s
 rw[Er]
 exact wpAny_pure h
theorem K1(xs:Array Value)(i k:Nat):((List.range k).filterMap λ(m:Nat)=>xs[((i:Int)+(m:Int)*1).toNat]?).toArray=((xs.toList.drop i).take k).toArray:=by
 have e:(λ(m:Nat)=>xs[((i:Int)+(m:Int)*1).toNat]?)=λ m=>xs[i+m]?:=by
  funext m
  have:((i:Int)+(m:Int)*1).toNat=i+m:=by omega
  rw[this]
 rw[e]
 have:=pick_run xs i k
 rw[List.filterMap_map]at this
 have e2:((λ x=>xs[x]?) ∘ λ x=>i+x)=λ m=>xs[i+m]?:=rfl
 rw[e2]at this
 rw[this]
theorem getItem_tuple_cut{t sl:Addr}{items:Array Value}{vl vu:Value}{lo hi:Option Int}{Q:Value->Shared->Prop}(ht:IsTup s.heap t items)(hs:s.heap.IsSliceOf sl vl vu .none)(pl:IsPart vl lo)(pu:IsPart vu hi)
 (hw:¬(sIx items.size 0 lo=0/\sIx items.size items.size hi=items.size))
 (h:Q (.ref s.heap.objs.size) {s with heap:=s.heap.push {cls:=.type "tuple",data:=.seq ((items.toList.drop (sIx items.size 0 lo)).take (sIx items.size items.size hi-sIx items.size 0 lo)).toArray}})
 (hsz:items.size≤sizeLine):wpAny (model prog w) A (getItem (.ref t) (.ref sl)) Q E s:=by
 have htake:sizeOk (.seq ((items.toList.drop (sIx items.size 0 lo)).take (sIx items.size items.size hi-sIx items.size 0 lo)).toArray):=by
  show((items.toList.drop (sIx items.size 0 lo)).take (sIx items.size items.size hi-sIx items.size 0 lo)).toArray.size≤sizeLine
  rw[w9,List.length_take,List.length_drop,Array.length_toList]
  omega
 have hj:sIx items.size items.size hi≤items.size:=Qy _ _ (x8 _) hi
 obtain⟨os,hos,hcs,hds⟩:=id hs
 have hTs:s.TypeIs (.ref sl) "slice":=⟨os,hos,hcs⟩
 unfold getItem
 try with_reducible refine wpAny_holding ?_
 first | refine wpAny_bind (wpAny_pure ?_) | skip
 refine wpAny_bind (wpAny_sequenceKey ht.typeIs (by decide) ?_)
 refine wpAny_bind (wpAny_callSpecial?_slot (name:=Str.ofString "__getitem__") ht.typeIs PyProof.Rows.slot_tuple_getitem
  (wpAny_call_entry PyProof.Rows.slot_tuple_getitem ht.typeIs entry_tuple_getitem ?_ (args_tuple_getitem _ _)))
 show wpAny _ _ (Builtin.Tuple.tupleItemsOf (.ref t)>>=_) _ _ s
 refine wpAny_bind (tupleItemsOf_ ht ?_)
 refine wpAny_bind (wpAny_typeOf hTs ?_)
 rw[if_pos (by decide)]
 refine wpAny_bind (sliceApplied_gen hs pl pu ?_)
 have hno:¬((((sIx items.size 0 lo:Nat):Int)==0&&(1:Int)==1&&(sIx items.size items.size hi-sIx items.size 0 lo)==items.size)=true):=by
  intro q
  rw[Bool.and_eq_true,Bool.and_eq_true]at q
  have q1:((sIx items.size 0 lo:Nat):Int)=0:=eq_of_beq q.1.1
  have q2:sIx items.size items.size hi-sIx items.size 0 lo=items.size:=eq_of_beq q.2
  exact hw ⟨by omega,by omega⟩
 show wpAny _ _ (if(((sIx items.size 0 lo:Nat):Int)==0&&(1:Int)==1&&(sIx items.size items.size hi-sIx items.size 0 lo)==items.size)=true then _ else _) _ _ s
 rw[if_neg hno,K1]
 first
  | exact wpAny_bind (m:=Builtin.Tuple.tupleExact _) (wpAny_newObj_type (wpAny_pure ⟨_,rfl,wpAny_pure h⟩) htake)
  | exact wpAny_bind (m:=Builtin.Tuple.tupleExact _) (wpAny_newObj_type (wpAny_bind (wpAny_pure (wpAny_pure ⟨_,rfl,wpAny_pure h⟩))) htake)
  | exact wpAny_bind (wpAny_bind (m:=Builtin.Tuple.tupleExact _) (wpAny_newObj_type (wpAny_pure (wpAny_pure ⟨_,rfl,wpAny_pure h⟩)) htake))
  | exact wpAny_bind (wpAny_bind (m:=Builtin.Tuple.tupleExact _) (wpAny_newObj_type (wpAny_pure ⟨_,rfl,wpAny_pure h⟩) htake))
end
end HT
namespace L2
open PySem PySem.Spec PyProof.Rows
abbrev TO:=St->Hp->(Option Int->Hp->Prop)->Prop
theorem intsAre_of{ns:List Int}:∀{us:List Value},Vals (ns.map V.int) us->IntsAre us ns:=by
 induction ns with
 | nil=>intro us r;rw[List.map_nil]at r;cases r;exact .nil
 | cons n ns ih=>
   intro us r
   rw[List.map_cons]at r
   cases r with
   | cons r1 r2=>
     obtain⟨t,e⟩:=r1
     subst e
     exact .cons n t (ih r2)
section
variable {X : Cx} {e : Expr} {te : TE} {lo hi : Option Expr} {tl th : TO} {pos p2 : Pos}
def SlR(X:Cx)(r:V->Option Int->Option Int->Hp->VK->Prop):Prop:=
 ∀ (pins:List (Addr×Obj))(s:Shared)(σ:St)(H:Hp)(x:V)(v vl vu:Value)(lo hi:Option Int)(sl:Addr)(Q:VK),Inv X pins σ H s->RelV x v->s.heap.IsSliceOf sl vl vu .none->IsPart vl lo->IsPart vu hi->r x lo hi H Q->
   ∃T id,typeLookup (.type T) "__getitem__"=pure (some (.builtin id))/\s.TypeIs v T/\wpAny (model X.prog X.w) X.A (getItem v (.ref sl)) (EP X pins σ Q) X.xe s
def mq(xs:List V)(lo hi:Option Int):List V:=(xs.drop (HT.sIx xs.length 0 lo)).take (HT.sIx xs.length xs.length hi-HT.sIx xs.length 0 lo)
theorem nW(xs:List V)(lo hi:Option Int):(mq xs lo hi).length≤xs.length:=by
 unfold mq
 rw[List.length_take,List.length_drop]
 omega
def V7(K:PySem.W.Frag):V->Option Int->Option Int->Hp->VK->Prop:=λ x lo hi H Q=>∃a xs,x=.ref a/\SqT K H a xs/\
 ¬(HT.sIx xs.length 0 lo=0/\HT.sIx xs.length xs.length hi=xs.length)/\∀p,H p=none->Q (.ref p) (upd H p (.tup (mq xs lo hi)))
theorem Pn:SlR X (V7 X.K):=by
 intro pins s σ H x v vl vu lo hi sl Q I rx hs pl pu h
 obtain⟨a,xs,rfl,hx,hw,q⟩:=h
 cases rx
 obtain⟨its,r,ht,hz⟩:=I.tuple hx
 have hlen:its.toArray.size=xs.length:=by rw[w9];exact r.length.symm
 refine⟨"tuple",_,PyProof.Rows.slot_tuple_getitem.lookup,ht.typeIs,?_⟩
 refine HT.getItem_tuple_cut ht hs pl pu (by rw[hlen];exact hw) ?_ (by rw[hlen];exact hz)
 rw[hlen]
 refine⟨.ref s.heap.objs.size,_,I.laid (t':=s.toks) (o:=.tup (mq xs lo hi)) (λ b ob q=>Heap.get?_push_of_some _ q) (x8 _) ?_,rfl,q _ (I.hok.fresh (x8 _))⟩
 exact⟨Nat.le_trans (nW xs lo hi) hz,_,(r.drop (HT.sIx xs.length 0 lo)).take (HT.sIx xs.length xs.length hi-HT.sIx xs.length 0 lo),IsTup.new _ _⟩
def Vj(K:PySem.W.Frag):R2:=λ x y H Q=>∃a b xs ys,x=.ref a/\y=.ref b/\SqT K H a xs/\SqT K H b ys/\xs≠[]/\xs.length+ys.length≤sizeLine/\
 (ys=[]->Q (.ref a) H)/\(ys≠[]->∀p,H p=none->Q (.ref p) (upd H p (.tup (xs++ys))))
theorem Vals.nil_iff{xs:List V}{us:List Value}(r:Vals xs us):us=[]↔xs=[]:=by
 cases r with
 | nil=>simp
 | cons _ _=>simp
theorem Mm:OpR X (binaryOp .Add) (Vj X.K):=by
 intro pins s σ H x y v u Q I rx ry h
 obtain⟨a,b,xs,ys,rfl,rfl,ha,hb,hx,hz,q1,q2⟩:=h
 cases rx
 cases ry
 obtain⟨its,r1,p1,_⟩:=I.tuple ha
 obtain⟨its2,r2,p2,_⟩:=I.tuple hb
 refine HT.cat_tup p1 p2 (λ z=>hx (r1.nil_iff.mp z)) (λ z=>⟨.ref a,H,I,rfl,q1 (r2.nil_iff.mp z)⟩) (λ z=>?_) (by rw[←r1.length,←r2.length];exact hz)
 refine⟨.ref s.heap.objs.size,_,I.laid (t':=s.toks) (o:=.tup (xs++ys)) (λ b ob q=>Heap.get?_push_of_some _ q) (x8 _) ?_,rfl,q2 (λ w=>z (r2.nil_iff.mpr w)) _ (I.hok.fresh (x8 _))⟩
 exact⟨by rw[List.length_append];exact hz,_,r1.append r2,IsTup.new _ _⟩
end
variable {s : Shared}
def ixN(n:Nat)(i:Int):Option Nat:=if 0≤i then(if i<n then some i.toNat else none)else if-(n:Int)≤i then some (i+n).toNat else none
def atI{α:Type}(xs:List α)(i:Int):Option α:=(ixN xs.length i).bind λ j=>xs[j]?
theorem CW{n:Nat}{i:Int}{j:Nat}(h:ixN n i=some j):seqIndex? i n=some j/\j<n/\ -(n:Int)≤i/\i<n:=by
 unfold ixN at h
 by_cases h0:0≤i
 . rw[if_pos h0]at h
   by_cases h1:i<n
   . rw[if_pos h1]at h
     have e:i.toNat=j:=Option.some.inj h
     exact⟨by rw[seqIndex_of h0 h1,e],by omega,by omega,h1⟩
   . rw[if_neg h1]at h;cases h
 . rw[if_neg h0]at h
   by_cases h1: -(n:Int)≤i
   . rw[if_pos h1]at h
     have e:(i+n).toNat=j:=Option.some.inj h
     exact⟨by rw[seqIndex_neg (by omega) h1,e],by omega,h1,by omega⟩
   . rw[if_neg h1]at h;cases h
theorem tH{α:Type}{xs:List α}{i:Int}{v:α}(h:atI xs i=some v):∃j,seqIndex? i xs.length=some j/\xs[j]? =some v/\j<xs.length/\ -(xs.length:Int)≤i/\i<xs.length:=by
 unfold atI at h
 cases e:ixN xs.length i with
 | none=>rw[e]at h;cases h
 | some j=>
   rw[e]at h
   obtain⟨h1,h2,h3,h4⟩:=CW e
   exact⟨j,h1,h,h2,h3,h4⟩
theorem au{α:Type}{xs:List α}{j:Nat}{v:α}(h:xs[j]? =some v):atI xs (j:Int)=some v:=by
 have hj:j<xs.length:=(z0.mp h).1
 have e:ixN xs.length (j:Int)=some j:=by
  unfold ixN
  rw[if_pos (by omega),if_pos (by omega)];simp
 unfold atI;rw[e];exact h
def sG(b:Expr):Prop:=∀o i,subscripted b false o i=operate [o,i] (getItem o i)
def IxR(X:Cx)(r:R2):Prop:=
 ∀ (value slice:Expr)(pins:List (Addr×Obj))(s:Shared)(σ:St)(H:Hp)(x y:V)(v u:Value)(Q:VK),Inv X pins σ H s->RelV x v->RelV y u->r x y H Q->
   subscripted slice false v u=operate [v,u] (getItem v u)->wpAny (model X.prog X.w) X.A (subscriptTail value slice v u) (EP X pins σ Q) X.xe s
def MtR(X:Cx)(id:String)(r:V->List V->Hp->VK->Prop):Prop:=
 ∀ (pins:List (Addr×Obj))(s:Shared)(σ:St)(H:Hp)(x:V)(xs:List V)(v:Value)(us:List Value)(Q:VK),Inv X pins σ H s->RelV x v->Vals xs us->r x xs H Q->
   wpAny (model X.prog X.w) X.A (call (.builtin id) (v::us)) (EP X pins σ Q) X.xe s
section
variable {X : Cx} {a b : Expr} {ta tb : TE} {pos : Pos}
theorem Vg{r:R2}(hr:IxR X r)(ha:PE X a ta)(hb:PE X b tb)(hs:sG b):PE X (.Subscript a b pos) (tOp r ta tb):=by
 intro pins s σ H Q I h
 exact Subscript_ (VB ha hb I h λ v u s2 x y H2 I2 rx ry q=>hr a b pins s2 σ H2 x y v u Q I2 rx ry q (hs _ _))
def Vy(K:PySem.W.Frag):R2:=λ x y H Q=>∃p xs i v,x=.ref p/\y=.int i/\SqL K H p xs/\atI xs i=some v/\Q v H
def V9(K:PySem.W.Frag):R2:=λ x y H Q=>∃p xs i v,x=.ref p/\y=.int i/\SqT K H p xs/\atI xs i=some v/\Q v H
def Vx:R2:=λ x y H Q=>∃z i c,x=.str z/\y=.int i/\z.length≤sizeLine/\atI z.cps.toList i=some c/\Q (.str ⟨#[c]⟩) H
theorem uB:IxR X (Vy X.K):=by
 intro value slice pins s σ H x y v u Q I rx ry h hs
 obtain⟨p,xs,i,z,rfl,rfl,hq,he,q⟩:=h
 cases rx
 obtain⟨t,rfl⟩:=ry
 obtain⟨its,r,pl,hz⟩:=I.list hq
 obtain⟨j,h1,h2,h3,h4,h5⟩:=tH he
 obtain⟨w,ew,rw'⟩:=r.get h2
 have hl:=r.length
 have hn:=my
 have fin:EP X pins σ Q w s:=⟨z,H,I,rw',q⟩
 by_cases h0:0≤i
 . have hj:i.toNat=j:=by
    rw[seqIndex_of h0 h5]at h1
    exact Option.some.inj h1
   exact item_listR pl.isList h0 (by omega) (by rw[hj];simpa using ew) fin hs
 . have hj:(i+(its.toArray.size:Int)).toNat=j:=by
    rw[seqIndex_neg (by omega) h4]at h1
    rw[w9,←hl]
    exact Option.some.inj h1
   exact subscriptTail_builtinR (x:=w) pl.isList.typeIs slot_list_getitem.lookup
    (wpAny_getItem_list_neg (Q:=λ r s'=>r=w/\EP X pins σ Q r s') pl.isList (by omega) (by rw[w9]<;>omega) (by omega) (by rw[hj];simpa using ew) ⟨rfl,fin⟩) hs
theorem Qs:IxR X (V9 X.K):=by
 intro value slice pins s σ H x y v u Q I rx ry h hs
 obtain⟨p,xs,i,z,rfl,rfl,hq,he,q⟩:=h
 cases rx
 obtain⟨t,rfl⟩:=ry
 obtain⟨its,r,pl,hz⟩:=I.tuple hq
 obtain⟨j,h1,h2,h3,h4,h5⟩:=tH he
 obtain⟨w,ew,rw'⟩:=r.get h2
 have hl:=r.length
 have hn:=my
 have fin:EP X pins σ Q w s:=⟨z,H,I,rw',q⟩
 exact subscriptTail_builtinR (x:=w) pl.typeIs slot_tuple_getitem.lookup
  (getItem_tuple (j:=j) (Q:=λ r s'=>r=w/\EP X pins σ Q r s') pl (by omega) (by omega) (by rw[w9,←hl];exact h1) (by simpa using ew) ⟨rfl,fin⟩) hs
theorem PP:IxR X Vx:=by
 intro value slice pins s σ H x y v u Q I rx ry h hs
 obtain⟨z,i,c,rfl,rfl,hz,he,q⟩:=h
 obtain⟨t,rfl⟩:=rx
 obtain⟨t',rfl⟩:=ry
 obtain⟨j,h1,h2,h3,h4,h5⟩:=tH he
 have hl:z.cps.toList.length=z.length:=by simp[Str.length]
 rw[hl]at h1 h4 h5
 have hn:=my
 exact tail_any (typeIs_str s z t) slot_str_getitem.lookup (getItem_str (c:=c) (by
  have e1:decide (i< -(2 ^ 63:Int))=false:=decide_eq_false (by omega)
  have e2:decide (i≥2 ^ 63)=false:=decide_eq_false (by omega)
  rw[e1,e2,Bool.or_false]) (by rw[h1];simpa using h2) ⟨.str ⟨#[c]⟩,H,I.tok _,⟨_,rfl⟩,q⟩) hs
theorem DP(its:List Value)(n j:Nat)(u:Value):Obj.mapSeq (·.setIfInBounds j u) {cls:=.type "list",data:=.seq its.toArray n}={cls:=.type "list",data:=.seq (its.set j u).toArray n}:=by
 simp[Obj.mapSeq]
theorem Inv.lst{pins:List (Addr×Obj)}{σ:St}{H:Hp}{p:Addr}{xs:List V}(I:Inv X pins σ H s)(h:H p=some (.lst xs)):
 ∃(its:List Value) (n:Nat),Vals xs its/\s.heap.get? p=some {cls:=.type "list",data:=.seq its.toArray n}/\xs.length≤sizeLine:=by
 obtain⟨z,its,n,r,e⟩:=I.hok p _ h
 exact⟨its,n,r,e,z⟩
theorem Inv.lstUpd{pins:List (Addr×Obj)}{σ:St}{H:Hp}{p:Addr}{xs ys:List V}{its its':List Value}{n n':Nat}{f:Obj->Obj}(I:Inv X pins σ H s)(h:H p=some (.lst xs))
 (ho:s.heap.get? p=some {cls:=.type "list",data:=.seq its.toArray n})(hf:f {cls:=.type "list",data:=.seq its.toArray n}={cls:=.type "list",data:=.seq its'.toArray n'})(r:Vals ys its')(hz:ys.length≤sizeLine)(t:Nat):
 Inv X pins σ (upd H p (.lst ys)) {s with heap:=s.heap.update p f,toks:=t}:=by
 have e:(s.heap.update p f).get? p=some {cls:=.type "list",data:=.seq its'.toArray n'}:=by
  rw[Heap.get?_update_self f ho (by rw[hf]<;>rfl),hf]
 refine I.write (x:=p) (e:=p) (by rw[h];trivial) (.inl rfl) (λ b u hb q=>(Heap.get?_update_other _ _ (Ne.symm hb)).trans q) ⟨_,e⟩ ?_
 exact⟨hz,its',n',r,e⟩
def U5:V->V->V->Hp->(Hp->Prop)->Prop:=λ o i v H Q=>∃p xs k j,o=.ref p/\i=.int k/\H p=some (.lst xs)/\ixN xs.length k=some j/\Q (upd H p (.lst (xs.set j v)))
theorem set_list:V1 X U5:=by
 intro pins s σ H o i v ov iv u Q I ro ri rv h
 obtain⟨p,xs,k,j,rfl,rfl,hp,hj,q⟩:=h
 cases ro
 obtain⟨t,rfl⟩:=ri
 obtain⟨its,n,r,ho,hz⟩:=I.lst hp
 obtain⟨h1,h2,h3,h4⟩:=CW hj
 have hl:=r.length
 have hn:=my
 have I':Inv X pins σ (upd H p (.lst (xs.set j v))) {s with heap:=s.heap.update p (Obj.mapSeq (·.setIfInBounds j u))}:=
  I.lstUpd hp ho (DP its n j u) (r.set rv j) (by rw[List.length_set];exact hz) s.toks
 by_cases h0:0≤k
 . have hk:k.toNat=j:=by
    rw[seqIndex_of h0 h4]at h1
    exact Option.some.inj h1
   exact PySem.W.ki_setAt ho h0 (by omega) (by rw[w9,←hl];exact h4) (by rw[hk];exact⟨_,I',q⟩)
 . have hk:(k+(its.toArray.size:Int)).toNat=j:=by
    rw[seqIndex_neg (by omega) h3]at h1
    rw[w9,←hl]
    exact Option.some.inj h1
   exact PySem.W.ki_setBack ho (by omega) (by rw[w9,←hl];exact h3) (by omega) (by rw[hk];exact⟨_,I',q⟩)
theorem yr(lo hi:Option Int)(n:Nat):(sliceBounds lo hi none n).1=((HT.sIx n 0 lo:Nat):Int)/\(sliceBounds lo hi none n).2.1=((HT.sIx n n hi:Nat):Int)/\(sliceBounds lo hi none n).2.2=1:=by
 refine⟨?_,?_,rfl⟩
 . cases lo with
   | none=>simp[sliceBounds,HT.sIx]
   | some i=>
     simp only[sliceBounds,HT.sIx,Option.getD_none,show(1:Int)>0 by decide,if_true]
     by_cases h:i<0
     . simp only[h,if_true]<;>omega
     . simp only[h,if_false]<;>omega
 . cases hi with
   | none=>simp[sliceBounds,HT.sIx]
   | some i=>
     simp only[sliceBounds,HT.sIx,Option.getD_none,show(1:Int)>0 by decide,if_true]
     by_cases h:i<0
     . simp only[h,if_true]<;>omega
     . simp only[h,if_false]<;>omega
theorem v7(its:List Value)(lo hi:Option Int):slicePick its.toArray lo hi none=((its.drop (HT.sIx its.length 0 lo)).take (HT.sIx its.length its.length hi-HT.sIx its.length 0 lo)).toArray:=by
 obtain⟨h1,h2,h3⟩:=yr lo hi its.toArray.size
 unfold slicePick
 rw[h1,h2,h3]
 simp only[sliceRange_one,pick_run,w9]<;>rfl
def VV(K:PySem.W.Frag):V->Option Int->Option Int->Hp->VK->Prop:=λ x lo hi H Q=>∃a xs,x=.ref a/\SqL K H a xs/\∀p,H p=none->Q (.ref p) (upd H p (.lst (mq xs lo hi)))
theorem Cg:SlR X (VV X.K):=by
 intro pins s σ H x v vl vu lo hi sl Q I rx hs pl pu h
 obtain⟨a,xs,rfl,hx,q⟩:=h
 cases rx
 obtain⟨its,r,ht,hz⟩:=I.list hx
 have hlen:=r.length
 refine⟨"list",_,slot_list_getitem.lookup,ht.isList.typeIs,?_⟩
 refine wpAny_getItem_list_slice ht.isList hs pl pu .none (by simp) ?_ (by rw[w9]<;>omega)
 rw[v7,←hlen]
 refine⟨.ref s.heap.objs.size,_,I.laid (t':=s.toks) (o:=.lst (mq xs lo hi)) (λ b ob q=>Heap.get?_push_of_some _ q) (x8 _) ?_,rfl,q _ (I.hok.fresh (x8 _))⟩
 exact⟨Nat.le_trans (nW xs lo hi) hz,_,0,(r.drop (HT.sIx xs.length 0 lo)).take (HT.sIx xs.length xs.length hi-HT.sIx xs.length 0 lo),Heap.get?_push_size _ rfl⟩
def fB:V->Bool
 | .non=>true
 | .bl _=>true
 | .int _=>true
 | .str _=>true
 | _=>false
def eqV:V->V->Bool
 | .non,.non=>true
 | .bl a,.bl b=>a==b
 | .bl a,.int b=>(if a then 1 else 0)==b
 | .int a,.bl b=>a==(if b then 1 else 0)
 | .int a,.int b=>a==b
 | .str a,.str b=>a==b
 | _,_=>false
theorem SN{A:Around}{y x:V}{u v:Value}(ry:RelV y u)(rx:RelV x v)(fy:fB y=true)(fx:fB x=true):SeqAt.EqAt A s u v (eqV y x):=by
 cases y with
 | non=>
   cases ry
   cases x with
   | non=>cases rx;exact SeqAt.EqAt.same _
   | bl b=>cases rx;exact SeqAt.EqAt.none_bool b
   | int b=>obtain⟨t,rfl⟩:=rx;exact SeqAt.EqAt.none_int b t
   | str b=>obtain⟨t,rfl⟩:=rx;exact SeqAt.EqAt.none_str b t
   | _=>exact absurd (show false=true from fx) y9
 | bl a=>
   cases ry
   cases x with
   | non=>cases rx;exact SeqAt.EqAt.bool_none a
   | bl b=>cases rx;exact SeqAt.EqAt.bool_bool a b
   | int b=>obtain⟨t,rfl⟩:=rx;exact SeqAt.EqAt.bool_int a b t
   | str b=>obtain⟨t,rfl⟩:=rx;exact SeqAt.EqAt.bool_str a b t
   | _=>exact absurd (show false=true from fx) y9
 | int a=>
   obtain⟨t',rfl⟩:=ry
   cases x with
   | non=>cases rx;exact SeqAt.EqAt.int_none a t'
   | bl b=>cases rx;exact SeqAt.EqAt.int_bool a t' b
   | int b=>obtain⟨t,rfl⟩:=rx;exact SeqAt.EqAt.int_int a t' b t
   | str b=>obtain⟨t,rfl⟩:=rx;exact SeqAt.EqAt.int_str a t' b t
   | _=>exact absurd (show false=true from fx) y9
 | str a=>
   obtain⟨t',rfl⟩:=ry
   cases x with
   | non=>cases rx;exact SeqAt.EqAt.str_none a t'
   | bl b=>cases rx;exact SeqAt.EqAt.str_bool a t' b
   | int b=>obtain⟨t,rfl⟩:=rx;exact SeqAt.EqAt.str_int a t' b t
   | str b=>obtain⟨t,rfl⟩:=rx;exact SeqAt.EqAt.str_str a t' b t
   | _=>exact absurd (show false=true from fx) y9
 | _=>exact absurd (show false=true from fy) y9
def eqU(x:V)(u:Value):Bool:=match u with
 | .none=>eqV .non x
 | .bool b=>eqV (.bl b) x
 | .int i _=>eqV (.int i) x
 | .str z _=>eqV (.str z) x
 | _=>false
theorem zm{x y:V}{u:Value}(r:RelV y u)(f:fB y=true):eqU x u=eqV y x:=by
 cases y with
 | non=>cases r;rfl
 | bl b=>cases r;rfl
 | int i=>obtain⟨t,rfl⟩:=r;rfl
 | str z=>obtain⟨t,rfl⟩:=r;rfl
 | _=>exact absurd (show false=true from f) y9
theorem jH{x:V}:∀{xs:List V}{us:List Value},Vals xs us->xs.all fB=true->us.any (eqU x)=xs.any λ y=>eqV y x
 | _,_,.nil,_=>rfl
 | y::xs,u::us,.cons r t,f=>by
   rw[List.all_cons,Bool.and_eq_true]at f
   rw[List.any_cons,List.any_cons,zm r f.1,jH t f.2]
theorem eY{A:Around}{s:Shared}{x:V}{v:Value}(rx:RelV x v)(fx:fB x=true):∀{xs:List V}{us:List Value},Vals xs us->xs.all fB=true->∀u∈us,SeqAt.EqAt A s u v (eqU x u)
 | _,_,.nil,_=>λ u hu=>by cases hu
 | y::xs,u::us,.cons r t,f=>λ u' hu=>by
   rw[List.all_cons,Bool.and_eq_true]at f
   rcases List.mem_cons.mp hu with rfl | hu
   . rw[zm r f.1];exact SN r rx f.1 fx
   . exact eY rx fx t f.2 u' hu
def inV(x:V)(xs:List V):Bool:=xs.any λ y=>eqV y x
def rIn(K:PySem.W.Frag)(neg:Bool):R2:=λ x y H Q=>∃p xs,y=.ref p/\(SqL K H p xs∨SqT K H p xs)/\fB x=true/\xs.all fB=true/\Q (.bl (if neg then !inV x xs else inV x xs)) H
theorem Ii:OpR X (compareOp .In) (rIn X.K false):=by
 intro pins s σ H x y v u Q I rx ry h
 obtain⟨p,xs,rfl,hq,fx,fs,q⟩:=h
 cases ry
 rcases hq with hq | hq
 . obtain⟨its,r,pl,hz⟩:=I.list hq
   refine SeqAt.in_listAt (eqU x) pl.isList (λ w hw=>eY rx fx r fs w (by simpa using hw)) ⟨.bl _,H,I,rfl,?_⟩
   rw[show its.toArray.any (eqU x)=its.any (eqU x) by simp,jH r fs]
   exact q
 . obtain⟨its,r,pl,hz⟩:=I.tuple hq
   refine SeqAt.in_tupleAt (eqU x) pl (λ w hw=>eY rx fx r fs w (by simpa using hw)) ⟨.bl _,H,I,rfl,?_⟩
   rw[show its.toArray.any (eqU x)=its.any (eqU x) by simp,jH r fs]
   exact q
theorem zQ:OpR X (compareOp .NotIn) (rIn X.K true):=by
 intro pins s σ H x y v u Q I rx ry h
 obtain⟨p,xs,rfl,hq,fx,fs,q⟩:=h
 cases ry
 rcases hq with hq | hq
 . obtain⟨its,r,pl,hz⟩:=I.list hq
   refine SeqAt.notIn_listAt (eqU x) pl.isList (λ w hw=>eY rx fx r fs w (by simpa using hw)) ⟨.bl _,H,I,rfl,?_⟩
   rw[show its.toArray.any (eqU x)=its.any (eqU x) by simp,jH r fs]
   exact q
 . obtain⟨its,r,pl,hz⟩:=I.tuple hq
   refine SeqAt.notIn_tupleAt (eqU x) pl (λ w hw=>eY rx fx r fs w (by simpa using hw)) ⟨.bl _,H,I,rfl,?_⟩
   rw[show its.toArray.any (eqU x)=its.any (eqU x) by simp,jH r fs]
   exact q
theorem gH:cN X (.builtin "len") (λ xs H Q=>∃p ys,xs=[.ref p]/\(SqL X.K H p ys∨SqT X.K H p ys)/\Q (.int ys.length) H):=by
 intro pins s σ H xs us Q I r h
 obtain⟨p,ys,rfl,hq,q⟩:=h
 obtain⟨u,rfl,rx⟩:=vals1 r
 cases rx
 have hn:=my
 rcases hq with hq | hq
 . obtain⟨its,r',pl,hz⟩:=I.list hq
   have hlen:=r'.length
   exact Calls.call_len_list pl.isList (by simp only[w9]<;>omega) ⟨.int ys.length,H,I.tok _,⟨s.toks+1,by rw[w9,hlen]⟩,q⟩
 . obtain⟨its,r',pl,hz⟩:=I.tuple hq
   have hlen:=r'.length
   exact len_tuple pl (by simp only[w9]<;>omega) ⟨.int ys.length,H,I.tok _,⟨s.toks+1,by rw[w9,hlen]⟩,q⟩
theorem mC:cN X (.type "list") (λ xs H Q=>∃p ys,xs=[.ref p]/\(SqL X.K H p ys∨SqT X.K H p ys)/\∀l,H l=none->Q (.ref l) (upd H l (.lst ys))):=by
 intro pins s σ H xs us Q I r h
 obtain⟨p,ys,rfl,hq,q⟩:=h
 obtain⟨u,rfl,rx⟩:=vals1 r
 cases rx
 have fin:∀(its:List Value),Vals ys its->ys.length≤sizeLine->∀(h':Heap)(c':Nat),(∀b o',s.heap.get? b=some o'->h'.get? b=some o')->
  h'.get? s.heap.objs.size=some {cls:=.type "list",dict:=none,data:=.seq its.toArray c',slots:=#[]}->EP X pins σ Q (.ref s.heap.objs.size) {s with heap:=h'}:=λ its r' hz h' c' kp e=>
  ⟨.ref s.heap.objs.size,_,I.laid (t':=s.toks) kp (x8 _) (show aO X.prog X.w _ h' _ (.lst ys)from⟨hz,its,c',r',e⟩),rfl,q _ (I.hok.fresh (x8 _))⟩
 rcases hq with hq | hq
 . obtain⟨its,r',pl,hz⟩:=I.list hq
   have hlen:=r'.length
   obtain⟨o,ho,hc,n,hd⟩:=pl.isList
   exact call_list_seq p (.inl rfl) ho hc hd (λ h' c' kp e=>fin its r' hz h' c' kp e) (by simp only[w9]<;>omega)
 . obtain⟨its,r',pl,hz⟩:=I.tuple hq
   have hlen:=r'.length
   obtain⟨o,ho,hc,n,hd⟩:=pl
   exact call_list_seq p (.inr rfl) ho hc hd (λ h' c' kp e=>fin its r' hz h' c' kp e) (by simp only[w9]<;>omega)
theorem kZ:cN X (.type "tuple") (λ xs H Q=>∃p ys,xs=[.ref p]/\((SqL X.K H p ys/\∀l,H l=none->Q (.ref l) (upd H l (.tup ys)))∨(SqT X.K H p ys/\Q (.ref p) H))):=by
 intro pins s σ H xs us Q I r h
 obtain⟨p,ys,rfl,h⟩:=h
 obtain⟨u,rfl,rx⟩:=vals1 r
 cases rx
 rcases h with⟨hq,q⟩ | ⟨hq,q⟩
 . obtain⟨its,r',pl,hz⟩:=I.list hq
   have hlen:=r'.length
   refine call_tuple_list pl.isList (λ h' kp=>?_) (by simp only[w9]<;>omega)
   have I1:Inv X pins σ H {s with heap:=h'}:=I.kept (t':=s.toks) kp
   have I2:Inv X pins σ (upd H h'.objs.size (.tup ys)) {s with heap:=h'.push {cls:=.type "tuple",data:=.seq its.toArray}}:=
    I1.laid (t':=s.toks) (λ b o e=>Heap.get?_push_of_some _ e) (x8 _) (show aO X.prog X.w _ _ _ (.tup ys)from⟨hz,its,r',IsTup.new _ _⟩)
   exact⟨.ref h'.objs.size,_,I2,rfl,q _ (I1.hok.fresh (x8 _))⟩
 . obtain⟨its,r',pl,hz⟩:=I.tuple hq
   exact call_tuple_same pl ⟨.ref p,H,I,rfl,q⟩
def tyV(K:PySem.W.Frag)(T:String)(x:V)(H:Hp):Prop:=match x with
 | .str _=>T="str"
 | .int _=>T="int"
 | .ref p=>(T="list"/\∃xs,SqL K H p xs)∨(T="tuple"/\∃o,K.lookup p=some o/\o.cls=.type "tuple"/\o.dict=none)∨
  (T="dict"/\((∃kvs,H p=some (.dK kvs))∨∃kvs,H p=some (.dT kvs)))∨(T="set"/\∃S n,H p=some (.set S n))
 | _=>False
theorem QK{pins:List (Addr×Obj)}{σ:St}{H:Hp}{T:String}{x:V}{v:Value}(I:Inv X pins σ H s)(r:RelV x v)(ty:tyV X.K T x H):
 s.TypeIs v T/\∀a,v=.ref a->∃ob,s.heap.get? a=some ob/\ob.dict=none:=by
 cases x with
 | str z=>
   obtain⟨t,rfl⟩:=r
   cases (show T="str" from ty)
   exact⟨typeIs_str s z t,λ _ e=>nomatch e⟩
 | int i=>
   obtain⟨t,rfl⟩:=r
   cases (show T="int" from ty)
   exact⟨typeIs_int s i t,λ _ e=>nomatch e⟩
 | ref p=>
   cases r
   rcases ty with⟨rfl,xs,hq⟩ | ⟨rfl,o,hk,hc,hd⟩ | ⟨rfl,hk⟩ | ⟨rfl,S,n,hk⟩
   . obtain⟨its,_,pl,_⟩:=I.list hq
     refine⟨pl.isList.typeIs,λ a e=>?_⟩
     cases e
     obtain⟨o,n,e,c,hd,_⟩:=pl
     exact⟨o,e,hd⟩
   . refine⟨⟨o,I.kIn p o hk,hc⟩,λ a e=>?_⟩
     cases e
     exact⟨o,I.kIn _ o hk,hd⟩
   . have z:∃o,s.heap.get? p=some o/\o.ExactDict:=by
      rcases hk with⟨kvs,hk⟩ | ⟨kvs,hk⟩
      . obtain⟨_,_,_,_,o,_,_,e,ex,_⟩:=I.hok p _ hk
        exact⟨o,e,ex⟩
      . obtain⟨_,_,_,_,o,_,_,e,ex,_⟩:=I.hok p _ hk
        exact⟨o,e,ex⟩
     obtain⟨o,e,ex⟩:=z
     refine⟨⟨o,e,ex.1⟩,λ a e2=>?_⟩
     cases e2
     exact⟨o,e,ex.2.1⟩
   . obtain⟨o,_,_,_,e,ex,_⟩:=I.hok p _ hk
     refine⟨⟨o,e,ex.1⟩,λ a e2=>?_⟩
     cases e2
     exact⟨o,e,ex.2.1⟩
 | _=>exact False.elim ty
def tBM(K:PySem.W.Frag)(T:String)(r:V->List V->Hp->VK->Prop)(to:TE)(t:TA):TE:=λ σ H Q=>to σ H λ x H1=>tyV K T x H1/\t σ H1 λ xs H2=>r x xs H2 Q
variable {o e : Expr} {es : List Expr} {to : TE} {t : TA} {name : Str} {apos cpos : Pos} {T id : String} {r : V -> List V -> Hp -> VK -> Prop}
theorem EY(pa:PlainAttrs T)(slot:Slot T name id)(hty:typeOf (.builtin id)=pure (.type "method_descriptor"))(hm:MtR X id r)(ho:PE X o to)(ha:PA X (e::es) t)
 (hbase:attributeBase o name X.env (eval o X.env)=eval o X.env:=by rfl)
 (hfew:((backTo cpos (starEach (e::es) X.env)).all (λ x=>!x.1)&&(backToKw cpos (keywordEach [] X.env)).all (λ x=>x.1.isSome)
  &&decide ((e::es).length+([]:List Keyword).length+(if([]:List Keyword).isEmpty then 0 else 1)<30))=true:=by rfl)
 (hline:(apos.endLine==cpos.line)=true:=by rfl)(hs:starEach (e::es) X.env=(false,eval e X.env)::starEach es X.env:=by rfl)(hplain:(backTo cpos (starEach es X.env)).any (·.1)=false:=by rfl):
 PE X (.Call (.Attribute o name apos) (e::es) [] cpos) (tBM X.K T r to t):=by
 intro pins s σ H Q I h
 refine wpAny_Call_method_late hbase hfew hline rfl (thn (ho pins s σ H _ I h) λ v s1 ⟨x,H1,I1,r1,ty,q1⟩=>?_)
 obtain⟨h1,h2⟩:=QK I1 r1 ty
 refine⟨T,id,pa,slot,hty,h1,h2,?_⟩
 have hA:=ha cpos pins s1 σ H1 _ I1 q1
 rw[hs]at hA ⊢
 refine Calls.callWith_builtin (by show(false||(backTo cpos (starEach es X.env)).any (·.1))=false;rw[hplain]<;>rfl) (Calls.evalArgs_plain ?_)
 exact thn hA λ us s2 ⟨vs,H2,I2,r2,q2⟩=>hm pins s2 σ H2 x vs v us Q I2 r1 r2 q2
end
end L2
namespace L2
open PySem PySem.Spec PyProof.Rows
def MtM(X:Cx)(id:String)(r:V->List V->Hp->VK->Prop):Prop:=
 ∀ (pins:List (Addr×Obj))(s:Shared)(σ:St)(H:Hp)(x:V)(xs:List V)(v:Value)(us:List Value)(Q:VK),Inv X pins σ H s->RelV x v->Vals xs us->r x xs H Q->
   wpAny (model X.prog X.w) X.A (call (.builtin id) (v::us)) (EP X pins σ Q) X.xe s
theorem Vals.one:∀{x:V}{us:List Value},Vals [x] us->∃u,us=[u]/\RelV x u
 | _,_,.cons r .nil=>⟨_,rfl,r⟩
theorem Vals.rep{xs:List V}{us:List Value}(h:Vals xs us):∀k:Nat,Vals (List.replicate k xs).flatten (List.replicate k us).flatten
 | 0=>.nil
 | k+1=>by
   rw[List.replicate_succ,List.replicate_succ,List.flatten_cons,List.flatten_cons]
   exact Vals.append h (Vals.rep h k)
theorem foldl_rep(its:List Value):∀(k:Nat)(acc:List Value),
 List.foldl (λ x1 x2=>x1++x2) acc.toArray (List.replicate k its.toArray)=(acc++(List.replicate k its).flatten).toArray
 | 0,acc=>by simp
 | k+1,acc=>by
   have e:acc.toArray++its.toArray=(acc++its).toArray:=by simp
   have e2:(acc++its)++(List.replicate k its).flatten=acc++(List.replicate (k+1) its).flatten:=by
    rw[List.replicate_succ,List.flatten_cons,List.append_assoc]
   rw[←e2,←foldl_rep its k (acc++its),←e,List.replicate_succ,List.foldl_cons]
section
variable {X : Cx} {pins : List (Addr × Obj)} {σ : St} {H : Hp} {s : Shared} {l b : Addr} {xs ys zs : List V}
theorem Inv.lset{its its':List Value}{n:Nat}{f:Array Value->Array Value}{t':Nat}(I:Inv X pins σ H s)(hH:H l=some (.lst xs))
 (e:s.heap.get? l=some {cls:=.type "list",data:=.seq its.toArray n})(hf:f its.toArray=its'.toArray)(hv:Vals ys its')(hz:ys.length≤sizeLine):
 Inv X pins σ (upd H l (.lst ys)) {s with heap:=s.heap.update l (Obj.mapSeq f),toks:=t'}:=by
 have q:=PySem.IsL.update e f
 rw[hf]at q
 refine I.write (x:=l) (e:=l) (by rw[hH];exact trivial) (.inl rfl) (λ b' u hb hu=>(Heap.get?_update_other s.heap (Obj.mapSeq f) (Ne.symm hb)).trans hu) ⟨_,q⟩ ?_
 exact⟨hz,its',_,hv,q⟩
theorem Inv.lnew{its:List Value}{t':Nat}(I:Inv X pins σ H s)(hv:Vals ys its)(hz:ys.length≤sizeLine):
 Inv X pins σ (upd H s.heap.objs.size (.lst ys)) {s with heap:=s.heap.push {cls:=.type "list",data:=.seq its.toArray},toks:=t'}:=
 I.laid (λ _ _ q=>Heap.get?_push_of_some _ q) (x8 _) ⟨hz,its,0,hv,Heap.get?_push_size _ rfl⟩
theorem Inv.fresh(I:Inv X pins σ H s):H s.heap.objs.size=none:=I.hok.fresh (x8 _)
theorem Inv.lstM(I:Inv X pins σ H s)(hH:H l=some (.lst xs)):xs.length≤sizeLine/\∃(its:List Value) (n:Nat),Vals xs its/\xs.length=its.length/\s.heap.get? l=some {cls:=.type "list",data:=.seq its.toArray n}:=by
 obtain⟨z,its,n,r,e⟩:=I.hok l _ hH
 exact⟨z,its,n,r,r.length,e⟩
end
section
variable {X : Cx}
def N8:V->List V->Hp->VK->Prop:=λ x vs H Q=>∃l xs y,x=.ref l/\vs=[y]/\H l=some (.lst xs)/\xs.length<sizeLine/\Q .non (upd H l (.lst (xs++[y])))
theorem mF:MtM X "list.append" N8:=by
 intro pins s σ H x vs v us Q I rx rv h
 obtain⟨l,xs,y,rfl,rfl,hH,hz,q⟩:=h
 cases rx
 obtain⟨u,rfl,ru⟩:=rv.one
 obtain⟨z,its,n,r,hl,e⟩:=I.lstM hH
 refine call_meets F.slot_list_append ⟨_,e,rfl⟩ F.entry_list_append (F.args_list_append_2 _ _) (PySem.list_append l its.toArray n u (by rw[w9];omega)) ⟨e,?_⟩
 refine⟨.non,_,I.lset (its':=its++[u]) hH e (by simp) (r.append (.cons ru .nil)) ?_,rfl,q⟩
 rw[List.length_append,List.length_singleton]
 omega
theorem len_rep{α:Type}(xs:List α)(k:Nat):(List.replicate k xs).flatten.length=k*xs.length:=by
 induction k with
 | zero=>simp
 | succ k ih=>rw[List.replicate_succ,List.flatten_cons,List.length_append,ih,Nat.succ_mul,Nat.add_comm]
end
end L2
namespace Att
open PySem PySem.W PySem.Calls PyProof.Rows
theorem rm{P:Params}{h:Heap}:∀(ns:List Int)(vs:List Value),WellAll P h vs (ns.map WData.int)->IntsAre vs ns:=by
 intro ns
 induction ns with
 | nil=>
   intro vs w
   rw[List.map_nil]at w
   cases w
   exact .nil
 | cons n ns ih=>
   intro vs w
   rw[List.map_cons]at w
   cases w with
   | cons a b=>
     cases a
     exact .cons _ _ (ih _ b)
theorem Gi{l:OpenLaw}{n:Nat}(hn:l.most=some n){P:Params}{h:Heap}{args:List WData}{vals:List Value}
 (hpre:l.row.toRowW.claim.pre args=true)(hwl:WellAll P h vals args):
 ∃a vs ns,vals=[Value.ref a]/\args=[WData.list (ns.map WData.int)]/\h.get? a=some {cls:=.type "list",data:=.seq vs.toArray}/\IntsAre vs ns/\ns.length≤n:=by
 have hsh:WShape.hasAll [] args [.list .int]=true:=(pre_splitW hpre).1
 have hc:l.pre.holds [] {args:=args}=true:=(pre_splitW hpre).2
 obtain⟨d,r,rfl,h1,h2⟩:=hasAllW_cons hsh
 obtain rfl:=hasAllW_nil h2
 obtain⟨xs,rfl,h3⟩:=hasW_list h1
 obtain⟨ns,rfl⟩:=items_int h3
 have hlen:ns.length≤n:=by
  unfold OpenLaw.pre at hc
  have h4:(WTm.not (.lt (.lit (.int (n:Int))) (.len (.arg 0)))).holds [] {args:=[.list (ns.map .int)]}=true:=by
   have h4:=(holds_andW hc).1
   rw[hn]at h4
   exact h4
  have h5:=condW_of h4 (w_not (w_lt w_lit (w_len_list (w_arg rfl))))
  rw[x5]at h5
  refine Nat.le_of_not_lt λ q=>?_
  have q':(n:Int)<((ns.length:Nat):Int):=by omega
  first
   | (rw[decide_eq_true q']at h5;exact absurd h5 (by decide))
   | (simp at h5;omega)
 cases hwl with
 | cons w1 w2=>
   cases w2
   cases w1 with
   | list ho hall=>exact⟨_,_,ns,rfl,rfl,ho,rm ns _ hall,hlen⟩
theorem Hx(l:OpenLaw)(args:List WData):l.row.toRowW.claim.post args (.bool true) args=true:=
 postW_of (r:=l.row.toRowW) (X:=(true==true))
  (show WShape.has [] (.bool true) .bool=true by first | rfl | decide | simp[WShape.has,WShape.arms,WShape.armsAll])
  (show(WTm.eq .res (.lit (.bool true))).value [] {args:=args,res:=some (.bool true),after:=args}=some (.bool (true==true))from w_eq_bool (w_res rfl) w_lit) rfl
theorem attach_call{l:OpenLaw}{n:Nat}{q:Program}{loose:List Str}{XP:(Str->Option Value)->Heap->Prop}{YP:World->Heap->Prop}{d:DefRec}
 (hn:l.most=some n)(hdf:d.params.defaults=[])
 (call:∀(w:World)(s₀ s₁:Shared)(mg mb:Str->Option Value)(fa:Addr)(o:Obj)(pm cd doc:Value)(a:Addr)(vs:List Value)(ns:List Int),
  Ground q loose [] XP w s₀ mg mb s₁.heap->YP w s₁.heap->
  s₁.heap.get? fa=some o->o.data=.func (docDef d.name d.params d.body d.scope pm cd doc)->s₁.heap.CodeRec cd d.name->mg d.name=some (.ref fa)->
  s₁.heap.get? a=some {cls:=.type "list",data:=.seq vs.toArray}->IntsAre vs ns->ns.length≤n->s₁.gens=#[]->
  codeAny (model l.prog w) callerA (.call (.ref fa) ⟨[.ref a],[]⟩) (λ r s'=>r=.ok (.ret (.bool true))/\OldK s₁.heap s'.heap/\s'.os=s₁.os/\AllBare s'.gens) s₁):
 WalkO q loose XP YP l.row.toRowW d [] (λ f vs=>PySem.call f vs):=by
 intro w s₀ s₁ mg mb G Y fa o pm cd doc dV kV ho hd hcd hD hmg hg args vals as hpre hlay hrd hwl hlo
 obtain rfl:dV=.none:=Dflts.none hD hdf
 obtain rfl:kV=.none:=Dflts.noKw hD
 obtain⟨a,vs,ns,rfl,rfl,hobj,hints,hlen⟩:=Gi hn hpre hwl
 refine enter_call (codeAny_mono (call w s₀ s₁ mg mb fa o pm cd doc a vs ns G Y ho (fd_plain hd) hcd hmg hobj hints hlen hg) λ r s' hq=>?_)
 obtain⟨rfl,h2,h3,h4⟩:=hq
 exact⟨.inl ⟨.bool true,.bool true,[],rfl,λ _=>rfl,.bool true,Hx l _,λ _=>⟨List.Pairwise.nil,λ _ hm=>(nomatch hm)⟩⟩,h2,h3,h4⟩
end Att
namespace L2
open PySem PySem.Spec PyProof.Rows
theorem uO:∀{vs:List Value}{ns:List Int},IntsAre vs ns->Vals (ns.map V.int) vs
 | _,_,.nil=>.nil
 | _,_,.cons n t h=>.cons ⟨t,rfl⟩ (uO h)
def Only(H:Hp):Prop:=∀b,H b=none∨∃o xs,H b=some (.frz o (.lst xs))
theorem Js{P:Program}{w:World}{K:PySem.W.Frag}{mg mb:Str->Option Value}{CX:CXT}{k:Nat}{fa a:Addr}{fd:FuncData}{x:Str}{sp:Sp}{s₁:Shared}{vs:List Value}{ns:List Int}
 (KX:K.In s₁.heap)(hns:s₁.heap.Ns mainGlobals mg)(hb:s₁.heap.Ns builtinsNs mb)(hbb:∀x:Str,x≠"__name__"->mb x=bootBuiltins x)(hlim:s₁.heap.NoLimit)(hg:s₁.gens=#[])
 (ha:s₁.heap.get? a=some {cls:=.type "list",data:=.seq vs.toArray})(hi:IntsAre vs ns)(hl:ns.length≤sizeLine)(hr:Room k callerA)
 (F:∀base:Heap,K.In base->base.Ns mainGlobals mg->FnOk P w K mg base CX k fa fd [x] sp)(hbind:∀(s:Shared)(u:Value),BindsTo s fd ⟨[u],[]⟩ [(x,u)])
 (hsp:∀H:Hp,Only H->SqL K H a (ns.map V.int)->sp [.ref a] H (λ v _=>v=.bl true) λ _ _ _=>False)
 (hCX:∀H e s',CX [] H s₁ (λ _ _ _=>False) e s'->False):
 codeAny (model P w) callerA (.call (.ref fa) ⟨[.ref a],[]⟩) (λ r s'=>r=.ok (.ret (.bool true))/\OldK s₁.heap s'.heap/\s'.os=s₁.os/\AllBare s'.gens) s₁:=by
 have rv:=uO hi
 have lenV:=hi.length
 have core:∀H:Hp,Only H->SqL K H a (ns.map V.int)->HOk P w H s₁.heap->(∀b,H b≠none->b=a)->(H a≠none->K.lookup a=none)->
  codeAny (model P w) callerA (.call (.ref fa) ⟨[.ref a],[]⟩) (λ r s'=>r=.ok (.ret (.bool true))/\OldK s₁.heap s'.heap/\s'.os=s₁.os/\AllBare s'.gens) s₁:=by
  intro H hO hS hok hA hK
  have base_of:∀{b:Addr}{o:Obj},s₁.heap.get? b=some o->H b=none->(kW s₁.heap H).get? b=some o:=λ e n=>Kr e n
  have noA:∀{b:Addr}{o:Obj}{es:Array DictEntry}{ep:Nat},s₁.heap.get? b=some o->o.data=.dict es ep->H b=none:=λ{b o es ep} e d=>by
   cases q:H b with
   | none=>rfl
   | some u=>
     have e':b=a:=hA b (by rw[q];simp)
     subst e'
     rw[ha]at e;cases e
     have d':Data.seq vs.toArray _=Data.dict es ep:=d
     cases d'
  have nsK:∀{b:Addr}{m:Str->Option Value},s₁.heap.Ns b m->(kW s₁.heap H).Ns b m:=λ{b m} ⟨o,es,ep,e,d,r⟩=>⟨o,es,ep,base_of e (noA e d),d,r⟩
  have hKb:K.In (kW s₁.heap H):=λ b o e=>base_of (KX b o e) (by
   cases q:H b with
   | none=>rfl
   | some u=>
     have e':b=a:=hA b (by rw[q];simp)
     subst e'
     rw[hK (by rw[q];simp)]at e;cases e)
  have hM:Mod K mg (kW s₁.heap H):=⟨hKb,nsK hns,⟨mb,nsK hb,hbb⟩,let ⟨mc,h1,h2⟩:=hlim;⟨mc,nsK h1,h2⟩⟩
  have e0:Env0 P w K mg (kW s₁.heap H) callerA [] s₁ H:=⟨rfl,hM,λ b o e=>OJ e,Nat.le_of_eq (Ij _ _),trivial,λ b hb=>absurd (show b∈([]:List Addr)from hb) (by simp),hok,.of_eq hg⟩
  refine codeAny_mono ((F _ hKb (nsK hns)).run callerA [] s₁ H ⟨[.ref a],[]⟩ [.ref a] [.ref a] _ _ hr e0 (hbind s₁ (.ref a)) (.cons rfl .nil) (hsp H hO hS)) λ r s' h=>?_
  cases r with
  | error e=>exact(hCX H e s' h).elim
  | ok fl =>
    cases fl with
    | next=>exact False.elim h
    | brk=>exact False.elim h
    | cont=>exact False.elim h
    | ret u=>
      obtain⟨v,H',os,bare,un,hok',r',q⟩:=h
      have q':v=.bl true:=q
      subst q'
      obtain rfl:u=Value.bool true:=r'
      refine⟨rfl,OldK.of_keep λ b o e=>?_,os,bare⟩
      cases q:H b with
      | none=>exact un.keep b o e q (by intro z;exact absurd (show b∈([]:List Addr)from z) (by simp)) (by simp)
      | some u=>
        rcases hO b with z | ⟨ob,xs,z⟩
        . rw[q]at z;cases z
        . have z2:=un.frzs b ob _ z
          obtain⟨e1,_⟩:=hok b _ z
          obtain⟨e2,_⟩:=hok' b _ z2
          rw[e]at e1;cases e1
          exact e2
 cases hk:K.lookup a with
 | some o=>
   have e:=KX a o hk
   rw[ha]at e
   cases e
   refine core (λ _=>none) (λ _=>.inl rfl) (.inr ⟨_,vs.toArray,_,hk,rfl,rfl,rfl,by rw[w9,lenV];exact hl,by simpa using rv⟩) (λ b u z=>by have z':(none:Option HO)=some u:=z;cases z') (λ b z=>absurd rfl z) λ z=>absurd rfl z
 | none=>
   refine core (λ b=>if b=a then some (.frz {cls:=.type "list",data:=.seq vs.toArray} (.lst (ns.map V.int)))else none) (λ b=>?_) (.inl (.inr ⟨{cls:=.type "list",data:=.seq vs.toArray},if_pos rfl⟩)) (λ b u z=>?_) (λ b z=>?_) λ _=>hk
   . by_cases hb:b=a
     . exact .inr ⟨_,_,if_pos hb⟩
     . exact .inl (if_neg hb)
   . by_cases hb:b=a
     . have z':=(if_pos hb).symm.trans z
       cases z'
       subst hb
       exact⟨ha,by rw[x5];exact hl,vs,_,rv,ha⟩
     . have z':=(if_neg hb).symm.trans z
       cases z'
   . by_cases hb:b=a
     . exact hb
     . exact absurd (if_neg hb) z
abbrev KOf{K:PySem.W.Frag}{h:Heap}(_:K.In h):PySem.W.Frag:=K
theorem walk_of{l:PySem.W.OpenLaw}{n k:Nat}{q:Program}{loose:List Str}{XP:(Str->Option Value)->Heap->Prop}{YP:World->Heap->Prop}{d:DefRec}{K:Params->PySem.W.Frag}{CX:World->CXT}{sp:World->Sp}{x:Str}
 (hn:l.most=some n)(hn2:n≤sizeLine)(hdf:d.params.defaults=[])(hr:Room k callerA)
 (hY:∀(w:World)(h:Heap),YP w h->(K w.params).In h)
 (F :∀(w:World)(mg:Str->Option Value)(fa:Addr)(h:Heap),(K w.params).In h->h.Ns mainGlobals mg->mg d.name=some (.ref fa)->
  ∃ fd:FuncData,(∀(s:Shared)(u:Value),BindsTo s fd ⟨[u],[]⟩ [(x,u)])/\
    ∀base:Heap,(K w.params).In base->base.Ns mainGlobals mg->FnOk l.prog w (K w.params) mg base (CX w) k fa fd [x] (sp w))
 (hsp:∀(w:World)(H:Hp)(a:Addr)(ns:List Int),ns.length≤n->Only H->SqL (K w.params) H a (ns.map V.int)->sp w [.ref a] H (λ v _=>v=.bl true) λ _ _ _=>False)
 (hCX:∀(w:World)(H:Hp)(s:Shared)(e:Value)(s':Shared),CX w [] H s (λ _ _ _=>False) e s'->False):
 PySem.W.WalkO q loose XP YP l.row.toRowW d [] (λ f vs=>PySem.call f vs):=by
 refine Att.attach_call hn hdf λ w s₀ s₁ mg mb fa o pm cd doc a vs ns G Y ho hd hcd hmg hobj hints hlen hg=>?_
 have KX:=hY w _ Y
 obtain⟨fd,hb,hF⟩:=F w mg fa _ KX G.T.g hmg
 exact Js KX G.T.g G.T.b G.T.builtins G.T.nolimit hg hobj hints (Nat.le_trans hlen hn2) hr hF hb (λ H hO hS=>hsp w H a ns hlen hO hS) λ H e s'=>hCX w H s₁ e s'
def eX(s:Stmt):Arguments:=match s with
 | .FunctionDef _ a _ _ _ _ _ _ _ _=>a
 | _=>{posonlyargs:=[],args:=[],vararg:=none,kwonlyargs:=[],kw_defaults:=[],kwarg:=none,defaults:=[]}
def bu(s:Stmt):List Stmt:=match s with
 | .FunctionDef _ _ b _ _ _ _ _ _ _=>b
 | _=>[]
def ak(s:Stmt):Scope:=match s with
 | .FunctionDef _ _ _ _ _ _ sc _ _ _=>sc
 | _=>{kind:=.function,names:=[],isGenerator:=false,isCoroutine:=false}
abbrev CX0:CXT:=λ _ _ _ _ _ _=>False
abbrev E0:XK:=λ _ _ _=>False
theorem Uu{X:Cx}:Ia CX0 X E0:=λ _ _ _ _ _ _ _ h=>h.elim
structure Fun(K:PySem.W.Frag)(x qual:Str)(st:Stmt)(f:Addr)(fd:FuncData):Prop where
 ex:∃(oc:Value) (od:Option Addr) (kV doc pm:Value) (an:Option Addr) (cdv ct:Value) (osl:Array (Option Value)),
  fd=PySem.W.fnOf x qual (eX st) (bu st) (ak st) .none kV doc pm an cdv ct/\K.lookup f=some ⟨oc,od,.func fd,osl⟩/\PySem.W.codeIn K cdv qual=true
 kp:PySem.W.keepIn K (.ref f)=true
section
variable {P : Program} {w : World} {K : PySem.W.Frag} {mg : Str -> Option Value} {base : Heap}
theorem Fun.binds{x qual:Str}{st:Stmt}{f:Addr}{fd:FuncData}{ps:List Str}(F:Fun K x qual st f fd)
 (h:∀(kV doc pm:Value)(an:Option Addr)(cdv ct:Value)(us:List Value),us.length=ps.length->bindArgs (PySem.W.fnOf x qual (eX st) (bu st) (ak st) .none kV doc pm an cdv ct) ⟨us,[]⟩=pure (ps.zip us)):Binds K fd ps []:=by
 obtain⟨oc,od,kV,doc,pm,an,cdv,ct,osl,rfl,lk,hcd⟩:=F.ex
 exact .all (h kV doc pm an cdv ct)
theorem Il{x qual:Str}{st:Stmt}{f:Addr}{oc:Value}{od an:Option Addr}{osl:Array (Option Value)}{kV doc pm cdv ct:Value}(l:K.lookup f=some ⟨oc,od,.func (PySem.W.fnOf x qual (eX st) (bu st) (ak st) .none kV doc pm an cdv ct),osl⟩)
 (c:PySem.W.codeIn K cdv qual=true)(k:PySem.W.keepIn K (.ref f)=true):Fun K x qual st f (PySem.W.fnOf x qual (eX st) (bu st) (ak st) .none kV doc pm an cdv ct):=⟨⟨oc,od,kV,doc,pm,an,cdv,ct,osl,rfl,l,c⟩,k⟩
end
def aR(H H':Hp):Prop:=∀b o,H b=some o->H' b=some o
theorem aR.refl(H:Hp):aR H H:=λ _ _ h=>h
end L2
set_option maxHeartbeats 4000000
namespace DL
open PySem PySem.Spec L2
open PyProof.Rows
variable {a p : Addr} {K : PySem.W.Frag} {O O' : Own} {H H' : Hp} {xs : List V} {S : Store}
abbrev St:=L2.St
inductive D where
 | non | bl(b:Bool) | int(i:Int) | str(x:Str) | tup(ds:List D) | lst(ds:List D) | loc(k:Nat) | dic | dlo(k:Nat)
abbrev Store:=List (List D)
abbrev Gam:=List (Option D)
structure Own where
 A:List (Addr×Bool)
 B:List Addr
abbrev adr(A:List (Addr×Bool)):List Addr:=A.map Prod.fst
theorem d9{A:List (Addr×Bool)}{k:Nat}{q:Bool}(h:A[k]? =some (a,q)):a∈adr A:=List.mem_map.mpr ⟨_,y8 h,rfl⟩
theorem dI(A N:List (Addr×Bool)):adr (A++N)=adr A++adr N:=List.map_append
abbrev Own.has(O:Own)(a:Addr):Prop:=a∈adr O.A∨a∈O.B
def Tp(K:PySem.W.Frag)(O:Own)(H:Hp)(a:Addr)(xs:List V):Prop:=¬O.has a/\H a=some (.tup xs)
def Ls(K:PySem.W.Frag)(O:Own)(H:Hp)(a:Addr)(xs:List V):Prop:=(¬O.has a/\Rd H a (.lst xs))∨SqL K (λ _=>none) a xs
theorem Tp.sq(h:Tp K O H a xs):SqT K H a xs:=.inl (.inl h.2)
theorem Ls.sq(h:Ls K O H a xs):SqL K H a xs:=by
 rcases h with⟨_,h⟩ | (h | h)
 . exact .inl h
 . rcases h with h | ⟨_,h⟩<;>cases h
 . exact .inr h
def Abv(K:PySem.W.Frag)(a:Addr):Prop:=∀c o,K.lookup c=some o->c<a
mutual
inductive Rep(K:PySem.W.Frag)(O:Own)(H:Hp):V->D->Prop
 | non:Rep K O H .non .non
 | bl(b:Bool):Rep K O H (.bl b) (.bl b)
 | int(i:Int):Rep K O H (.int i) (.int i)
 | str(x:Str):Rep K O H (.str x) (.str x)
 | tup{a:Addr}{xs:List V}{ds:List D}(h:Tp K O H a xs)(r:Reps K O H xs ds):Rep K O H (.ref a) (.tup ds)
 | lst{a:Addr}{xs:List V}{ds:List D}(h:Ls K O H a xs)(r:Reps K O H xs ds):Rep K O H (.ref a) (.lst ds)
 | loc{a:Addr}{k:Nat}(h:O.A[k]? =some (a,false)):Rep K O H (.ref a) (.loc k)
 | dlo{a:Addr}{k:Nat}(h:O.A[k]? =some (a,true))(n:Abv K a):Rep K O H (.ref a) (.dlo k)
 | dic{a:Addr}(h:¬O.has a)(e:H a=some (.dK [])):Rep K O H (.ref a) .dic
inductive Reps(K:PySem.W.Frag)(O:Own)(H:Hp):List V->List D->Prop
 | nil:Reps K O H [] []
 | cons{v:V}{d:D}{vs:List V}{ds:List D}(r:Rep K O H v d)(t:Reps K O H vs ds):Reps K O H (v::vs) (d::ds)
end
structure Step(O O':Own)(H H':Hp):Prop where
 kept:∀b o,b∉adr O.A->H b=some o->H' b=some o
 dom:∀b,H b≠none->H' b≠none
 ext:∃N,O'.A=O.A++N/\∀b∈adr N,H b=none
 hid:O'.B=O.B
theorem Step.refl(O:Own)(H:Hp):Step O O H H:=⟨λ _ _ _ h=>h,λ _ h=>h,⟨[],by simp,λ _ h=>nomatch h⟩,rfl⟩
theorem Step.trans{O1 O2:Own}{H1 H2:Hp}(a:Step O O1 H H1)(b:Step O1 O2 H1 H2):Step O O2 H H2:=by
 obtain⟨N1,e1,f1⟩:=a.ext
 obtain⟨N2,e2,f2⟩:=b.ext
 refine⟨λ c o hc h=>b.kept c o (λ z=>?_) (a.kept c o hc h),λ c h=>b.dom c (a.dom c h),⟨N1++N2,by rw[e2,e1,List.append_assoc],λ c hc=>?_⟩,b.hid.trans a.hid⟩
 . rw[e1,dI]at z
   rcases List.mem_append.mp z with z | z
   . exact hc z
   . rw[f1 c z]at h;cases h
 . rw[dI]at hc
   rcases List.mem_append.mp hc with z | z
   . exact f1 c z
   . cases q:H c with
     | none=>rfl
     | some o=>exact absurd (f2 c z) (a.dom c (by rw[q];simp))
theorem Step.nothas(s:Step O O' H H'){a:Addr}(h:¬O.has a)(t:H a≠none):¬O'.has a:=by
 obtain⟨N,e,f⟩:=s.ext
 rintro(z | z)
 . rw[e,dI]at z
   rcases List.mem_append.mp z with z | z
   . exact h (.inl z)
   . exact t (f a z)
 . rw[s.hid]at z;exact h (.inr z)
structure Conv(O O':Own)(H H':Hp):Prop where
 tr:∀a u,¬O.has a->H a=some u->¬O'.has a/\H' a=some u
 lc:∀(k:Nat)(a:Addr×Bool),O.A[k]? =some a->O'.A[k]? =some a
theorem Step.conv(s:Step O O' H H'):Conv O O' H H':=
 ⟨λ a u h t=>⟨s.nothas h (by rw[t];simp),s.kept a u (λ z=>h (.inl z)) t⟩,λ k a h=>by
  obtain⟨N,e,_⟩:=s.ext
  rw[e,List.getElem?_append_left (z0.mp h).1];exact h⟩
theorem Rd.conv(s:Conv O O' H H'){a:Addr}{u:HO}(h:¬O.has a)(r:Rd H a u):¬O'.has a/\Rd H' a u:=by
 rcases r with r | ⟨o,r⟩
 . obtain⟨x,y⟩:=s.tr a _ h r
   exact⟨x,.inl y⟩
 . obtain⟨x,y⟩:=s.tr a _ h r
   exact⟨x,.inr ⟨o,y⟩⟩
theorem Tp.conv(h:Tp K O H a xs)(s:Conv O O' H H'):Tp K O' H' a xs:=s.tr a _ h.1 h.2
theorem Ls.conv(h:Ls K O H a xs)(s:Conv O O' H H'):Ls K O' H' a xs:=by
 rcases h with⟨n,r⟩ | h
 . exact .inl (Rd.conv s n r)
 . exact .inr h
mutual
theorem Rep.conv{K:PySem.W.Frag}{O O':Own}{H H':Hp}(s:Conv O O' H H'):∀{v:V}{d:D},Rep K O H v d->Rep K O' H' v d
 | _,_,.non=>.non
 | _,_,.bl b=>.bl b
 | _,_,.int i=>.int i
 | _,_,.str x=>.str x
 | _,_,.tup h r=>.tup (h.conv s) (Reps.conv s r)
 | _,_,.lst h r=>.lst (h.conv s) (Reps.conv s r)
 | _,_,.loc h=>.loc (s.lc _ _ h)
 | _,_,.dlo h n=>.dlo (s.lc _ _ h) n
 | _,_,.dic h e=>.dic (s.tr _ _ h e).1 (s.tr _ _ h e).2
theorem Reps.conv{K:PySem.W.Frag}{O O':Own}{H H':Hp}(s:Conv O O' H H'):∀{vs:List V}{ds:List D},Reps K O H vs ds->Reps K O' H' vs ds
 | _,_,.nil=>.nil
 | _,_,.cons r t=>.cons (Rep.conv s r) (Reps.conv s t)
end
theorem Rep.mono{v:V}{d:D}(h:Rep K O H v d)(s:Step O O' H H'):Rep K O' H' v d:=h.conv s.conv
theorem Reps.mono{v:List V}{d:List D}(h:Reps K O H v d)(s:Step O O' H H'):Reps K O' H' v d:=h.conv s.conv
abbrev Own.hide(O:Own)(p:Addr):Own:=⟨O.A,p::O.B⟩
theorem Conv.hide(h:H p=none)(o:HO):Conv O (O.hide p) H (upd H p o):=
 ⟨λ a u n t=>by
  have ne:a≠p:=aB t h
  refine⟨λ z=>?_,by rw[aj ne];exact t⟩
  rcases z with z | z
  . exact n (.inl z)
  . rcases List.mem_cons.mp z with z | z
    . exact ne z
    . exact n (.inr z),λ _ _ h=>h⟩
theorem Conv.unhide{A:List (Addr×Bool)}{B:List Addr}:Conv ⟨A,p::B⟩ ⟨A,B⟩ H H:=
 ⟨λ a u n t=>⟨λ z=>n (z.elim .inl λ z=>.inr (x9 _ z)),t⟩,λ _ _ h=>h⟩
theorem Conv.updHid(h:p∈O.B)(o:HO):Conv O O H (upd H p o):=
 ⟨λ a u n t=>⟨n,by rw[aj (λ e=>n (.inr (by rw[e];exact h)))];exact t⟩,λ _ _ h=>h⟩
theorem Reps.length{K:PySem.W.Frag}{O:Own}{H:Hp}:∀{vs:List V}{ds:List D},Reps K O H vs ds->vs.length=ds.length
 | _,_,.nil=>rfl
 | _,_,.cons _ t=>by simp[Reps.length t]
theorem Reps.get{K:PySem.W.Frag}{O:Own}{H:Hp}:∀{vs:List V}{ds:List D}{i:Nat}{d:D},Reps K O H vs ds->ds[i]? =some d->∃v,vs[i]? =some v/\Rep K O H v d
 | _,_,_,_,.nil,e=>by simp at e
 | _,_,0,_,.cons r _,e=>by simp at e;subst e;exact⟨_,rfl,r⟩
 | _,_,i+1,d,.cons _ t,e=>by
   obtain⟨v,h1,h2⟩:=Reps.get (i:=i) (d:=d) t (by simpa using e)
   exact⟨v,by simpa using h1,h2⟩
theorem Reps.append{K:PySem.W.Frag}{O:Own}{H:Hp}:∀{vs ws:List V}{ds es:List D},Reps K O H vs ds->Reps K O H ws es->Reps K O H (vs++ws) (ds++es)
 | _,_,_,_,.nil,s=>s
 | _,_,_,_,.cons r t,s=>.cons r (Reps.append t s)
theorem Reps.take{K:PySem.W.Frag}{O:Own}{H:Hp}:∀{vs:List V}{ds:List D}(n:Nat),Reps K O H vs ds->Reps K O H (vs.take n) (ds.take n)
 | _,_,0,_=>.nil
 | _,_,_+1,.nil=>.nil
 | _,_,n+1,.cons r t=>.cons r (Reps.take n t)
theorem Reps.drop{K:PySem.W.Frag}{O:Own}{H:Hp}:∀{vs:List V}{ds:List D}(n:Nat),Reps K O H vs ds->Reps K O H (vs.drop n) (ds.drop n)
 | _,_,0,r=>r
 | _,_,_+1,.nil=>.nil
 | _,_,n+1,.cons _ t=>Reps.drop n t
theorem Reps.set{K:PySem.W.Frag}{O:Own}{H:Hp}{v:V}{d:D}(r:Rep K O H v d):∀{vs:List V}{ds:List D}(i:Nat),Reps K O H vs ds->Reps K O H (vs.set i v) (ds.set i d)
 | _,_,_,.nil=>.nil
 | _,_,0,.cons _ t=>.cons r t
 | _,_,i+1,.cons q t=>.cons q (Reps.set r i t)
theorem Reps.ints{K:PySem.W.Frag}{O:Own}{H:Hp}:∀{vs:List V}{ns:List Int},Reps K O H vs (ns.map D.int)->vs=ns.map V.int
 | _,[],.nil=>rfl
 | _,_::_,.cons r t=>by cases r;simp[Reps.ints t]
theorem Reps.of_ints{K:PySem.W.Frag}{O:Own}{H:Hp}:∀ns:List Int,Reps K O H (ns.map V.int) (ns.map D.int)
 | []=>.nil
 | n::ns=>.cons (.int n) (Reps.of_ints ns)
theorem Reps.bools{K:PySem.W.Frag}{O:Own}{H:Hp}:∀{vs:List V}{ns:List Bool},Reps K O H vs (ns.map D.bl)->vs=ns.map V.bl
 | _,[],.nil=>rfl
 | _,_::_,.cons r t=>by cases r;simp[Reps.bools t]
def V0(ns:List Int):List Key:=ns.map Sum.inl
inductive Kps(K:PySem.W.Frag)(O:Own)(H:Hp):List (List Key×V)->List D->Prop
 | nil:Kps K O H [] []
 | cons{ns:List Int}{v:V}{d:D}{kvs:List (List Key×V)}{ds:List D}(r:Rep K O H v d)(t:Kps K O H kvs ds):Kps K O H ((V0 ns,v)::kvs) (.tup [.tup (ns.map .int),d]::ds)
theorem Kps.conv{K:PySem.W.Frag}{O O':Own}{H H':Hp}(s:Conv O O' H H'):∀{kvs:List (List Key×V)}{ds:List D},Kps K O H kvs ds->Kps K O' H' kvs ds
 | _,_,.nil=>.nil
 | _,_,.cons r t=>.cons (r.conv s) (Kps.conv s t)
def hC0(c:Int×List Int):Int:=reduceHash (Builtin.Tuple.tupleHashOf [hashInt c.1,reduceHash (Builtin.Tuple.tupleHashOf (c.2.map hashInt))])
abbrev Cy:=List ((Int×List Int)×Addr×Value)
def PN(a:Addr)(ys:Cy)(h:Heap):Prop:=ys.length≤sizeLine/\(a==sysModules)=false/\(ys.map (·.1)).Nodup/\
 ∃o es ep,h.get? a=some o/\o.ExactDict/\o.data=.dict es ep/\es.toList=ys.map λ y=>(⟨hC0 y.1,.ref y.2.1,y.2.2⟩:DictEntry)
def Rf(a:Addr)(ys:Cy)(h:Heap):Prop:=ys.length≤sizeLine/\(a==sysModules)=false/\(ys.map (·.1)).Nodup/\
 ∃o es,h.get? a=some o/\o.ExactDict/\o.data=.dict es ys.length/\es.toList=ys.map λ y=>(⟨hC0 y.1,.ref y.2.1,y.2.2⟩:DictEntry)
inductive Kcs(K:PySem.W.Frag)(O:Own)(H:Hp):Cy->List D->Prop
 | nil:Kcs K O H [] []
 | cons{c:Int×List Int}{b:Addr}{u:Value}{v:V}{k d:D}{ys:Cy}{ds:List D}(e:k=.tup [.int c.1,.tup (c.2.map .int)])(rk:Rep K O H (.ref b) k)(rv:RelV v u)(r:Rep K O H v d)(t:Kcs K O H ys ds):Kcs K O H ((c,b,u)::ys) (.tup [k,d]::ds)
theorem Kcs.conv{K:PySem.W.Frag}{O O':Own}{H H':Hp}(s:Conv O O' H H'):∀{ys:Cy}{ds:List D},Kcs K O H ys ds->Kcs K O' H' ys ds
 | _,_,.nil=>.nil
 | _,_,.cons e rk rv r t=>.cons e (rk.conv s) rv (r.conv s) (Kcs.conv s t)
def isO:Option Int->Value->Bool
 | some i,.int j _=>decide (i=j)
 | none,.none=>true
 | _,_=>false
def hO0:Option Int->Int
 | some i=>hashInt i
 | none=>4238894112
abbrev Oy:=List (Option Int×Value)
inductive OEs:List DictEntry->Oy->Prop
 | nil:OEs [] []
 | cons{e:DictEntry}{k:Option Int}{v:Value}{es:List DictEntry}{ys:Oy}(i:isO k e.key=true)(h:e.hash=hO0 k)(q:e.val=v)(t:OEs es ys):OEs (e::es) ((k,v)::ys)
def Q5(a:Addr)(ys:Oy)(h:Heap):Prop:=ys.length≤sizeLine/\(a==sysModules)=false/\(ys.map (·.1)).Nodup/\
 ∃o es ep,h.get? a=some o/\o.ExactDict/\o.data=.dict es ep/\OEs es.toList ys
def oD:Option Int->D
 | some i=>.int i
 | none=>.non
inductive Kos(K:PySem.W.Frag)(O:Own)(H:Hp):Oy->List D->Prop
 | nil:Kos K O H [] []
 | cons{c:Option Int}{u:Value}{v:V}{k d:D}{ys:Oy}{ds:List D}(e:k=oD c)(rv:RelV v u)(r:Rep K O H v d)(t:Kos K O H ys ds):Kos K O H ((c,u)::ys) (.tup [k,d]::ds)
theorem Kos.conv{K:PySem.W.Frag}{O O':Own}{H H':Hp}(s:Conv O O' H H'):∀{ys:Oy}{ds:List D},Kos K O H ys ds->Kos K O' H' ys ds
 | _,_,.nil=>.nil
 | _,_,.cons e rv r t=>.cons e rv (r.conv s) (Kos.conv s t)
abbrev tbD(b:Bool)(l c:Nat)(q:Str)(z:Nat):List D:=[.bl b,.int l,.int c,.str q,.int z,.tup (List.replicate (sizeLine+1) .non)]
def Ur(K:PySem.W.Frag)(z a:Addr):Prop:=∃o vs,K.lookup z=some o/\o.data=.fields vs/\vs[11]? =some (.ref a)
def Wc(x:Addr)(q:Str)(h:Heap):Prop:=h.CodeRec (.ref x) q
inductive DOb(K:PySem.W.Frag)(O:Own)(H:Hp)(a:Addr)(ds:List D):Prop
 | t(kvs:List (List Key×V))(e:H a=some (.dT kvs))(r:Kps K O H kvs ds):DOb K O H a ds
 | c(ys:Cy)(n:ys≠[])(e:H a=some (.ext (PN a ys)))(r:Kcs K O H ys ds):DOb K O H a ds
 | o(ys:Oy)(n:ys≠[])(e:H a=some (.ext (Q5 a ys)))(r:Kos K O H ys ds):DOb K O H a ds
 | m(ys:Cy)(ds':List D)(hd:ds=.non::ds')(e:H a=some (.ext (Rf a ys)))(r:Kcs K O H ys ds'):DOb K O H a ds
 | p(ps:Array Value)(n:¬Abv K a)(b:Bool)(l c z:Nat)(q:Str)(k:Ur K z a)(e:H a=some (.tbl ps))(hd:ds=tbD b l c q z)
   (g:(b=false/\ps=#[])∨(b=true/\∃x,ps=#[rawInt l,rawInt c,.ref x]/\¬O.has x/\H x=some (.ext (Wc x q)))):DOb K O H a ds
theorem DOb.move{ds:List D}(s:Conv O O' H H')(b:DOb K O H a ds)(h:∀o,H a=some o->H' a=some o):DOb K O' H' a ds:=by
 cases b with
 | t kvs e r=>exact .t kvs (h _ e) (r.conv s)
 | c ys n e r=>exact .c ys n (h _ e) (r.conv s)
 | o ys n e r=>exact .o ys n (h _ e) (r.conv s)
 | m ys d' hd e r=>exact .m ys d' hd (h _ e) (r.conv s)
 | p ps n b l c z q k e hd g=>exact .p ps n b l c z q k (h _ e) hd (g.imp id λ⟨g1,x,g2,g3,g4⟩=>⟨g1,x,g2,s.tr _ _ g3 g4⟩)
theorem DOb.there{ds:List D}(b:DOb K O H a ds):H a≠none:=by
 cases b with
 | t kvs e r=>rw[e];simp
 | c ys n e r=>rw[e];simp
 | o ys n e r=>rw[e];simp
 | m ys d' hd e r=>rw[e];simp
 | p ps n b l c z q k e hd g=>rw[e];simp
structure StOk(K:PySem.W.Frag)(O:Own)(H:Hp)(S:Store):Prop where
 nd:(adr O.A).Nodup
 len:O.A.length=S.length
 obj:∀(k:Nat)(a:Addr)(ds:List D),O.A[k]? =some (a,false)->S[k]? =some ds->∃xs,H a=some (.lst xs)/\Reps K O H xs ds
 dob:∀(k:Nat)(a:Addr)(ds:List D),O.A[k]? =some (a,true)->S[k]? =some ds->DOb K O H a ds
 apart:∀a∈adr O.A,a∉O.B
 hidden:∀b∈O.B,H b≠none
structure EnvOk(K:PySem.W.Frag)(O:Own)(H:Hp)(σ:St)(Γ:Gam):Prop where
 len:σ.length=Γ.length
 at_:∀(i:Nat)(d:D),Γ[i]? =some (some d)->∃v,σ[i]? =some (some v)/\Rep K O H v d
theorem EnvOk.mono{σ:St}{Γ:Gam}(e:EnvOk K O H σ Γ)(s:Step O O' H H'):EnvOk K O' H' σ Γ:=
 ⟨e.len,λ i d h=>let ⟨v,a,b⟩:=e.at_ i d h;⟨v,a,b.mono s⟩⟩
theorem EnvOk.set{σ:St}{Γ:Gam}(e:EnvOk K O H σ Γ){v:V}{d:D}(r:Rep K O H v d)(i:Nat):EnvOk K O H (σ.set i (some v)) (Γ.set i (some d)):=by
 refine⟨by simp[e.len],λ j c h=>?_⟩
 by_cases hj:i=j
 . subst hj
   have hl:i<Γ.length:=by
    have:=(z0.mp h).1
    simpa using this
   rw[List.getElem?_set_self hl]at h
   cases h
   exact⟨v,List.getElem?_set_self (by rw[e.len];exact hl),r⟩
 . rw[List.getElem?_set_ne hj]at h
   rw[List.getElem?_set_ne hj]
   exact e.at_ j c h
theorem StOk.tracked(s:StOk K O H S){a:Addr}(h:O.has a):H a≠none:=by
 rcases h with h | h
 . obtain⟨⟨a',c⟩,hm,rfl⟩:=List.mem_map.mp h
   obtain⟨k,hk⟩:=List.getElem?_of_mem hm
   have hl:k<S.length:=by rw[←s.len];exact(z0.mp hk).1
   cases c with
   | false=>
     obtain⟨xs,q,_⟩:=s.obj k a' S[k] hk (y0 hl)
     rw[show(a',false).1=a' from rfl,q];simp
   | true=>
     exact(s.dob k a' S[k] hk (y0 hl)).there
 . exact s.hidden a h
theorem Step.fresh(h:H p=none)(o:HO):Step O O H (upd H p o):=
 ⟨λ b u _ q=>by rw[aj (aB q h)];exact q,λ b q=>by
  by_cases e:b=p
  . subst e;rw[aC];simp
  . rw[aj e];exact q,⟨[],by simp,λ _ z=>nomatch z⟩,rfl⟩
theorem Step.same(h:aR H H'):Step O O H H':=
 ⟨λ b o _ q=>h b o q,λ b q=>by
  cases e:H b with
  | none=>exact absurd e q
  | some o=>rw[h b o e];simp,⟨[],by simp,λ _ z=>nomatch z⟩,rfl⟩
theorem aR.fresh(h:H p=none)(o:HO):aR H (upd H p o):=λ b u q=>by rw[aj (aB q h)];exact q
theorem StOk.same(s:StOk K O H S)(h:aR H H'):StOk K O H' S:=
 ⟨s.nd,s.len,λ k a ds e1 e2=>let ⟨xs,q,r⟩:=s.obj k a ds e1 e2;⟨xs,h _ _ q,r.mono (Step.same h)⟩,λ k a ds e1 e2=>(s.dob k a ds e1 e2).move (Step.same h).conv λ o q=>h _ _ q,s.apart,λ b hb=>(Step.same (O:=O) h).dom b (s.hidden b hb)⟩
theorem StOk.fresh_not(s:StOk K O H S){p:Addr}(h:H p=none):¬O.has p:=λ z=>s.tracked z h
theorem StOk.fresh(s:StOk K O H S){p:Addr}(h:H p=none)(o:HO):StOk K O (upd H p o) S:=s.same (aR.fresh h o)
abbrev Own.more(O:Own)(p:Addr)(q:Bool:=false):Own:=⟨O.A++[(p,q)],O.B⟩
theorem Step.own(h:H p=none)(o:HO)(q:Bool:=false):Step O (O.more p q) H (upd H p o):=
 ⟨(Step.fresh (O:=O) h o).kept,(Step.fresh (O:=O) h o).dom,⟨[(p,q)],rfl,λ b z=>by rw[List.mem_singleton.mp z];exact h⟩,rfl⟩
theorem qY{A:List (Addr×Bool)}{p:Addr×Bool}{k:Nat}{x:Addr×Bool}(h:(A++[p])[k]? =some x):A[k]? =some x∨(k=A.length/\x=p):=by
 by_cases hk:k<A.length
 . rw[List.getElem?_append_left hk]at h;exact .inl h
 . rw[List.getElem?_append_right (by omega)]at h
   have hk0:k-A.length=0:=by
    have:=(z0.mp h).1
    simp at this;omega
   rw[hk0]at h
   exact .inr ⟨by omega,(Option.some.inj h).symm⟩
theorem G6{A:List (Addr×Bool)}{q:Bool}(h:(adr A).Nodup)(n:p∉adr A):(adr (A++[(p,q)])).Nodup:=by
 rw[dI]
 refine List.nodup_append.mpr ⟨h,by simp,λ a ha b hb e=>?_⟩
 rw[List.mem_singleton.mp hb]at e;rw[e]at ha;exact n ha
theorem StOk.own(s:StOk K O H S){p:Addr}(h:H p=none){xs:List V}{ds:List D}(r:Reps K O H xs ds):
 StOk K (O.more p) (upd H p (.lst xs)) (S++[ds]):=by
 have st:=Step.own (O:=O) h (.lst xs)
 have np:=s.fresh_not h
 refine⟨G6 s.nd λ z=>np (.inl z),by simp[s.len],λ k a es e1 e2=>?_,λ k a es e1 e2=>?_,λ a ha=>?_,λ b hb=>st.dom b (s.hidden b hb)⟩
 . rcases qY e1 with e1 | ⟨rfl,e⟩
   . have hk:=(z0.mp e1).1
     rw[List.getElem?_append_left (by rw[←s.len];exact hk)]at e2
     obtain⟨ys,q,r'⟩:=s.obj k a es e1 e2
     exact⟨ys,by rw[aj (aB q h)];exact q,r'.mono st⟩
   . cases e
     rw[List.getElem?_append_right (by rw[s.len];exact x8 _),s.len,Nat.sub_self]at e2
     cases e2
     exact⟨xs,aC,r.mono st⟩
 . rcases qY e1 with e1 | ⟨rfl,e⟩
   . have hk:=(z0.mp e1).1
     rw[List.getElem?_append_left (by rw[←s.len];exact hk)]at e2
     exact(s.dob k a es e1 e2).move st.conv λ o q=>by rw[aj (aB q h)];exact q
   . cases e
 . rw[dI]at ha
   rcases List.mem_append.mp ha with z | z
   . exact s.apart a z
   . rw[List.mem_singleton.mp z];exact λ q=>np (.inr q)
theorem Step.put(h:a∈adr O.A)(o:HO):Step O O H (upd H a o):=
 ⟨λ b u hb q=>by rw[aj (λ e=>hb (by rw[e];exact h))];exact q,λ b q=>by
  by_cases e:b=a
  . subst e;rw[aC];simp
  . rw[aj e];exact q,⟨[],by simp,λ _ z=>nomatch z⟩,rfl⟩
theorem Fq{A:List (Addr×Bool)}(nd:(adr A).Nodup){k j:Nat}{a b:Addr}{p q:Bool}(h:A[k]? =some (a,p))(h2:A[j]? =some (b,q))(hj:k≠j):b≠a:=λ e=>hj (by
 have g1:(adr A)[k]? =some a:=by rw[x6,h];rfl
 have g2:(adr A)[j]? =some b:=by rw[x6,h2];rfl
 obtain⟨h1,e1'⟩:=z0.mp g1
 obtain⟨h2,e2'⟩:=z0.mp g2
 exact(List.getElem_inj nd).mp (e1'.trans (e.symm.trans e2'.symm)))
theorem StOk.put(s:StOk K O H S){k:Nat}{a:Addr}(h:O.A[k]? =some (a,false)){xs:List V}{ds:List D}(r:Reps K O H xs ds):
 StOk K O (upd H a (.lst xs)) (S.set k ds):=by
 have st:=Step.put (O:=O) (H:=H) (d9 h) (.lst xs)
 refine⟨s.nd,by simp[s.len],λ j b es e1 e2=>?_,λ j b es e1 e2=>?_,s.apart,λ b hb=>st.dom b (s.hidden b hb)⟩
 . by_cases hj:k=j
   . subst hj
     rw[h]at e1;cases e1
     have hl:=(z0.mp e2).1
     rw[List.getElem?_set_self (by simpa using hl)]at e2
     cases e2
     exact⟨xs,aC,r.mono st⟩
   . rw[List.getElem?_set_ne hj]at e2
     obtain⟨ys,q,r'⟩:=s.obj j b es e1 e2
     exact⟨ys,by rw[aj (Fq s.nd h e1 hj)];exact q,r'.mono st⟩
 . have hj:k≠j:=λ e=>by subst e;rw[h]at e1;cases e1
   rw[List.getElem?_set_ne hj]at e2
   exact(s.dob j b es e1 e2).move st.conv λ o q=>by rw[aj (Fq s.nd h e1 hj)];exact q
theorem StOk.hide(s:StOk K O H S){p:Addr}(h:H p=none)(o:HO):StOk K (O.hide p) (upd H p o) S:=by
 have st:=Step.fresh (O:=O) h o
 refine⟨s.nd,s.len,λ k a ds e1 e2=>?_,λ k a ds e1 e2=>?_,λ a ha z=>?_,λ b hb=>?_⟩
 . obtain⟨xs,q,r⟩:=s.obj k a ds e1 e2
   exact⟨xs,by rw[aj (aB q h)];exact q,r.conv (Conv.hide h o)⟩
 . exact(s.dob k a ds e1 e2).move (Conv.hide h o) λ o q=>by rw[aj (aB q h)];exact q
 . rcases List.mem_cons.mp z with z | z
   . exact s.tracked (.inl ha) (z▸h)
   . exact s.apart a ha z
 . rcases List.mem_cons.mp hb with z | z
   . subst z;rw[aC];simp
   . exact st.dom b (s.hidden b z)
theorem StOk.unhide{A:List (Addr×Bool)}{B:List Addr}(s:StOk K ⟨A,p::B⟩ H S):StOk K ⟨A,B⟩ H S:=
 ⟨s.nd,s.len,λ k a ds e1 e2=>let ⟨xs,q,r⟩:=s.obj k a ds e1 e2;⟨xs,q,r.conv Conv.unhide⟩,λ k a ds e1 e2=>(s.dob k a ds e1 e2).move Conv.unhide λ _ q=>q,λ a ha z=>s.apart a ha (x9 _ z),λ b hb=>s.hidden b (x9 _ hb)⟩
theorem StOk.updHid(s:StOk K O H S){p:Addr}(h:p∈O.B)(o:HO):StOk K O (upd H p o) S:=
 ⟨s.nd,s.len,λ k a ds e1 e2=>by
  obtain⟨xs,q,r⟩:=s.obj k a ds e1 e2
  have ne:a≠p:=λ e=>s.apart a (d9 e1) (e▸h)
  exact⟨xs,by rw[aj ne];exact q,r.conv (Conv.updHid h o)⟩,λ k a ds e1 e2=>by
  have ne:a≠p:=λ e=>s.apart a (d9 e1) (e▸h)
  exact(s.dob k a ds e1 e2).move (Conv.updHid h o) λ _ q=>by rw[aj ne];exact q,s.apart,λ b hb=>by
  by_cases e:b=p
  . subst e;rw[aC];simp
  . rw[aj e];exact s.hidden b hb⟩
theorem Step.adopt{A:List (Addr×Bool)}(s:Step O ⟨A,O.B⟩ H H')(h:H p=none):Step O ⟨A++[(p,false)],O.B⟩ H H':=by
 obtain⟨N,e,f⟩:=s.ext
 refine⟨s.kept,s.dom,⟨N++[(p,false)],?_,λ b hb=>?_⟩,rfl⟩
 . show A++[(p,false)]=_
   rw[show A=O.A++N from e,List.append_assoc]
 . rw[dI]at hb
   rcases List.mem_append.mp hb with z | z
   . exact f b z
   . rw[List.mem_singleton.mp z];exact h
theorem Conv.adopt{A:List (Addr×Bool)}{B:List Addr}:Conv ⟨A,p::B⟩ ⟨A++[(p,false)],B⟩ H H:=
 ⟨λ a u n t=>⟨λ z=>n (z.elim (λ z=>(List.mem_append.mp (by rw[←dI];exact z)).elim .inl λ z=>.inr (by rw[List.mem_singleton.mp z];exact v3)) λ z=>.inr (x9 _ z)),t⟩,
  λ k a h=>by
   show(A++[(p,false)])[k]? =some a
   rw[List.getElem?_append_left (z0.mp h).1];exact h⟩
theorem StOk.adopt{A:List (Addr×Bool)}{B:List Addr}{ds:List D}(s:StOk K ⟨A,p::B⟩ H S)(hp:p∉B)(h:H p=some (.lst xs))(r:Reps K ⟨A,p::B⟩ H xs ds):StOk K ⟨A++[(p,false)],B⟩ H (S++[ds]):=by
 have np:p∉adr A:=λ z=>s.apart p z v3
 have sl:A.length=S.length:=s.len
 refine⟨G6 s.nd np,by simp[sl],λ k a es e1 e2=>?_,λ k a es e1 e2=>?_,λ a ha=>?_,λ b hb=>s.hidden b (x9 _ hb)⟩
 . rcases qY e1 with e1 | ⟨rfl,e⟩
   . have hk:=(z0.mp e1).1
     rw[List.getElem?_append_left (by omega)]at e2
     obtain⟨ys,q,r'⟩:=s.obj k a es e1 e2
     exact⟨ys,q,r'.conv Conv.adopt⟩
   . cases e
     rw[List.getElem?_append_right (by omega),sl,Nat.sub_self]at e2
     cases e2
     exact⟨xs,h,r.conv Conv.adopt⟩
 . rcases qY e1 with e1 | ⟨rfl,e⟩
   . have hk:=(z0.mp e1).1
     rw[List.getElem?_append_left (by omega)]at e2
     exact(s.dob k a es e1 e2).move Conv.adopt λ _ q=>q
   . cases e
 . have ha:a∈adr (A++[(p,false)]):=ha
   rw[dI]at ha
   rcases List.mem_append.mp ha with z | z
   . exact λ q=>s.apart a z (x9 _ q)
   . rw[List.mem_singleton.mp z];exact hp
theorem Step.inner{A1 A2:List (Addr×Bool)}{B:List Addr}{H1 H2:Hp}(a:Step O ⟨A1,B⟩ H H1)(b:Step ⟨A1,p::B⟩ ⟨A2,p::B⟩ H1 H2)(h:H p=none)(o:HO):Step O ⟨A2,B⟩ H (upd H2 p o):=by
 have b':Step ⟨A1,B⟩ ⟨A2,B⟩ H1 H2:=⟨b.kept,b.dom,b.ext,rfl⟩
 have c:=a.trans b'
 refine⟨λ x u hx t=>?_,λ x t=>?_,c.ext,c.hid⟩
 . rw[aj (aB t h)];exact c.kept x u hx t
 . by_cases e:x=p
   . subst e;rw[aC];simp
   . rw[aj e];exact c.dom x t
end DL
namespace DL
open PySem PySem.Spec L2
open PyProof.Rows
variable {K : PySem.W.Frag} {O : Own} {H : Hp} {x : D} {ds : List D} {i j : Int} {p : Addr} {xs : List V}
abbrev Pins:=List (Addr×Obj)
abbrev WD:=D->Store->Prop
def QG(K:PySem.W.Frag)(O:Own)(H:Hp)(W:WD):VK:=λ v H'=>∃O' d S',W d S'/\Step O O' H H'/\StOk K O' H' S'/\Rep K O' H' v d
def QA(K:PySem.W.Frag)(O:Own)(H:Hp)(W:List D->Store->Prop):List V->Hp->Prop:=λ vs H'=>∃O' ds S',W ds S'/\Step O O' H H'/\StOk K O' H' S'/\Reps K O' H' vs ds
def QT(K:PySem.W.Frag)(O:Own)(H:Hp)(W:Bool->Store->Prop):Bool->Hp->Prop:=λ b H'=>∃O' S',W b S'/\Step O O' H H'/\StOk K O' H' S'
def Ev(X:Cx)(Γ:Gam)(S:Store)(e:Expr)(W:WD):Prop:=
 ∀ (pins:Pins)(s:Shared)(σ:St)(H:Hp)(O:Own),Inv X pins σ H s->EnvOk X.K O H σ Γ->StOk X.K O H S->
   wpAny (model X.prog X.w) X.A (eval e X.env) (EP X pins σ (QG X.K O H W)) X.xe s
def EvA(X:Cx)(Γ:Gam)(S:Store)(es:List Expr)(W:List D->Store->Prop):Prop:=
 ∀ (pos:Pos)(pins:Pins)(s:Shared)(σ:St)(H:Hp)(O:Own),Inv X pins σ H s->EnvOk X.K O H σ Γ->StOk X.K O H S->
   wpAny (model X.prog X.w) X.A (spliced (backTo pos (starEach es X.env))) (AP X pins σ (QA X.K O H W)) X.xe s
def TsW(X:Cx)(Γ:Gam)(S:Store)(e:Expr)(W:Bool->Store->Prop):Prop:=
 ∀ (whole:Sem Value)(pins:Pins)(s:Shared)(σ:St)(H:Hp)(O:Own),Inv X pins σ H s->EnvOk X.K O H σ Γ->StOk X.K O H S->
   wpAny (model X.prog X.w) X.A (isTrue e X.env whole) (TP X pins σ (QT X.K O H W)) X.xe s
def Ts(X:Cx)(Γ:Gam)(S:Store)(e:Expr)(W:Bool->Store->Prop):Prop:=
 ∀ (pins:Pins)(s:Shared)(σ:St)(H:Hp)(O:Own),Inv X pins σ H s->EnvOk X.K O H σ Γ->StOk X.K O H S->
   wpAny (model X.prog X.w) X.A (isTrue e X.env (eval e X.env)) (TP X pins σ (QT X.K O H W)) X.xe s
def OpW(X:Cx)(f:Value->Value->Sem Value)(x y:D)(S:Store)(W:WD):Prop:=
 ∀ (pins:Pins)(s:Shared)(σ:St)(H:Hp)(O:Own)(v w:V)(u u':Value),Inv X pins σ H s->StOk X.K O H S->Rep X.K O H v x->Rep X.K O H w y->RelV v u->RelV w u'->
   wpAny (model X.prog X.w) X.A (f u u') (EP X pins σ (QG X.K O H W)) X.xe s
def bG(X:Cx)(f:Value)(ds:List D)(S:Store)(W:WD):Prop:=
 ∀ (pins:Pins)(s:Shared)(σ:St)(H:Hp)(O:Own)(vs:List V)(us:List Value),Inv X pins σ H s->StOk X.K O H S->Reps X.K O H vs ds->Vals vs us->
   wpAny (model X.prog X.w) X.A (call f us) (EP X pins σ (QG X.K O H W)) X.xe s
abbrev cA(X:Cx)(op:Operator):=OpW X (binaryOp op)
abbrev aV(X:Cx)(op:CmpOp):=OpW X (compareOp op)
section
variable {X : Cx} {Γ : Gam} {S S1 : Store} {W : WD} {a b e : Expr} {es rest : List Expr} {pos : Pos}
theorem QG.pre{O1:Own}{H1:Hp}(st:Step O O1 H H1){v:V}{H':Hp}(q:QG K O1 H1 W v H'):QG K O H W v H':=by
 obtain⟨O',d,S',w,s',ok,r⟩:=q
 exact⟨O',d,S',w,st.trans s',ok,r⟩
theorem cM{pins:Pins}{σ:St}{O1:Own}{H1:Hp}(st:Step O O1 H H1){u:Value}{s':Shared}(q:EP X pins σ (QG X.K O1 H1 W) u s'):EP X pins σ (QG X.K O H W) u s':=by
 obtain⟨v,H',I,r,q⟩:=q
 exact⟨v,H',I,r,q.pre st⟩
theorem Lx{pins:Pins}{σ:St}{O1:Own}{H1:Hp}(st:Step O O1 H H1){W:Bool->Store->Prop}{u:Bool}{s':Shared}(q:TP X pins σ (QT X.K O1 H1 W) u s'):TP X pins σ (QT X.K O H W) u s':=by
 obtain⟨H',I,O',S',w,s2,ok⟩:=q
 exact⟨H',I,O',S',w,st.trans s2,ok⟩
theorem Ev.mono{W':WD}(h:Ev X Γ S e W)(k:∀d S',W d S'->W' d S'):Ev X Γ S e W':=λ pins s σ H O I env st=>
 thn (h pins s σ H O I env st) λ _ _ hq_=>by obtain⟨v,H',I',r,O',d,S',w,q⟩:=hq_;exact⟨v,H',I',r,O',d,S',k d S' w,q⟩
theorem OpW.mono{f:Value->Value->Sem Value}{y:D}{W':WD}(h:OpW X f x y S W)(k:∀d S',W d S'->W' d S'):OpW X f x y S W':=λ pins s σ H O v w u u' I st r1 r2 r3 r4=>
 thn (h pins s σ H O v w u u' I st r1 r2 r3 r4) λ _ _ hq_=>by obtain⟨v,H',I',r,O',d,S',w,q⟩:=hq_;exact⟨v,H',I',r,O',d,S',k d S' w,q⟩
theorem cY{f:Value->Value->Sem Value}{r:R2}{y:D}(ho:OpR X f r)(h:∀O H v w,StOk X.K O H S->Rep X.K O H v x->Rep X.K O H w y->r v w H (QG X.K O H W)):OpW X f x y S W:=
 λ pins s σ H O v w u u' I st r1 r2 r3 r4=>ho pins s σ H v w u u' _ I r3 r4 (h O H v w st r1 r2)
theorem cQ{f:Value}{r:List V->Hp->VK->Prop}(hc:cN X f r)(h:∀O H vs,StOk X.K O H S->Reps X.K O H vs ds->r vs H (QG X.K O H W)):bG X f ds S W:=
 λ pins s σ H O vs us I st r1 r2=>hc pins s σ H vs us _ I r2 (h O H vs st r1)
theorem QG.here{v:V}{d:D}(w:W d S)(st:StOk K O H S)(r:Rep K O H v d):QG K O H W v H:=⟨O,d,S,w,Step.refl O H,st,r⟩
theorem Ph(i:Nat){x:Str}{d:D}(hΓ:Γ[i]? =some (some d))(w:W d S)(hN:X.N[i]? =some x:=by rfl)
 (hv:Vis X.env.scope x:=by first | exact Or.inl rfl | exact Or.inr (Or.inl rfl) | exact Or.inr (Or.inr rfl))(hd:(x==("__debug__":Str))=false:=by decide)(hcd:(x==("__classdict__":Str))=false:=by decide):
 Ev X Γ S (.Name x pos) W:=by
 intro pins s σ H O I env st
 obtain⟨v,e,r⟩:=env.at_ i d hΓ
 exact yM hN hv hd hcd pins s σ H _ I ⟨v,e,QG.here w st r⟩
theorem Rp{j}(w:W (.int i) S):Ev X Γ S (.Constant (.int i) j pos) W:=λ pins s σ H O I _ st=>Qt pins s σ H _ I (QG.here w st (.int i))
theorem T7{i:Bool}{j}(w:W (.bl i) S):Ev X Γ S (.Constant (.bool i) j pos) W:=λ pins s σ H O I _ st=>Lz pins s σ H _ I (QG.here w st (.bl i))
theorem Pr{j}(w:W .non S):Ev X Γ S (.Constant .none j pos) W:=λ pins s σ H O I _ st=>FP pins s σ H _ I (QG.here w st .non)
theorem yc{x:Str}{j}(w:W (.str x) S):Ev X Γ S (.Constant (.str x) j pos) W:=λ pins s σ H O I _ st=>Gw pins s σ H _ I (QG.here w st (.str x))
theorem Ku{x:Str}{t:Tok}(hm:X.mg x=some (.int i t))(w:W (.int i) S)(hg:Gl X x:=by rfl)(hd:(x==("__debug__":Str))=false:=by decide):Ev X Γ S (.Name x pos) W:=
 λ pins s σ H O I _ st=>jP hg hm (v:=.int i) ⟨t,rfl⟩ hd pins s σ H _ I (QG.here w st (.int i))
theorem qZ{op:Operator}(h:Ev X Γ S a λ x S1=>Ev X Γ S1 b λ y S2=>cA X op x y S2 W):Ev X Γ S (.BinOp a op b pos) W:=by
 intro pins s σ H O I env st
 refine wpAny_BinOp (thn (h pins s σ H O I env st) λ u s1 hq_=>?_)
 obtain⟨v,H1,I1,r1,O1,x,S1,hb,st1,ok1,rep1⟩:=hq_
 refine thn (hb pins s1 σ H1 O1 I1 (env.mono st1) ok1) λ u' s2 hq_=>?_
 obtain⟨w,H2,I2,r2,O2,y,S2,hw,st2,ok2,rep2⟩:=hq_
 exact thn (hw pins s2 σ H2 O2 v w u u' I2 ok2 (rep1.mono st2) rep2 r1 r2) λ _ _ q=>cM (st1.trans st2) q
theorem Gm{op:CmpOp}(h:Ev X Γ S a λ x S1=>Ev X Γ S1 b λ y S2=>aV X op x y S2 W)(hm:behindInMarks op b=false:=by first | exact nomark _ | (with_unfolding_all rfl)):Ev X Γ S (.Compare a [op] [b] pos) W:=by
 intro pins s σ H O I env st
 refine wpAny_Compare1 (thn (h pins s σ H O I env st) λ u s1 hq_=>?_) hm
 obtain⟨v,H1,I1,r1,O1,x,S1,hb,st1,ok1,rep1⟩:=hq_
 refine thn (hb pins s1 σ H1 O1 I1 (env.mono st1) ok1) λ u' s2 hq_=>?_
 obtain⟨w,H2,I2,r2,O2,y,S2,hw,st2,ok2,rep2⟩:=hq_
 exact thn (hw pins s2 σ H2 O2 v w u u' I2 ok2 (rep1.mono st2) rep2 r1 r2) λ _ _ q=>cM (st1.trans st2) q
abbrev asB(W:Bool->Store->Prop):WD:=λ d S=>∃c,d=.bl c/\W c S
theorem TY{op:CmpOp}{W:Bool->Store->Prop}(h:Ev X Γ S a λ x S1=>Ev X Γ S1 b λ y S2=>aV X op x y S2 (asB W))(hm:behindInMarks op b=false:=by first | exact nomark _ | (with_unfolding_all rfl)):Ts X Γ S (.Compare a [op] [b] pos) W:=by
 intro pins s σ H O I env st
 refine wpAny_isTrue_Compare1 (thn (h pins s σ H O I env st) λ u s1 hq_=>?_) hm
 obtain⟨v,H1,I1,r1,O1,x,S1,hb,st1,ok1,rep1⟩:=hq_
 refine thn (hb pins s1 σ H1 O1 I1 (env.mono st1) ok1) λ u' s2 hq_=>?_
 obtain⟨w,H2,I2,r2,O2,y,S2,hw,st2,ok2,rep2⟩:=hq_
 refine thn (hw pins s2 σ H2 O2 v w u u' I2 ok2 (rep1.mono st2) rep2 r1 r2) λ _ _ hq_=>?_
 obtain⟨z,H3,I3,r3,O3,d,S3,⟨c,hd,wc⟩,st3,ok3,rep3⟩:=hq_
 subst hd
 cases rep3
 cases r3
 exact wpAny_truthy_bool ⟨H3,I3,O3,S3,wc,(st1.trans st2).trans st3,ok3⟩
theorem Qm{W:Bool->Store->Prop}(h:Ev X Γ S e (asB W))(he:∀whole,isTrue e X.env whole=(do let v ←whole;standAt e.pos;holding [v] (truthy v)):=by intro _;rfl):Ts X Γ S e W:=by
 intro pins s σ H O I env st
 refine isTrue_plain (thn (h pins s σ H O I env st) λ _ _ hq_=>?_) (he _)
 obtain⟨z,H3,I3,r3,O3,d,S3,⟨c,hd,wc⟩,st3,ok3,rep3⟩:=hq_
 subst hd
 cases rep3
 cases r3
 exact wpAny_truthy_bool ⟨H3,I3,O3,S3,wc,st3,ok3⟩
theorem TsW.ts{W:Bool->Store->Prop}(h:TsW X Γ S e W):Ts X Γ S e W:=λ pins s σ H O I env st=>h _ pins s σ H O I env st
theorem tw_and1{W:Bool->Store->Prop}(h:Ts X Γ S a W):TsW X Γ S (.BoolOp .And [a] pos) W:=by
 intro wh pins s σ H O I env st
 refine isTrue_and (thn (h pins s σ H O I env st) λ c s1 e=>?_)
 cases c with
 | true=>exact isTrue_and_nil e
 | false=>exact e
theorem tw_or1{W:Bool->Store->Prop}(h:Ts X Γ S a W):TsW X Γ S (.BoolOp .Or [a] pos) W:=by
 intro wh pins s σ H O I env st
 refine isTrue_or (thn (h pins s σ H O I env st) λ c s1 e=>?_)
 cases c with
 | false=>exact isTrue_or_nil e
 | true=>exact e
theorem tw_and{W:Bool->Store->Prop}(h:Ts X Γ S a λ c S1=>(c=true->TsW X Γ S1 (.BoolOp .And (b::rest) pos) W)/\(c=false->W false S1)):TsW X Γ S (.BoolOp .And (a::b::rest) pos) W:=by
 intro wh pins s σ H O I env st
 refine isTrue_and (thn (h pins s σ H O I env st) λ c s1 hq_=>?_)
 obtain⟨H1,I1,O1,S1,w1,st1,ok1⟩:=hq_
 cases c with
 | true=>exact thn (w1.1 rfl wh pins s1 σ H1 O1 I1 (env.mono st1) ok1) λ _ _ q=>Lx st1 q
 | false=>exact⟨H1,I1,O1,S1,w1.2 rfl,st1,ok1⟩
theorem tw_or{W:Bool->Store->Prop}(h:Ts X Γ S a λ c S1=>(c=true->W true S1)/\(c=false->TsW X Γ S1 (.BoolOp .Or (b::rest) pos) W)):TsW X Γ S (.BoolOp .Or (a::b::rest) pos) W:=by
 intro wh pins s σ H O I env st
 refine isTrue_or (thn (h pins s σ H O I env st) λ c s1 hq_=>?_)
 obtain⟨H1,I1,O1,S1,w1,st1,ok1⟩:=hq_
 cases c with
 | false=>exact thn (w1.2 rfl wh pins s1 σ H1 O1 I1 (env.mono st1) ok1) λ _ _ q=>Lx st1 q
 | true=>exact⟨H1,I1,O1,S1,w1.1 rfl,st1,ok1⟩
theorem Q6{W:Bool->Store->Prop}(h:Ts X Γ S a λ c S1=>W (!c) S1):Ts X Γ S (.UnaryOp .Not a pos) W:=by
 intro pins s σ H O I env st
 exact isTrue_not (thn (h pins s σ H O I env st) λ c s1 ⟨H1,I1,O1,S1,w1,st1,ok1⟩=>⟨H1,I1,O1,S1,w1,st1,ok1⟩)
theorem Fx{op}(h:Ev X Γ S a W):Ev X Γ S (.BoolOp op [a] pos) W:=λ pins s σ H O I env st=>BoolOp_one (h pins s σ H O I env st)
theorem Tr(h:Ev X Γ S a λ x S1=>∃c,x=.bl c/\(c=true->Ev X Γ S1 (.BoolOp .And (b::rest) pos) W)/\(c=false->W (.bl false) S1)):Ev X Γ S (.BoolOp .And (a::b::rest) pos) W:=by
 intro pins s σ H O I env st
 refine BoolOp_and (thn (h pins s σ H O I env st) λ u s1 hq_=>?_)
 obtain⟨v,H1,I1,r1,O1,x,S1,⟨c,hx,h1,h2⟩,st1,ok1,rep1⟩:=hq_
 subst hx
 cases rep1
 cases r1
 refine wpAny_truthy_bool ?_
 cases c with
 | true=>exact thn (h1 rfl pins s1 σ H1 O1 I1 (env.mono st1) ok1) λ _ _ q=>cM st1 q
 | false=>exact⟨.bl false,H1,I1,rfl,O1,.bl false,S1,h2 rfl,st1,ok1,.bl false⟩
theorem Vn(h:Ev X Γ S a λ x S1=>∃c,x=.bl c/\(c=true->W (.bl true) S1)/\(c=false->Ev X Γ S1 (.BoolOp .Or (b::rest) pos) W)):Ev X Γ S (.BoolOp .Or (a::b::rest) pos) W:=by
 intro pins s σ H O I env st
 refine BoolOp_or (thn (h pins s σ H O I env st) λ u s1 hq_=>?_)
 obtain⟨v,H1,I1,r1,O1,x,S1,⟨c,hx,h1,h2⟩,st1,ok1,rep1⟩:=hq_
 subst hx
 cases rep1
 cases r1
 refine wpAny_truthy_bool ?_
 cases c with
 | false=>exact thn (h2 rfl pins s1 σ H1 O1 I1 (env.mono st1) ok1) λ _ _ q=>cM st1 q
 | true=>exact⟨.bl true,H1,I1,rfl,O1,.bl true,S1,h1 rfl,st1,ok1,.bl true⟩
theorem RG(h:Ev X Γ S a λ x S1=>∃c,x=.bl c/\W (.bl (!c)) S1):Ev X Γ S (.UnaryOp .Not a pos) W:=by
 intro pins s σ H O I env st
 refine UnaryOp_ (thn (h pins s σ H O I env st) λ u s1 hq_=>?_)
 obtain⟨v,H1,I1,r1,O1,x,S1,⟨c,hx,h1⟩,st1,ok1,rep1⟩:=hq_
 subst hx
 cases rep1
 cases r1
 exact not_of (wpAny_truthy_bool ⟨.bl (!c),H1,I1,rfl,O1,.bl (!c),S1,h1,st1,ok1,.bl (!c)⟩)
theorem Tz(h:Ev X Γ S a λ x S1=>∃i,x=.int i/\W (.int (-i)) S1):Ev X Γ S (.UnaryOp .USub a pos) W:=by
 intro pins s σ H O I env st
 refine UnaryOp_ (thn (h pins s σ H O I env st) λ u s1 hq_=>?_)
 obtain⟨v,H1,I1,r1,O1,x,S1,⟨c,hx,h1⟩,st1,ok1,rep1⟩:=hq_
 subst hx
 cases rep1
 exact Sy pins s1 σ H1 _ _ _ I1 r1 ⟨c,rfl,O1,.int (-c),S1,h1,st1,ok1,.int (-c)⟩
theorem KH{c:Expr}(h:Ts X Γ S c λ k S1=>(k=true->Ev X Γ S1 a W)/\(k=false->Ev X Γ S1 b W)):Ev X Γ S (.IfExp c a b pos) W:=by
 intro pins s σ H O I env st
 refine wpAny_IfExp (thn (h pins s σ H O I env st) λ d s1 hq_=>?_)
 obtain⟨H1,I1,O1,S1,w1,st1,ok1⟩:=hq_
 cases d with
 | true=>exact thn (w1.1 rfl pins s1 σ H1 O1 I1 (env.mono st1) ok1) λ _ _ q=>cM st1 q
 | false=>exact thn (w1.2 rfl pins s1 σ H1 O1 I1 (env.mono st1) ok1) λ _ _ q=>cM st1 q
theorem Jy{c:Expr}{op op':CmpOp}(h:Ev X Γ S a λ x S1=>Ev X Γ S1 b λ y S2=>aV X op x y S2 λ z S3=>∃k,z=.bl k/\(k=false->W (.bl false) S3)/\(k=true->Ev X Γ S3 c λ t S4=>aV X op' y t S4 W))
 (hm:lastMarks [op,op'] [b,c]=false:=by with_unfolding_all rfl):Ev X Γ S (.Compare a [op,op'] [b,c] pos) W:=by
 intro pins s σ H O I env st
 refine Compare_chain (thn (h pins s σ H O I env st) λ u s1 hq_=>?_) hm
 obtain⟨v,H1,I1,r1,O1,x,S1,hb,st1,ok1,rep1⟩:=hq_
 refine chain_link (thn (hb pins s1 σ H1 O1 I1 (env.mono st1) ok1) λ u' s2 hq_=>?_)
 obtain⟨w,H2,I2,r2,O2,y,S2,hw,st2,ok2,rep2⟩:=hq_
 refine thn (hw pins s2 σ H2 O2 v w u u' I2 ok2 (rep1.mono st2) rep2 r1 r2) λ _ s3 hq_=>?_
 obtain⟨z,H3,I3,r3,O3,d,S3,⟨k,hd,k1,k2⟩,st3,ok3,rep3⟩:=hq_
 subst hd
 cases rep3
 cases r3
 refine wpAny_truthy_bool ?_
 cases k with
 | false=>exact ite_ff ⟨.bl false,H3,I3,rfl,O3,.bl false,S3,k1 rfl,(st1.trans st2).trans st3,ok3,.bl false⟩
 | true=>
   refine ite_tt (chain_last (thn (k2 rfl pins s3 σ H3 O3 I3 (((env.mono st1).mono st2).mono st3) ok3) λ u4 s4 hq_=>?_))
   obtain⟨w4,H4,I4,r4,O4,t,S4,h4,st4,ok4,rep4⟩:=hq_
   exact thn (h4 pins s4 σ H4 O4 w w4 u' u4 I4 ok4 ((rep2.mono st3).mono st4) rep4 r2 r4) λ _ _ q=>cM (((st1.trans st2).trans st3).trans st4) q
theorem gB{W:List D->Store->Prop}(w:W [] S):EvA X Γ S [] W:=λ _ pins s σ H O I _ st=>Calls.spliced_nil ⟨[],H,I,.nil,O,[],S,w,Step.refl O H,st,.nil⟩
theorem cF{W:List D->Store->Prop}(h:Ev X Γ S e λ d S1=>EvA X Γ S1 es λ ds S2=>W (d::ds) S2)(hs:starEach (e::es) X.env=(false,eval e X.env)::starEach es X.env:=by rfl):EvA X Γ S (e::es) W:=by
 intro pos pins s σ H O I env st
 rw[hs]
 show wpAny _ _ (spliced ((false,eval e X.env)::backTo pos (starEach es X.env))) _ _ s
 refine Calls.spliced_cons (thn (h pins s σ H O I env st) λ u s1 hq_=>?_)
 obtain⟨v,H1,I1,r1,O1,x,S1,hb,st1,ok1,rep1⟩:=hq_
 exact thn (hb pos pins s1 σ H1 O1 I1 (env.mono st1) ok1) λ us s2 hq_=>by obtain⟨xs,H2,I2,r2,O2,ds,S2,w,st2,ok2,rep2⟩:=hq_;exact⟨v::xs,H2,I2,.cons r1 r2,O2,x::ds,S2,w,st1.trans st2,ok2,.cons (rep1.mono st2) rep2⟩
theorem small{n:Nat}(h:n≤1000000):n≤sizeLine:=Nat.le_trans h (by decide)
theorem TF(st:StOk K O H S)(h:H p=none):Tp K O (upd H p (.tup xs)) p xs:=⟨st.fresh_not h,aC⟩
theorem R7(st:StOk K O H S)(h:H p=none):Ls K O (upd H p (.lst xs)) p xs:=.inl ⟨st.fresh_not h,.inl aC⟩
theorem gM(w:W (.tup ds) S)(st:StOk K O H S)(h:H p=none)(r:Reps K O H xs ds):QG K O H W (.ref p) (upd H p (.tup xs)):=
 ⟨O,.tup ds,S,w,Step.fresh h _,st.fresh h _,.tup (TF st h) (r.mono (Step.fresh h _))⟩
theorem fJ(w:W (.lst ds) S)(st:StOk K O H S)(h:H p=none)(r:Reps K O H xs ds):QG K O H W (.ref p) (upd H p (.lst xs)):=
 ⟨O,.lst ds,S,w,Step.fresh h _,st.fresh h _,.lst (R7 st h) (r.mono (Step.fresh h _))⟩
theorem yq(w:W (.loc S.length) (S++[ds]))(st:StOk K O H S)(h:H p=none)(r:Reps K O H xs ds):QG K O H W (.ref p) (upd H p (.lst xs)):=
 ⟨O.more p,.loc S.length,S++[ds],w,Step.own h _,st.own h r,.loc (by show(O.A++[(p,false)])[S.length]? =some (p,false);rw[←st.len];simp)⟩
theorem RN{x1}(h:EvA X Γ S es λ ds S1=>ds.length≤1000000/\W (.tup ds) S1):Ev X Γ S (.Tuple es x1 pos) W:=by
 intro pins s σ H O I env st
 refine wpAny_Tuple_spliced (thn (h pos pins s σ H O I env st) λ us s1 hq_=>?_)
 obtain⟨xs,H1,I1,r,O1,ds,S1,⟨z,w⟩,st1,ok1,rep⟩:=hq_
 refine⟨by rw[←r.length,rep.length];exact small z,?_⟩
 have hf:H1 s1.heap.objs.size=none:=I1.hok.fresh (x8 _)
 refine⟨.ref s1.heap.objs.size,upd H1 s1.heap.objs.size (.tup xs),I1.laid (t':=s1.toks) (λ b u e=>Heap.get?_push_of_some _ e) (x8 _) ?_,rfl,(gM w ok1 hf rep).pre st1⟩
 exact⟨by rw[rep.length];exact small z,us,r,⟨_,Heap.get?_push_size _ rfl,rfl,_,rfl⟩⟩
theorem Su(h:EvA X Γ S es λ ds S1=>ds.length≤1000000/\W (.lst ds) S1):Ev X Γ S (.List es pos) W:=by
 intro pins s σ H O I env st
 refine wpAny_List_spliced (thn (h pos pins s σ H O I env st) λ us s1 hq_=>?_)
 obtain⟨xs,H1,I1,r,O1,ds,S1,⟨z,w⟩,st1,ok1,rep⟩:=hq_
 refine⟨by rw[←r.length,rep.length];exact small z,?_⟩
 have hf:H1 s1.heap.objs.size=none:=I1.hok.fresh (x8 _)
 refine⟨.ref s1.heap.objs.size,upd H1 s1.heap.objs.size (.lst xs),I1.laid (t':=s1.toks) (λ b u e=>Heap.get?_push_of_some _ e) (x8 _) ?_,rfl,(fJ w ok1 hf rep).pre st1⟩
 exact⟨by rw[rep.length];exact small z,us,0,r,Heap.get?_push_size _ rfl⟩
theorem OD(h:EvA X Γ S es λ ds S1=>ds.length≤1000000/\W (.loc S1.length) (S1++[ds])):Ev X Γ S (.List es pos) W:=by
 intro pins s σ H O I env st
 refine wpAny_List_spliced (thn (h pos pins s σ H O I env st) λ us s1 hq_=>?_)
 obtain⟨xs,H1,I1,r,O1,ds,S1,⟨z,w⟩,st1,ok1,rep⟩:=hq_
 refine⟨by rw[←r.length,rep.length];exact small z,?_⟩
 have hf:H1 s1.heap.objs.size=none:=I1.hok.fresh (x8 _)
 refine⟨.ref s1.heap.objs.size,upd H1 s1.heap.objs.size (.lst xs),I1.laid (t':=s1.toks) (λ b u e=>Heap.get?_push_of_some _ e) (x8 _) ?_,rfl,(yq w ok1 hf rep).pre st1⟩
 exact⟨by rw[rep.length];exact small z,us,0,r,Heap.get?_push_size _ rfl⟩
theorem jC{op:Operator}{C:Int->Int->Prop}{g:Int->Int->Int}(ho:OpR X (binaryOp op) (rI C λ i j=>.int (g i j))){i j:Int}(c:C i j)(w:W (.int (g i j)) S):cA X op (.int i) (.int j) S W:=
 cY ho λ O H v w' st r1 r2=>by cases r1;cases r2;exact⟨i,j,rfl,rfl,c,QG.here w st (.int _)⟩
theorem zy{op:Operator}{g:Int->Int->Int}(ho:OpR X (binaryOp op) (rI0 λ i j=>.int (g i j))){i j:Int}(w:W (.int (g i j)) S):cA X op (.int i) (.int j) S W:=
 cY ho λ O H v w' st r1 r2=>by cases r1;cases r2;exact⟨i,j,rfl,rfl,QG.here w st (.int _)⟩
theorem Um(w:W (.int (i+j)) S):cA X .Add (.int i) (.int j) S W:=zy Qj w
theorem Ui(w:W (.int (i-j)) S):cA X .Sub (.int i) (.int j) S W:=zy QM w
theorem Uo(c:xT i j)(w:W (.int (i*j)) S):cA X .Mult (.int i) (.int j) S W:=jC Q4 c w
theorem Uq(c:0<j)(w:W (.int (i % j)) S):cA X .Mod (.int i) (.int j) S W:=jC Ql c w
theorem QD(c:0<j/\j<1073741824)(w:W (.int (i/j)) S):cA X .FloorDiv (.int i) (.int j) S W:=jC Mi c w
theorem U0(c:CPow i j)(w:W (.int (i ^ j.toNat)) S):cA X .Pow (.int i) (.int j) S W:=jC RZ c w
theorem nq{op:CmpOp}{g:Int->Int->Bool}(ho:OpR X (compareOp op) (rI0 λ i j=>.bl (g i j))){i j:Int}(w:W (.bl (g i j)) S):aV X op (.int i) (.int j) S W:=
 cY ho λ O H v w' st r1 r2=>by cases r1;cases r2;exact⟨i,j,rfl,rfl,QG.here w st (.bl _)⟩
theorem Wk(w:W (.bl (decide (i<j))) S):aV X .Lt (.int i) (.int j) S W:=nq UJ w
theorem Vz(w:W (.bl (decide (i≤j))) S):aV X .LtE (.int i) (.int j) S W:=nq Ug w
theorem VR(w:W (.bl (decide (j<i))) S):aV X .Gt (.int i) (.int j) S W:=nq Vo w
theorem VH(w:W (.bl (decide (j≤i))) S):aV X .GtE (.int i) (.int j) S W:=nq Vt w
theorem U8(w:W (.bl (decide (i=j))) S):aV X .Eq (.int i) (.int j) S W:=
 cY Ei λ O H v w' st r1 r2=>by
  cases r1;cases r2
  have e:decide (V.int i=V.int j)=decide (i=j):=by rw[nC];exact(Bool.beq_eq_decide_eq i j)
  exact⟨rfl,by rw[e];exact QG.here w st (.bl _)⟩
theorem UW(w:W (.bl (!decide (i=j))) S):aV X .NotEq (.int i) (.int j) S W:=
 cY Lr λ O H v w' st r1 r2=>by
  cases r1;cases r2
  have e:decide (V.int i=V.int j)=decide (i=j):=by rw[nC];exact(Bool.beq_eq_decide_eq i j)
  exact⟨rfl,by rw[e];exact QG.here w st (.bl _)⟩
theorem Up{i j:Bool}(w:W (.bl (i==j)) S):aV X .Eq (.bl i) (.bl j) S W:=
 cY Ei λ O H v w' st r1 r2=>by
  cases r1;cases r2
  exact⟨rfl,by rw[mG];exact QG.here w st (.bl _)⟩
theorem Vr{i j:Bool}(w:W (.bl (!(i==j))) S):aV X .NotEq (.bl i) (.bl j) S W:=
 cY Lr λ O H v w' st r1 r2=>by
  cases r1;cases r2
  exact⟨rfl,by rw[mG];exact QG.here w st (.bl _)⟩
theorem UT(w:W (.bl (match x with | .non=>true | _=>false)) S):aV X .Is x .non S W:=
 cY Ri λ O H v w' st r1 r2=>by
  cases r2
  refine⟨rfl,?_⟩
  cases r1<;>exact QG.here w st (.bl _)
theorem NP(w:W (.bl (match x with | .non=>false | _=>true)) S):aV X .IsNot x .non S W:=
 cY Oj λ O H v w' st r1 r2=>by
  cases r2
  refine⟨rfl,?_⟩
  cases r1<;>exact QG.here w st (.bl _)
theorem Tj{es:List D}(hz:ds.length+es.length≤1000000)(w:W (.tup (ds++es)) S):cA X .Add (.tup ds) (.tup es) S W:=by
 intro pins s σ H O v w' u u' I st r1 r2 r3 r4
 cases r1 with
 | @tup a xs _ h1 q1=>
   cases r2 with
   | @tup b ys _ h2 q2=>
     by_cases hx:xs=[]
     . subst hx
       have e:ds=[]:=by have:=q1.length;simpa using this.symm
       subst e
       cases r3
       cases r4
       obtain⟨its,v1,p1,_⟩:=I.tuple h1.sq
       obtain⟨its2,v2,p2,_⟩:=I.tuple h2.sq
       cases v1
       obtain⟨⟨cls,dd,data,sl⟩,ho,hc,n,hd⟩:=id p1
       obtain⟨⟨cls2,dd2,data2,sl2⟩,ho2,hc2,n2,hd2⟩:=id p2
       simp only at hc hd hc2 hd2
       subst hc hd hc2 hd2
       exact concat_meets ⟨_,ho,rfl⟩ ⟨_,ho2,rfl⟩ noFill_tuple_add seq_tuple_add PySem.F.slot_tuple_add PySem.F.entry_tuple_add (PySem.F.args_tuple_add_2 _ _)
        (tuple_addW0 a b ([]:List Value).toArray its2.toArray n n2 dd dd2 sl sl2 rfl) ⟨ho,ho2,⟨.ref b,H,I,rfl,QG.here w st (.tup h2 q2)⟩⟩
     . refine Mm pins s σ H _ _ u u' _ I r3 r4 ⟨a,b,xs,ys,rfl,rfl,h1.sq,h2.sq,hx,by rw[q1.length,q2.length];exact small hz,λ e=>?_,λ _ p hp=>gM w st hp (q1.append q2)⟩
       subst e
       have e:es=[]:=by have:=q2.length;simpa using this.symm
       subst e
       rw[List.append_nil]at w
       exact QG.here w st (.tup h1 q1)
theorem RD{es:List D}(hz:ds.length+es.length≤1000000)(w:W (.lst (ds++es)) S):cA X .Add (.lst ds) (.lst es) S W:=by
 intro pins s σ H O v w' u u' I st r1 r2 r3 r4
 cases r1 with
 | @lst a xs _ h1 q1=>
   cases r2 with
   | @lst b ys _ h2 q2=>
     cases r3
     cases r4
     obtain⟨its,v1,p1,_⟩:=I.list h1.sq
     obtain⟨its2,v2,p2,_⟩:=I.list h2.sq
     obtain⟨⟨cls,dd,data,sl⟩,n,ho,hc,hdd,hd⟩:=id p1
     obtain⟨⟨cls2,dd2,data2,sl2⟩,n2,ho2,hc2,hdd2,hd2⟩:=id p2
     simp only at hc hd hc2 hd2
     subst hc hd hc2 hd2
     have z:its.length+its2.length≤sizeLine:=by rw[←v1.length,←v2.length,q1.length,q2.length];exact small hz
     refine concat_meets ⟨_,ho,rfl⟩ ⟨_,ho2,rfl⟩ noFill_list_add seq_list_add PySem.F.slot_list_add PySem.F.entry_list_add (PySem.F.args_list_add_2 _ _)
      (list_addW a b its.toArray its2.toArray n n2 dd dd2 sl sl2 (by simpa using z)) ⟨ho,ho2,?_⟩
     have ea:its.toArray++its2.toArray=(its++its2).toArray:=by simp
     rw[ea]
     refine⟨.ref s.heap.objs.size,_,I.lnew (t':=s.toks) (v1.append v2) (by rw[List.length_append,q1.length,q2.length];exact small hz),rfl,fJ w st I.fresh (q1.append q2)⟩
end
end DL
namespace DL
open PySem PySem.Spec L2
open PyProof.Rows
variable {K : PySem.W.Frag} {O : Own} {H : Hp} {xs : List V} {ds : List D} {i : Int} {d : D} {k : Nat} {x : Str} {p : Pos}
section
variable {X : Cx} {Γ : Gam} {S : Store} {W : WD} {a b e : Expr} {es : List Expr} {pos : Pos}
def IxW(X:Cx)(a b:Expr)(x y:D)(S:Store)(W:WD):Prop:=
 ∀ (pins:Pins)(s:Shared)(σ:St)(H:Hp)(O:Own)(v w:V)(u u':Value),Inv X pins σ H s->StOk X.K O H S->Rep X.K O H v x->Rep X.K O H w y->RelV v u->RelV w u'->
   subscripted b false u u'=operate [u,u'] (getItem u u')->wpAny (model X.prog X.w) X.A (subscriptTail a b u u') (EP X pins σ (QG X.K O H W)) X.xe s
theorem Lb(h:Ev X Γ S a λ x S1=>Ev X Γ S1 b λ y S2=>IxW X a b x y S2 W)(hs:sG b:=by intro _ _;rfl):Ev X Γ S (.Subscript a b pos) W:=by
 intro pins s σ H O I env st
 refine Subscript_ (thn (h pins s σ H O I env st) λ u s1 hq_=>?_)
 obtain⟨v,H1,I1,r1,O1,x,S1,hb,st1,ok1,rep1⟩:=hq_
 refine thn (hb pins s1 σ H1 O1 I1 (env.mono st1) ok1) λ u' s2 hq_=>?_
 obtain⟨w,H2,I2,r2,O2,y,S2,hw,st2,ok2,rep2⟩:=hq_
 exact thn (hw pins s2 σ H2 O2 v w u u' I2 ok2 (rep1.mono st2) rep2 r1 r2 (hs _ _)) λ _ _ q=>cM (st1.trans st2) q
theorem sr(r:Reps K O H xs ds)(h:atI ds i=some d):∃v,atI xs i=some v/\Rep K O H v d:=by
 unfold atI at h ⊢
 rw[r.length]
 cases e:ixN ds.length i with
 | none=>rw[e]at h;cases h
 | some j=>
   rw[e]at h
   exact r.get (i:=j) h
theorem Uy(h:atI ds i=some d)(w:W d S):IxW X a b (.tup ds) (.int i) S W:=by
 intro pins s σ H O v w' u u' I st r1 r2 r3 r4 hs
 cases r2
 cases r1 with
 | @tup p xs _ h1 q1=>
   obtain⟨z,hz,rz⟩:=sr q1 h
   exact Qs a b pins s σ H _ _ u u' _ I r3 r4 ⟨p,xs,i,z,rfl,rfl,h1.sq,hz,QG.here w st rz⟩ hs
theorem Uh(h:atI ds i=some d)(w:W d S):IxW X a b (.lst ds) (.int i) S W:=by
 intro pins s σ H O v w' u u' I st r1 r2 r3 r4 hs
 cases r2
 cases r1 with
 | @lst p xs _ h1 q1=>
   obtain⟨z,hz,rz⟩:=sr q1 h
   exact uB a b pins s σ H _ _ u u' _ I r3 r4 ⟨p,xs,i,z,rfl,rfl,h1.sq,hz,QG.here w st rz⟩ hs
theorem Vq(hk:S[k]? =some ds)(h:atI ds i=some d)(w:W d S):IxW X a b (.loc k) (.int i) S W:=by
 intro pins s σ H O v w' u u' I st r1 r2 r3 r4 hs
 cases r2
 cases r1 with
 | @loc p _ h1=>
   obtain⟨xs,hx,q1⟩:=st.obj k p ds h1 hk
   obtain⟨z,hz,rz⟩:=sr q1 h
   exact uB a b pins s σ H _ _ u u' _ I r3 r4 ⟨p,xs,i,z,rfl,rfl,SqL.of hx,hz,QG.here w st rz⟩ hs
def PoD(X:Cx)(Γ:Gam)(S:Store)(o:Option Expr)(W:Option Int->Store->Prop):Prop:=match o with
 | none=>W none S
 | some e=>Ev X Γ S e λ d S1=>∃i,d=.int i/\W (some i) S1
def SlW(X:Cx)(x:D)(lo hi:Option Int)(S:Store)(W:WD):Prop:=
 ∀ (pins:Pins)(s:Shared)(σ:St)(H:Hp)(O:Own)(v:V)(u vl vu:Value)(sl:Addr),Inv X pins σ H s->StOk X.K O H S->Rep X.K O H v x->RelV v u->s.heap.IsSliceOf sl vl vu .none->IsPart vl lo->IsPart vu hi->
   ∃T id,typeLookup (.type T) "__getitem__"=pure (some (.builtin id))/\s.TypeIs u T/\wpAny (model X.prog X.w) X.A (getItem u (.ref sl)) (EP X pins σ (QG X.K O H W)) X.xe s
theorem Iu{W:Option Int->Store->Prop}{o:Option Expr}(h:PoD X Γ S o W){pins:Pins}{s:Shared}{σ:St}{H:Hp}{O:Own}(I:Inv X pins σ H s)(env:EnvOk X.K O H σ Γ)(st:StOk X.K O H S):
 wpAny (model X.prog X.w) X.A (evalPart o X.env) (λ u s'=>∃p H' O' S',Inv X pins σ H' s'/\IsPart u p/\W p S'/\Step O O' H H'/\StOk X.K O' H' S') X.xe s:=by
 cases o with
 | none=>
   rw[evalPart_none]
   exact wpAny_pure ⟨none,H,O,S,I,.none,h,Step.refl O H,st⟩
 | some e=>
   rw[evalPart_some]
   refine thn (h pins s σ H O I env st) λ u s1 hq_=>?_
   obtain⟨v,H1,I1,r1,O1,x,S1,⟨i,hx,w⟩,st1,ok1,rep1⟩:=hq_
   subst hx
   cases rep1
   obtain⟨t,rfl⟩:=r1
   exact⟨some i,H1,O1,S1,I1,.int i t,w,st1,ok1⟩
theorem xY{lo hi:Option Expr}{p2:Pos}(h:Ev X Γ S e λ x S1=>PoD X Γ S1 lo λ l S2=>PoD X Γ S2 hi λ r S3=>SlW X x l r S3 W):Ev X Γ S (.Subscript e (.Slice lo hi none p2) pos) W:=by
 intro pins s σ H O I env st
 refine Subscript_ (thn (h pins s σ H O I env st) λ v s1 hq_=>?_)
 obtain⟨y,H1,I1,r1,O1,x,S1,hb,st1,ok1,rep1⟩:=hq_
 refine wpAny_Slice (thn (Iu hb I1 (env.mono st1) ok1) λ vl s2 hq_=>?_)
 obtain⟨l,H2,O2,S2,I2,pl,hc,st2,ok2⟩:=hq_
 refine thn (Iu hc I2 ((env.mono st1).mono st2) ok2) λ vu s3 hq_=>?_
 obtain⟨r,H3,O3,S3,I3,pu,hd,st3,ok3⟩:=hq_
 rw[evalPart_none]
 refine wpAny_pure ?_
 have I4:Inv X pins σ H3 {s3 with heap:=s3.heap.push {cls:=.type "slice",data:=.fields #[vl,vu,.none]}}:=I3.kept (t':=s3.toks) λ b ob q=>Heap.get?_push_of_some _ q
 obtain⟨T,id,hT,ht,hg⟩:=hd pins {s3 with heap:=s3.heap.push {cls:=.type "slice",data:=.fields #[vl,vu,.none]}} σ H3 O3 y v vl vu s3.heap.objs.size I4 ok3 ((rep1.mono st2).mono st3) r1 (Heap.IsSliceOf.new ..) pl pu
 show wpAny (model X.prog X.w) X.A (subscriptTail e (.Slice lo hi none p2) v (.ref s3.heap.objs.size)) _ X.xe {s3 with heap:=s3.heap.push {cls:=.type "slice",data:=.fields #[vl,vu,.none]}}
 exact tail_any (ops:=[.ref s3.heap.objs.size,v]) ht hT (thn hg λ _ _ q=>cM ((st1.trans st2).trans st3) q) (by with_unfolding_all rfl)
def cutD(ds:List D)(lo hi:Option Int):List D:=(ds.drop (HT.sIx ds.length 0 lo)).take (HT.sIx ds.length ds.length hi-HT.sIx ds.length 0 lo)
theorem rK(r:Reps K O H xs ds)(lo hi:Option Int):Reps K O H (mq xs lo hi) (cutD ds lo hi):=by
 unfold mq cutD
 rw[r.length]
 exact(r.drop _).take _
theorem Bm{prog:Program}{w:World}{A:Around}{E:Value->Shared->Prop}{s:Shared}{t sl:Addr}{items:Array Value}{vl vu:Value}{lo hi:Option Int}{Q:Value->Shared->Prop}(ht:IsTup s.heap t items)(hs:s.heap.IsSliceOf sl vl vu .none)(pl:IsPart vl lo)(pu:IsPart vu hi)
 (h0:HT.sIx items.size 0 lo=0)(h1:HT.sIx items.size items.size hi=items.size)(h:Q (.ref t) s):wpAny (model prog w) A (getItem (.ref t) (.ref sl)) Q E s:=by
 obtain⟨os,hos,hcs,hds⟩:=id hs
 have isS:s.TypeIs (.ref sl) "slice":=⟨os,hos,hcs⟩
 unfold getItem
 try with_reducible refine wpAny_holding ?_
 first | refine wpAny_bind (wpAny_pure ?_) | skip
 refine wpAny_bind (wpAny_sequenceKey ht.typeIs (by decide) ?_)
 refine wpAny_bind (wpAny_callSpecial?_slot (name:=Str.ofString "__getitem__") ht.typeIs PyProof.Rows.slot_tuple_getitem
  (wpAny_call_entry PyProof.Rows.slot_tuple_getitem ht.typeIs entry_tuple_getitem ?_ (args_tuple_getitem _ _)))
 show wpAny _ _ (Builtin.Tuple.tupleItemsOf (.ref t)>>=_) _ _ s
 refine wpAny_bind (tupleItemsOf_ ht (wpAny_bind (wpAny_typeOf isS ?_)))
 rw[if_pos (by decide)]
 refine wpAny_bind (HT.sliceApplied_gen hs pl pu ?_)
 rw[h0,h1]
 show wpAny _ _ (if(((0:Nat):Int)==0&&(1:Int)==1&&(items.size-0)==items.size)=true then _ else _) _ _ s
 rw[if_pos (by simp)]
 unfold Builtin.Tuple.tupleIsExact
 first
  | exact wpAny_bind (wpAny_bind (wpAny_typeOf ht.typeIs (wpAny_pure (by rw[if_pos (by decide)];exact wpAny_bind (wpAny_rule (wpAny_pure ⟨_,rfl,wpAny_pure h⟩))))))
  | (refine wpAny_bind (wpAny_bind (wpAny_typeOf ht.typeIs (wpAny_pure ?_)))
     simp only[beq_self_eq_true,if_true]
     exact wpAny_bind (wpAny_rule (wpAny_pure ⟨_,rfl,wpAny_pure h⟩)))
theorem Uk{lo hi:Option Int}(w:W (.tup (cutD ds lo hi)) S):SlW X (.tup ds) lo hi S W:=by
 intro pins s σ H O v u vl vu sl I st r1 r3 hs pl pu
 cases r1 with
 | @tup p xs _ h1 q1=>
   by_cases hw:HT.sIx xs.length 0 lo=0/\HT.sIx xs.length xs.length hi=xs.length
   . cases r3
     obtain⟨its,r,ht,hz⟩:=I.tuple h1.sq
     have hlen:its.toArray.size=xs.length:=by rw[w9];exact r.length.symm
     refine⟨"tuple",_,PyProof.Rows.slot_tuple_getitem.lookup,ht.typeIs,Bm ht hs pl pu (by rw[hlen];exact hw.1) (by rw[hlen];exact hw.2) ⟨.ref p,H,I,rfl,?_⟩⟩
     have e:cutD ds lo hi=ds:=by
      unfold cutD
      rw[←q1.length,hw.1,hw.2,List.drop_zero,List.take_of_length_le (by rw[←q1.length];omega)]
     rw[e]at w
     exact QG.here w st (.tup h1 q1)
   . exact Pn pins s σ H _ u vl vu lo hi sl _ I r3 hs pl pu ⟨p,xs,rfl,h1.sq,hw,λ p' hp=>gM w st hp (rK q1 lo hi)⟩
theorem Vk{lo hi:Option Int}(w:W (.lst (cutD ds lo hi)) S):SlW X (.lst ds) lo hi S W:=by
 intro pins s σ H O v u vl vu sl I st r1 r3 hs pl pu
 cases r1 with
 | @lst p xs _ h1 q1=>exact Cg pins s σ H _ u vl vu lo hi sl _ I r3 hs pl pu ⟨p,xs,rfl,h1.sq,λ p' hp=>fJ w st hp (rK q1 lo hi)⟩
theorem JD{id:String}(h:EvA X Γ S (e::es) λ ds S1=>bG X (.builtin id) ds S1 W)(hm:X.mg x=none)(hv:bootBuiltins x=some (.builtin id))(hg:Gl X x:=by rfl)(hn:x≠"__name__":=by decide)(hdb:(x==("__debug__":Str))=false:=by decide)
 (he:starEach (e::es) X.env=(false,eval e X.env)::starEach es X.env:=by rfl)(hpl:(backTo pos (starEach es X.env)).any (·.1)=false:=by rfl):Ev X Γ S (.Call (.Name x p) (e::es) [] pos) W:=by
 intro pins s σ H O I env st
 refine wpAny_Call_Name_kw (cZ I hg hm hv ?_ hn hdb)
 exact PyProof.Rows.callWith_builtin1 (thn (h pos pins s σ H O I env st) λ us s1 hq_=>by obtain⟨vs,H1,I1,r1,O1,ds,S1,w,st1,ok1,rep⟩:=hq_;exact thn (w pins s1 σ H1 O1 vs us I1 ok1 rep r1) λ _ _ q=>cM st1 q) he hpl
theorem J6{T:String}(h:EvA X Γ S (e::es) λ ds S1=>bG X (.type T) ds S1 W)(hm:X.mg x=none)(hv:bootBuiltins x=some (.type T))(hg:Gl X x:=by rfl)(hn:x≠"__name__":=by decide)(hdb:(x==("__debug__":Str))=false:=by decide)
 (he:starEach (e::es) X.env=(false,eval e X.env)::starEach es X.env:=by rfl)(hpl:(backTo pos (starEach es X.env)).any (·.1)=false:=by rfl):Ev X Γ S (.Call (.Name x p) (e::es) [] pos) W:=by
 intro pins s σ H O I env st
 refine wpAny_Call_Name_kw (cZ I hg hm hv ?_ hn hdb)
 exact PyProof.Rows.callWith_type1 (thn (h pos pins s σ H O I env st) λ us s1 hq_=>by obtain⟨vs,H1,I1,r1,O1,ds,S1,w,st1,ok1,rep⟩:=hq_;exact thn (w pins s1 σ H1 O1 vs us I1 ok1 rep r1) λ _ _ q=>cM st1 q) he hpl
theorem dh{vs:List V}(r:Reps K O H vs [d]):∃v,vs=[v]/\Rep K O H v d:=by
 cases r with
 | cons a t=>cases t;exact⟨_,rfl,a⟩
theorem Q3(w:W (.int ds.length) S):bG X (.builtin "len") [.tup ds] S W:=cQ gH λ O H vs st r=>by
 obtain⟨v,rfl,r'⟩:=dh r
 cases r' with
 | @tup p xs _ h1 q1=>exact⟨p,xs,rfl,.inr h1.sq,by rw[q1.length];exact QG.here w st (.int _)⟩
theorem Rj(w:W (.int ds.length) S):bG X (.builtin "len") [.lst ds] S W:=cQ gH λ O H vs st r=>by
 obtain⟨v,rfl,r'⟩:=dh r
 cases r' with
 | @lst p xs _ h1 q1=>exact⟨p,xs,rfl,.inl h1.sq,by rw[q1.length];exact QG.here w st (.int _)⟩
theorem SM(hk:S[k]? =some ds)(w:W (.int ds.length) S):bG X (.builtin "len") [.loc k] S W:=cQ gH λ O H vs st r=>by
 obtain⟨v,rfl,r'⟩:=dh r
 cases r' with
 | @loc p _ h1=>
   obtain⟨xs,hx,q1⟩:=st.obj k p ds h1 hk
   exact⟨p,xs,rfl,.inl (SqL.of hx),by rw[q1.length];exact QG.here w st (.int _)⟩
theorem Qu(w:W (.tup ds) S):bG X (.type "tuple") [.lst ds] S W:=cQ kZ λ O H vs st r=>by
 obtain⟨v,rfl,r'⟩:=dh r
 cases r' with
 | @lst p xs _ h1 q1=>exact⟨p,xs,rfl,.inl ⟨h1.sq,λ l hl=>gM w st hl q1⟩⟩
theorem Qx(hk:S[k]? =some ds)(w:W (.tup ds) S):bG X (.type "tuple") [.loc k] S W:=cQ kZ λ O H vs st r=>by
 obtain⟨v,rfl,r'⟩:=dh r
 cases r' with
 | @loc p _ h1=>
   obtain⟨xs,hx,q1⟩:=st.obj k p ds h1 hk
   exact⟨p,xs,rfl,.inl ⟨SqL.of hx,λ l hl=>gM w st hl q1⟩⟩
theorem Qv(w:W (.lst ds) S):bG X (.type "list") [.tup ds] S W:=cQ mC λ O H vs st r=>by
 obtain⟨v,rfl,r'⟩:=dh r
 cases r' with
 | @tup p xs _ h1 q1=>exact⟨p,xs,rfl,.inr h1.sq,λ l hl=>fJ w st hl q1⟩
theorem Tf(w:W (.lst ds) S):bG X (.type "list") [.lst ds] S W:=cQ mC λ O H vs st r=>by
 obtain⟨v,rfl,r'⟩:=dh r
 cases r' with
 | @lst p xs _ h1 q1=>exact⟨p,xs,rfl,.inl h1.sq,λ l hl=>fJ w st hl q1⟩
abbrev Ct:=List D->Store->WD->Prop
def spC(K:PySem.W.Frag)(n:Nat)(F:Ct):Sp:=λ vs H Q _=>∃O ds S W,ds.length=n/\Reps K O H vs ds/\StOk K O H S/\F ds S W/\∀v H',QG K O H W v H'->Q v H'
structure Callee(P:Program)(w:World)(K:PySem.W.Frag)(mg:Str->Option Value)(base:Heap)(x:Str)(k n:Nat)(F:Ct):Prop where
 ex:∃f fd ps,FnOk P w K mg base CX0 k f fd ps (spC K n F)/\mg x=some (.ref f)/\PySem.W.keepIn K (.ref f)=true/\Binds K fd ps []
theorem Pa{n:Nat}{F:Ct}(C:Callee X.prog X.w X.K X.mg X.base x k n F)(hr:Room k X.A)(h:EvA X Γ S (e::es) λ ds S1=>ds.length=n/\F ds S1 W)(hg:Gl X x:=by rfl)(hdb:(x==("__debug__":Str))=false:=by decide)
 (he:starEach (e::es) X.env=(false,eval e X.env)::starEach es X.env:=by rfl)(hpl:(backTo pos (starEach es X.env)).any (·.1)=false:=by rfl):Ev X Γ S (.Call (.Name x p) (e::es) [] pos) W:=by
 intro pins s σ H O I env st
 obtain⟨f,fd,ps,hF,hm,hk,hb⟩:=C.ex
 refine wpAny_Call_Name_kw (jB I hg hm ?_ hdb)
 refine PySem.W.callWith_K (h₀:=X.base) I.ok.mod.kin hk (thn (h pos pins s σ H O I env st) λ us s1 hq_=>?_) he hpl
 obtain⟨vs,H1,I1,r1,O1,ds,S1,⟨hl,w⟩,st1,ok1,rep⟩:=hq_
 refine⟨I1.kIn,?_⟩
 refine Rh hF hr hb .nil Uu I1 r1 ?_
 rw[List.append_nil]
 exact⟨O1,ds,S1,W,hl,rep,ok1,w,λ v H' q=>q.pre st1⟩
structure Fin where
 nx:Gam->Store->Prop
 rt:WD
 bk:Gam->Store->Prop:=λ _ _=>False
 ct:Gam->Store->Prop:=λ _ _=>False
def QN(K:PySem.W.Frag)(O:Own)(H:Hp)(W:Gam->Store->Prop):St->Hp->Prop:=λ σ' H'=>∃O' Γ' S',W Γ' S'/\Step O O' H H'/\StOk K O' H' S'/\EnvOk K O' H' σ' Γ'
def ends(K:PySem.W.Frag)(O:Own)(H:Hp)(W:Fin):Ends:={nx:=QN K O H W.nx,rt:=QG K O H W.rt,bk:=QN K O H W.bk,ct:=QN K O H W.ct}
def Rn(X:Cx)(Γ:Gam)(S:Store)(st:Stmt)(W:Fin):Prop:=
 ∀ (pins:Pins)(s:Shared)(σ:St)(H:Hp)(O:Own),Inv X pins σ H s->EnvOk X.K O H σ Γ->StOk X.K O H S->
   wpAny (model X.prog X.w) X.A (exec st X.env) (SP X pins (ends X.K O H W)) X.xe s
def Rns(X:Cx)(Γ:Gam)(S:Store)(sts:List Stmt)(W:Fin):Prop:=
 ∀ (pins:Pins)(s:Shared)(σ:St)(H:Hp)(O:Own),Inv X pins σ H s->EnvOk X.K O H σ Γ->StOk X.K O H S->
   wpAny (model X.prog X.w) X.A (execs sts X.env) (SP X pins (ends X.K O H W)) X.xe s
theorem QN.pre{O1:Own}{H1:Hp}(st:Step O O1 H H1){W:Gam->Store->Prop}{v:St}{H':Hp}(q:QN K O1 H1 W v H'):QN K O H W v H':=by
 obtain⟨O',d,S',w,s',ok,r⟩:=q
 exact⟨O',d,S',w,st.trans s',ok,r⟩
theorem cD{pins:Pins}{O1:Own}{H1:Hp}{W:Fin}(st:Step O O1 H H1){f:Flow}{s':Shared}(q:SP X pins (ends X.K O1 H1 W) f s'):SP X pins (ends X.K O H W) f s':=by
 cases f with
 | next=>obtain⟨σ,H',I,q⟩:=q;exact⟨σ,H',I,QN.pre st q⟩
 | brk=>obtain⟨σ,H',I,q⟩:=q;exact⟨σ,H',I,QN.pre st q⟩
 | cont=>obtain⟨σ,H',I,q⟩:=q;exact⟨σ,H',I,QN.pre st q⟩
 | ret u=>obtain⟨v,σ,H',I,r,q⟩:=q;exact⟨v,σ,H',I,r,QG.pre st q⟩
variable {W : Fin} {st : Stmt} {sts : List Stmt}
theorem Q9(w:W.nx Γ S):Rns X Γ S [] W:=λ pins s σ H O I env st=>wpAny_execs_nil ⟨σ,H,I,O,Γ,S,w,Step.refl O H,st,env⟩
theorem uh(h:Rn X Γ S st {W with nx:=λ Γ1 S1=>Rns X Γ1 S1 sts W}):Rns X Γ S (st::sts) W:=by
 intro pins s σ H O I env ok
 refine wpAny_execs_cons (thn (h pins s σ H O I env ok) λ f s1 q=>?_)
 cases f with
 | next=>
   obtain⟨σ',H',I',O1,Γ1,S1,w,st1,ok1,env1⟩:=q
   exact thn (w pins s1 σ' H' O1 I' env1 ok1) λ _ _ q=>cD st1 q
 | ret v=>exact q
 | brk=>exact q
 | cont=>exact q
theorem UG(h:Ev X Γ S e W.rt):Rn X Γ S (.Return (some e) pos) W:=by
 intro pins s σ H O I env ok
 exact wpAny_Return_some (thn (h pins s σ H O I env ok) λ v s1 ⟨x,H1,I1,r1,q1⟩=>⟨x,σ,H1,I1,r1,q1⟩)
theorem Wi{c:Expr}{xs ys:List Stmt}(h:Ts X Γ S c λ k S1=>(k=true->Rns X Γ S1 xs W)/\(k=false->Rns X Γ S1 ys W)):Rn X Γ S (.If c xs ys pos) W:=by
 intro pins s σ H O I env ok
 refine wpAny_If (thn (h pins s σ H O I env ok) λ d s1 hq_=>?_)
 obtain⟨H1,I1,O1,S1,w,st1,ok1⟩:=hq_
 cases d with
 | true=>exact thn (w.1 rfl pins s1 σ H1 O1 I1 (env.mono st1) ok1) λ _ _ q=>cD st1 q
 | false=>exact thn (w.2 rfl pins s1 σ H1 O1 I1 (env.mono st1) ok1) λ _ _ q=>cD st1 q
theorem Ld(i:Nat){x:Str}{pos':Pos}(h:Ev X Γ S e λ d S1=>W.nx (Γ.set i (some d)) S1)(hN:X.N.Nodup)(hi:X.N[i]? =some x:=by rfl)(hx:Loc X.env.scope x:=by first | exact Or.inl rfl | exact Or.inr rfl)
 (hs:swapsWith e (some (.Name x pos')) pos.line X.env=pure false:=by rfl)(hf:X.fn x=true∨X.env.scope.names.lookup x=some .local:=by first | exact .inl rfl | exact .inr rfl):Rn X Γ S (.Assign [.Name x pos'] e pos) W:=by
 intro pins s σ H O I env ok
 refine wpAny_Assign_Name (thn (h pins s σ H O I env ok) λ v s1 hq_=>?_) hs
 obtain⟨y,H1,I1,r1,O1,d,S1,w,st1,ok1,rep1⟩:=hq_
 exact gV I1 hN hi hx r1 (λ s2 I2=>⟨_,H1,I2,O1,_,S1,w,st1,ok1,(env.mono st1).set rep1 i⟩) hf
theorem Ra(h:Ev X Γ S e λ d S1=>W.nx Γ S1)(hs:swapsWith e none pos.line X.env=pure false:=by rfl):Rn X Γ S (.Expr e pos) W:=by
 intro pins s σ H O I env ok
 exact wpAny_Expr_any (thn (h pins s σ H O I env ok) λ v s1 hq_=>by obtain⟨x,H1,I1,r1,O1,d,S1,w,st1,ok1,rep1⟩:=hq_;exact⟨σ,H1,I1,O1,Γ,S1,w,st1,ok1,env.mono st1⟩) I.quiet hs
def tE(K:PySem.W.Frag)(Γ:Gam)(S:Store)(W:WD):TE:=λ σ H Q=>∃O,EnvOk K O H σ Γ/\StOk K O H S/\∀v H',QG K O H W v H'->Q v H'
theorem Py{pins:Pins}{σ:St}{Q Q':VK}{u:Value}{s':Shared}(q:EP X pins σ Q u s')(k:∀v H',Q v H'->Q' v H'):EP X pins σ Q' u s':=by
 obtain⟨v,H',I,r,q⟩:=q
 exact⟨v,H',I,r,k v H' q⟩
theorem Ev.pe{W:WD}(h:Ev X Γ S e W):PE X e (tE X.K Γ S W):=λ pins s σ H Q I ⟨O,env,st,k⟩=>thn (h pins s σ H O I env st) λ _ _ q=>Py q k
def tEA(K:PySem.W.Frag)(Γ:Gam)(S:Store)(W:List D->Store->Prop):TA:=λ σ H Q=>∃O,EnvOk K O H σ Γ/\StOk K O H S/\∀v H',QA K O H W v H'->Q v H'
theorem EvA.pa{W:List D->Store->Prop}(h:EvA X Γ S es W):PA X es (tEA X.K Γ S W):=λ pos pins s σ H Q I ⟨O,env,st,k⟩=>thn (h pos pins s σ H O I env st) λ _ _ ⟨v,H',I',r,q⟩=>⟨v,H',I',r,k v H' q⟩
theorem Mv{o i:Expr}{tpos:Pos}(h:Ev X Γ S e λ d S1=>Ev X Γ S1 o λ x S2=>Ev X Γ S2 i λ y S3=>∃k n ds j,x=.loc k/\y=.int n/\S3[k]? =some ds/\ixN ds.length n=some j/\W.nx Γ (S3.set k (ds.set j d)))
 (ha:∀v,assign (.Subscript o i tpos) X.env v=(do
  let ov ←holding [v] (eval o X.env)
  let iv ←holding [v,ov] (eval i X.env)
  standAt tpos
  holding [v,ov,iv] (setItem ov iv v)
  release [v,ov,iv] []):=by intro _;rfl)(hs:swapsWithSole [.Subscript o i tpos] e pos.line X.env=pure false:=by rfl)(hw:swappedStores [.Subscript o i tpos] e X.env=pure none:=by rfl)
 (h1:(assignEach [.Subscript o i tpos] X.env).map (·.2)=[assign (.Subscript o i tpos) X.env]:=by rfl):Rn X Γ S (.Assign [.Subscript o i tpos] e pos) W:=by
 intro pins s σ H O I env ok
 refine wpAny_Assign_stores (thn (h pins s σ H O I env ok) λ u s1 hq_=>?_) hs hw
 obtain⟨v,H1,I1,r1,O1,d,S1,w1,st1,ok1,rep1⟩:=hq_
 rw[h1]
 show wpAny _ _ (assign (.Subscript o i tpos) X.env u) _ _ _
 rw[ha]
 refine wpAny_bind (wpAny_holding (thn (w1 pins s1 σ H1 O1 I1 (env.mono st1) ok1) λ ov s2 hq_=>?_))
 obtain⟨x,H2,I2,r2,O2,dx,S2,w2,st2,ok2,rep2⟩:=hq_
 refine wpAny_bind (wpAny_holding (thn (w2 pins s2 σ H2 O2 I2 ((env.mono st1).mono st2) ok2) λ iv s3 hq_=>?_))
 obtain⟨y,H3,I3,r3,O3,dy,S3,⟨k,n,ds,j,ex,ey,hk,hj,w⟩,st3,ok3,rep3⟩:=hq_
 subst ex
 subst ey
 have rx:=rep2.mono st3
 cases rx with
 | @loc p _ hp=>
   cases rep3
   obtain⟨xs,hx,q⟩:=ok3.obj k p ds hp hk
   have rd:=(rep1.mono st2).mono st3
   refine wpAny_bind (wpAny_standAt (wpAny_bind (wpAny_holding (thn (set_list pins s3 σ H3 _ _ v ov iv u (λ H'=>H'=upd H3 p (.lst (xs.set j v))) I3 r2 r3 r1 ⟨p,xs,n,j,rfl,rfl,hx,by rw[q.length];exact hj,rfl⟩) λ _ s4 hq_=>?_))))
   obtain⟨H4,I4,e4⟩:=hq_
   subst e4
   refine wpAny_release ⟨σ,_,I4,O3,Γ,_,w,((st1.trans st2).trans st3).trans (Step.put (d9 hp) _),ok3.put hp (q.set rd j),(((env.mono st1).mono st2).mono st3).mono (Step.put (d9 hp) _)⟩
def BdW(X:Cx)(tg:Expr)(d:D)(Γ:Gam)(S:Store)(W:Gam->Store->Prop):Prop:=
 ∀ (pins:Pins)(s:Shared)(σ:St)(H:Hp)(O:Own)(v:V)(u:Value),Inv X pins σ H s->EnvOk X.K O H σ Γ->StOk X.K O H S->Rep X.K O H v d->RelV v u->
   wpAny (model X.prog X.w) X.A (assign tg X.env u) (λ _ s'=>∃σ' H',Inv X pins σ' H' s'/\QN X.K O H W σ' H') X.xe s
def xP(X:Cx)(ts:List Expr)(ds:List D)(Γ:Gam)(S:Store)(W:Gam->Store->Prop):Prop:=
 ∀ (pins:Pins)(s:Shared)(σ:St)(H:Hp)(O:Own)(vs:List V)(us:List Value),Inv X pins σ H s->EnvOk X.K O H σ Γ->StOk X.K O H S->Reps X.K O H vs ds->Vals vs us->
   wpAny (model X.prog X.w) X.A (assignInOrder ((assignEach ts X.env).map (·.2)) us) (λ _ s'=>∃σ' H',Inv X pins σ' H' s'/\QN X.K O H W σ' H') X.xe s
theorem M3(i:Nat){x:Str}{d:D}{W:Gam->Store->Prop}(w:W (Γ.set i (some d)) S)(hN:X.N.Nodup)(hi:X.N[i]? =some x:=by rfl)(hx:Loc X.env.scope x:=by first | exact Or.inl rfl | exact Or.inr rfl)
 (hf:X.fn x=true∨X.env.scope.names.lookup x=some .local:=by first | exact .inl rfl | exact .inr rfl):BdW X (.Name x pos) d Γ S W:=λ pins s σ H O v u I env st r ru=>
 wpAny_assign_Name (gV I hN hi hx ru (λ s' I'=>⟨_,H,I',O,_,S,w,Step.refl O H,st,env.set r i⟩) hf)
theorem Nv{W:Gam->Store->Prop}(w:W Γ S):xP X [] [] Γ S W:=λ pins s σ H O vs us I env st r ru=>by
 cases r
 cases ru
 exact assignInOrder_nil ⟨σ,H,I,O,Γ,S,w,Step.refl O H,st,env⟩
theorem JR{t:Expr}{ts:List Expr}{W:Gam->Store->Prop}(h:BdW X t d Γ S λ Γ1 S1=>xP X ts ds Γ1 S1 W)
 (hs:(assignEach (t::ts) X.env).map (·.2)=assign t X.env::(assignEach ts X.env).map (·.2):=by rfl):xP X (t::ts) (d::ds) Γ S W:=λ pins s σ H O vs us I env st r ru=>by
 cases r with
 | cons r rr=>
   cases ru with
   | cons ru rru=>
     rw[hs]
     refine assignInOrder_cons (thn (h pins s σ H O _ _ I env st r ru) λ _ s1 hq_=>?_)
     obtain⟨σ1,H1,I1,O1,Γ1,S1,w,st1,ok1,env1⟩:=hq_
     refine thn (w pins s1 σ1 H1 O1 _ _ I1 env1 ok1 (rr.mono st1) rru) λ _ s2 hq_=>by obtain⟨σ2,H2,I2,q⟩:=hq_;exact⟨σ2,H2,I2,QN.pre st1 q⟩
theorem RP{ts:List Expr}{W:Gam->Store->Prop}(h:xP X ts ds Γ S W)(hc:X.calm=true:=by rfl)(hn:(assignEach ts X.env).length=ds.length:=by rfl)(hst:(assignEach ts X.env).findIdx? (·.1)=none:=by rfl):BdW X (.Tuple ts k pos) (.tup ds) Γ S W:=λ pins s σ H O v u I env st r ru=>by
 cases r with
 | @tup p xs _ h1 q1=>
   cases ru
   obtain⟨its,rv,ht,hz⟩:=I.tuple h1.sq
   refine assign_Tuple_tuple (I.ok.hd hc) ht (by simp[hn,←q1.length,rv.length]) hst λ h' hx=>?_
   have I1:Inv X pins σ H {s with heap:=h'}:=I.kept (t':=s.toks) λ b o e=>hx b o (Nat.ne_of_lt (Heap.lt_size e)) e
   exact h pins _ σ H O xs _ I1 env st q1 (by simpa using rv)
def fD(K:PySem.W.Frag)(J:It)(O:Own)(H:Hp)(ds:List D):Prop:=
 ∀(O':Own)(H':Hp),Conv O O' H H'->(∀a,O'.has a->H' a≠none)->∀i:Nat,(∀d,ds[i]? =some d->J.go i H'/\∀x H'',J.yld i H' x H''->aR H' H''/\Rep K O' H'' x d)/\(i=ds.length->J.stop i H')
def QI(K:PySem.W.Frag)(O:Own)(H:Hp)(W:List D->Store->Prop):It->Hp->Prop:=λ J H'=>∃O' ds S',W ds S'/\Step O O' H H'/\StOk K O' H' S'/\fD K J O' H' ds
def ItW(X:Cx)(Γ:Gam)(S:Store)(tg iter:Expr)(W:List D->Store->Prop):Prop:=
 ∀ (pins:Pins)(s:Shared)(σ:St)(H:Hp)(O:Own),Inv X pins σ H s->EnvOk X.K O H σ Γ->StOk X.K O H S->
   wpAny (model X.prog X.w) X.A (eval iter X.env) (λ v s1=>wpAny (model X.prog X.w) X.A (pyIter v) (PIE X pins σ tg (QI X.K O H W)) X.xe s1) X.xe s
theorem nT{a:Addr}(h:Ls K O H a xs)(r:Reps K O H xs ds):fD K (Itl K a) O H ds:=by
 intro O' H' st _ i
 have hq:=(h.conv st).sq
 refine⟨λ d hd=>?_,λ hi=>⟨xs,hq,by rw[r.length];exact Nat.le_of_eq hi.symm⟩⟩
 obtain⟨v,hv,rv⟩:=r.get hd
 refine⟨⟨xs,v,hq,hv⟩,λ x H'' y=>?_⟩
 obtain⟨e,y⟩:=y
 subst e
 have e:=y xs hq
 rw[hv]at e
 cases e
 exact⟨aR.refl _,rv.conv st⟩
theorem pL{a:Addr}(h:Tp K O H a xs)(r:Reps K O H xs ds):fD K (Itt K a) O H ds:=by
 intro O' H' st _ i
 have hq:=(h.conv st).sq
 refine⟨λ d hd=>?_,λ hi=>⟨xs,hq,by rw[r.length];exact Nat.le_of_eq hi.symm⟩⟩
 obtain⟨v,hv,rv⟩:=r.get hd
 refine⟨⟨xs,v,hq,hv⟩,λ x H'' y=>?_⟩
 obtain⟨e,y⟩:=y
 subst e
 have e:=y xs hq
 rw[hv]at e
 cases e
 exact⟨aR.refl _,rv.conv st⟩
def upTo(lo:Int)(n:Nat):List D:=(List.range n).map λ(k:Nat)=>D.int (lo+(k:Int))
theorem aN(lo:Int)(n:Nat):(upTo lo n).length=n:=by simp[upTo]
theorem oY{lo:Int}{n i:Nat}(h:(upTo lo n)[i]? =some d):i<n/\d=.int (lo+i):=by
 unfold upTo at h
 rw[x6]at h
 cases e:(List.range n)[i]? with
 | none=>rw[e]at h;cases h
 | some k=>
   rw[e]at h
   obtain⟨hl,hk⟩:=z0.mp e
   simp at hl hk
   subst hk
   cases h
   exact⟨hl,rfl⟩
theorem mL(lo:Int)(n:Nat):fD K (Itr lo n) O H (upTo lo n):=by
 intro O' H' st _ i
 refine⟨λ d hd=>?_,λ hi=>by rw[aN]at hi;exact Nat.le_of_eq hi.symm⟩
 obtain⟨hi,ed⟩:=oY hd
 subst ed
 refine⟨hi,λ x H'' y=>?_⟩
 obtain⟨e,ex⟩:=y
 subst e
 subst ex
 exact⟨aR.refl _,.int _⟩
theorem Hw{tg a:Expr}{W:List D->Store->Prop}(h:Ev X Γ S a λ d S1=>∃j:Int,d=.int j/\ -(2 ^ 62)≤j/\j<2 ^ 62/\W (upTo 0 j.toNat) S1)(hm:X.mg "range"=none)(hg:Gl X "range":=by rfl)(hs:starEach [a] X.env=[(false,eval a X.env)]:=by rfl):
 ItW X Γ S tg (.Call (.Name "range" p) [a] [] pos) W:=by
 intro pins s σ H O I env st
 refine FQ hg hm (bw h.pe eE hs) hs pins s σ H _ I ⟨O,env,st,λ v H' q=>?_⟩
 obtain⟨O',d,S',⟨j,ed,h1,h2,w⟩,st1,ok1,rep⟩:=q
 subst ed
 cases rep
 exact⟨j,rfl,h1,h2,O',_,S',w,st1,ok1,mL 0 _⟩
theorem Gk{tg a b:Expr}{W:List D->Store->Prop}(h:Ev X Γ S a λ d S1=>Ev X Γ S1 b λ d' S2=>∃i j:Int,d=.int i/\d'=.int j/\(-(2 ^ 62)≤i/\i<2 ^ 62/\ -(2 ^ 62)≤j/\j<2 ^ 62)/\W (upTo i (j-i).toNat) S2)(hm:X.mg "range"=none)(hg:Gl X "range":=by rfl)
 (hs:starEach [a,b] X.env=[(false,eval a X.env),(false,eval b X.env)]:=by rfl)(hs2:starEach [b] X.env=[(false,eval b X.env)]:=by rfl):
 ItW X Γ S tg (.Call (.Name "range" p) [a,b] [] pos) W:=by
 intro pins s σ H O I env st
 have hA:EvA X Γ S [a,b] λ ds S2=>∃i j:Int,ds=[.int i,.int j]/\(-(2 ^ 62)≤i/\i<2 ^ 62/\ -(2 ^ 62)≤j/\j<2 ^ 62)/\W (upTo i (j-i).toNat) S2:=
  cF (h.mono λ d S1 h1=>cF (h1.mono λ d' S2 ⟨i,j,e1,e2,hb,w⟩=>gB ⟨i,j,by rw[e1,e2],hb,w⟩) hs2) (by rw[hs,hs2])
 refine HY hg hm hA.pa hs hs2 pins s σ H _ I ⟨O,env,st,λ v H' q=>?_⟩
 obtain⟨O',ds,S',⟨i,j,ed,hb,w⟩,st1,ok1,rep⟩:=q
 subst ed
 cases rep with
 | cons r1 r2=>
   cases r2 with
   | cons r2 r3=>
     cases r3
     cases r1
     cases r2
     exact⟨i,j,rfl,hb,O',_,S',w,st1,ok1,mL i _⟩
theorem Us{tg iter:Expr}{body:List Stmt}(h:ItW X Γ S tg iter λ ds S1=>∃Pv:Nat->Gam->Store->Prop,Pv 0 Γ S1/\
 (∀i d Γ' S',ds[i]? =some d->Pv i Γ' S'->BdW X tg d Γ' S' λ Γ2 S2=>Rns X Γ2 S2 body {W with nx:=Pv (i+1),ct:=Pv (i+1),bk:=W.nx})/\(∀Γ' S',Pv ds.length Γ' S'->W.nx Γ' S'))
 (hp:PassesOwn (model X.prog X.w) X.A X.env X.xe:=by exact PassesOwn.never)(hc:X.calm=true:=by rfl)(hs:∀x,foldedSetIterable iter X.env x=pure x:=by intro _;rfl):Rn X Γ S (.For tg iter body [] pos) W:=by
 intro pins s σ H O I env ok
 let WI:List D->Store->Prop:=λ ds S1=>∃Pv:Nat->Gam->Store->Prop,Pv 0 Γ S1/\
     (∀i d Γ' S',ds[i]? =some d->Pv i Γ' S'->BdW X tg d Γ' S' λ Γ2 S2=>Rns X Γ2 S2 body {W with nx:=Pv (i+1),ct:=Pv (i+1),bk:=W.nx})/\(∀Γ' S',Pv ds.length Γ' S'->W.nx Γ' S')
 have hI:PI X tg iter (λ σ H R=>∃O,EnvOk X.K O H σ Γ/\StOk X.K O H S/\∀J H',QI X.K O H WI J H'->R J H'):=λ pins s σ H R I hh=>by
  obtain⟨O,env,st,k⟩:=hh
  refine thn (h pins s σ H O I env st) λ _ _ q=>thn q λ _ _ q2=>?_
  obtain⟨it,fp,tn,J,H',e1,e2,e3,e4,e5,e6⟩:=q2
  exact⟨it,fp,tn,J,H',e1,e2,e3,e4,e5,k J H' e6⟩
 have hG:PG X tg (λ v σ H Q=>∃O d Γ S W',EnvOk X.K O H σ Γ/\StOk X.K O H S/\Rep X.K O H v d/\BdW X tg d Γ S W'/\∀σ' H',QN X.K O H W' σ' H'->Q σ' H'):=λ pins s σ H v u Q I ru hh=>by
  obtain⟨O,d,Γ,S,W',env,st,r,b,k⟩:=hh
  refine thn (b pins s σ H O v u I env st r ru) λ _ _ q2=>?_
  obtain⟨σ',H',I',q⟩:=q2
  exact⟨σ',H',I',k σ' H' q⟩
 have hB:PSs X body (λ D σ H=>∃O Γ S W',EnvOk X.K O H σ Γ/\StOk X.K O H S/\Rns X Γ S body W'/\(∀σ' H',QN X.K O H W'.nx σ' H'->D.nx σ' H')/\(∀v H',QG X.K O H W'.rt v H'->D.rt v H')/\(∀σ' H',QN X.K O H W'.bk σ' H'->D.bk σ' H')/\∀σ' H',QN X.K O H W'.ct σ' H'->D.ct σ' H'):=
  λ pins s σ H D I hh=>by
   obtain⟨O,Γ,S,W',env,st,b,k1,k2,k3,k4⟩:=hh
   refine thn (b pins s σ H O I env st) λ f s' q=>?_
   cases f with
   | next=>obtain⟨σ',H',I',q⟩:=q;exact⟨σ',H',I',k1 σ' H' q⟩
   | brk=>obtain⟨σ',H',I',q⟩:=q;exact⟨σ',H',I',k3 σ' H' q⟩
   | cont=>obtain⟨σ',H',I',q⟩:=q;exact⟨σ',H',I',k4 σ' H' q⟩
   | ret u=>obtain⟨v,σ',H',I',r,q⟩:=q;exact⟨v,σ',H',I',r,k2 v H' q⟩
 refine zx hp hc hI hG hB hs pins s σ H _ I ⟨O,env,ok,λ J H1 q=>?_⟩
 obtain⟨O1,ds,S1,⟨Pv,p0,pt,pe⟩,st1,ok1,yl⟩:=q
 refine⟨λ i m σ' H'=>m=ds.length-i/\i≤ds.length/\∃O' Γ' S',Pv i Γ' S'/\Step O1 O' H1 H'/\StOk X.K O' H' S'/\EnvOk X.K O' H' σ' Γ',⟨ds.length,by simp,Nat.zero_le _,O1,Γ,S1,p0,Step.refl _ _,ok1,env.mono st1⟩,?_⟩
 rintro i m σ2 H2 ⟨rfl,hi,O2,Γ2,S2,p2,st2,ok2,env2⟩
 obtain⟨y1,y2⟩:=yl O2 H2 st2.conv (λ a ha=>ok2.tracked ha) i
 by_cases hlt:i<ds.length
 . obtain⟨go,yy⟩:=y1 ds[i] (y0 hlt)
   refine .inr ⟨go,λ σ' H'=>i+1≤ds.length/\∃O' Γ' S',Pv (i+1) Γ' S'/\Step O1 O' H1 H'/\StOk X.K O' H' S'/\EnvOk X.K O' H' σ' Γ',λ σ' H' q=>⟨ds.length-(i+1),by omega,rfl,q.1,q.2⟩,λ x H3 y=>?_⟩
   obtain⟨sm,rx⟩:=yy x H3 y
   have st3:=Step.same (O:=O2) sm
   refine⟨O2,ds[i],Γ2,S2,_,env2.mono st3,ok2.same sm,rx,pt i ds[i] Γ2 S2 (y0 hlt) p2,λ σ4 H4 q4=>?_⟩
   obtain⟨O4,Γ4,S4,w4,st4,ok4,env4⟩:=q4
   have stA:=(st2.trans st3).trans st4
   refine⟨O4,Γ4,S4,_,env4,ok4,w4,?_,?_,?_,?_⟩
   . rintro σ5 H5 ⟨O5,Γ5,S5,w5,st5,ok5,env5⟩
     exact⟨hlt,O5,Γ5,S5,w5,stA.trans st5,ok5,env5⟩
   . exact λ v H' q=>QG.pre (st1.trans stA) q
   . exact λ σ' H' q=>QN.pre (st1.trans stA) q
   . rintro σ5 H5 ⟨O5,Γ5,S5,w5,st5,ok5,env5⟩
     exact⟨hlt,O5,Γ5,S5,w5,stA.trans st5,ok5,env5⟩
 . have e:i=ds.length:=by omega
   subst e
   exact .inl ⟨y2 rfl,O2,Γ2,S2,pe Γ2 S2 p2,st1.trans st2,ok2,env2⟩
theorem Lh {P:Program}{w:World}{mg:Str->Option Value}{base:Heap}{qual:Str}{sm:Stmt}{f:Addr}{fd:FuncData}{N ps:List Str}{F:Ct}(FF:Fun K x qual sm f fd)(SC:FnScope N ps (ak sm))
 (body:∀(cdv:Value)(A:Around)(outer:List Env)(s:Shared)(H:Hp)(E:XK)(ds:List D)(S:Store)(W:WD),fd.code=cdv->Room k (A.deeper (envOfC qual (ak sm) s.heap.objs.size f cdv))->ds.length=ps.length->F ds S W->
  Rns (bY CX0 P w K mg base N qual (ak sm) f cdv A outer s H E).nox (ds.map some++List.replicate (N.length-ds.length) none) S (bu sm) {nx:=λ _ S1=>W .non S1,rt:=W}):FnOk P w K mg base CX0 (k+1) f fd ps (spC K ps.length F):=by
 obtain⟨oc,od,kV,doc,pm,an,cdv,ct,osl,rfl,lk,hcd⟩:=FF.ex
 refine Lj lk hcd SC (λ vs H Q E h=>?_) λ A outer s H vs Q E hr h=>?_
 . obtain⟨O,ds,S,W,hl,r,_⟩:=h
   rw[r.length,hl]
 . obtain ⟨O,ds,S,W,hl,r,st,hF,q⟩:=h
   have hB:=body cdv A outer s H E ds S W rfl hr hl hF
   suffices key:∃t,PSs (bY CX0 P w K mg base N qual (ak sm) f cdv A outer s H E).nox (bu sm) t/\t {nx:=λ _ H'=>Q .non H',rt:=Q} (L2.start N vs) H from let ⟨t,h,q⟩:=key;⟨t,h.nox,q⟩
   refine⟨λ D σ H'=>∃O Γ S W',EnvOk K O H' σ Γ/\StOk K O H' S/\Rns (bY CX0 P w K mg base N qual (ak sm) f cdv A outer s H E).nox Γ S (bu sm) W'/\(∀σ' H2,QN K O H' W'.nx σ' H2->D.nx σ' H2)/\(∀v H2,QG K O H' W'.rt v H2->D.rt v H2)/\(∀σ' H2,QN K O H' W'.bk σ' H2->D.bk σ' H2)/\∀σ' H2,QN K O H' W'.ct σ' H2->D.ct σ' H2,?_,?_⟩
   . intro pins s σ H' D I ⟨O,Γ,S,W',env,st,b,k1,k2,k3,k4⟩
     refine thn (b pins s σ H' O I env st) λ f s' q=>?_
     cases f with
     | next=>obtain⟨σ',H',I',q⟩:=q;exact⟨σ',H',I',k1 σ' H' q⟩
     | brk=>obtain⟨σ',H',I',q⟩:=q;exact⟨σ',H',I',k3 σ' H' q⟩
     | cont=>obtain⟨σ',H',I',q⟩:=q;exact⟨σ',H',I',k4 σ' H' q⟩
     | ret u=>obtain⟨v,σ',H',I',r,q⟩:=q;exact⟨v,σ',H',I',r,k2 v H' q⟩
   . refine⟨O,_,S,_,?_,st,hB,?_,?_,?_,?_⟩
     . have hv:vs.length=ds.length:=r.length
       refine⟨by simp[L2.start,hv],λ i d h=>?_⟩
       by_cases hi:i<ds.length
       . rw[List.getElem?_append_left (by simpa using hi),x6]at h
         cases e:ds[i]? with
         | none=>rw[e]at h;cases h
         | some d'=>
           rw[e]at h
           cases h
           obtain⟨v,hv',rv⟩:=r.get e
           refine⟨v,?_,rv⟩
           unfold L2.start
           rw[List.getElem?_append_left (by rw[x5,hv];exact hi),x6,hv']
           rfl
       . rw[List.getElem?_append_right (by simpa using hi),List.getElem?_replicate]at h
         split at h<;>cases h
     . rintro σ' H2 ⟨O',Γ',S',w,st',ok',_⟩
       exact q _ _ ⟨O',.non,S',w,st',ok',.non⟩
     . exact λ v H2 z=>q v H2 z
     . rintro σ' H2 ⟨_,_,_,w,_⟩
       exact w.elim
     . rintro σ' H2 ⟨_,_,_,w,_⟩
       exact w.elim
end
end DL
namespace DL
open PySem PySem.Spec L2
open PyProof.Rows
variable {K : PySem.W.Frag} {O : Own} {H : Hp} {s : Shared}
def rk(env:Env)(n:Str)(k:NameKind):NameKind:=if(k==NameKind.free&&env.scope.kind==.function&&env.kindOf n==some .cell)=true then .cell else k
theorem kh(sc:Scope)(env:Env):(relabel sc env).names=sc.names.map λ p=>(p.1,rk env p.1 p.2):=by
 show sc.names.map _=_
 congr 1
 funext p
 obtain⟨n,k⟩:=p
 unfold rk
 by_cases h:(k==NameKind.free&&env.scope.kind==.function&&env.kindOf n==some .cell)=true
 . simp only[h,if_true]
 . simp only[h,if_false,Bool.false_eq_true]
theorem dZ(g:Str->NameKind->NameKind)(x:Str):∀names:List (Str×NameKind),(names.map λ p=>(p.1,g p.1 p.2)).lookup x=(names.lookup x).map (g x)
 | []=>rfl
 | (n,k)::r=>by
   have ih:=dZ g x r
   rw[List.map_cons,List.lookup_cons,List.lookup_cons]
   cases hx:x==n with
   | true=>rw[eq_of_beq hx];rfl
   | false=>exact ih
theorem oV(env:Env)(n:Str)(k:NameKind):rk env n k=k∨(k=.free/\rk env n k=.cell):=by
 unfold rk
 by_cases h:(k==NameKind.free&&env.scope.kind==.function&&env.kindOf n==some .cell)=true
 . rw[if_pos h]
   rw[Bool.and_eq_true,Bool.and_eq_true]at h
   exact .inr ⟨eq_of_beq h.1.1,rfl⟩
 . rw[if_neg h];exact .inl rfl
theorem jD{env:Env}{sc:Scope}{x:Str}{k:NameKind}(h:(relabel sc env).names.lookup x=some k):∃k0,sc.names.lookup x=some k0/\(k=k0∨(k0=.free/\k=.cell)):=by
 rw[kh,dZ]at h
 cases e:sc.names.lookup x with
 | none=>rw[e]at h;cases h
 | some k0=>
   rw[e]at h
   have h':rk env x k0=k:=Option.some.inj h
   refine⟨k0,rfl,?_⟩
   rcases oV env x k0 with q | ⟨q1,q2⟩
   . exact .inl (h'.symm.trans q)
   . exact .inr ⟨q1,h'.symm.trans q2⟩
theorem z7{env:Env}{sc:Scope}{x:Str}(h:sc.names.lookup x=some .free):(relabel sc env).names.lookup x=some .cell∨(relabel sc env).names.lookup x=some .free:=by
 rw[kh,dZ,h]
 rcases oV env x .free with q | ⟨_,q⟩
 . exact .inr (congrArg some q)
 . exact .inl (congrArg some q)
def closes(env:Env):List (Str×NameKind)->List (Str×Addr)->List (Str×Addr)
 | [],cs=>cs
 | (n,k)::r,cs=>closes env r (if k==.free then(n,(env.cells.lookup n).getD 0)::cs else cs)
theorem nQ{env:Env}:∀(names:List (Str×NameKind))(cs:List (Str×Addr)),(∀y∈names,y.2=.free->∃c,env.cells.lookup y.1=some c)->
 (forIn (m:=Sem) names cs λ x r=>if(x.2==.free)=true then do let a ←cellOf env x.1;pure (ForInStep.yield ((x.1,a)::r))else pure (ForInStep.yield r))=pure (closes env names cs)
 | [],cs,_=>by rw[List.forIn_nil];rfl
 | (n,k)::r,cs,h=>by
   rw[List.forIn_cons]
   have ih:=λ cs=>nQ (env:=env) r cs λ y hy=>h y (x9 _ hy)
   by_cases hk:(k==NameKind.free)=true
   . obtain⟨c,hc⟩:=h (n,k) v3 (eq_of_beq hk)
     have hc':env.cells.lookup n=some c:=hc
     have e:cellOf env n=pure c:=by unfold cellOf;rw[hc']
     have q:=ih ((n,c)::cs)
     simp only[hk,if_true,e,pure_bind]
     rw[q]
     simp[closes,hk,hc']
   . have q:=ih cs
     simp only[hk,if_false,pure_bind,Bool.false_eq_true]
     rw[q]
     simp[closes,hk]
theorem fY{env:Env}{sc:Scope}(h:∀y∈sc.names,y.2=.free->∃c,env.cells.lookup y.1=some c):closureFor sc env=pure (closes env sc.names []):=by
 have q:=nQ (env:=env) sc.names [] h
 unfold closureFor
 first
  | (simp only[bind_pure];exact q)
  | (rw[show(forIn sc.names ([]:List (Str×Addr)) _:Sem _)=_ from q];rfl)
  | (refine Eq.trans (congrArg (λ t=>t>>=pure) q) ?_;simp)
theorem jo{env:Env}{x:Str}{c:Addr}:∀(names:List (Str×NameKind))(cs:List (Str×Addr)),(∀y∈names,y.2=.free->∃c,env.cells.lookup y.1=some c)->(∀c,cs.lookup x=some c->env.cells.lookup x=some c)->(closes env names cs).lookup x=some c->env.cells.lookup x=some c
 | [],cs,_,hc,h=>hc c h
 | (n, k)::r,cs,hf,hc,h=>by
   refine jo r _ (λ y hy=>hf y (x9 _ hy)) ?_ h
   intro c' h'
   by_cases hk:(k==NameKind.free)=true
   . rw[if_pos hk]at h'
     obtain⟨c2,h2⟩:=hf (n,k) v3 (eq_of_beq hk)
     have h2:env.cells.lookup n=some c2:=h2
     rw[List.lookup_cons]at h'
     cases hx:x==n with
     | true=>
       rw[hx,h2]at h'
       have e:x=n:=eq_of_beq hx
       subst e
       simp only[Option.getD_some]at h'
       cases h'
       exact h2
     | false=>rw[hx]at h';exact hc c' h'
   . rw[if_neg hk]at h'
     exact hc c' h'
theorem bV{env:Env}{x:Str}:∀(names:List (Str×NameKind))(cs:List (Str×Addr)),((∃c,cs.lookup x=some c)∨names.lookup x=some .free)->∃c,(closes env names cs).lookup x=some c
 | [],cs,h=>by
   rcases h with h | h
   . exact h
   . simp at h
 | (n, k)::r,cs,h=>by
   refine bV r _ ?_
   rcases h with⟨c,h⟩ | h
   . refine .inl ?_
     by_cases hk:(k==NameKind.free)=true
     . rw[if_pos hk,List.lookup_cons]
       cases hx:x==n with
       | true=>exact⟨_,rfl⟩
       | false=>exact⟨c,h⟩
     . rw[if_neg hk];exact⟨c,h⟩
   . rw[List.lookup_cons]at h
     cases hx:x==n with
     | true=>
       rw[hx]at h
       simp only at h
       cases h
       refine .inl ⟨(env.cells.lookup n).getD 0,?_⟩
       simp[List.lookup_cons,hx]
     | false=>rw[hx]at h;exact .inr h
def bz(X:Cx)(sc:Scope)(N:List Str)(C:Addr)(s:Shared)(H:Hp)(ex:List Addr)(cl:List (Str×Addr)):Cx:=
 {X with N:=N,s₀:=s,H₀:=H,env:=compEnvC sc cl C X.env,outer:=X.stack,stack:=X.stack,ex:=ex,fn:=λ x=>sc.names.lookup x==some .cell,pn:=[]}
def capt{α:Type}(cap:List (Option Nat))(xs:List (Option α)):List (Option α):=cap.map λ o=>o.bind λ j=>(xs[j]?).join
def aJ(N:List Str)(names:List (Str×NameKind))(N':List Str)(names':List (Str×NameKind)):List (Option Nat)->List Str->Bool
 | [],[]=>true
 | none::r,_::t=>aJ N names N' names' r t
 | some j::r,x::t=>(N[j]? ==some x)&&(names.lookup x==some .cell||names.lookup x==some .free)&&(names'.lookup x==some .free)&&aJ N names N' names' r t
 | _,_=>false
theorem mz{N:List Str}{names:List (Str×NameKind)}{N':List Str}{names':List (Str×NameKind)}:∀{cap:List (Option Nat)}{t:List Str},aJ N names N' names' cap t=true->cap.length=t.length
 | [],[],_=>rfl
 | [],_::_,h=>by simp[aJ]at h
 | _::_,[],h=>by
   rename_i o r
   cases o<;>simp[aJ]at h
 | none::r,_::t,h=>by simp only[aJ]at h;simp[mz h]
 | some j::r,x::t,h=>by
   simp only[aJ,Bool.and_eq_true]at h
   simp[mz h.2]
theorem oW{N:List Str}{names:List (Str×NameKind)}{N':List Str}{names':List (Str×NameKind)}:∀{cap:List (Option Nat)}{t:List Str}{i j:Nat},aJ N names N' names' cap t=true->cap[i]? =some (some j)->
 ∃x,t[i]? =some x/\N[j]? =some x/\(names.lookup x=some .cell∨names.lookup x=some .free)/\names'.lookup x=some .free
 | [],_,_,_,_,h=>by simp at h
 | none::r,[],_,_,h,_=>by simp[aJ]at h
 | some _::r,[],_,_,h,_=>by simp[aJ]at h
 | none::r,x::t,0,j,_,h=>by simp at h
 | none::r,x::t,i+1,j,h,e=>by
   simp only[aJ]at h
   obtain⟨y,a,b⟩:=oW (i:=i) h (by simpa using e)
   exact⟨y,by simpa using a,b⟩
 | some k::r,x::t,0,j,h,e=>by
   simp only[aJ,Bool.and_eq_true,Bool.or_eq_true,beq_iff_eq]at h
   simp at e
   subst e
   exact⟨x,rfl,h.1.1.1,h.1.1.2,h.1.2⟩
 | some k::r,x::t,i+1,j,h,e=>by
   simp only[aJ,Bool.and_eq_true]at h
   obtain⟨y,a,b⟩:=oW (i:=i) h.2 (by simpa using e)
   exact⟨y,by simpa using a,b⟩
theorem Br{α:Type}{cap:List (Option Nat)}{xs:List (Option α)}{i:Nat}{d:α}(h:(capt cap xs)[i]? =some (some d)):∃j,cap[i]? =some (some j)/\xs[j]? =some (some d):=by
 unfold capt at h
 rw[x6]at h
 cases e:cap[i]? with
 | none=>rw[e]at h;cases h
 | some o=>
   rw[e]at h
   cases o with
   | none=>simp at h
   | some j=>
     simp at h
     refine⟨j,rfl,?_⟩
     cases q:xs[j]? with
     | none=>rw[q]at h;cases h
     | some z=>rw[q]at h;simp at h;rw[h]
theorem EnvOk.capt{σ:St}{Γ:Gam}(e:EnvOk K O H σ Γ)(cap:List (Option Nat)):EnvOk K O H (capt cap σ) (capt cap Γ):=by
 refine⟨by simp[DL.capt],λ i d h=>?_⟩
 obtain⟨j,hj,hd⟩:=Br h
 obtain⟨v,hv,r⟩:=e.at_ j d hd
 refine⟨v,?_,r⟩
 unfold DL.capt
 rw[x6,hj]
 simp[hv]
def Sub(Γ Γ':Gam):Prop:=Γ.length=Γ'.length/\∀(i:Nat)(d:D),Γ[i]? =some (some d)->Γ'[i]? =some (some d)
theorem Sub.refl(Γ:Gam):Sub Γ Γ:=⟨rfl,λ _ _ h=>h⟩
theorem Sub.set{Γ Γ':Gam}(s:Sub Γ Γ')(i:Nat)(d:Option D)(h:Γ[i]? =some none:=by rfl):Sub Γ (Γ'.set i d):=⟨by rw[List.length_set];exact s.1,λ j c hj=>by
 have ne:i≠j:=λ e=>by subst e;rw[h]at hj;cases hj
 rw[List.getElem?_set_ne ne];exact s.2 j c hj⟩
theorem EnvOk.sub{σ:St}{Γ Γ':Gam}(e:EnvOk K O H σ Γ')(s:Sub Γ Γ'):EnvOk K O H σ Γ:=⟨e.len.trans s.1.symm,λ i d h=>e.at_ i d (s.2 i d h)⟩
theorem EnvOk.conv{O':Own}{H':Hp}{σ:St}{Γ:Gam}(e:EnvOk K O H σ Γ)(s:Conv O O' H H'):EnvOk K O' H' σ Γ:=
 ⟨e.len,λ i d h=>let ⟨v,a,b⟩:=e.at_ i d h;⟨v,a,b.conv s⟩⟩
def freeOk(names names':List (Str×NameKind)):Bool:=names'.all λ y=>!(y.2==.free)||(names.lookup y.1==some .cell||names.lookup y.1==some .free)
theorem iR{names names':List (Str×NameKind)}(h:freeOk names names'=true):∀y∈names',y.2=.free->names.lookup y.1=some .cell∨names.lookup y.1=some .free:=λ y hy e=>by
 have q:=List.all_eq_true.mp h y hy
 simp only[e,beq_self_eq_true,Bool.not_true,Bool.false_or,Bool.or_eq_true,beq_iff_eq]at q
 exact q
def jT(names:List (Str×NameKind)):Bool:=match names.filter (λ y=>y.2==.cell)with
 | []=>true
 | [y]=>names.lookup y.1==some .cell
 | _=>false
theorem ph{names:List (Str×NameKind)}(h:names.filter (λ y=>y.2==.cell)=[])(n:Nat)(acc:List (Str×Addr))(hp:Heap):cellsFrom n names acc=acc/\pushCells hp names=hp:=by
 induction names with
 | nil=>exact⟨rfl,rfl⟩
 | cons y r ih=>
   obtain⟨x,k⟩:=y
   rw[List.filter_cons]at h
   by_cases hk:(k==NameKind.cell)=true
   . rw[if_pos hk]at h;cases h
   . rw[if_neg hk]at h
     obtain⟨i1,i2⟩:=ih h
     unfold cellsFrom pushCells
     rw[if_neg hk,if_neg hk]
     exact⟨i1,i2⟩
theorem iZ{names:List (Str×NameKind)}{t:Str×NameKind}(h:names.filter (λ y=>y.2==.cell)=[t])(n:Nat)(acc:List (Str×Addr))(hp:Heap):cellsFrom n names acc=(t.1,n)::acc/\pushCells hp names=hp.push {cls:=.type "cell",data:=.cell none}:=by
 induction names with
 | nil=>cases h
 | cons y r ih=>
   obtain⟨x,k⟩:=y
   rw[List.filter_cons]at h
   by_cases hk:(k==NameKind.cell)=true
   . rw[if_pos hk]at h
     have e:=List.cons.inj h
     obtain⟨i1,i2⟩:=ph e.2 (n+1) ((x,n)::acc) (hp.push {cls:=.type "cell",data:=.cell none})
     unfold cellsFrom pushCells
     rw[if_pos hk,if_pos hk,i1,i2,←e.1]
     exact⟨rfl,rfl⟩
   . rw[if_neg hk]at h
     obtain⟨i1,i2⟩:=ih h
     unfold cellsFrom pushCells
     rw[if_neg hk,if_neg hk]
     exact⟨i1,i2⟩
theorem BL{M:Model}{A:Around}{E:Value->Shared->Prop}{scope:Scope}{globals:Addr}{closure:List (Str×Addr)}{qual:Str}{outer:Env}{Q:Env->Shared->Prop}
 (hQ:Q (newEnv scope s.heap.objs.size globals (cellsFrom (s.heap.objs.size+1) scope.names closure) qual none .none (some outer) builtinsNs) {s with heap:=pushCells (s.heap.push {cls:=.type "dict",data:=.dict #[]}) scope.names}):
 wpAny M A (newFunctionEnv scope globals closure [] qual none .none (some outer)) Q E s:=by
 simp only[newFunctionEnv,Option.isSome_some,if_true]
 refine wpAny_bind (wpAny_alloc ?_)
 refine wpAny_bind (wpAny_layCells _ (λ name kind cells=>by cases hkc:kind==NameKind.cell<;>simp[hkc]) _ _ _ _ ?_)
 rw[show({s with heap:=s.heap.push {cls:=.type "dict",data:=.dict #[]}}:Shared).heap.objs.size=s.heap.objs.size+1 from Heap.size_push ..]
 rw[List.forIn_nil]
 exact wpAny_bind (wpAny_pure (wpAny_pure hQ))
structure CelsB(X:Cx)(sc:Scope)(cl:List (Str×Addr))(z:Nat)(h1:Heap):Prop where
 lk:∀x c,cl.lookup x=some c->X.env.cells.lookup x=some c∨(c=z/\sc.names.lookup x=some .cell/\h1.IsCell c none/\∀y,cl.lookup y=some c->y=x)
 has:∀x,sc.names.lookup x=some .cell∨sc.names.lookup x=some .free->∃c,cl.lookup x=some c
 cp:∀x c,sc.names.lookup x=some .free->X.env.cells.lookup x=some c->cl.lookup x=some c
 ow:∀x c,sc.names.lookup x=some .cell->cl.lookup x=some c->z≤c
section
variable {X : Cx}
theorem Bs{pins:Pins}{σ:St}{sc:Scope}{N':List Str}{cap:List (Option Nat)}{fp:List Addr}{h1:Heap}{t:Nat}(I:Inv X pins σ H s)(hfp:∀b∈fp,cW X pins H b)(hob:∀b∈fp,∃o,s.heap.get? b=some o)
 {cl:List (Str×Addr)}(hkind:sc.kind=.function)(hcl:CelsB X sc cl (s.heap.objs.size+2) h1)(hfree:∀y∈sc.names,y.2=.free->X.env.kindOf y.1=some .cell∨X.env.kindOf y.1=some .free)(hcap:aJ X.N X.env.scope.names N' sc.names cap N'=true)
 (k:∀b u,s.heap.get? b=some u->h1.get? b=some u)(hD:h1.get? s.heap.objs.size=some {cls:=.type "list",data:=.seq #[] 0})(hC:∃m,h1.Ns (s.heap.objs.size+1) m):
 Inv (bz X sc N' (s.heap.objs.size+1) s H fp cl) [] (capt cap σ) (upd H s.heap.objs.size (.lst [])) {s with heap:=h1,toks:=t}:=by
 have fr0:H s.heap.objs.size=none:=I.hok.fresh (x8 _)
 have fr1:H (s.heap.objs.size+1)=none:=I.hok.fresh (Nat.le_succ _)
 have fr2:H (s.heap.objs.size+2)=none:=I.hok.fresh (by omega)
 have lt:∀b∈fp,b<s.heap.objs.size:=λ b hb=>let ⟨o,e⟩:=hob b hb;Heap.lt_size e
 have clt:∀{x c},X.env.cells.lookup x=some c->c<s.heap.objs.size:=λ{x c} h=>by
  obtain⟨v,q⟩:=I.cell x c h
  exact q.lt
 refine⟨⟨I.ok.mod,hkind,I.ok.glob,I.ok.blt,Nat.le_succ _,λ x y c a b=>?_,λ x hx=>?_,λ x c z e=>?_,I.ok.hd,I.ok.frames,.inl rfl,λ b hb=>⟨Nat.ne_of_lt (Nat.lt_succ_of_lt (lt b hb)),λ x c h=>?_⟩,
  I.bs,Nat.le_trans I.ok.bsz I.sz,λ b o e hb=>?_,λ b hb z=>?_,I.stack,I.stkFree⟩,rfl,I.bare,Un.laid k (x8 _) fr0,?_,λ x c h=>?_,?_,λ x c h=>?_,λ p hp=>absurd (show p∈([]:Pins)from hp) (by simp),I.hok.laid k (x8 _) ⟨Nat.zero_le _,[],0,.nil,hD⟩,?_⟩
 . rcases hcl.lk x c a with q | ⟨_,_,_,q⟩
   . rcases hcl.lk y c b with q' | ⟨_,_,_,q'⟩
     . exact I.ok.inj x y c q q'
     . exact q' x a
   . exact(q y b).symm
 . have hx':(relabel sc X.env).names.lookup x=some .cell∨(relabel sc X.env).names.lookup x=some .free:=hx
   have z:sc.names.lookup x=some .cell∨sc.names.lookup x=some .free:=by
    rcases hx' with q | q
    . obtain⟨k0,e,r⟩:=jD q
      rcases r with r | r
      . exact .inl (by rw[e,r])
      . exact .inr (by rw[e,r.1])
    . obtain⟨k0,e,r⟩:=jD q
      rcases r with r | r
      . exact .inr (by rw[e,r])
      . exact absurd r.2 (by decide)
   exact hcl.has x z
 . have z':sc.names.lookup x=some .cell:=eq_of_beq z
   have:=hcl.ow x c z' e
   show s.heap.objs.size≤c
   omega
 . rcases hcl.lk x c h with q | ⟨q,_⟩
   . exact(hfp b hb).2.2.2.2.1 x c q
   . exact λ e=>Nat.lt_irrefl _ (Nat.lt_of_lt_of_le (lt b hb) (by rw[←e,q];exact Nat.le_add_right _ _))
 . rcases(hfp b hb).2.2.2.1 with z | z
   . exact I.ok.noex b o e z
   . exact absurd (Nat.lt_of_lt_of_le (Heap.lt_size e) (Nat.le_trans I.ok.bsz z)) (Nat.lt_irrefl _)
 . rcases List.mem_cons.mp (I.stkSub b z)with q | q
   . exact(hfp b hb).2.1 q
   . exact(hfp b hb).2.2.1 q
 . obtain⟨m,hm⟩:=hC
   refine⟨m,hm,λ i x v e1 e2 e3=>?_⟩
   obtain⟨j,hj,hv⟩:=Br e2
   obtain⟨y,a,b,c,d⟩:=oW hcap hj
   have e1':N'[i]? =some x:=e1
   rw[a]at e1'
   cases e1'
   obtain⟨m0,hn0,hl⟩:=I.loc
   have vis:Vis X.env.scope x:=by
    rcases c with c | c
    . exact .inr (.inl c)
    . exact .inr (.inr c)
   obtain⟨u,r,l⟩:=hl j x v b hv vis
   refine⟨u,r,?_⟩
   rcases l with⟨q,_⟩ | ⟨q,cc,hc,hcell'⟩
   . exfalso
     have q':X.env.scope.names.lookup x=some .local:=q
     rcases c with c | c<;>· rw[c]at q';cases q'
   . have h2:=hcl.cp x cc d hc
     obtain⟨o,ho,hd⟩:=hcell'
     refine .inr ⟨?_,cc,h2,⟨o,k _ _ ho,hd⟩⟩
     exact z7 d
 . rcases hcl.lk x c h with q | ⟨_,_,q,_⟩
   . obtain⟨v,o,ho,hd⟩:=I.cell x c q
     exact⟨v,o,k _ _ ho,hd⟩
   . exact⟨_,q⟩
 . show upd H s.heap.objs.size (.lst []) (s.heap.objs.size+1)=none
   rw[aj (Nat.succ_ne_self _)];exact fr1
 . rcases hcl.lk x c h with q | ⟨q,_⟩
   . rw[aj (Nat.ne_of_lt (clt q))];exact I.freeC x c q
   . subst q
     rw[aj (Nat.ne_of_gt (Nat.lt_add_of_pos_right (by decide)))];exact fr2
 . show(capt cap σ).length=N'.length
   rw[←mz hcap]
   simp[capt]
theorem gQ{α:Type}{t:Sem α}{Q:α->Shared->Prop}{M:Model}{A:Around}{E E':Value->Shared->Prop}(hx:E=λ _ _=>False)(h:wpAny M A t Q E s):wpAny M A t Q E' s:=wpAny_mono h (λ _ _ q=>q) λ _ _ z=>by rw[hx]at z;exact z.elim
def TsA(X:Cx)(Γ:Gam)(S:Store):List Expr->(Bool->Store->Prop)->Prop
 | [],W=>W true S
 | [c],W=>Ts X Γ S c W
 | _,_=>False
theorem Df{X:Cx}{Γ:Gam}{S:Store}{ifs:List Expr}{W:Bool->Store->Prop}(h:TsA X Γ S ifs W){pins:Pins}{s:Shared}{σ:St}{H:Hp}{O:Own}(I:Inv X pins σ H s)(env:EnvOk X.K O H σ Γ)(st:StOk X.K O H S):
 wpAny (model X.prog X.w) X.A (forIn ifs true λ c r=>if r=true then do let ok ←isTrue c X.env (eval c X.env);pure (ForInStep.yield ok)else pure (ForInStep.yield r)) (TP X pins σ (QT X.K O H W)) X.xe s:=by
 match ifs,h with
 | [],h=>exact wpAny_tests_nil ⟨H,I,O,S,h,Step.refl O H,st⟩
 | [c],h=>exact wpAny_tests_one (h pins s σ H O I env st)
 | _::_::_,h=>exact h.elim
def sZ(K:PySem.W.Frag)(J:It)(O:Own)(H:Hp)(C:Store->Prop)(ds:List D):Prop:=
 ∀(O':Own)(H':Hp)(S':Store),Conv O O' H H'->StOk K O' H' S'->C S'->∀i:Nat,(∀d,ds[i]? =some d->J.go i H'/\∀x H'',J.yld i H' x H''->aR H' H''/\Rep K O' H'' x d)/\(i=ds.length->J.stop i H')
def QIc(K:PySem.W.Frag)(O:Own)(H:Hp)(W:List D->(Store->Prop)->Store->Prop):It->Hp->Prop:=λ J H'=>∃O' ds C S',W ds C S'/\Step O O' H H'/\StOk K O' H' S'/\sZ K J O' H' C ds
def ItC(X:Cx)(Γ:Gam)(S:Store)(tg iter:Expr)(W:List D->(Store->Prop)->Store->Prop):Prop:=
 ∀ (pins:Pins)(s:Shared)(σ:St)(H:Hp)(O:Own),Inv X pins σ H s->EnvOk X.K O H σ Γ->StOk X.K O H S->
   wpAny (model X.prog X.w) X.A (eval iter X.env) (λ v s1=>wpAny (model X.prog X.w) X.A (pyIter v) (PIE X pins σ tg (QIc X.K O H W)) X.xe s1) X.xe s
theorem oJ{J:It}{ds:List D}(y:fD K J O H ds):sZ K J O H (λ _=>True) ds:=λ O' H' S' st ok _ i=>y O' H' st (λ a ha=>ok.tracked ha) i
theorem ItW.toC{X:Cx}{Γ:Gam}{S:Store}{tg iter:Expr}{W:List D->(Store->Prop)->Store->Prop}(h:ItW X Γ S tg iter λ ds S1=>W ds (λ _=>True) S1):ItC X Γ S tg iter W:=λ pins s σ H O I env st=>
 thn (h pins s σ H O I env st) λ _ _ q=>thn q λ _ _ hq_=>by
  obtain⟨it,fp,tn,J,H',e1,e2,e3,e4,e5,O',ds,S',w,z1,z2,z3⟩:=hq_
  exact⟨it,fp,tn,J,H',e1,e2,e3,e4,e5,O',ds,_,S',w,z1,z2,oJ z3⟩
abbrev wY(X:Cx)(sc:Scope)(N':List Str)(cap:List (Option Nat))(Γ:Gam)(elt tg:Expr)(ifs:List Expr)(W:WD):List D->(Store->Prop)->Store->Prop:=λ ds C0 S1=>
 ds.length≤1000000/\∃Pv:Nat->List D->Store->Prop,Pv 0 [] S1/\(∀i acc S',Pv i acc S'->C0 S')/\
  (∀i d acc S',ds[i]? =some d->Pv i acc S'->∀(C:Addr)(s:Shared)(H:Hp)(ex:List Addr)(cl:List (Str×Addr)),BdW (bz X sc N' C s H ex cl) tg d (capt cap Γ) S' λ Γ2 S2=>Sub (capt cap Γ) Γ2/\
   TsA (bz X sc N' C s H ex cl) Γ2 S2 ifs λ ok S3=>(ok=true->Ev (bz X sc N' C s H ex cl) Γ2 S3 elt λ y S4=>Pv (i+1) (acc++[y]) S4)/\(ok=false->Pv (i+1) acc S3))/\
  ∀acc S',Pv ds.length acc S'->W (.lst acc) S'∨W (.loc S'.length) (S'++[acc])
theorem vm{Γ:Gam}{S:Store}{elt tg iter:Expr}{ifs:List Expr}{sc:Scope}{cpos:Pos}{N':List Str}{cap:List (Option Nat)}{W:WD}{E:Value->Shared->Prop}{pins:Pins}{σ:St}
 {RR:Value->Addr->Result->Shared->Prop}
 (hx:X.xe=λ _ _=>False)(hc:X.calm=true)(hkind:sc.kind=.function)(hcell:jT sc.names=true)(hfree:∀y∈sc.names,y.2=.free->X.env.kindOf y.1=some .cell∨X.env.kindOf y.1=some .free)
 (hcap:aJ X.N X.env.scope.names N' sc.names cap N'=true)(h:ItC X Γ S tg iter (wY X sc N' cap Γ elt tg ifs W))(I:Inv X pins σ H s)(env:EnvOk X.K O H σ Γ)(st:StOk X.K O H S)
 (fin:∀(s':Shared)(Hc:Hp)(D0 C:Addr)(m:Str->Option Value),Inv X pins σ Hc s'->s'.heap.Ns C m->cW X pins Hc C->D0≠C->QG X.K O H W (.ref D0) Hc->RR (.ref D0) C (.ok .next) s'):
 wpAny (model X.prog X.w) X.A (eval iter X.env) (λ x s₁=>wpAny (model X.prog X.w) X.A (pyIter x) (λ it s₂=>wpAny (model X.prog X.w) X.A (newList []) (λ acc s₃=>
  wpAny (model X.prog X.w) X.A (newFunctionEnv sc X.env.globals (closes X.env sc.names []) [] X.env.qual none .none (some X.env)) (λ cenv s₄=>
   codeAny (model X.prog X.w) X.A (.compStart (.ListComp elt [⟨tg,iter,ifs,0⟩] sc cpos) 0 it acc {cenv with scope:=relabel sc X.env}) (RR acc cenv.locals) s₄) E s₃) E s₂) E s₁) E s:=by
 refine thn (gQ hx (h pins s σ H O I env st)) λ xv s1 h1=>thn (gQ hx h1) λ itv s2 h2=>?_
 obtain⟨it,fp,tn,J,H2,e,I2,T,st2,f2,O2,ds,C0,S2,⟨hz,Pv,p0,pC,pt,pe⟩,stp,ok2,yl⟩:=h2
 subst e
 refine wpAny_newObj_type (BL ?_)
 dsimp only
 have hD0:H2 s2.heap.objs.size=none:=I2.hok.fresh (x8 _)
 have hsz:(s2.heap.push {cls:=.type "list",dict:=none,data:=.seq ([]:List Value).toArray}).objs.size=s2.heap.objs.size+1:=Heap.size_push ..
 rw[hsz]
 have ns0:=Heap.Ns.new (s2.heap.push {cls:=.type "list",dict:=none,data:=.seq ([]:List Value).toArray}) (.type "dict")
 rw[hsz]at ns0
 obtain⟨cl,hcleq⟩:∃cl,cellsFrom (s2.heap.objs.size+1+1) sc.names (closes X.env sc.names [])=cl:=⟨_,rfl⟩
 obtain⟨h₁,hh1⟩:∃h₁,pushCells ((s2.heap.push {cls:=.type "list",dict:=none,data:=.seq ([]:List Value).toArray}).push {cls:=.type "dict",data:=.dict #[]}) sc.names=h₁:=⟨_,rfl⟩
 have hns₁:h₁.Ns (s2.heap.objs.size+1) (λ _=>none):=by rw[←hh1];exact ns0.keeps (pushCells_keeps _ _)
 have kp0:∀b u,(s2.heap.push {cls:=.type "list",dict:=none,data:=.seq ([]:List Value).toArray}).get? b=some u->h₁.get? b=some u:=λ b u e=>by rw[←hh1];exact pushCells_keeps _ _ b u (Heap.get?_push_of_some _ e)
 have kp:∀b u,s2.heap.get? b=some u->h₁.get? b=some u:=λ b u e=>kp0 b u (Heap.get?_push_of_some _ e)
 have hD1:h₁.get? s2.heap.objs.size=some {cls:=.type "list",data:=.seq #[] 0}:=kp0 _ _ (Heap.get?_push_size _ rfl)
 have hf:∀y∈sc.names,y.2=.free->∃c,X.env.cells.lookup y.1=some c:=λ y hy e=>I.ok.has y.1 (hfree y hy e)
 have hcl :CelsB X sc cl (s2.heap.objs.size+2) h₁:=by
  have look:∀{x c},(closes X.env sc.names []).lookup x=some c->X.env.cells.lookup x=some c:=λ{x c} h=>jo sc.names [] hf (λ c h=>by simp at h) h
  have cpy:∀x c,sc.names.lookup x=some .free->X.env.cells.lookup x=some c->(closes X.env sc.names []).lookup x=some c:=λ x c d hc=>by
   obtain⟨c2,h2⟩:=bV (env:=X.env) sc.names [] (.inr d)
   have e:=look h2
   rw[hc]at e
   cases e
   exact h2
  unfold jT at hcell
  split at hcell
  . rename_i hfl
    have e1:=(ph hfl (s2.heap.objs.size+1+1) (closes X.env sc.names []) s2.heap).1
    rw[hcleq]at e1
    have no:∀x,sc.names.lookup x≠some .cell:=λ x z=>by
     have:(x,NameKind.cell)∈sc.names.filter (λ y=>y.2==.cell):=List.mem_filter.mpr ⟨PySem.mem_of_lookup z,rfl⟩
     rw[hfl]at this
     cases this
    rw[e1]
    exact⟨λ x c h=>.inl (look h),λ x hx=>hx.elim (λ z=>absurd z (no x)) λ z=>bV sc.names [] (.inr z),cpy,λ x c z=>absurd z (no x)⟩
  . rename_i y hfl
    have hy:sc.names.lookup y.1=some .cell:=eq_of_beq hcell
    obtain⟨e1,_⟩:=iZ hfl (s2.heap.objs.size+1+1) (closes X.env sc.names []) s2.heap
    rw[hcleq]at e1
    have e2:=(iZ hfl 0 [] ((s2.heap.push {cls:=.type "list",dict:=none,data:=.seq ([]:List Value).toArray}).push {cls:=.type "dict",data:=.dict #[]})).2
    rw[hh1]at e2
    have e3:((s2.heap.push {cls:=.type "list",dict:=none,data:=.seq ([]:List Value).toArray}).push {cls:=.type "dict",data:=.dict #[]}).objs.size=s2.heap.objs.size+2:=by rw[Heap.size_push,hsz]
    have cel:h₁.IsCell (s2.heap.objs.size+2) none:=by
     rw[e2,←e3]
     exact⟨_,Heap.get?_push_size _ rfl,rfl⟩
    have only:∀x,sc.names.lookup x=some .cell->x=y.1:=λ x z=>by
     have:(x,NameKind.cell)∈sc.names.filter (λ y=>y.2==.cell):=List.mem_filter.mpr ⟨PySem.mem_of_lookup z,rfl⟩
     rw[hfl]at this
     have:=List.mem_singleton.mp this
     rw[←this]
    have lt0:∀{x c},(closes X.env sc.names []).lookup x=some c->c<s2.heap.objs.size:=λ{x c} h=>by
     obtain⟨v,q⟩:=I2.cell x c (look h)
     exact q.lt
    have lk2:∀x,cl.lookup x=if x=y.1 then some (s2.heap.objs.size+1+1)else(closes X.env sc.names []).lookup x:=λ x=>by
     rw[e1,List.lookup_cons]
     by_cases z:x=y.1
     . subst z;simp
     . rw[if_neg z,beq_eq_false_iff_ne.mpr z]
    refine⟨λ x c h=>?_,λ x hx=>?_,λ x c d hc=>?_,λ x c z h=>?_⟩
    . rw [lk2]at h
      by_cases z:x=y.1
      . rw[if_pos z]at h
        cases h
        refine .inr ⟨rfl,by rw[z];exact hy,cel,λ u hu=>?_⟩
        rw[lk2]at hu
        by_cases z2:u=y.1
        . rw[z2,z]
        . rw[if_neg z2]at hu
          exact(Nat.lt_irrefl _ (Nat.lt_of_le_of_lt (Nat.le_add_right _ 2) (lt0 hu))).elim
      . rw[if_neg z]at h
        exact .inl (look h)
    . rw[lk2]
      by_cases z:x=y.1
      . exact⟨_,if_pos z⟩
      . rw[if_neg z]
        exact hx.elim (λ q=>absurd (only x q) z) λ q=>bV sc.names [] (.inr q)
    . rw[lk2,if_neg (λ z=>by rw[z,hy]at d;cases d)]
      exact cpy x c d hc
    . rw[lk2,if_pos (only x z)]at h
      cases h
      exact x8 _
  . cases hcell
 rw[hcleq,hh1]
 have hob:∀b∈fp,∃o,s2.heap.get? b=some o:=λ b hb=>let ⟨o,e,_⟩:=T.obj _ _ st2 b hb;⟨o,e⟩
 have I4:=Bs (t:=s2.toks) (h1:=h₁) I2 f2 hob hkind hcl hfree hcap kp hD1 ⟨_,hns₁⟩
 generalize hX':bz X sc N' (s2.heap.objs.size+1) s2 H2 fp cl=X' at I4
 have pt':=λ i d acc S' a b=>pt i d acc S' a b (s2.heap.objs.size+1) s2 H2 fp cl
 rw[hX']at pt'
 have eP:X'.prog=X.prog:=by rw[←hX'];rfl
 have ew:X'.w=X.w:=by rw[←hX'];rfl
 have eK:X'.K=X.K:=by rw[←hX'];rfl
 have eA:X'.A=X.A:=by rw[←hX'];rfl
 have ec:X'.calm=true:=by rw[←hX'];exact hc
 have ex':X'.xe=λ _ _=>False:=by rw[←hX'];exact hx
 have eenv:X'.env=compEnvC sc cl (s2.heap.objs.size+1) X.env:=by rw[←hX'];rfl
 have eex:X'.ex=fp:=by rw[←hX'];rfl
 have eout:X'.outer=X.stack:=by rw[←hX'];rfl
 have es0:X'.s₀=s2:=by rw[←hX'];rfl
 have eH0:X'.H₀=H2:=by rw[←hX'];rfl
 have epn:X'.pn=[]:=by rw[←hX'];rfl
 have stat:∀{H':Hp},(∀b∈fp,H' b=none)->∀b∈fp,cW X' [] H' b:=λ hn b hb=>by
  refine⟨hn b hb,(I4.ok.exf b (by rw[eex];exact hb)).1,I4.ok.exfs b (by rw[eex];exact hb),.inl (by rw[eex];exact hb),(I4.ok.exf b (by rw[eex];exact hb)).2,λ p hp=>?_⟩
  rw[epn]at hp
  exact absurd hp (by simp)
 have loop:∀s₃:Shared,s₃={s2 with heap:=h₁}->
  codeAny (model X.prog X.w) X.A (.compLoop (.ListComp elt [⟨tg,iter,ifs,0⟩] sc cpos) 0 (.ref it) (.ref s2.heap.objs.size) (compEnvC sc cl (s2.heap.objs.size+1) X.env))
   (RR (.ref s2.heap.objs.size) (s2.heap.objs.size+1)) s₃:=by
  intro s₃ es
  rw[←eenv]
  refine codeAny_loop rfl (λ n s'=>∃i acc xs Hc Ac Sc σc,n=ds.length-i/\i≤ds.length/\Inv X' [] σc Hc s'/\tn i s'.heap/\(∀b∈fp,Hc b=none)/\Pv i acc Sc/\Hc s2.heap.objs.size=some (.lst xs)/\xs.length≤i/\
   Reps X.K ⟨Ac,s2.heap.objs.size::O2.B⟩ Hc xs acc/\Step O2 ⟨Ac,O2.B⟩ H2 Hc/\StOk X.K ⟨Ac,s2.heap.objs.size::O2.B⟩ Hc Sc/\EnvOk X.K ⟨Ac,s2.heap.objs.size::O2.B⟩ Hc σc (capt cap Γ)) ?_ ds.length ?_
  . rintro n s' ⟨i,acc,xs,Hc,Ac,Sc,σc,rfl,hi,Ic,stc,frc,pc,hxs,hxl,rc,sc',okc,envc⟩
    show wpAny _ _ ((compTurn (.ListComp elt [⟨tg,iter,ifs,0⟩] sc cpos) 0 (.ref it) (.ref s2.heap.objs.size) X'.env).onRaise (λ x=>do noteFrame x X'.env;theTreesLotGoes x)) _ _ s'
    refine wpAny_noted ?_
    rw[compTurn_list]
    refine wpAny_bind (wpAny_standAt (wpAny_bind ?_))
    have cv:Conv O2 ⟨Ac,s2.heap.objs.size::O2.B⟩ H2 Hc:=by
     refine⟨λ a u n t=>?_,sc'.conv.lc⟩
     obtain⟨x1,x2⟩:=sc'.conv.tr a u n t
     refine⟨λ z=>?_,x2⟩
     rcases z with z | z
     . exact x1 (.inl z)
     . rcases List.mem_cons.mp z with z | z
       . subst z;rw[hD0]at t;cases t
       . exact x1 (.inr z)
    obtain⟨y1,y2⟩:=yl _ _ _ cv okc (pC _ _ _ pc) i
    by_cases hlt:i<ds.length
    . obtain⟨go,yy⟩:=y1 ds[i] (y0 hlt)
      have it1:=T.item X' eP ew eK ec i [] s' σc Hc (λ _ _=>False) Ic (stat frc) stc go
      rw[eA]at it1
      refine wpAny_mono it1 (λ r s3 hq_=>?_) λ _ _ z=>z.elim
      obtain⟨u,hr,h3⟩:=hq_
      subst hr
      refine wpAny_bind (wpAny_mono h3 (λ _ s5 hq_=>?_) λ _ _ z=>z.elim)
      obtain⟨x,H5,I5,r5,y5,st5,fr5⟩:=hq_
      obtain⟨sm,rx⟩:=yy x H5 y5
      have I5':=I5.pinned (stat fr5) (T.obj _ _ st5)
      have st35:=Step.same (O:=⟨Ac,s2.heap.objs.size::O2.B⟩) sm
      have bd:=pt' i ds[i] acc Sc (y0 hlt) pc _ s5 σc H5 ⟨Ac,s2.heap.objs.size::O2.B⟩ x u I5' (by rw[eK];exact envc.mono st35) (by rw[eK];exact okc.same sm) (by rw[eK];exact rx) r5
      rw[eP,ew,eA]at bd
      refine wpAny_bind (wpAny_mono (gQ (E':=λ _ _=>False) ex' bd) (λ _ s6 hq_=>?_) λ _ _ z=>z.elim)
      obtain⟨σ6,H6,I6,O6,Γ6,S6,⟨sub6,w6⟩,st6,ok6,env6⟩:=hq_
      have tst:=Df w6 I6 env6 ok6
      rw[eP,ew,eA]at tst
      refine wpAny_bind (wpAny_mono (gQ (E':=λ _ _=>False) ex' tst) (λ ok s7 hq_=>?_) λ _ _ z=>z.elim)
      obtain⟨H7,I7,O7,S7,w7,st7,ok7⟩:=hq_
      have st57:Step ⟨Ac,s2.heap.objs.size::O2.B⟩ O7 Hc H7:=st35.trans (st6.trans st7)
      have eB7:O7.B=s2.heap.objs.size::O2.B:=st57.hid
      have next:∀(s9:Shared)(H8:Hp)(O8:Own)(S8:Store)(ys:List V)(acc':List D),Step ⟨Ac,s2.heap.objs.size::O2.B⟩ O8 Hc H8->
       StOk X.K O8 H8 S8->EnvOk X.K O8 H8 σ6 (capt cap Γ)->Pv (i+1) acc' S8->Inv X' ([]++jN fp s5.heap) σ6 (upd H8 s2.heap.objs.size (.lst ys)) s9->Reps X.K O8 H8 ys acc'->ys.length≤i+1->
       ∃ m,m<ds.length-i/\∃i acc xs Hc Ac Sc σc,m=ds.length-i/\i≤ds.length/\Inv X' [] σc Hc s9/\tn i s9.heap/\(∀b∈fp,Hc b=none)/\Pv i acc Sc/\Hc s2.heap.objs.size=some (.lst xs)/\xs.length≤i/\
         Reps X.K ⟨Ac,s2.heap.objs.size::O2.B⟩ Hc xs acc/\Step O2 ⟨Ac,O2.B⟩ H2 Hc/\StOk X.K ⟨Ac,s2.heap.objs.size::O2.B⟩ Hc Sc/\EnvOk X.K ⟨Ac,s2.heap.objs.size::O2.B⟩ Hc σc (capt cap Γ):=by
       intro s9 H8 O8 S8 ys acc' st8 ok8 env8 p8 I8 r8 hl8
       have eB:O8.B=s2.heap.objs.size::O2.B:=st8.hid
       obtain⟨A8,B8⟩:=O8
       have eB':B8=s2.heap.objs.size::O2.B:=eB
       subst eB'
       have mem:s2.heap.objs.size∈(⟨A8,s2.heap.objs.size::O2.B⟩:Own).B:=v3
       refine⟨ds.length-(i+1),by omega,i+1,acc',ys,_,A8,S8,σ6,rfl,hlt,I8.unpinned,T.keep _ _ _ st5 λ b hb o e=>(I8.pin (b,o) (List.mem_append_right _ (List.mem_append_right _ (cP hb e)))).1,λ b hb=>?_,p8,aC,hl8,
        r8.conv (Conv.updHid mem _),sc'.inner st8 hD0 _,ok8.updHid mem _,env8.conv (Conv.updHid mem _)⟩
       obtain⟨o,e,d⟩:=T.obj _ _ st5 b hb
       exact(I8.pin (b,o) (List.mem_append_right _ (List.mem_append_right _ (cP hb e)))).2.1
      rw[eK]at ok7 env6 ok6
      have hid:∀{O':Own}{H':Hp}{S':Store},Step ⟨Ac,s2.heap.objs.size::O2.B⟩ O' Hc H'->H' s2.heap.objs.size=some (.lst xs):=λ st'=>
       st'.kept _ _ (λ z=>okc.apart _ z v3) hxs
      cases ok with
      | false=>
        refine wpAny_pure ⟨rfl,?_⟩
        have hx7:=hid (S':=S7) st57
        have eq7:upd H7 s2.heap.objs.size (.lst xs)=H7:=by
         funext b
         by_cases hb:b=s2.heap.objs.size
         . subst hb;rw[aC];exact hx7.symm
         . exact aj hb
        exact next s7 H7 O7 S7 xs acc st57 ok7 ((env6.mono st7).sub sub6) (w7.2 rfl) (by rw[eq7];exact I7) (rc.mono st57) (Nat.le_succ_of_le hxl)
      | true=>
        have el:=w7.1 rfl _ s7 σ6 H7 O7 I7 (by rw[eK];exact env6.mono st7) (by rw[eK];exact ok7)
        rw[eP,ew,eA]at el
        refine wpAny_bind (wpAny_bind (wpAny_mono (gQ (E':=λ _ _=>False) ex' el) (λ xe s8 hq_=>?_) λ _ _ z=>z.elim))
        obtain⟨v8,H8,I8,r8,O8,y,S8,w8,st8,ok8,rep8⟩:=hq_
        rw[eK]at ok8 rep8
        have st58:=st57.trans st8
        have hx8:=hid (S':=S8) st58
        have ap:=mF (X:=X') _ s8 σ6 H8 (.ref s2.heap.objs.size) [v8] (.ref s2.heap.objs.size) [xe] (λ v H'=>H'=upd H8 s2.heap.objs.size (.lst (xs++[v8]))) I8 rfl (.cons r8 .nil)
         ⟨s2.heap.objs.size,xs,v8,rfl,rfl,hx8,Nat.lt_of_le_of_lt (Nat.le_trans hxl (Nat.le_trans hi hz)) (by decide),rfl⟩
        rw[eP,ew,eA]at ap
        refine wpAny_bind (wpAny_mono (gQ (E':=λ _ _=>False) ex' ap) (λ _ s9 hq_=>wpAny_pure (wpAny_pure ⟨rfl,?_⟩)) λ _ _ z=>z.elim)
        obtain⟨_,H9,I9,_,e9⟩:=hq_
        subst e9
        exact next s9 H8 O8 S8 (xs++[v8]) (acc++[y]) st58 ok8 (((env6.mono st7).mono st8).sub sub6) w8 I9 ((rc.mono st58).append (.cons rep8 .nil)) (by rw[List.length_append,List.length_singleton];omega)
    . have e:i=ds.length:=by omega
      subst e
      have dn:=T.done X' eP ew eK ec ds.length [] s' σc Hc (λ _ _=>False) Ic (stat frc) stc (y2 rfl)
      rw[eA]at dn
      refine wpAny_mono dn (λ r s3 hq_=>?_) λ _ _ z=>z.elim
      obtain⟨hr,I3⟩:=hq_
      subst hr
      refine wpAny_pure ?_
      obtain⟨m,hm,_⟩:=I3.loc
      have un:Un (frs X.stack) fp H2 Hc s2.heap s3.heap:=by
       have:=I3.base
       rw[eex,eH0,es0]at this
       show Un (frs X.stack) fp H2 Hc s2.heap s3.heap
       rw[←eout]
       exact this
      have os:s3.os=s2.os:=by
       have:=I3.os
       rw[es0]at this
       exact this
      have hok3:HOk X.prog X.w Hc s3.heap:=by
       have:=I3.hok
       rw[eP,ew]at this
       exact this
      have IX:Inv X pins σ Hc s3:=I2.call' os un hok3 I3.bare (λ b hb=>⟨(f2 b hb).2.2.2.1,(f2 b hb).2.1,(f2 b hb).2.2.2.2.1,(f2 b hb).2.2.2.2.2⟩)
      have hCn:Hc (s2.heap.objs.size+1)=none:=by
       have:=I3.free
       rw[eenv]at this
       exact this
      refine fin s3 Hc _ _ m IX (by rw[eenv]at hm;exact hm) (I2.fpOk (Nat.le_succ _) hCn) (Nat.ne_of_lt (Nat.lt_succ_self _)) ?_
      rcases pe acc Sc pc with w | w
      . refine⟨⟨Ac,O2.B⟩,.lst acc,Sc,w,stp.trans sc',okc.unhide,.lst (.inl ⟨λ z=>?_,.inl hxs⟩) (rc.conv Conv.unhide)⟩
        rcases z with z | z
        . exact okc.apart _ z v3
        . exact ok2.hidden _ z hD0
      . refine⟨⟨Ac++[(s2.heap.objs.size,false)],O2.B⟩,.loc Sc.length,Sc++[acc],w,stp.trans (sc'.adopt hD0),okc.adopt (λ z=>ok2.hidden _ z hD0) hxs rc,.loc ?_⟩
        have el:Ac.length=Sc.length:=okc.len
        show(Ac++[(s2.heap.objs.size,false)])[Sc.length]? =some _
        rw[←el];simp
  . refine⟨0,[],[],upd H2 s2.heap.objs.size (.lst []),O2.A,S2,capt cap σ,rfl,Nat.zero_le _,by rw[es];exact I4,by rw[es];exact T.keep 0 s2.heap h₁ st2 λ b hb o e=>kp b o e,λ b hb=>?_,p0,aC,x8 0,.nil,Step.fresh hD0 _,ok2.hide hD0 _,((env.mono stp).capt cap).conv (Conv.hide hD0 _)⟩
    obtain⟨o,e⟩:=hob b hb
    rw[aj (Nat.ne_of_lt (Heap.lt_size e))]
    exact(f2 b hb).1
 exact codeAny_compStart_list (loop _ rfl) (T.self _ 0 _ _ _ (T.keep 0 s2.heap h₁ st2 λ b hb o e=>kp b o e) (loop _ rfl))
variable {Γ : Gam} {S : Store} {elt tg iter : Expr} {ifs : List Expr} {sc : Scope} {pos : Pos} {N' : List Str} {cap : List (Option Nat)}
theorem Mx(N':List Str)(cap:List (Option Nat)){W:WD}(h:ItC X Γ S tg iter (wY X sc N' cap Γ elt tg ifs W))(hx:X.xe=λ _ _=>False:=by rfl)(hc:X.calm=true:=by rfl)(hkind:sc.kind=.function:=by rfl)
 (hcell:jT sc.names=true:=by rfl)(hfr:freeOk X.env.scope.names sc.names=true:=by rfl)
 (hnames:∀y∈sc.names,y.2=.local->sc.names.lookup y.1=some .local:=by decide+kernel)(hcap:aJ X.N X.env.scope.names N' sc.names cap N'=true:=by rfl)(hs:∀x,foldedSetIterable iter X.env x=pure x:=by intro _;rfl):
 Ev X Γ S (.ListComp elt [⟨tg,iter,ifs,0⟩] sc pos) W:=by
 intro pins s σ H O I env st
 have hfree:∀y∈sc.names,y.2=.free->X.env.kindOf y.1=some .cell∨X.env.kindOf y.1=some .free:=iR hfr
 have hf:∀y∈sc.names,y.2=.free->∃c,X.env.cells.lookup y.1=some c:=λ y hy e=>I.ok.has y.1 (hfree y hy e)
 rw[eval_ListComp]
 refine wpAny_comprehension_free (use:=none) (g:=⟨tg,iter,ifs,0⟩) (gs:=[]) rfl hs (fY hf) hkind hnames ?_
 refine vm (RR:=λ acc C=>compPost (model X.prog X.w) X.A X.xe none (EP X pins σ (QG X.K O H W)) acc C) hx hc hkind hcell hfree hcap h I env st ?_
 intro s' Hc D0 C m I' hm fp ne q
 refine⟨m,hm,λ h' sb=>⟨.ref D0,Hc,?_,rfl,q⟩⟩
 obtain⟨f0,f1,f2,f3,f4,f5⟩:=fp
 exact I'.turned (t':=s'.toks) (λ b o hb e=>(sb.2 b hb).trans e) f0 f1 f3 f4 f5
theorem GC(i:Nat){x:Str}{pos' spos:Pos}{W:Fin}(N':List Str)(cap:List (Option Nat))(h:ItC X Γ S tg iter (wY X sc N' cap Γ elt tg ifs λ d S1=>W.nx (Γ.set i (some d)) S1))(hN:X.N.Nodup)(hi:X.N[i]? =some x:=by rfl)
 (hl:Loc X.env.scope x:=by first | exact Or.inl rfl | exact Or.inr rfl)(hsw:swapsWith (.ListComp elt [⟨tg,iter,ifs,0⟩] sc pos) (some (.Name x pos')) spos.line X.env=pure true:=by rfl)
 (hfn:X.fn x=true∨X.env.scope.names.lookup x=some .local:=by first | exact .inl rfl | exact .inr rfl)(hx:X.xe=λ _ _=>False:=by rfl)(hc:X.calm=true:=by rfl)(hkind:sc.kind=.function:=by rfl)
 (hcell:jT sc.names=true:=by rfl)(hfr:freeOk X.env.scope.names sc.names=true:=by rfl)
 (hnames:∀y∈sc.names,y.2=.local->sc.names.lookup y.1=some .local:=by decide+kernel)(hcap:aJ X.N X.env.scope.names N' sc.names cap N'=true:=by rfl)(hs:∀x,foldedSetIterable iter X.env x=pure x:=by intro _;rfl):
 Rn X Γ S (.Assign [.Name x pos'] (.ListComp elt [⟨tg,iter,ifs,0⟩] sc pos) spos) W:=by
 intro pins s σ H O I env st
 have hfree:∀y∈sc.names,y.2=.free->X.env.kindOf y.1=some .cell∨X.env.kindOf y.1=some .free:=iR hfr
 have hf:∀y∈sc.names,y.2=.free->∃c,X.env.cells.lookup y.1=some c:=λ y hy e=>I.ok.has y.1 (hfree y hy e)
 rw[exec_Assign_Name_used _ _ _ _ hsw]
 refine wpAny_bind (wpAny_standAt (wpAny_bind ?_))
 show wpAny _ X.A (do let _ ←comprehension (.ListComp elt [⟨tg,iter,ifs,0⟩] sc pos) sc X.env _ (newList []) false (eval iter X.env) (some (assign (.Name x pos') X.env))) _ _ s
 refine wpAny_bind (wpAny_mono (wpAny_comprehension_free (use:=some (assign (.Name x pos') X.env)) (g:=⟨tg,iter,ifs,0⟩) (gs:=[]) (Q:=λ _ s'=>SP X pins (ends X.K O H W) .next s') rfl hs (fY hf) hkind hnames ?_) (λ _ s' hq=>wpAny_pure (wpAny_pure hq)) λ _ _ e=>e)
 refine vm (RR:=λ acc C=>compPost (model X.prog X.w) X.A X.xe (some (assign (.Name x pos') X.env)) (λ _ s'=>SP X pins (ends X.K O H W) .next s') acc C) hx hc hkind hcell hfree hcap h I env st ?_
 intro s' Hc D0 C m I' hm fp ne q
 show wpAny _ X.A (assign (.Name x pos') X.env (.ref D0)) _ _ _
 refine wpAny_assign_Name (vo I' hN hi hl (show RelV (.ref D0) (.ref D0)from rfl) (λ s2 I2 hq_=>?_) hfn)
 obtain⟨a,sa,ha⟩:=hq_
 obtain⟨f0,f1,f2,f3,f4,f5⟩:=fp
 have neC:C≠a:=by
  rcases ha with z | z
  . rw[z];exact f1
  . exact(f4 x a z).symm
 refine⟨m,hm.sameBut sa neC,λ h' sb=>?_⟩
 obtain⟨O',d,S',w,stp,okp,rep⟩:=q
 exact⟨_,Hc,I2.turned (t':=s2.toks) (λ b o hb e=>(sb.2 b hb).trans e) f0 f1 f3 f4 f5,O',_,S',w,stp,okp,(env.mono stp).set rep i⟩
end
end DL
namespace DL
open PySem PySem.Spec L2
open PyProof.Rows
def tyD:D->String
 | .non=>"NoneType" | .bl _=>"bool" | .int _=>"int" | .str _=>"str" | .tup _=>"tuple" | .lst _=>"list" | .loc _=>"list" | .dic=>"dict" | .dlo _=>"dict"
def isi(t c:String):Bool:=t==c||(t=="bool"&&c=="int")
def isT(c:String):Bool:=c=="int"||c=="bool"||c=="tuple"||c=="list"||c=="str"
theorem kit_at(K:PySem.W.Frag)(d:D){c:String}(hc:isT c=true):PySem.W.kitOne K (.type (tyD d)) (.type c)=some (isi (tyD d) c):=by
 simp only[isT,Bool.or_eq_true,beq_iff_eq]at hc
 rcases hc with(((h | h) | h) | h) | h<;>subst h<;>cases d<;>kernel_rfl
section
variable {X : Cx} {Γ : Gam} {S : Store} {W : WD} {a b e : Expr} {es : List Expr} {pos : Pos}
theorem Ce{pins:Pins}{s:Shared}{σ:St}{H:Hp}{O:Own}{v:V}{u c:Value}{d:D}{A:Around}{E:Value->Shared->Prop}{Q:Value->Shared->Prop}(I:Inv X pins σ H s)(st:StOk X.K O H S)(r:Rep X.K O H v d)(ru:RelV v u)
 (go:∀{x t:Value}{Hh:Heap->Prop},PySem.W.KitX X.K x t Hh->t=.type (tyD d)->Hh s.heap->x≠.builtin "__main__.__loader__#opaque"->wpAny (model X.prog X.w) A (call (.builtin "isinstance") [x,c]) Q E s):
 wpAny (model X.prog X.w) A (call (.builtin "isinstance") [u,c]) Q E s:=by
 cases r with
 | non=>cases ru;exact go PySem.W.kitx_none rfl True.intro (λ z=>nomatch z)
 | bl y=>cases ru;exact go PySem.W.kitx_bool rfl True.intro (λ z=>nomatch z)
 | int y=>obtain⟨t,rfl⟩:=ru;exact go PySem.W.kitx_int rfl True.intro (λ z=>nomatch z)
 | str y=>obtain⟨t,rfl⟩:=ru;exact go PySem.W.kitx_str rfl True.intro (λ z=>nomatch z)
 | tup h1 q1=>
   cases ru
   obtain⟨its,_,⟨o,h2,h3,_⟩,_⟩:=I.tuple h1.sq
   exact go PySem.W.kitx_tuple rfl ⟨o,h2,h3⟩ (λ z=>nomatch z)
 | lst h1 q1=>
   cases ru
   obtain⟨its,_,pl,_⟩:=I.list h1.sq
   obtain⟨o,h2,h3,_⟩:=pl.isList
   exact go PySem.W.kitx_list rfl ⟨o,h2,h3⟩ (λ z=>nomatch z)
 | @loc p k hk=>
   cases ru
   have hl:k<S.length:=by rw[←st.len];exact(z0.mp hk).1
   obtain⟨xs,hx,_⟩:=st.obj k p S[k] hk (y0 hl)
   obtain⟨its,_,pl,_⟩:=I.list (SqL.of hx)
   obtain⟨o,h2,h3,_⟩:=pl.isList
   exact go PySem.W.kitx_list rfl ⟨o,h2,h3⟩ (λ z=>nomatch z)
 | @dic p h1 h2=>
   cases ru
   obtain⟨_,_,vs,_,o,es,ep,h3,h4,_⟩:=(show aO X.prog X.w H s.heap p (.dK [])from I.hok p _ h2)
   exact go PySem.W.kitx_dict rfl ⟨o,h3,h4.1⟩ (λ z=>nomatch z)
 | @dlo p k hk nk=>
   cases ru
   have hl:k<S.length:=by rw[←st.len];exact(z0.mp hk).1
   cases st.dob k p S[k] hk (y0 hl)with
   | t kvs hx _=>
     obtain⟨_,_,xs,_,o,es,ep,h3,h4,_⟩:=(show aO X.prog X.w H s.heap p (.dT kvs)from I.hok p _ hx)
     exact go PySem.W.kitx_dict rfl ⟨o,h3,h4.1⟩ (λ z=>nomatch z)
   | c ys _ hx _=>
     obtain⟨⟨_,_,_,o,es,ep,h3,h4,_⟩,_,_⟩:=(show aO X.prog X.w H s.heap p (.ext (PN p ys))from I.hok p _ hx)
     exact go PySem.W.kitx_dict rfl ⟨o,h3,h4.1⟩ (λ z=>nomatch z)
   | o ys _ hx _=>
     obtain⟨⟨_,_,_,o,es,ep,h3,h4,_⟩,_,_⟩:=(show aO X.prog X.w H s.heap p (.ext (Q5 p ys))from I.hok p _ hx)
     exact go PySem.W.kitx_dict rfl ⟨o,h3,h4.1⟩ (λ z=>nomatch z)
   | m ys _ _ hx _=>
     obtain⟨⟨_,_,_,o,es,h3,h4,_⟩,_,_⟩:=(show aO X.prog X.w H s.heap p (.ext (Rf p ys))from I.hok p _ hx)
     exact go PySem.W.kitx_dict rfl ⟨o,h3,h4.1⟩ (λ z=>nomatch z)
   | p _ n=>exact absurd nk n
theorem SX{T:Str}{Tn:String}{p q:Pos}(h:Ev X Γ S a λ x S1=>W (.bl (isi (tyD x) Tn)) S1)(hT:isT Tn=true)(hb:bootBuiltins T=some (.type Tn))(hm1:X.mg "isinstance"=none)(hm:X.mg T=none)(hg1:Gl X "isinstance":=by rfl)(hg:Gl X T:=by rfl)
 (hn:T≠"__name__":=by decide)(hdb:(T==("__debug__":Str))=false:=by decide)(hs1:starEach [a,.Name T q] X.env=(false,eval a X.env)::starEach [.Name T q] X.env:=by rfl)(hs2:starEach [.Name T q] X.env=[(false,eval (.Name T q) X.env)]:=by rfl):
 Ev X Γ S (.Call (.Name "isinstance" p) [a,.Name T q] [] pos) W:=by
 intro pins s σ H O I env st
 have hc:cN X (.builtin "isinstance") (λ xs H' Q=>∃v,xs=[v,.ty Tn]/\∃O' d S',StOk X.K O' H' S'/\Rep X.K O' H' v d/\Q (.bl (isi (tyD d) Tn)) H'):=by
  intro pins s σ H xs us Q I r h
  obtain⟨v,rfl,O',d,S',st',rep,q⟩:=h
  obtain⟨u,u2,rfl,r1,r2⟩:=vals2 r
  cases r2
  refine Ce I st' rep r1 λ Z e p ne=>?_
  subst e
  exact PySem.W.kia_one Z I.kIn p (kit_at X.K d hT) ne λ tk=>⟨.bl _,H,I.tok tk,rfl,q⟩
 refine j5 hc hg1 hm1 PyProof.Rows.boot_isinstance (bw h.pe (bw (uE hg hm hb (v:=.ty Tn) rfl hn hdb) eE hs2) hs1) (by decide) (by decide) hs1 (by rw[hs2];rfl) pins s σ H _ I ⟨O,env,st,λ v H' q=>?_⟩
 obtain⟨O',d,S',w,st1,ok1,rep⟩:=q
 exact⟨v,rfl,O',d,S',ok1,rep,O',_,S',w,st1,ok1,.bl _⟩
theorem range_all{α:Type}(f:α->Bool)(d:α):∀(bs:List α)(k:Nat),((List.range' k bs.length).all λ i=>f ((List.replicate k d++bs).getD i d))=bs.all f
 | [],_=>by simp
 | b ::bs,k=>by
   have ih:=range_all f d bs (k+1)
   rw[List.length_cons,List.range'_succ,List.all_cons,List.all_cons]
   congr 1
   . simp[List.getD]
   . rw[←ih]
     have e:List.replicate k d++b::bs=(List.replicate k d++[b])++bs:=by simp
     rw[List.all_eq,List.all_eq]
     congr 1
     apply propext
     constructor
     . intro h i hi
       have:=h i hi
       rw[List.mem_range']at hi
       obtain⟨j,hj,rfl⟩:=hi
       simp only[List.getD,List.getElem?_append,List.length_replicate]at this ⊢
       have g1:¬(k+1+1*j<k):=by omega
       have g2:¬(k+1+1*j<k+1):=by omega
       rw[if_neg g1]at this
       rw[if_neg g2]
       have e1:k+1+1*j-k=(k+1+1*j-(k+1))+1:=by omega
       rw[e1,List.getElem?_cons_succ]at this
       exact this
     . intro h i hi
       have:=h i hi
       rw[List.mem_range']at hi
       obtain⟨j,hj,rfl⟩:=hi
       simp only[List.getD,List.getElem?_append,List.length_replicate]at this ⊢
       have g1:¬(k+1+1*j<k):=by omega
       have g2:¬(k+1+1*j<k+1):=by omega
       rw[if_neg g2]at this
       rw[if_neg g1]
       have e1:k+1+1*j-k=(k+1+1*j-(k+1))+1:=by omega
       rw[e1,List.getElem?_cons_succ]
       exact this
theorem Fi(bs:List Bool):((List.range bs.length).all λ i=>bs.getD i false)=bs.all id:=by
 have:=range_all id false bs 0
 simpa[List.range_eq_range']using this
theorem k_all{bs:List Bool}(w:W (.bl (bs.all id)) S)(hc:X.calm=true:=by rfl):bG X (.builtin "all") [.lst (bs.map .bl)] S W:=by
 intro pins s σ H O vs us I st r ru
 obtain⟨v,rfl,r'⟩:=dh r
 obtain⟨u,rfl,ru'⟩:=vals1 ru
 cases r' with
 | @lst a xs _ h1 q1=>
   cases ru'
   obtain⟨its,rv,pl,hz⟩:=I.list h1.sq
   have ex:=q1.bools
   subst ex
   have hlen:its.length=bs.length:=by rw[←rv.length];simp
   refine call_all_walk (wpAny_pyIter_list pl.isList ?_)
   have ne:a≠s.heap.objs.size:=by
    obtain⟨o,e,_⟩:=pl.isList
    exact Nat.ne_of_lt (Heap.lt_size e)
   refine⟨_,_,_,_,_,_,λ i=>bs.getD i false,rfl,Walks.list (A:=X.A.in1) (I.ok.hd hc) _ a ne its.toArray,⟨⟨_,Heap.get?_push_size _ rfl,rfl,rfl⟩,pl.isList.push _⟩,λ i v s' Q' E' hv hq=>?_,λ h' tk hk=>?_⟩
   . have hv:its[i]? =some v:=by simpa using hv
     have hi:i<bs.length:=by rw[←hlen];exact(z0.mp hv).1
     obtain⟨z,hz',rz⟩:=rv.get (i:=i) (x:=V.bl bs[i]) (by rw[x6,y0 hi];rfl)
     rw[hv]at hz'
     cases hz'
     cases rz
     have e:bs.getD i false=bs[i]:=by simp[List.getD,hi]
     have hq':Q' (bs.getD i false) s':=hq
     rw[e]at hq'
     exact wpAny_truthy_bool hq'
   . have e:(List.range its.toArray.size).all (λ i=>bs.getD i false)=bs.all id:=by rw[w9,hlen];exact Fi bs
     rw[e]
     refine⟨.bl _,H,I.kept (λ b o q=>hk b o (λ z=>?_) (Heap.get?_push_of_some _ q)),rfl,QG.here w st (.bl _)⟩
     have z':b=s.heap.objs.size:=by simpa using z
     exact absurd (Heap.lt_size q) (by rw[z'];exact Nat.lt_irrefl _)
theorem Ue{ns:List Int}(w:W (.int ns.sum) S)(hc:X.calm=true:=by rfl):bG X (.builtin "sum") [.lst (ns.map .int)] S W:=by
 intro pins s σ H O vs us I st r ru
 obtain⟨v,rfl,r'⟩:=dh r
 obtain⟨u,rfl,ru'⟩:=vals1 ru
 cases r' with
 | @lst a xs _ h1 q1=>
   cases ru'
   obtain⟨its,rv,pl,hz⟩:=I.list h1.sq
   have ex:=q1.ints
   subst ex
   have hi:IntsAre its ns:=intsAre_of rv
   obtain⟨zs,ez⟩:=hi.allInts.items
   have hL:=pl.isList
   rw[ez]at hL
   refine sum_intListG (I.ok.hd hc) hL λ h' tk t' hk=>?_
   have e:preSum (numAt zs) zs.size=ns.sum:=by
    rw[preSum_eq,List.take_of_length_le (by simp),←nums_intItems,←ez]
    exact congrArg List.sum hi.numsOf
   rw[e]
   exact⟨.int _,H,I.kept hk,⟨_,rfl⟩,QG.here w st (.int _)⟩
mutual
def deep:D->Nat
 | .tup ds=>bc ds+1
 | .lst ds=>bc ds+1
 | .dic=>1
 | _=>0
def bc:List D->Nat
 | []=>0
 | d::ds=>max (deep d) (bc ds)
end
mutual
def ao:D->Bool
 | .tup ds=>aq ds
 | .lst ds=>aq ds
 | .loc _=>false
 | .dlo _=>false
 | _=>true
def aq:List D->Bool
 | []=>true
 | d::ds=>ao d&&aq ds
end
theorem dz{d:D}:∀{ds:List D}{i:Nat},ds[i]? =some d->deep d≤bc ds
 | [],_,h=>by simp at h
 | c::ds,0,h=>by simp at h;subst h;simp[bc];omega
 | c::ds,i+1,h=>by
   have:=dz (ds:=ds) (i:=i) (by simpa using h)
   simp[bc];omega
theorem fL{d:D}:∀{ds:List D}{i:Nat},aq ds=true->ds[i]? =some d->ao d=true
 | [],_,_,h=>by simp at h
 | c::ds,0,n,h=>by simp at h;subst h;simp[aq]at n;exact n.1
 | c::ds,i+1,n,h=>by
   simp[aq]at n
   exact fL (ds:=ds) (i:=i) n.2 (by simpa using h)
theorem jY{pins:Pins}{s:Shared}{σ:St}{H:Hp}{a:Addr}(I:Inv X pins σ H s)(h:H a=some (.dK [])):(a==sysModules)=false/\s.heap.DictOf (dH X.prog X.w) a []:=by
 obtain⟨_,h2,vs,h3,h4⟩:=(show aO X.prog X.w H s.heap a (.dK [])from I.hok a _ h)
 cases h3
 exact⟨h2,h4⟩
theorem Ly{P P':Program}{w w':World}{h:Heap}{a:Addr}(d:h.DictOf (dH P w) a []):h.DictOf (dH P' w') a []:=by
 obtain⟨o,es,ep,h1,h2,h3,h4,h5,h6⟩:=d
 have e:es=#[]:=by
  have q0:∀l,Pairs (dH P w) l ([]:List (Key×Value))->l=[]:=by
   intro l hl
   cases hl
   rfl
  have q:es.toList=[]:=q0 _ h5
  exact Array.toList_eq_nil_iff.mp q
 subst e
 exact⟨o,#[],ep,h1,h2,h3,λ _ he=>by simp at he,Pairs.nil,List.nodup_nil⟩
theorem HD (n:Nat):∀(x:D),deep x≤n->ao x=true->∀{pins:Pins}{s:Shared}{σ:St}{H:Hp}{O:Own}{v w:V}{u u':Value}{A:Around},Inv X pins σ H s->Rep X.K O H v x->Rep X.K O H w x->RelV v u->RelV w u'->A.units+n<cLine->SeqAt.EqAt A s u u' true:=by
 induction n with
 | zero=>
   intro x hx hn pins s σ H O v w u u' A I r1 r2 ru ru' hu
   cases r1 with
   | non=>cases r2;cases ru;cases ru';exact SeqAt.EqAt.same _
   | bl b=>cases r2;cases ru;cases ru';exact SeqAt.EqAt.same _
   | int i=>
     cases r2;obtain⟨t,rfl⟩:=ru;obtain⟨t',rfl⟩:=ru'
     have:=SeqAt.EqAt.int_int (A:=A) (s:=s) i t i t'
     rw[beq_self_eq_true]at this
     exact this
   | str i=>
     cases r2;obtain⟨t,rfl⟩:=ru;obtain⟨t',rfl⟩:=ru'
     have:=SeqAt.EqAt.str_str (A:=A) (s:=s) i t i t'
     rw[beq_self_eq_true]at this
     exact this
   | tup _ _=>simp[deep]at hx
   | lst _ _=>simp[deep]at hx
   | loc _=>simp[ao]at hn
   | dlo _=>simp[ao]at hn
   | dic _ _=>simp[deep]at hx
 | succ n ih=>
   intro x hx hn pins s σ H O v w u u' A I r1 r2 ru ru' hu
   cases r1 with
   | non=>cases r2;cases ru;cases ru';exact SeqAt.EqAt.same _
   | bl b=>cases r2;cases ru;cases ru';exact SeqAt.EqAt.same _
   | int i=>
     cases r2;obtain⟨t,rfl⟩:=ru;obtain⟨t',rfl⟩:=ru'
     have:=SeqAt.EqAt.int_int (A:=A) (s:=s) i t i t'
     rw[beq_self_eq_true]at this
     exact this
   | str i=>
     cases r2;obtain⟨t,rfl⟩:=ru;obtain⟨t',rfl⟩:=ru'
     have:=SeqAt.EqAt.str_str (A:=A) (s:=s) i t i t'
     rw[beq_self_eq_true]at this
     exact this
   | @tup a xs ds h1 q1=>
     cases r2 with
     | @tup b ys _ h2 q2=>
       cases ru;cases ru'
       by_cases e:a=b
       . subst e;exact SeqAt.EqAt.same _
       . obtain⟨its,v1,p1,_⟩:=I.tuple h1.sq
         obtain⟨its2,v2,p2,_⟩:=I.tuple h2.sq
         have l1:its.length=ds.length:=by rw[←v1.length,q1.length]
         have l2:its2.length=ds.length:=by rw[←v2.length,q2.length]
         have rc:=SeqAt.RcAt.tuples (A:=A) (e:=λ _=>true) (show s.heap.IsTuple a its.toArray from p1) (show s.heap.IsTuple b its2.toArray from p2) (by omega) (λ j j1 j2=>?_)
         . have e2:((List.range (min its.toArray.size its2.toArray.size)).all (λ _=>true)&&its.toArray.size==its2.toArray.size)=true:=by simp[l1,l2]
           rw[e2]at rc
           exact SeqAt.EqAt.of_refs e rc
         . have hj:j<ds.length:=by simpa[l1]using j1
           obtain⟨z1,a1,b1⟩:=q1.get (y0 hj)
           obtain⟨z2,a2,b2⟩:=q2.get (y0 hj)
           obtain⟨u1,c1,d1⟩:=v1.get a1
           obtain⟨u2,c2,d2⟩:=v2.get a2
           have e1:its.toArray[j]=u1:=by have:=(z0.mp c1).2;simpa using this
           have e2:its2.toArray[j]=u2:=by have:=(z0.mp c2).2;simpa using this
           rw[e1,e2]
           have hd:=dz (y0 hj)
           exact ih ds[j] (by simp[deep]at hx;omega) (fL (by simpa[ao]using hn) (y0 hj)) I b1 b2 d1 d2 (by show A.units+1+n<cLine;omega)
   | @lst a xs ds h1 q1=>
     cases r2 with
     | @lst b ys _ h2 q2=>
       cases ru;cases ru'
       by_cases e:a=b
       . subst e;exact SeqAt.EqAt.same _
       . obtain⟨its,v1,p1,_⟩:=I.list h1.sq
         obtain⟨its2,v2,p2,_⟩:=I.list h2.sq
         have l1:its.length=ds.length:=by rw[←v1.length,q1.length]
         have l2:its2.length=ds.length:=by rw[←v2.length,q2.length]
         have rc:=SeqAt.RcAt.lists (A:=A) (e:=λ _=>true) p1.isList p2.isList (by simp[l1,l2]) (by omega) (λ j j1 j2=>?_)
         . have e2:(List.range its.toArray.size).all (λ _=>true)=true:=by simp
           rw[e2]at rc
           exact SeqAt.EqAt.of_refs e rc
         . have hj:j<ds.length:=by simpa[l1]using j1
           obtain⟨z1,a1,b1⟩:=q1.get (y0 hj)
           obtain⟨z2,a2,b2⟩:=q2.get (y0 hj)
           obtain⟨u1,c1,d1⟩:=v1.get a1
           obtain⟨u2,c2,d2⟩:=v2.get a2
           have e1:its.toArray[j]=u1:=by have:=(z0.mp c1).2;simpa using this
           have e2:its2.toArray[j]=u2:=by have:=(z0.mp c2).2;simpa using this
           rw[e1,e2]
           have hd:=dz (y0 hj)
           exact ih ds[j] (by simp[deep]at hx;omega) (fL (by simpa[ao]using hn) (y0 hj)) I b1 b2 d1 d2 (by show A.units+1+n<cLine;omega)
   | loc _=>simp[ao]at hn
   | dlo _=>simp[ao]at hn
   | @dic a h1 e1=>
     cases r2 with
     | @dic b h2 e2=>
       cases ru;cases ru'
       by_cases e:a=b
       . subst e;exact SeqAt.EqAt.same _
       . obtain⟨z1,d1⟩:=jY I e1
         obtain⟨z2,d2⟩:=jY I e2
         refine SeqAt.EqAt.of_refs e λ prog w' E Q hq=>?_
         exact PySem.W.keq_eq (knd:=dH prog w') z1 z2 (Ly d1) (Ly d2) (by omega) (λ _=>.nil) (by simpa using hq)
end
end DL
namespace DL
open PySem PySem.Spec L2
open PyProof.Rows
variable {pins : Pins} {H : Hp} {s : Shared}
section
variable {X : Cx} {Γ : Gam} {S : Store} {W : WD} {a b e : Expr} {es : List Expr} {pos : Pos}
theorem JH{x:D}(hu:X.A.units+60<cLine)(hn:ao x=true)(hd:deep x≤50)(w:W (.bl false) S):aV X .NotEq x x S W:=by
 intro pins s σ H O v w' u u' I st r1 r2 r3 r4
 have fin:∀{k:Bool},SeqAt.RcNeAt X.A s u u' k->k=false->wpAny (model X.prog X.w) X.A (compareOp .NotEq u u') (EP X pins σ (QG X.K O H W)) X.xe s:=λ h e=>by
  subst e
  exact h _ _ _ _ ⟨.bl false,H,I,rfl,QG.here w st (.bl false)⟩
 cases r1 with
 | non=>cases r2;cases r3;cases r4;exact fin SeqAt.RcNeAt.none_none rfl
 | bl y=>cases r2;cases r3;cases r4;exact fin (SeqAt.RcNeAt.bool_bool y y) (by simp)
 | int y=>cases r2;obtain⟨t,rfl⟩:=r3;obtain⟨t',rfl⟩:=r4;exact fin (SeqAt.RcNeAt.int_int y t y t') (by simp)
 | str y=>cases r2;obtain⟨t,rfl⟩:=r3;obtain⟨t',rfl⟩:=r4;exact fin (SeqAt.RcNeAt.str_str y t y t') (by simp)
 | @tup a xs ds h1 q1=>
   cases r2 with
   | @tup b ys _ h2 q2=>
     cases r3;cases r4
     obtain⟨its,v1,p1,_⟩:=I.tuple h1.sq
     obtain⟨its2,v2,p2,_⟩:=I.tuple h2.sq
     have l1:its.length=ds.length:=by rw[←v1.length,q1.length]
     have l2:its2.length=ds.length:=by rw[←v2.length,q2.length]
     refine fin (SeqAt.RcNeAt.tuples (e:=λ _=>true) (show s.heap.IsTuple a its.toArray from p1) (show s.heap.IsTuple b its2.toArray from p2) (by omega) (λ j j1 j2=>?_)) (by simp[l1,l2])
     have hj:j<ds.length:=by simpa[l1]using j1
     obtain⟨z1,a1,b1⟩:=q1.get (y0 hj)
     obtain⟨z2,a2,b2⟩:=q2.get (y0 hj)
     obtain⟨u1,c1,d1⟩:=v1.get a1
     obtain⟨u2,c2,d2⟩:=v2.get a2
     have e1:its.toArray[j]=u1:=by have:=(z0.mp c1).2;simpa using this
     have e2:its2.toArray[j]=u2:=by have:=(z0.mp c2).2;simpa using this
     rw[e1,e2]
     have hd':=dz (y0 hj)
     exact HD 49 ds[j] (by simp[deep]at hd;omega) (fL (by simpa[ao]using hn) (y0 hj)) I b1 b2 d1 d2 (by show X.A.units+1+49<cLine;omega)
 | @lst a xs ds h1 q1=>
   cases r2 with
   | @lst b ys _ h2 q2=>
     cases r3;cases r4
     obtain⟨its,v1,p1,_⟩:=I.list h1.sq
     obtain⟨its2,v2,p2,_⟩:=I.list h2.sq
     have l1:its.length=ds.length:=by rw[←v1.length,q1.length]
     have l2:its2.length=ds.length:=by rw[←v2.length,q2.length]
     refine fin (SeqAt.RcNeAt.lists (e:=λ _=>true) p1.isList p2.isList (by simp[l1,l2]) (by omega) (λ j j1 j2=>?_)) (by simp)
     have hj:j<ds.length:=by simpa[l1]using j1
     obtain⟨z1,a1,b1⟩:=q1.get (y0 hj)
     obtain⟨z2,a2,b2⟩:=q2.get (y0 hj)
     obtain⟨u1,c1,d1⟩:=v1.get a1
     obtain⟨u2,c2,d2⟩:=v2.get a2
     have e1:its.toArray[j]=u1:=by have:=(z0.mp c1).2;simpa using this
     have e2:its2.toArray[j]=u2:=by have:=(z0.mp c2).2;simpa using this
     rw[e1,e2]
     have hd':=dz (y0 hj)
     exact HD 49 ds[j] (by simp[deep]at hd;omega) (fL (by simpa[ao]using hn) (y0 hj)) I b1 b2 d1 d2 (by show X.A.units+1+49<cLine;omega)
 | loc _=>simp[ao]at hn
 | dlo _=>simp[ao]at hn
 | @dic a h1 e1=>
   cases r2 with
   | @dic b h2 e2=>
     cases r3;cases r4
     obtain⟨z1,d1⟩:=jY I e1
     obtain⟨z2,d2⟩:=jY I e2
     exact PySem.W.keq_ne (knd:=dH X.prog X.w) z1 z2 d1 d2 (by omega) (λ _=>.nil) ⟨.bl false,H,I,rfl,QG.here w st (.bl false)⟩
end
set_option genInjectivity false in
structure SqKind(P:Program)(w:World)(K:PySem.W.Frag) where
 Sq:Hp->Addr->List V->Prop
 It:Heap->Addr->Addr->Nat->Prop
 Ob:Heap->Addr->Array Value->Prop
 itObj:∀{h it a i},It h it a i->∃o vs,h.get? it=some o/\o.data=.fields vs
 itAt:∀{h h' it a i},It h it a i->(∀o,h.get? it=some o->h'.get? it=some o)->It h' it a i
 obObj:∀{h a its},Ob h a its->∃o n,h.get? a=some o/\o.data=.seq its n
 draws:∀(A:Around),A.handled=none->∀(it a:Addr),a≠it->∀items:Array Value,Draws P w A it [it,a] items.size (λ i v=>items[i]? =some v) (λ i h=>It h it a i/\Ob h a items)
 get:∀{X:Cx}{pins:Pins}{σ:St}{H:Hp}{s:Shared}{a:Addr}{xs:List V},X.prog=P->X.w=w->X.K=K->Inv X pins σ H s->Sq H a xs->∃its:List Value,Vals xs its/\Ob s.heap a its.toArray
 inj:∀{X:Cx}{pins:Pins}{σ:St}{H:Hp}{s:Shared}{a:Addr}{xs ys:List V},X.prog=P->X.w=w->X.K=K->Inv X pins σ H s->Sq H a xs->Sq H a ys->xs=ys
 far:∀{X:Cx}{pins:Pins}{σ:St}{H:Hp}{s:Shared}{a b:Addr}{xs:List V},X.K=K->Inv X pins σ H s->Sq H a xs->cW X pins H b->a≠b
section
variable {P : Program} {w : World} {K : PySem.W.Frag}
theorem SqKind.ne(q:SqKind P w K){h:Heap}{it a:Addr}{i:Nat}{its:Array Value}(x:q.It h it a i)(y:q.Ob h a its):a≠it:=λ e=>by
 obtain⟨o,vs,h1,h2⟩:=q.itObj x
 obtain⟨o',n,h3,h4⟩:=q.obObj y
 rw[e,h1]at h3
 cases h3
 rw[h2]at h4
 cases h4
theorem Qw{X:Cx}{σ:St}{a b:Addr}{o:Obj}(I:Inv X pins σ H s)(h:X.K.lookup a=some o)(f:cW X pins H b):a≠b:=λ z=>by
 have e:=I.ok.mod.kin a o h
 rw[z]at e
 rcases f.2.2.2.1 with q | q
 . exact I.ok.noex b o e q
 . exact absurd (Nat.lt_of_lt_of_le (Heap.lt_size e) (Nat.le_trans I.ok.bsz q)) (Nat.lt_irrefl _)
def UV(P:Program)(w:World)(K:PySem.W.Frag):SqKind P w K where
 Sq:=SqL K
 It:=λ h it a i=>h.IsListIter it a i
 Ob:=λ h a its=>h.IsList a its
 itObj:=λ x=>let ⟨o,e,_,d⟩:=x;⟨o,_,e,d⟩
 itAt:=λ x k=>x.at k
 obObj:=λ x=>let ⟨o,e,_,n,d⟩:=x;⟨o,n,e,d⟩
 draws:=λ A hh it a ne items=>Draws.list hh it a ne items
 get:=λ hP hw hK I h=>by
  subst hP hw hK
  obtain⟨its,rv,p,_⟩:=I.list h
  exact⟨its,rv,p.isList⟩
 inj:=λ hP hw hK I h h'=>by
  subst hP hw hK
  exact I.list_inj h h'
 far:=λ hK I h f=>by
  subst hK
  rcases h with(h | ⟨_,h⟩) | ⟨o,_,_,h,_⟩
  . exact aB h f.1
  . exact aB h f.1
  . exact Qw I h f
theorem RJ{prog:Program}{w:World}{A:Around}{E:Value->Shared->Prop}{it t:Addr}{i:Nat}{items:Array Value}{x:Value}{Q:Value->Shared->Prop}(hi:s.heap.IsTupleIter it t i)(ht:s.heap.IsTuple t items)(hx:items[i]? =some x)
 (hQ:∀h',h'.IsTupleIter it t (i+1)->Heap.SameBut it s.heap h'->Q x {s with heap:=h'}):wpAny (model prog w) A (Builtin.SmallTypes.nextOf (.ref it)) Q E s:=by
 obtain⟨o,ho,hc,hd⟩:=id hi
 obtain⟨o2,ho2,_,n2,hd2⟩:=ht
 unfold Builtin.SmallTypes.nextOf
 refine wpAny_bind (wpAny_callSpecial?_slot (name:=Str.ofString "__next__") hi.typeIs F.slot_tuple_iterator_next (wpAny_call_entry F.slot_tuple_iterator_next hi.typeIs F.entry_tuple_iterator_next ?_ (F.args_tuple_iterator_next_1 _)))
 refine wpAny_bind (m:=field (.ref it) 0) (wpAny_field ho hd (x:=.ref t) rfl ?_)
 rw[if_neg (show ¬((Value.ref t==Value.none)=true)from y9)]
 refine wpAny_bind (m:=field (.ref it) 1) (wpAny_field ho hd (x:=.int i 0) rfl ?_)
 refine wpAny_bind (m:=seqItems? (.ref t)) (wpAny_seqItems ho2 hd2 ?_)
 simp only[Int.toNat_natCast,hx]
 refine wpAny_bind (wpAny_setField ho hd (by simp) (wpAny_pure ⟨x,rfl,wpAny_pure (hQ _ ⟨_,Heap.get?_update_self _ ho (Obj.isFreed_of_fields (Obj.data_mapFields hd _)),(Obj.cls_mapFields ..).trans hc,by rw[Obj.data_mapFields hd];simp[rawInt]⟩ (Heap.SameBut.update ..))⟩))
theorem Hz{prog:Program}{w:World}{A:Around}{E:Value->Shared->Prop}{it t:Addr}{i:Nat}{items:Array Value}{Q:Value->Shared->Prop}(hh:A.handled=none)(hi:s.heap.IsTupleIter it t i)(ht:s.heap.IsTuple t items)(hx:items[i]? =none)
 (hE:∀h' e,Heap.ExtBut it s.heap h'->(∃o,h'.get? e=some o/\o.cls=.type "StopIteration")->E (.ref e) {s with heap:=h'}):wpAny (model prog w) A (Builtin.SmallTypes.nextOf (.ref it)) Q E s:=by
 obtain⟨o,ho,hc,hd⟩:=id hi
 obtain⟨o2,ho2,_,n2,hd2⟩:=ht
 unfold Builtin.SmallTypes.nextOf
 refine wpAny_bind (wpAny_callSpecial?_slot (name:=Str.ofString "__next__") hi.typeIs F.slot_tuple_iterator_next (wpAny_call_entry F.slot_tuple_iterator_next hi.typeIs F.entry_tuple_iterator_next ?_ (F.args_tuple_iterator_next_1 _)))
 refine wpAny_bind (m:=field (.ref it) 0) (wpAny_field ho hd (x:=.ref t) rfl ?_)
 rw[if_neg (show ¬((Value.ref t==Value.none)=true)from y9)]
 refine wpAny_bind (m:=field (.ref it) 1) (wpAny_field ho hd (x:=.int i 0) rfl ?_)
 refine wpAny_bind (m:=seqItems? (.ref t)) (wpAny_seqItems ho2 hd2 ?_)
 simp only[Int.toNat_natCast,hx]
 refine wpAny_bind (wpAny_rule (wpAny_bind (wpAny_setField ho hd (by simp) (wpAny_bind (m:=newExc (.type "StopIteration") []) ?_))))
 simp only[newExc,newTuple]
 refine wpAny_bind (wpAny_newObj_type (wpAny_bind (m:=firstArgMember _ _) (wpAny_of_eq (a:=Value.none) (by first | rfl | (simp only[firstArgMember];rfl)) (wpAny_newObj_type ?_ (by size_fits)))) (by size_fits))
 simp only[raiseNew]
 refine wpAny_bind (wpAny_handled ?_)
 first | rw[show A.in1.handled=none from hh] | rw[hh]
 exact wpAny_bind (wpAny_pure (wpAny_throw (hE _ _ (((Heap.SameBut.update ..).extBut.push _).push _) ⟨_,Heap.get?_push_size _ rfl,rfl⟩)))
theorem Kw{prog:Program}{w:World}{A:Around}(hh:A.handled=none)(it t:Addr)(ne:t≠it)(items:Array Value):
 Draws prog w A it [it,t] items.size (λ i v=>items[i]? =some v) (λ i h=>h.IsTupleIter it t i/\h.IsTuple t items) where
 live:=λ i h x=>let ⟨o,e,_⟩:=x.1;⟨o,e⟩
 frame:=λ i h h' x k=>by
  obtain⟨⟨o,e,r⟩,⟨o2,e2,r2⟩⟩:=x
  exact⟨⟨o,k it (by simp) o e,r⟩,⟨o2,k t (by simp) o2 e2,r2⟩⟩
 item:=λ i s Q E hi x hQ=>RJ x.1 x.2 (x:=items[i]) (by simp[hi]) λ h' y sb=>hQ _ h' s.toks (by simp[hi]) ⟨y,x.2.extBut sb.extBut ne⟩ sb
 done:=λ s Q E x hE=>Hz hh x.1 x.2 (by simp) hE
def Jh(P:Program)(w:World)(K:PySem.W.Frag):SqKind P w K where
 Sq:=SqT K
 It:=λ h it a i=>h.IsTupleIter it a i
 Ob:=λ h a its=>h.IsTuple a its
 itObj:=λ x=>let ⟨o,e,_,d⟩:=x;⟨o,_,e,d⟩
 itAt:=λ x k=>let ⟨o,e,r⟩:=x;⟨o,k o e,r⟩
 obObj:=λ x=>let ⟨o,e,_,n,d⟩:=x;⟨o,n,e,d⟩
 draws:=λ A hh it a ne items=>Kw hh it a ne items
 get:=λ hP hw hK I h=>by
  subst hP hw hK
  obtain⟨its,rv,p,_⟩:=I.tuple h
  exact⟨its,rv,p⟩
 inj:=λ hP hw hK I h h'=>by
  subst hP hw hK
  exact I.tuple_inj h h'
 far:=λ hK I h f=>by
  subst hK
  rcases h with(h | ⟨_,h⟩) | ⟨o,_,_,h,_⟩
  . exact aB h f.1
  . exact aB h f.1
  . exact Qw I h f
theorem sO{X:Cx}{σ:St}{h':Heap}{t:Nat}{ch:List Addr}(I:Inv X pins σ H s)(hf:∀b∈ch,cW X pins H b)(k:∀b o,b∉ch->s.heap.get? b=some o->h'.get? b=some o):Inv X pins σ H {s with heap:=h',toks:=t}:=by
 have nch:∀b u,H b=some u->b∉ch:=λ b u e z=>by rw[(hf b z).1]at e;cases e
 refine I.step (g':=s.gens) (d':=s.drawn) (ch:=ch) (λ b hb=>⟨(hf b hb).2.2.2.1,(hf b hb).2.1,(hf b hb).2.2.2.2.1,(hf b hb).2.2.2.2.2⟩) (λ b o _ _ hc e _=>k b o hc e) (λ b o _ _ hc e _=>⟨o.slots,k b o hc e⟩) (λ _ _ _ _ n=>n) (λ b o hc e=>⟨o,k b o hc e⟩)
  (λ _ _ e=>e) (λ _ _ _ e=>e) (λ b ps e=>⟨#[],by rw[e];simp⟩) (λ m hm=>?_) (λ b u e=>?_) I.bare
 . obtain⟨o,es,ep,ho,r⟩:=hm
   exact⟨o,es,ep,k _ o (λ z=>(hf _ z).2.1 rfl) ho,r⟩
 . refine(I.hok b u e).stay (λ c v hc q=>k c v ?_ q) (λ _ q=>q) λ _ _ q=>q
   rcases hc with z | z
   . rw[z];exact nch b u e
   . exact nch c _ z
theorem zq{X:Cx}{σ:St}{s':Shared}{p:Addr}{o:HO}(I:Inv X pins σ H s)(I':Inv X pins σ H s')(hp:s.heap.objs.size≤p)(ob:aO X.prog X.w (upd H p o) s'.heap p o):Inv X pins σ (upd H p o) s':=by
 have hn:H p=none:=I.hok.fresh hp
 have nt:∀b u,H b=some u->b≠p:=λ b u e=>aB e hn
 refine⟨I'.ok,I'.os,I'.bare,⟨I'.base.keep,I'.base.slot,λ b ob e n hx=>?_,I'.base.there,λ b xs e=>?_,λ b ob u e=>?_,λ b ps e=>?_⟩,I'.loc,I'.cell,?_,λ x c e=>?_,λ q hq=>?_,λ b u e=>?_,I'.len⟩
 . have lt:b<s.heap.objs.size:=Nat.lt_of_lt_of_le (Heap.lt_size e) I.sz
   rw[aj (Nat.ne_of_lt (Nat.lt_of_lt_of_le lt hp))]
   exact I'.base.free b ob e n hx
 . have:=I'.base.tups b xs e
   rw[aj (nt b _ this)];exact this
 . have:=I'.base.frzs b ob u e
   rw[aj (nt b _ this)];exact this
 . obtain⟨m,e'⟩:=I'.base.tbls b ps e
   exact⟨m,by rw[aj (nt b _ e')];exact e'⟩
 . rw[aj (Nat.ne_of_lt (Nat.lt_of_lt_of_le I.lt hp))];exact I'.free
 . obtain⟨v,z⟩:=I.cell x c e
   rw[aj (Nat.ne_of_lt (Nat.lt_of_lt_of_le z.lt hp))];exact I'.freeC x c e
 . obtain⟨e1,_⟩:=I.pin q hq
   obtain⟨a1,a2,a3⟩:=I'.pin q hq
   exact⟨a1,by rw[aj (Nat.ne_of_lt (Nat.lt_of_lt_of_le (Heap.lt_size e1) hp))];exact a2,a3⟩
 . by_cases hb:b=p
   . subst hb;rw[aC]at e;cases e;exact ob
   . rw[aj hb]at e
     exact(I'.hok b u e).stay (λ c v _ q=>q) (λ c q=>by rw[aj (nt c _ q)];exact q) λ c xs q=>by rw[aj (nt c _ q)];exact q
def Ite(q:SqKind P w K)(a:Addr):It:=
 ⟨λ i H=>∃xs x,q.Sq H a xs/\xs[i]? =some x,λ i H x H'=>∃p y,H p=none/\H'=upd H p (.tup [.int i,y])/\x=.ref p/\∀xs,q.Sq H a xs->xs[i]? =some y,λ i H=>∃xs,q.Sq H a xs/\i=xs.length⟩
theorem Ho(q:SqKind P w K){elts:List Expr}{k:Nat}{pos:Pos}(a e it:Addr)(hne:e≠it):Turn P w K (.Tuple elts k pos) (Ite q a) [e,it] e (λ i h=>(∃old,IsEnum h e it i old)/\q.It h it a i) where
 mem:=by simp
 obj:=λ i h st b hb=>by
  obtain⟨⟨old,he⟩,hi⟩:=st
  rcases List.mem_cons.mp hb with rfl | hb
  . exact⟨_,he,λ v z=>nomatch z⟩
  . rw[List.mem_singleton.mp hb]
    obtain⟨o,vs,h1,h2⟩:=q.itObj hi
    exact⟨o,h1,λ v z=>by rw[h2]at z;cases z⟩
 keep:=λ i h h' st k=>⟨let ⟨old,he⟩:=st.1;⟨old,k e (by simp) _ he⟩,q.itAt st.2 λ o e=>k it (by simp) o e⟩
 item :=by
  intro X hP hw hK hc i pins s σ H E I hf st hg
  obtain⟨xs,x,hq,hx⟩:=hg
  obtain⟨its,rv,ob⟩:=q.get hP hw hK I hq
  obtain⟨u,hu,ru⟩:=rv.get hx
  obtain⟨⟨old,he⟩,hi⟩:=st
  have ne:=q.ne hi ob
  have hea:e≠a:=λ z=>by
   obtain⟨o,n,h1,h2⟩:=q.obObj ob
   rw[←z,he]at h1
   cases h1
   cases h2
  have hlt:i<its.toArray.size:=by simpa using(z0.mp hu).1
  have uq:∀ys,q.Sq H a ys->ys[i]? =some x:=λ ys hy=>by rw[q.inj hP hw hK I hy hq];exact hx
  subst hP hw
  refine wpAny_pyNext_enum_itemD (q.draws X.A.in1 (I.ok.hd hc) it a ne its.toArray) he ⟨hi,ob⟩ hlt hne (by simp[hne,hea]) λ x' h' tk hPx ho hs' hT hsz hk=>?_
  have ex:x'=u:=by
   have:its.toArray[i]? =some u:=by simpa using hu
   rw[this]at hPx
   exact(Option.some.inj hPx).symm
  subst ex
  refine⟨_,rfl,wpAny_letOwnedTupleGo_enum ho λ h2 he2 sb=>?_⟩
  have I1:Inv X pins σ H {s with heap:=h2,toks:=tk+1}:=sO (ch:=[e,it]) I hf λ b o hb q'=>(sb.2 b (λ z=>hb (by simp[z]))).trans (hk b o (λ z=>hb (by simp[z])) (λ z=>hb (by simp[z])) q')
  have hp:H s.heap.objs.size=none:=I.hok.fresh (x8 _)
  have elt:e<s.heap.objs.size:=Heap.lt_size he
  have hT2:h2.get? s.heap.objs.size=some {cls:=.type "tuple",data:=.seq #[.int i tk,x']}:=(sb.2 _ (Nat.ne_of_gt elt)).trans hT
  have I2:Inv X pins σ (upd H s.heap.objs.size (.tup [.int i,x])) {s with heap:=h2,toks:=tk+1}:=zq I I1 (x8 _) ⟨by show 2≤sizeLine;decide,[.int i tk,x'],.cons ⟨tk,rfl⟩ (.cons ru .nil),_,hT2,rfl,_,rfl⟩
  refine⟨.ref s.heap.objs.size,_,I2,rfl,⟨_,x,hp,rfl,rfl,uq⟩,⟨⟨_,by simpa using he2⟩,q.itAt hs'.1 λ o q'=>(sb.2 it hne.symm).trans q'⟩,λ b hb=>?_⟩
  rw[aj (Nat.ne_of_lt ?_)]
  . exact(hf b hb).1
  . rcases List.mem_cons.mp hb with rfl | hb
    . exact elt
    . rw[List.mem_singleton.mp hb]
      obtain⟨o,vs,h1,_⟩:=q.itObj hi
      exact Heap.lt_size h1
 done:=by
  intro X hP hw hK hc i pins s σ H E I hf st hg
  obtain⟨xs,hq,hx⟩:=hg
  obtain⟨its,rv,ob⟩:=q.get hP hw hK I hq
  obtain⟨⟨old,he⟩,hi⟩:=st
  have ne:=q.ne hi ob
  subst hP hw
  obtain⟨f0,f1,f2,f3,f4,f5⟩:=hf it (by simp)
  have hn:i=its.toArray.size:=by rw[hx,rv.length];simp
  have st':q.It s.heap it a its.toArray.size/\q.Ob s.heap a its.toArray:=⟨hn▸hi,ob⟩
  exact wpAny_pyNext_enum_endD (q.draws X.A.in1 (I.ok.hd hc) it a ne its.toArray) he st' λ h' ext=>⟨rfl,I.turned (t':=s.toks) (λ b o hb e=>ext b o hb e) f0 f1 f3 f4 f5⟩
 self:=λ _ _ _ _ _ st h=>let ⟨old,he⟩:=st.1;wpAny_pyIter_enum he h
theorem nU(q:SqKind P w K){O:Own}{H:Hp}{a:Addr}{ds:List D}(h:∀O' H',Conv O O' H H'->∃xs,q.Sq H' a xs/\Reps K O' H' xs ds):fD K (Ite q a) O H (ds.mapIdx λ i d=>.tup [.int i,d]):=by
 intro O' H' cv tr i
 obtain⟨xs,hq,r⟩:=h O' H' cv
 refine⟨λ d hd=>?_,λ hi=>⟨xs,hq,by rw[hi,r.length];simp⟩⟩
 rw[List.getElem?_mapIdx]at hd
 cases e:ds[i]? with
 | none=>rw[e]at hd;cases hd
 | some d0=>
   rw[e]at hd
   cases hd
   obtain⟨v,hv,rv⟩:=r.get e
   refine⟨⟨xs,v,hq,hv⟩,λ x H'' y=>?_⟩
   obtain⟨p,y,hp,rfl,rfl,hy⟩:=y
   have ey:=hy xs hq
   rw[hv]at ey
   cases ey
   have np:¬O'.has p:=λ z=>tr p z hp
   exact⟨aR.fresh hp _,.tup ⟨np,aC⟩ (.cons (.int _) (.cons (rv.mono (Step.fresh hp _)) .nil))⟩
section
variable {X : Cx} {Γ : Gam} {S : Store} {e : Expr} {pos : Pos}
theorem Cz{σ:St}{elts:List Expr}{k:Nat}{tp:Pos}{R:It->Hp->Prop}{E:Value->Shared->Prop}{h':Heap}(q:SqKind X.prog X.w X.K){a:Addr}(I:Inv X pins σ H s)(he:IsEnum h' (s.heap.objs.size+1) s.heap.objs.size 0 .none)(hi:q.It h' s.heap.objs.size a 0)
 (kp:∀b o,s.heap.get? b=some o->h'.get? b=some o)(r:R (Ite q a) H):wpAny (model X.prog X.w) X.A (pyIter (.ref (s.heap.objs.size+1))) (PIE X pins σ (.Tuple elts k tp) R) E {s with heap:=h'}:=by
 refine wpAny_pyIter_enum he ?_
 refine⟨s.heap.objs.size+1,[s.heap.objs.size+1,s.heap.objs.size],_,_,H,rfl,I.kept (t':=s.toks) kp,Ho q a (s.heap.objs.size+1) s.heap.objs.size (Nat.succ_ne_self _),⟨⟨_,he⟩,hi⟩,λ b hb=>?_,r⟩
 rcases List.mem_cons.mp hb with rfl | hb
 . exact I.fpOk (Nat.le_succ _) (I.hok.fresh (Nat.le_succ _))
 . rw[List.mem_singleton.mp hb]
   exact I.fpOk (x8 _) (I.hok.fresh (x8 _))
theorem Hj(l:Addr)(items:Array Value)(n:Nat)(dct:Option Addr)(sl:Array (Option Value)):
 Meets (Builtin.«enumerate.__new__» ⟨[.type "enumerate",.ref l],[]⟩) (λ _ R s=>s.heap.get? l=some {cls:=.type "tuple",dict:=dct,data:=.seq items n,slots:=sl}/\
  R (.ok (.ret (.ref (s.heap.push {cls:=.type "tuple_iterator",data:=.fields #[.ref l,.int 0 0]}).objs.size)))
    {s with heap:=(s.heap.push {cls:=.type "tuple_iterator",data:=.fields #[.ref l,.int 0 0]}).push {cls:=.type "enumerate",data:=.fields #[.none,.bool false,.ref s.heap.objs.size,rawInt 0,.none,.none]}}):=
 .of_wp λ prog w A R s h=>by
  obtain⟨hp,g,d,tk,os⟩:=s;obtain⟨hl,h⟩:=h
  have hsub:=sub_enumerate
  have hT:Heap.IsTuple (Shared.heap ⟨hp,g,d,tk,os⟩) l items:=⟨_,hl,rfl,n,rfl⟩
  wp_walk using AutoSeq1.wpAny_loadPart' hl
  refine wpAny_stack_any λ st=>wpAny_pure ?_
  split
  . rename_i c _ _ _ _ _
    cases (c==Value.type "enumerate")<;>(wp_walk using AutoSeq1.wpAny_loadPart' hl,wpAny_pyIter_tuple hT;exact⟨_,rfl,h⟩)
  . wp_walk using AutoSeq1.wpAny_loadPart' hl,wpAny_pyIter_tuple hT
    exact⟨_,rfl,h⟩
end
end
end DL
namespace DL
open PySem PySem.Spec L2
open PyProof.Rows
structure Zd(z TI TO i1 i2:Addr)(f1 f2:List Addr):Prop where
 a:TI≠z
 b:TO≠z
 c:TI≠TO
 d:TI≠i1
 e:TI≠i2
 f:TO≠i1
 g:TO≠i2
 h:i1≠z
 i:i2≠z
 j:z∉f1
 k:z∉f2
 l:TO∉f1
 m:TO∉f2
 n:i1∉f2
 o:i2∉f1
section
variable {prog : Program} {w : World} {A : Around} {E : Value -> Shared -> Prop} {s : Shared} {z TI TO i1 i2 : Addr} {f1 f2 : List Addr} {n1 n2 k : Nat} {P1 P2 : Nat -> Value -> Prop} {T1 T2 : Nat -> Heap -> Prop} {va vb : Value}
theorem QB{Q:Value->Shared->Prop}(D1:Draws prog w A i1 f1 n1 P1 T1)(D2:Draws prog w A i2 f2 n2 P2 T2)(Z:Zd z TI TO i1 i2 f1 f2)(hz:IsZip s.heap z TI TO .none)(hTI:IsPair s.heap TI (.ref i1) (.ref i2))(hTO:IsPair s.heap TO va vb)(t1:T1 k s.heap)(t2:T2 k s.heap)(k1:k<n1)(k2:k<n2)
 (hQ:∀x y h' tk,P1 k x->P2 k y->IsZip h' z TI TO (rawInt s.heap.objs.size)->IsPair h' TO x y->T1 (k+1) h'->T2 (k+1) h'->IsPair h' s.heap.objs.size x y->
  (∀c o,c≠z->c≠TO->c≠i1->c≠i2->s.heap.get? c=some o->h'.get? c=some o)->Q (.ref s.heap.objs.size) {s with heap:=h',toks:=tk}):
 wpAny (model prog w) A (Builtin.«zip.__next__» ⟨[.ref z],[]⟩) (λ fin s'=>∃v,fin=.done (.ret v)/\Q v s') E s:=by
 obtain⟨hp,g,d,tk0,os⟩:=s
 refine wpAny_bind (m:=field (.ref z) 2) (wpAny_field hz rfl (x:=.bool false) rfl (wpAny_bind (m:=field (.ref z) 3) (wpAny_field hz rfl (x:=.ref TI) rfl (wpAny_bind (wpAny_seqItems hTI rfl ?_)))))
 refine wpAny_bind (m:=Builtin.SmallTypes.ownedTupleIsFree (.ref z)) ?_
 unfold Builtin.SmallTypes.ownedTupleIsFree
 refine wpAny_bind (wpAny_field hz rfl (x:=.none) rfl (wpAny_pure ?_))
 simp only[if_true]
 refine wpAny_bind (wpAny_rule (wpAny_bind (wpAny_field hz rfl (x:=.ref TO) rfl (wpAny_bind (wpAny_setField_rec hz (by simp) λ h1 hz1 s1=>?_)))))
 replace hz1:IsZip h1 z TI TO .ellipsis:=hz1
 refine wpAny_bind ?_
 simp only[List.zipIdx_cons,List.zipIdx_nil,List.forIn_cons,List.forIn_nil]
 refine wpAny_bind (wpAny_bind (wpAny_onRaise (wpAny_bind (m:=Builtin.SmallTypes.nextOf (.ref i1)) ?_)))
 refine D1.item k _ _ _ k1 (D1.frame _ _ _ t1 λ b hb o e=>s1.extBut b o (λ q=>Z.j (q▸hb)) e) λ x h2 tk1 p1 t1' s2=>wpAny_pure ?_
 replace s2:Heap.SameBut i1 h1 h2:=s2
 have o2:IsPair h2 TO va vb:=s2.extBut _ _ Z.f (s1.extBut _ _ Z.b hTO)
 refine wpAny_bind (wpAny_seqItems o2 rfl (wpAny_bind (wpAny_updateSeq_pair o2 λ h3 o3 s3=>wpAny_bind (wpAny_letGo (wpAny_pure ?_)))))
 replace o3:IsPair h3 TO x vb:=o3
 refine wpAny_bind (wpAny_bind (wpAny_onRaise (wpAny_bind (m:=Builtin.SmallTypes.nextOf (.ref i2)) ?_)))
 have t2':T2 k h3:=D2.frame _ _ _ t2 λ b hb o e=>s3.extBut b o (λ q=>Z.m (q▸hb)) (s2.extBut b o (λ q=>Z.n (q▸hb)) (s1.extBut b o (λ q=>Z.k (q▸hb)) e))
 refine D2.item k _ _ _ k2 t2' λ y h4 tk2 p2 t2'' s4=>wpAny_pure ?_
 replace s4:Heap.SameBut i2 h3 h4:=s4
 have o4:IsPair h4 TO x vb:=s4.extBut _ _ Z.g o3
 refine wpAny_bind (wpAny_seqItems o4 rfl (wpAny_bind (wpAny_updateSeq_pair o4 λ h5 o5 s5=>wpAny_bind (wpAny_letGo (wpAny_pure (wpAny_pure ?_))))))
 replace o5:IsPair h5 TO x y:=o5
 refine wpAny_bind (wpAny_seqItems o5 rfl (wpAny_bind (wpAny_newTuple ?_)))
 have sz:h5.objs.size=hp.objs.size:=by rw[s5.1,s4.1,s3.1,s2.1,s1.1]
 have hz5:IsZip h5 z TI TO .ellipsis:=s5.extBut _ _ Z.b.symm (s4.extBut _ _ Z.i.symm (s3.extBut _ _ Z.b.symm (s2.extBut _ _ Z.h.symm hz1)))
 have k5:∀c o,c≠z->c≠TO->c≠i1->c≠i2->hp.get? c=some o->h5.get? c=some o:=λ c o c1 c2 c3 c4 q=>s5.extBut _ _ c2 (s4.extBut _ _ c4 (s3.extBut _ _ c2 (s2.extBut _ _ c3 (s1.extBut _ _ c1 q))))
 have zlt:z<h5.objs.size:=Heap.lt_size hz5
 refine wpAny_bind (m:=Builtin.SmallTypes.ownedTupleHandOut (.ref z) (.ref h5.objs.size)) ?_
 unfold Builtin.SmallTypes.ownedTupleHandOut
 have hz6:IsZip (h5.push {cls:=.type "tuple",data:=.seq #[x,y]}) z TI TO .ellipsis:=Heap.get?_push_of_some _ hz5
 refine wpAny_bind (wpAny_setField_rec hz6 (by simp) λ h7 hz7 s7=>?_)
 replace hz7:IsZip h7 z TI TO (rawInt h5.objs.size):=hz7
 refine wpAny_setField_rec hz7 (by simp) λ h8 hz8 s8=>?_
 replace hz8:IsZip h8 z TI TO (rawInt h5.objs.size):=hz8
 have up:∀c o,c≠z->h5.get? c=some o->h8.get? c=some o:=λ c o c1 q=>s8.extBut _ _ c1 (s7.extBut _ _ c1 (Heap.get?_push_of_some _ q))
 have p8:IsPair h8 h5.objs.size x y:=s8.extBut _ _ (Nat.ne_of_gt zlt) (s7.extBut _ _ (Nat.ne_of_gt zlt) (Heap.get?_push_size _ rfl))
 rw[sz]at hz8 p8
 refine wpAny_pure ⟨_,rfl,?_⟩
 show Q (.ref h5.objs.size) _
 rw[sz]
 have u1:T1 (k+1) h8:=D1.frame _ _ _ t1' λ b hb o q=>up b o (λ r=>Z.j (r▸hb)) (s5.extBut b o (λ r=>Z.l (r▸hb)) (s4.extBut b o (λ r=>Z.o (r▸hb)) (s3.extBut b o (λ r=>Z.l (r▸hb)) q)))
 have u2:T2 (k+1) h8:=D2.frame _ _ _ t2'' λ b hb o q=>up b o (λ r=>Z.k (r▸hb)) (s5.extBut b o (λ r=>Z.m (r▸hb)) q)
 exact hQ x y h8 tk2 p1 p2 hz8 (up _ _ Z.b o5) u1 u2 p8 λ c o c1 c2 c3 c4 q=>up c o c1 (k5 c o c1 c2 c3 c4 q)
theorem JF{Q:PySem.Fin->Shared->Prop}(D1:Draws prog w A i1 f1 n1 P1 T1)(D2:Draws prog w A i2 f2 n2 P2 T2)(Z:Zd z TI TO i1 i2 f1 f2)(hz:IsZip s.heap z TI TO .none)(hTI:IsPair s.heap TI (.ref i1) (.ref i2))(hTO:IsPair s.heap TO va vb)(t1:T1 k s.heap)(t2:T2 k s.heap)(hk:k=n1∨(k<n1/\k=n2))
 (hE:∀h' tk e,(∀c o,c≠z->c≠TO->c≠i1->c≠i2->s.heap.get? c=some o->h'.get? c=some o)->(∃o,h'.get? e=some o/\o.cls=.type "StopIteration")->E (.ref e) {s with heap:=h',toks:=tk}):
 wpAny (model prog w) A (Builtin.«zip.__next__» ⟨[.ref z],[]⟩) Q E s:=by
 obtain⟨hp,g,d,tk0,os⟩:=s
 refine wpAny_bind (m:=field (.ref z) 2) (wpAny_field hz rfl (x:=.bool false) rfl (wpAny_bind (m:=field (.ref z) 3) (wpAny_field hz rfl (x:=.ref TI) rfl (wpAny_bind (wpAny_seqItems hTI rfl ?_)))))
 refine wpAny_bind (m:=Builtin.SmallTypes.ownedTupleIsFree (.ref z)) ?_
 unfold Builtin.SmallTypes.ownedTupleIsFree
 refine wpAny_bind (wpAny_field hz rfl (x:=.none) rfl (wpAny_pure ?_))
 simp only[if_true]
 refine wpAny_bind (wpAny_rule (wpAny_bind (wpAny_field hz rfl (x:=.ref TO) rfl (wpAny_bind (wpAny_setField_rec hz (by simp) λ h1 hz1 s1=>?_)))))
 replace hz1:IsZip h1 z TI TO .ellipsis:=hz1
 refine wpAny_bind ?_
 simp only[List.zipIdx_cons,List.zipIdx_nil,List.forIn_cons,List.forIn_nil]
 refine wpAny_bind (wpAny_bind (wpAny_onRaise (wpAny_bind (m:=Builtin.SmallTypes.nextOf (.ref i1)) ?_)))
 have t1':T1 k h1:=D1.frame _ _ _ t1 λ b hb o e=>s1.extBut b o (λ q=>Z.j (q▸hb)) e
 rcases hk with rfl | ⟨k1,rfl⟩
 . refine D1.done _ _ _ t1' λ h2 e s2 hq_=>?_
   obtain⟨oe,he,ce⟩:=hq_
   replace s2:Heap.ExtBut i1 h1 h2:=s2
   have hz2:IsZip h2 z TI TO .ellipsis:=s2 _ _ Z.h.symm hz1
   have ez:e≠z:=λ q=>by subst q;rw[hz2]at he;cases he;simp at ce
   exact wpAny_setField_rec hz2 (by simp) λ h3 _ s3=>hE h3 _ e (λ c o c1 _ c3 _ q=>s3.extBut _ _ c1 (s2 _ _ c3 (s1.extBut _ _ c1 q))) ⟨oe,s3.extBut _ _ ez he,ce⟩
 . refine D1.item k _ _ _ k1 t1' λ x h2 tk1 p1 _ s2=>wpAny_pure ?_
   replace s2:Heap.SameBut i1 h1 h2:=s2
   have o2:IsPair h2 TO va vb:=s2.extBut _ _ Z.f (s1.extBut _ _ Z.b hTO)
   refine wpAny_bind (wpAny_seqItems o2 rfl (wpAny_bind (wpAny_updateSeq_pair o2 λ h3 o3 s3=>wpAny_bind (wpAny_letGo (wpAny_pure ?_)))))
   refine wpAny_bind (wpAny_bind (wpAny_onRaise (wpAny_bind (m:=Builtin.SmallTypes.nextOf (.ref i2)) ?_)))
   have t2':T2 k h3:=D2.frame _ _ _ t2 λ b hb o e=>s3.extBut b o (λ q=>Z.m (q▸hb)) (s2.extBut b o (λ q=>Z.n (q▸hb)) (s1.extBut b o (λ q=>Z.k (q▸hb)) e))
   refine D2.done _ _ _ t2' λ h4 e s4 hq_=>?_
   obtain⟨oe,he,ce⟩:=hq_
   replace s4:Heap.ExtBut i2 h3 h4:=s4
   have hz4:IsZip h4 z TI TO .ellipsis:=s4 _ _ Z.i.symm (s3.extBut _ _ Z.b.symm (s2.extBut _ _ Z.h.symm hz1))
   have ez:e≠z:=λ q=>by subst q;rw[hz4]at he;cases he;simp at ce
   exact wpAny_setField_rec hz4 (by simp) λ h5 _ s5=>hE h5 _ e (λ c o c1 c2 c3 c4 q=>s5.extBut _ _ c1 (s4 _ _ c4 (s3.extBut _ _ c2 (s2.extBut _ _ c3 (s1.extBut _ _ c1 q))))) ⟨oe,s5.extBut _ _ ez he,ce⟩
end
section
variable {P : Program} {w : World} {K : PySem.W.Frag}
def Itz(q r:SqKind P w K)(a b:Addr):It:=
 ⟨λ i H=>∃xs ys x y,q.Sq H a xs/\r.Sq H b ys/\xs[i]? =some x/\ys[i]? =some y,
  λ i H v H'=>∃p x y,H p=none/\H'=upd H p (.tup [x,y])/\v=.ref p/\(∀xs,q.Sq H a xs->xs[i]? =some x)/\∀ys,r.Sq H b ys->ys[i]? =some y,
  λ i H=>∃xs ys,q.Sq H a xs/\r.Sq H b ys/\i=min xs.length ys.length⟩
structure Zr(z TI TO i1 i2:Addr):Prop where
 a:TI≠z
 b:TO≠z
 c:TI≠TO
 d:TI≠i1
 e:TI≠i2
 f:TO≠i1
 g:TO≠i2
 h:i1≠z
 i:i2≠z
 j:i1≠i2
theorem Zr.zd(q r:SqKind P w K){X:Cx}{pins:Pins}{σ:St}{H:Hp}{s:Shared}{z TI TO i1 i2 a b:Addr}{xs ys:List V}(Z:Zr z TI TO i1 i2)(hK:X.K=K)(I:Inv X pins σ H s)(hf:∀c∈[z,TI,TO,i1,i2],cW X pins H c)(hq:q.Sq H a xs)(hr:r.Sq H b ys):Zd z TI TO i1 i2 [i1,a] [i2,b]:=by
 have fa:∀c∈[z,TI,TO,i1,i2],c≠a:=λ c hc=>(q.far hK I hq (hf c hc)).symm
 have fb:∀c∈[z,TI,TO,i1,i2],c≠b:=λ c hc=>(r.far hK I hr (hf c hc)).symm
 refine⟨Z.a,Z.b,Z.c,Z.d,Z.e,Z.f,Z.g,Z.h,Z.i,?_,?_,?_,?_,?_,?_⟩
 . simp[Z.h.symm,fa z (by simp)]
 . simp[Z.i.symm,fb z (by simp)]
 . simp[Z.f,fa TO (by simp)]
 . simp[Z.g,fb TO (by simp)]
 . simp[Z.j,fb i1 (by simp)]
 . simp[Z.j.symm,fa i2 (by simp)]
theorem JS(q r:SqKind P w K){elts:List Expr}{k:Nat}{pos:Pos}(a b z TI TO i1 i2:Addr)(Z:Zr z TI TO i1 i2):Turn P w K (.Tuple elts k pos) (Itz q r a b) [z,TI,TO,i1,i2] z
 (λ i h=>IsZip h z TI TO .none/\IsPair h TI (.ref i1) (.ref i2)/\(∃va vb,IsPair h TO va vb)/\q.It h i1 a i/\r.It h i2 b i) where
 mem:=by simp
 obj:=λ i h st c hc=>by
  obtain⟨hz,hTI,⟨va,vb,hTO⟩,hi,hj⟩:=st
  obtain⟨o,vs,h1,h2⟩:=q.itObj hi
  obtain⟨o',vs',h1',h2'⟩:=r.itObj hj
  simp only[List.mem_cons,List.not_mem_nil,or_false]at hc
  rcases hc with rfl | rfl | rfl | rfl | rfl
  . exact⟨_,hz,λ v z=>nomatch z⟩
  . exact⟨_,hTI,λ v z=>nomatch z⟩
  . exact⟨_,hTO,λ v z=>nomatch z⟩
  . exact⟨o,h1,λ v z=>by rw[h2]at z;cases z⟩
  . exact⟨o',h1',λ v z=>by rw[h2']at z;cases z⟩
 keep:=λ i h h' st k=>by
  obtain⟨hz,hTI,⟨va,vb,hTO⟩,hi,hj⟩:=st
  exact⟨k z (by simp) _ hz,k TI (by simp) _ hTI,⟨va,vb,k TO (by simp) _ hTO⟩,q.itAt hi λ o e=>k i1 (by simp) o e,r.itAt hj λ o e=>k i2 (by simp) o e⟩
 item:=by
  intro X hP hw hK hc i pins s σ H E I hf st hg
  obtain⟨xs,ys,x,y,hq,hr,hx,hy⟩:=hg
  obtain⟨its,rv,ob⟩:=q.get hP hw hK I hq
  obtain⟨its2,rv2,ob2⟩:=r.get hP hw hK I hr
  obtain⟨u,hu,ru⟩:=rv.get hx
  obtain⟨u2,hu2,ru2⟩:=rv2.get hy
  obtain⟨hz,hTI,⟨va,vb,hTO⟩,hi,hj⟩:=st
  have ux:∀zs,q.Sq H a zs->zs[i]? =some x:=λ zs h=>by rw[q.inj hP hw hK I h hq];exact hx
  have uy:∀zs,r.Sq H b zs->zs[i]? =some y:=λ zs h=>by rw[r.inj hP hw hK I h hr];exact hy
  have Z2:=Z.zd q r hK I hf hq hr
  have l1:i<its.toArray.size:=by simpa using(z0.mp hu).1
  have l2:i<its2.toArray.size:=by simpa using(z0.mp hu2).1
  subst hP hw
  have hT:s.TypeIs (.ref z) "zip":=⟨_,hz,rfl⟩
  unfold pyNext
  refine wpAny_bind (wpAny_attempt (wpAny_callSpecial?_slot (name:=Str.ofString "__next__") hT F.slot_zip_next (wpAny_call_entry F.slot_zip_next hT F.entry_zip_next ?_ (F.args_zip_next_1 _))))
  refine QB (q.draws X.A.in1 (I.ok.hd hc) i1 a (q.ne hi ob) its.toArray) (r.draws X.A.in1 (I.ok.hd hc) i2 b (r.ne hj ob2) its2.toArray) Z2 hz hTI hTO ⟨hi,ob⟩ ⟨hj,ob2⟩ l1 l2 λ x' y' h' tk px py hz' hTO' t1 t2 hp' kp=>wpAny_pure ?_
  have ex:x'=u:=by
   have e1:its.toArray[i]? =some u:=by simpa using hu
   rw[e1]at px
   exact(Option.some.inj px).symm
  have ey:y'=u2:=by
   have e1:its2.toArray[i]? =some u2:=by simpa using hu2
   rw[e1]at py
   exact(Option.some.inj py).symm
  subst ex
  subst ey
  refine⟨_,rfl,wpAny_letOwnedTupleGo_zip hz' λ h2 hz2 sb=>?_⟩
  have I1:Inv X pins σ H {s with heap:=h2,toks:=tk}:=sO (ch:=[z,TI,TO,i1,i2]) I hf λ c o hb q'=>(sb.2 c (λ z=>hb (by simp[z]))).trans (kp c o (λ z=>hb (by simp[z])) (λ z=>hb (by simp[z])) (λ z=>hb (by simp[z])) (λ z=>hb (by simp[z])) q')
  have hp:H s.heap.objs.size=none:=I.hok.fresh (x8 _)
  have elt:z<s.heap.objs.size:=Heap.lt_size hz
  have hT2:h2.get? s.heap.objs.size=some {cls:=.type "tuple",data:=.seq #[x',y']}:=(sb.2 _ (Nat.ne_of_gt elt)).trans hp'
  have I2:Inv X pins σ (upd H s.heap.objs.size (.tup [x,y])) {s with heap:=h2,toks:=tk}:=zq I I1 (x8 _) ⟨by show 2≤sizeLine;decide,[x',y'],.cons ru (.cons ru2 .nil),_,hT2,rfl,_,rfl⟩
  have hTI':IsPair h2 TI (.ref i1) (.ref i2):=(sb.2 _ Z.a).trans (kp _ _ Z.a Z.c Z.d Z.e hTI)
  refine⟨.ref s.heap.objs.size,_,I2,rfl,⟨_,x,y,hp,rfl,rfl,ux,uy⟩,⟨hz2,hTI',⟨_,_,(sb.2 _ Z.b).trans hTO'⟩,q.itAt t1.1 λ o q'=>(sb.2 i1 Z.h).trans q',r.itAt t2.1 λ o q'=>(sb.2 i2 Z.i).trans q'⟩,λ c hb=>?_⟩
  rw[aj (Nat.ne_of_lt ?_)]
  . exact(hf c hb).1
  . obtain⟨o,vs,h1,_⟩:=q.itObj hi
    obtain⟨o',vs',h1',_⟩:=r.itObj hj
    simp only[List.mem_cons,List.not_mem_nil,or_false]at hb
    rcases hb with rfl | rfl | rfl | rfl | rfl
    . exact elt
    . exact Heap.lt_size hTI
    . exact Heap.lt_size hTO
    . exact Heap.lt_size h1
    . exact Heap.lt_size h1'
 done:=by
  intro X hP hw hK hc i pins s σ H E I hf st hg
  obtain⟨xs,ys,hq,hr,hn⟩:=hg
  obtain⟨its,rv,ob⟩:=q.get hP hw hK I hq
  obtain⟨its2,rv2,ob2⟩:=r.get hP hw hK I hr
  obtain⟨hz,hTI,⟨va,vb,hTO⟩,hi,hj⟩:=st
  have Z2:=Z.zd q r hK I hf hq hr
  subst hP hw
  have hT:s.TypeIs (.ref z) "zip":=⟨_,hz,rfl⟩
  have hk:i=its.toArray.size∨(i<its.toArray.size/\i=its2.toArray.size):=by
   have e1:=rv.length
   have e2:=rv2.length
   simp only[w9]
   omega
  unfold pyNext
  refine wpAny_bind (wpAny_attempt (wpAny_callSpecial?_slot (name:=Str.ofString "__next__") hT F.slot_zip_next (wpAny_call_entry F.slot_zip_next hT F.entry_zip_next ?_ (F.args_zip_next_1 _))))
  refine JF (q.draws X.A.in1 (I.ok.hd hc) i1 a (q.ne hi ob) its.toArray) (r.draws X.A.in1 (I.ok.hd hc) i2 b (r.ne hj ob2) its2.toArray) Z2 hz hTI hTO ⟨hi,ob⟩ ⟨hj,ob2⟩ hk λ h' tk e kp hq_=>?_
  obtain⟨o,he,ce⟩:=hq_
  refine wpAny_bind (wpAny_isInstance (T:="StopIteration") (b:=true) ⟨o,he,ce⟩ isSubtype_stop (wpAny_pure ⟨rfl,?_⟩))
  exact sO (ch:=[z,TI,TO,i1,i2]) I hf λ c o hb q'=>kp c o (λ z=>hb (by simp[z])) (λ z=>hb (by simp[z])) (λ z=>hb (by simp[z])) (λ z=>hb (by simp[z])) q'
 self:=λ _ _ _ _ _ st h=>wpAny_pyIter_zip st.1 h
theorem Dp(q r:SqKind P w K){O:Own}{H:Hp}{a b:Addr}{ds es:List D}(h:∀O' H',Conv O O' H H'->∃xs ys,q.Sq H' a xs/\Reps K O' H' xs ds/\r.Sq H' b ys/\Reps K O' H' ys es):fD K (Itz q r a b) O H (List.zipWith (λ x y=>.tup [x,y]) ds es):=by
 intro O' H' cv tr i
 obtain⟨xs,ys,hq,r1,hr,r2⟩:=h O' H' cv
 refine⟨λ d hd=>?_,λ hi=>⟨xs,ys,hq,hr,by rw[hi,r1.length,r2.length,List.length_zipWith]⟩⟩
 rw[List.getElem?_zipWith]at hd
 cases e1:ds[i]? with
 | none=>rw[e1]at hd;cases hd
 | some d1=>
   cases e2:es[i]? with
   | none=>rw[e1,e2]at hd;cases hd
   | some d2=>
     rw[e1,e2]at hd
     cases hd
     obtain⟨v1,hv1,rv1⟩:=r1.get e1
     obtain⟨v2,hv2,rv2⟩:=r2.get e2
     refine⟨⟨xs,ys,v1,v2,hq,hr,hv1,hv2⟩,λ x H'' y=>?_⟩
     obtain⟨p,x',y',hp,rfl,rfl,hx,hy⟩:=y
     have ex:=hx xs hq
     have ey:=hy ys hr
     rw[hv1]at ex
     rw[hv2]at ey
     cases ex
     cases ey
     have np:¬O'.has p:=λ z=>tr p z hp
     exact⟨aR.fresh hp _,.tup ⟨np,aC⟩ (.cons (rv1.mono (Step.fresh hp _)) (.cons (rv2.mono (Step.fresh hp _)) .nil))⟩
abbrev zh(h:Heap)(c1 c2:String)(l1 l2:Addr):Heap:=
 ((((h.push {cls:=.type c1,data:=.fields #[.ref l1,.int 0 0]}).push {cls:=.type c2,data:=.fields #[.ref l2,.int 0 0]}).push {cls:=.type "tuple",data:=.seq #[.ref h.objs.size,.ref (h.push {cls:=.type c1,data:=.fields #[.ref l1,.int 0 0]}).objs.size]}).push {cls:=.type "tuple",data:=.seq #[.none,.none]})
abbrev zhz(h:Heap)(c1 c2:String)(l1 l2:Addr):Heap:=
 (zh h c1 c2 l1 l2).push {cls:=.type "zip",data:=.fields #[.none,.bool false,.bool false,.ref ((h.push {cls:=.type c1,data:=.fields #[.ref l1,.int 0 0]}).push {cls:=.type c2,data:=.fields #[.ref l2,.int 0 0]}).objs.size,
  .ref (((h.push {cls:=.type c1,data:=.fields #[.ref l1,.int 0 0]}).push {cls:=.type c2,data:=.fields #[.ref l2,.int 0 0]}).push {cls:=.type "tuple",data:=.seq #[.ref h.objs.size,.ref (h.push {cls:=.type c1,data:=.fields #[.ref l1,.int 0 0]}).objs.size]}).objs.size]}
theorem Fy(l1 l2:Addr)(xs ys:Array Value):
 Meets (Builtin.«zip.__new__» ⟨[.type "zip",.ref l1,.ref l2],[]⟩) (λ _ R s=>s.heap.IsTuple l1 xs/\s.heap.IsTuple l2 ys/\
  R (.ok (.ret (.ref (zh s.heap "tuple_iterator" "tuple_iterator" l1 l2).objs.size))) {s with heap:=zhz s.heap "tuple_iterator" "tuple_iterator" l1 l2}):=
 .of_wp λ prog w A R s h=>by
  obtain⟨hp,g,d,tk,os⟩:=s;obtain⟨a1,a2,h⟩:=h
  have hsub:=sub_zip
  have b1:Heap.IsTuple (Shared.heap ⟨hp,g,d,tk,os⟩) l1 xs:=a1
  have b2:Heap.IsTuple (Shared.heap ⟨hp.push {cls:=.type "tuple_iterator",data:=.fields #[.ref l1,.int 0 0]},g,d,tk,os⟩) l2 ys:=Heap.IsTuple.push a2 _
  wp_walk using wpAny_pyIter_tuple b1,wpAny_pyIter_tuple b2
  exact⟨_,rfl,h⟩
end
section
variable {X : Cx} {Γ : Gam} {S : Store} {pos : Pos}
theorem zip_parts(h:Heap)(c1 c2:String)(l1 l2:Addr):(zh h c1 c2 l1 l2).objs.size=h.objs.size+4/\IsZip (zhz h c1 c2 l1 l2) (h.objs.size+4) (h.objs.size+2) (h.objs.size+3) .none/\IsPair (zhz h c1 c2 l1 l2) (h.objs.size+2) (.ref h.objs.size) (.ref (h.objs.size+1))/\IsPair (zhz h c1 c2 l1 l2) (h.objs.size+3) .none .none/\
 (zhz h c1 c2 l1 l2).get? h.objs.size=some {cls:=.type c1,data:=.fields #[.ref l1,.int 0 0]}/\(zhz h c1 c2 l1 l2).get? (h.objs.size+1)=some {cls:=.type c2,data:=.fields #[.ref l2,.int 0 0]}/\∀b o,h.get? b=some o->(zhz h c1 c2 l1 l2).get? b=some o:=by
 have z1:(h.push {cls:=.type c1,data:=.fields #[.ref l1,.int 0 0]}).objs.size=h.objs.size+1:=Heap.size_push ..
 have z2:((h.push {cls:=.type c1,data:=.fields #[.ref l1,.int 0 0]}).push {cls:=.type c2,data:=.fields #[.ref l2,.int 0 0]}).objs.size=h.objs.size+2:=by rw[Heap.size_push,z1]
 have z3:(((h.push {cls:=.type c1,data:=.fields #[.ref l1,.int 0 0]}).push {cls:=.type c2,data:=.fields #[.ref l2,.int 0 0]}).push {cls:=.type "tuple",data:=.seq #[.ref h.objs.size,.ref (h.push {cls:=.type c1,data:=.fields #[.ref l1,.int 0 0]}).objs.size]}).objs.size=h.objs.size+3:=by rw[Heap.size_push,z2]
 have z4:(zh h c1 c2 l1 l2).objs.size=h.objs.size+4:=by rw[Heap.size_push,z3]
 have g5:=Heap.get?_push_size (zh h c1 c2 l1 l2) (o:={cls:=.type "zip",data:=.fields #[.none,.bool false,.bool false,.ref ((h.push {cls:=.type c1,data:=.fields #[.ref l1,.int 0 0]}).push {cls:=.type c2,data:=.fields #[.ref l2,.int 0 0]}).objs.size,
  .ref (((h.push {cls:=.type c1,data:=.fields #[.ref l1,.int 0 0]}).push {cls:=.type c2,data:=.fields #[.ref l2,.int 0 0]}).push {cls:=.type "tuple",data:=.seq #[.ref h.objs.size,.ref (h.push {cls:=.type c1,data:=.fields #[.ref l1,.int 0 0]}).objs.size]}).objs.size]}) rfl
 have g4:(zhz h c1 c2 l1 l2).get? (((h.push {cls:=.type c1,data:=.fields #[.ref l1,.int 0 0]}).push {cls:=.type c2,data:=.fields #[.ref l2,.int 0 0]}).push {cls:=.type "tuple",data:=.seq #[.ref h.objs.size,.ref (h.push {cls:=.type c1,data:=.fields #[.ref l1,.int 0 0]}).objs.size]}).objs.size=some {cls:=.type "tuple",data:=.seq #[.none,.none]}:=Heap.get?_push_of_some _ (Heap.get?_push_size _ rfl)
 have g3:(zhz h c1 c2 l1 l2).get? ((h.push {cls:=.type c1,data:=.fields #[.ref l1,.int 0 0]}).push {cls:=.type c2,data:=.fields #[.ref l2,.int 0 0]}).objs.size=some {cls:=.type "tuple",data:=.seq #[.ref h.objs.size,.ref (h.push {cls:=.type c1,data:=.fields #[.ref l1,.int 0 0]}).objs.size]}:=Heap.get?_push_of_some _ (Heap.get?_push_of_some _ (Heap.get?_push_size _ rfl))
 have g2:(zhz h c1 c2 l1 l2).get? (h.push {cls:=.type c1,data:=.fields #[.ref l1,.int 0 0]}).objs.size=some {cls:=.type c2,data:=.fields #[.ref l2,.int 0 0]}:=Heap.get?_push_of_some _ (Heap.get?_push_of_some _ (Heap.get?_push_of_some _ (Heap.get?_push_size _ rfl)))
 have g1:(zhz h c1 c2 l1 l2).get? h.objs.size=some {cls:=.type c1,data:=.fields #[.ref l1,.int 0 0]}:=Heap.get?_push_of_some _ (Heap.get?_push_of_some _ (Heap.get?_push_of_some _ (Heap.get?_push_of_some _ (Heap.get?_push_size _ rfl))))
 rw[z2,z3,z4]at g5
 rw[z3]at g4
 rw[z1,z2]at g3
 rw[z1]at g2
 refine⟨z4,?_,g3,g4,g1,g2,λ b o e=>Heap.get?_push_of_some _ (Heap.get?_push_of_some _ (Heap.get?_push_of_some _ (Heap.get?_push_of_some _ (Heap.get?_push_of_some _ e))))⟩
 show(zhz h c1 c2 l1 l2).get? _=_
 unfold zhz
 rw[z2,z3]
 exact g5
theorem RQ{pins:Pins}{σ:St}{H:Hp}{s:Shared}{elts:List Expr}{k:Nat}{tp:Pos}{R:It->Hp->Prop}{E:Value->Shared->Prop}{c1 c2:String}{l1 l2:Addr}(q r:SqKind X.prog X.w X.K)(I:Inv X pins σ H s)
 (hi:q.It (zhz s.heap c1 c2 l1 l2) s.heap.objs.size l1 0)(hj:r.It (zhz s.heap c1 c2 l1 l2) (s.heap.objs.size+1) l2 0)(rr:R (Itz q r l1 l2) H):
 wpAny (model X.prog X.w) X.A (pyIter (.ref (s.heap.objs.size+4))) (PIE X pins σ (.Tuple elts k tp) R) E {s with heap:=zhz s.heap c1 c2 l1 l2}:=by
 obtain⟨_,p1,p2,p3,_,_,kp⟩:=zip_parts s.heap c1 c2 l1 l2
 refine wpAny_pyIter_zip p1 ?_
 refine⟨s.heap.objs.size+4,[s.heap.objs.size+4,s.heap.objs.size+2,s.heap.objs.size+3,s.heap.objs.size,s.heap.objs.size+1],_,_,H,rfl,I.kept (t':=s.toks) kp,JS q r l1 l2 (s.heap.objs.size+4) (s.heap.objs.size+2) (s.heap.objs.size+3) s.heap.objs.size (s.heap.objs.size+1) ?_,⟨p1,p2,⟨_,_,p3⟩,hi,hj⟩,λ b hb=>?_,rr⟩
 . constructor<;>exact λ z=>by have z':(_:Nat)=_:=z;omega
 . have hb':s.heap.objs.size≤b:=by
    simp only[List.mem_cons,List.not_mem_nil,or_false]at hb
    rcases hb with rfl | rfl | rfl | rfl | rfl
    . exact Nat.le_add_right _ _
    . exact Nat.le_add_right _ _
    . exact Nat.le_add_right _ _
    . exact x8 _
    . exact Nat.le_add_right _ _
   exact I.fpOk hb' (I.hok.fresh hb')
theorem Ju{e1 e2:Expr}{elts:List Expr}{k:Nat}{tp p:Pos}{W:List D->Store->Prop}(h:Ev X Γ S e1 λ d S1=>Ev X Γ S1 e2 λ d' S2=>∃ds es,d=.tup ds/\d'=.tup es/\W (List.zipWith (λ x y=>.tup [x,y]) ds es) S2)(hm:X.mg "zip"=none)(hg:Gl X "zip":=by rfl)
 (hs:starEach [e1,e2] X.env=(false,eval e1 X.env)::starEach [e2] X.env:=by rfl)(hs2:starEach [e2] X.env=[(false,eval e2 X.env)]:=by rfl):
 ItW X Γ S (.Tuple elts k tp) (.Call (.Name "zip" p) [e1,e2] [] pos) W:=by
 intro pins s σ H O I env st
 have hA:EvA X Γ S [e1,e2] λ dd S2=>∃ds es,dd=[.tup ds,.tup es]/\W (List.zipWith (λ x y=>.tup [x,y]) ds es) S2:=
  cF (h.mono λ d S1 h1=>cF (h1.mono λ d' S2 ⟨ds,es,a,b,w⟩=>gB ⟨ds,es,by rw[a,b],w⟩) hs2) hs
 refine Call_ (cZ I hg hm boot_zip (PyProof.Rows.callWith_type1 (thn (hA pos pins s σ H O I env st) λ us s1 hq_=>?_) hs (by rw[hs2];rfl)))
 obtain⟨vs,H1,I1,r1,O1,dd,S1,⟨ds,es,ed,w⟩,st1,ok1,rep⟩:=hq_
 subst ed
 cases rep with
 | cons ra rb=>
   cases rb with
   | cons rb rc=>
     cases rc
     obtain⟨u,u2,rfl,ru,ru2⟩:=vals2 r1
     cases ra with
     | @tup a xs _ h1 q1=>
       cases rb with
       | @tup b ys _ h2 q2=>
         cases ru
         cases ru2
         obtain⟨its,rv,pl,hz⟩:=I1.tuple h1.sq
         obtain⟨its2,rv2,pl2,hz2⟩:=I1.tuple h2.sq
         obtain⟨z4,p1,p2,p3,p4,p5,kp⟩:=zip_parts s1.heap "tuple_iterator" "tuple_iterator" a b
         refine callType_new F.called_zip (by decide) (F.typeCall_zip_2 _ _) (F.newCall_zip_2 _ _) (λ obj=>F.args_object_init_3 obj _ _) F.entry_zip_new (Fy a b its.toArray its2.toArray) ⟨pl,pl2,?_⟩
         show _/\_
         rw[z4]
         refine⟨⟨_,p1,rfl⟩,RQ (Jh X.prog X.w X.K) (Jh X.prog X.w X.K) I1 ⟨_,p4,rfl,rfl⟩ ⟨_,p5,rfl,rfl⟩ ⟨O1,_,S1,w,st1,ok1,Dp _ _ λ O' H' cv=>⟨xs,ys,(h1.conv cv).sq,q1.conv cv,(h2.conv cv).sq,q2.conv cv⟩⟩⟩
end
variable {k : Nat}
section
variable {X : Cx} {Γ : Gam} {S : Store} {e : Expr}
theorem We{W:Option Int->Store->Prop}(h:Ev X Γ S e λ d S1=>∃i,d=.int i/\W (some i) S1):PoD X Γ S (some e) W:=h
theorem VM{W:Option Int->Store->Prop}(h:W none S):PoD X Γ S none W:=h
end
theorem bN{α:Type}{xs:List α}{i:Nat}{x:α}(h:xs[i]? =some x):xs.take (i+1)=xs.take i++[x]:=by rw[List.take_add_one,h];rfl
theorem gR(d:D)(ds:List D):cutD (d::ds) (some 1) none=ds:=by
 unfold cutD
 have h1:HT.sIx (d::ds).length 0 (some 1)=1:=by
  have:=HT.sIx_nat (d::ds).length 0 1
  simp only[List.length_cons]at this ⊢
  have h2:((1:Nat):Int)=1:=rfl
  rw[h2]at this
  rw[this];omega
 rw[h1,HT.sIx_none]
 simp
theorem uf(ds:List D)(lo hi:Option Int):(cutD ds lo hi).length≤ds.length:=by
 unfold cutD
 rw[List.length_take,List.length_drop];omega
theorem Oo{ds:List D}{lo hi:Option Int}{x:D}(h:x∈cutD ds lo hi):x∈ds:=by
 unfold cutD at h
 exact List.mem_of_mem_drop (List.mem_of_mem_take h)
theorem xu{ds:List D}{k:Int}(h:0≤k):cutD ds none (some k)=ds.take k.toNat:=by
 unfold cutD
 rw[HT.sIx_none]
 have e:HT.sIx ds.length ds.length (some k)=min k.toNat ds.length:=by
  have:=HT.sIx_nat ds.length ds.length k.toNat
  rwa[Int.toNat_of_nonneg h]at this
 rw[e,List.drop_zero,Nat.sub_zero]
 rcases Nat.le_total k.toNat ds.length with q | q
 . rw[Nat.min_eq_left q]
 . rw[Nat.min_eq_right q,List.take_of_length_le (x8 _),List.take_of_length_le q]
theorem zW{ds:List D}{k:Int}(h:0≤k):cutD ds (some k) none=ds.drop k.toNat:=by
 unfold cutD
 rw[HT.sIx_none]
 have e:HT.sIx ds.length 0 (some k)=min k.toNat ds.length:=by
  have:=HT.sIx_nat ds.length 0 k.toNat
  rwa[Int.toNat_of_nonneg h]at this
 rw[e]
 rcases Nat.le_total k.toNat ds.length with q | q
 . rw[Nat.min_eq_left q,List.take_of_length_le (by rw[List.length_drop];omega)]
 . rw[Nat.min_eq_right q,List.drop_eq_nil_of_le (x8 _),List.drop_eq_nil_of_le q];simp
theorem yQ{α:Type}{ds:List α}{v:Int}(h0:0≤v)(h1:v<ds.length):∃x,atI ds v=some x/\ds[v.toNat]? =some x:=by
 have hk:v.toNat<ds.length:=by omega
 refine⟨ds[v.toNat],?_,y0 hk⟩
 have q:=au (xs:=ds) (j:=v.toNat) (y0 hk)
 rwa[Int.toNat_of_nonneg h0]at q
theorem yK{α:Type}(x:α)(xs:List α):atI (x::xs) 0=some x:=au (xs:=x::xs) (j:=0) rfl
theorem set_get{S:Store}{l l':List D}(h:S[k]? =some l):(S.set k l')[k]? =some l':=List.getElem?_set_self (z0.mp h).1
def gZ(ns:List Int)(a c n m z:Int):List D:=[.lst (ns.map .int),.int a,.int c,.int n,.int m,.int z]
def Pen(S:Store)(k:Nat):Prop:=∃ns a c n m z,S[k]? =some (gZ ns a c n m z)/\0≤a
def Upd(S:Store)(k:Nat)(S':Store):Prop:=∃ns a c n m z,S'=S.set k (gZ ns a c n m z)/\0≤a
theorem Upd.pen{S S':Store}(p:Pen S k)(u:Upd S k S'):Pen S' k:=by
 obtain⟨_,_,_,_,_,_,h,_⟩:=p
 obtain⟨ns,a,c,n,m,z,rfl,ha⟩:=u
 exact⟨ns,a,c,n,m,z,set_get h,ha⟩
theorem Upd.trans{S S1 S2:Store}(a:Upd S k S1)(b:Upd S1 k S2):Upd S k S2:=by
 obtain⟨_,_,_,_,_,_,rfl,_⟩:=a
 obtain⟨ns,x,c,n,m,z,rfl,ha⟩:=b
 exact⟨ns,x,c,n,m,z,by rw[List.set_set],ha⟩
theorem Upd.refl{S:Store}(p:Pen S k):Upd S k S:=by
 obtain⟨ns,a,c,n,m,z,h,ha⟩:=p
 exact⟨ns,a,c,n,m,z,by
  obtain⟨hl,e⟩:=z0.mp h
  rw[←e,List.set_getElem_self],ha⟩
theorem Upd.len{S S':Store}(u:Upd S k S'):S'.length=S.length:=by
 obtain⟨_,_,_,_,_,_,rfl,_⟩:=u
 simp
end DL
namespace RF
open PySem PySem.Spec L2 DL
open PyProof.Rows
open Builtin
theorem n8:fillsNumberSlot (.type "tuple") "mul"=pure false:=
 PySem.fillsNumberSlot_seq (id:="tuple.__mul__") (r:=some (.builtin "tuple.__rmul__")) F.slot_tuple_mul.lookup (by decide+kernel) F.slot_tuple_rmul.lookup (by decide+kernel)
theorem yN:seqRepeat? (.type "tuple")=pure (some (.builtin "tuple.__mul__")):=by
 unfold seqRepeat?
 rw[PySem.seqSlot_of (T:="tuple") (name:="__mul__") (id:="tuple.__mul__") F.slot_tuple_mul.lookup (by decide+kernel),PySem.seqSlot_of (T:="tuple") (name:="__rmul__") (id:="tuple.__rmul__") F.slot_tuple_rmul.lookup (by decide+kernel)]
 rfl
theorem sI(a:Int)(t:Tok)(l:Addr)(items:Array Value)(n:Nat)(dct:Option Addr)(sl:Array (Option Value)):
 Meets (Builtin.«int.__rmul__» ⟨[.int a t,.ref l],[]⟩) (λ _ R s=>s.heap.get? l=some {cls:=.type "tuple",dict:=dct,data:=.seq items n,slots:=sl}/\R (.ok (.ret Value.notImplemented)) s):=
 .of_wp λ prog w A R s h=>by obtain⟨hp,g,d,tk,os⟩:=s;obtain⟨hl,h⟩:=h;wp_walk;exact⟨_,rfl,h⟩
theorem ud(l:Addr)(items:Array Value)(n:Nat)(dct:Option Addr)(sl:Array (Option Value))(x:Int)(u:Tok)(h1:¬(decide (x< -(2 ^ 63))||decide (x≥2 ^ 63))=true)(hc:(items.isEmpty||x==1)=true):
 Meets (Builtin.«tuple.__mul__» ⟨[.ref l,.int x u],[]⟩) (λ _ R s=>s.heap.get? l=some {cls:=.type "tuple",dict:=dct,data:=.seq items n,slots:=sl}/\R (.ok (.ret (.ref l))) s):=
 .of_wp λ prog w A R s h=>by
  obtain⟨hp,g,d,tk,os⟩:=s;obtain⟨hl,h⟩:=h
  unfold Builtin.«tuple.__mul__»
  wp_walk
  rw[if_neg h1]
  wp_walk using AutoSeq1.wpAny_loadPart' hl
  try rw[if_pos hc]
  wp_walk using AutoSeq1.wpAny_loadPart' hl
  exact⟨_,rfl,h⟩
theorem rM(l:Addr)(items:Array Value)(n:Nat)(dct:Option Addr)(sl:Array (Option Value))(x:Int)(u:Tok)(h1:¬(decide (x< -(2 ^ 63))||decide (x≥2 ^ 63))=true)(hc:¬(items.isEmpty||x==1)=true)(h2:(decide (x≤0)||items.isEmpty)=true):
 Meets (Builtin.«tuple.__mul__» ⟨[.ref l,.int x u],[]⟩) (λ _ R s=>s.heap.get? l=some {cls:=.type "tuple",dict:=dct,data:=.seq items n,slots:=sl}/\R (.ok (.ret (.ref s.heap.objs.size))) {s with heap:=s.heap.push {cls:=.type "tuple",data:=.seq #[]}}):=
 .of_wp λ prog w A R s h=>by
  obtain⟨hp,g,d,tk,os⟩:=s;obtain⟨hl,h⟩:=h
  unfold Builtin.«tuple.__mul__»
  wp_walk
  rw[if_neg h1]
  wp_walk using AutoSeq1.wpAny_loadPart' hl
  try rw[if_neg hc]
  wp_walk using AutoSeq1.wpAny_loadPart' hl
  try rw[if_pos h2]
  wp_walk using AutoSeq1.wpAny_loadPart' hl
  exact⟨_,rfl,h⟩
theorem sY(l:Addr)(items:Array Value)(n:Nat)(dct:Option Addr)(sl:Array (Option Value))(x:Int)(u:Tok)(h1:¬(decide (x< -(2 ^ 63))||decide (x≥2 ^ 63))=true)(hc:¬(items.isEmpty||x==1)=true)(h2:¬(decide (x≤0)||items.isEmpty)=true)
 (h3:¬((items.size:Int)*x>(2 ^ 63-1)/8))(h4:¬Builtin.Tuple.tupleTooMany ((items.size:Int)*x)=true)(h5:((List.replicate x.toNat items).foldl (· ++·) #[]).size≤sizeLine):
 Meets (Builtin.«tuple.__mul__» ⟨[.ref l,.int x u],[]⟩) (λ _ R s=>s.heap.get? l=some {cls:=.type "tuple",dict:=dct,data:=.seq items n,slots:=sl}/\R (.ok (.ret (.ref s.heap.objs.size))) {s with heap:=s.heap.push {cls:=.type "tuple",data:=.seq ((List.replicate x.toNat items).foldl (· ++·) #[])}}):=
 .of_wp λ prog w A R s h=>by
  obtain⟨hp,g,d,tk,os⟩:=s;obtain⟨hl,h⟩:=h
  unfold Builtin.«tuple.__mul__»
  wp_walk
  rw[if_neg h1]
  wp_walk using AutoSeq1.wpAny_loadPart' hl
  try rw[if_neg hc]
  wp_walk using AutoSeq1.wpAny_loadPart' hl
  try rw[if_neg h2]
  wp_walk using AutoSeq1.wpAny_loadPart' hl
  try rw[if_neg h3]
  wp_walk using AutoSeq1.wpAny_loadPart' hl
  try rw[if_neg h4]
  wp_walk using AutoSeq1.wpAny_loadPart' hl
  exact⟨_,rfl,h⟩
theorem Reps.rep{K:PySem.W.Frag}{O:Own}{H:Hp}{vs:List V}{ds:List D}(r:Reps K O H vs ds):∀k:Nat,Reps K O H (List.replicate k vs).flatten (List.replicate k ds).flatten
 | 0=>.nil
 | k+1=>by
   rw[List.replicate_succ,List.replicate_succ,List.flatten_cons,List.flatten_cons]
   exact r.append (Reps.rep r k)
theorem Qe{X:Cx}{S:Store}{W:WD}{ds:List D}{k:Int}(hk: -(2 ^ 63)≤k/\k<2 ^ 63)(hz:ds.length*k.toNat≤1000000)(w:W (.tup (List.replicate k.toNat ds).flatten) S):cA X .Mult (.tup ds) (.int k) S W:=by
 intro pins s σ H O v w' u u' I st r1 r2 r3 r4
 cases r1 with
 | @tup a xs _ h1 q1=>
   cases r2
   cases r3
   obtain⟨t,rfl⟩:=r4
   obtain⟨its,v1,p1,_⟩:=I.tuple h1.sq
   obtain⟨⟨cls,dd,data,sl⟩,ho,hc,n,hd⟩:=id p1
   simp only at hc hd
   subst hc hd
   have l1:its.length=ds.length:=by rw[←v1.length,q1.length]
   have c1:¬(decide (k< -(2 ^ 63))||decide (k≥2 ^ 63))=true:=by
    rw[decide_eq_false (by omega),decide_eq_false (by omega)];decide
   have new:∀m:Nat,m=k.toNat->EP X pins σ (QG X.K O H W) (.ref s.heap.objs.size) {s with heap:=s.heap.push {cls:=.type "tuple",data:=.seq (List.replicate m its).flatten.toArray}}:=by
    rintro m rfl
    refine⟨.ref s.heap.objs.size,upd H s.heap.objs.size (.tup (List.replicate k.toNat xs).flatten),I.laid (t':=s.toks) (λ b u e=>Heap.get?_push_of_some _ e) (x8 _) ?_,rfl,gM w st I.fresh (Reps.rep q1 _)⟩
    exact⟨by rw[len_rep,q1.length,Nat.mul_comm];exact small hz,_,v1.rep _,⟨_,Heap.get?_push_size _ rfl,rfl,_,rfl⟩⟩
   refine PySem.wpAny_binaryOp_repeat_ref (T:="tuple") (U:="int") (by decide) ⟨_,ho,rfl⟩ (λ s'=>typeIs_int s' k t) n8 F.fills_int_mul F.slot_int_rmul yN F.slot_int_index.lookup
    (call_meets F.slot_int_rmul (typeIs_int s k t) F.entry_int_rmul (F.args_int_rmul_2 _ _) (sI k t a its.toArray n dd sl) ⟨ho,rfl,⟨_,ho,rfl⟩,?_⟩)
   by_cases b1:(its.toArray.isEmpty||k==1)=true
   . refine call_meets F.slot_tuple_mul ⟨_,ho,rfl⟩ F.entry_tuple_mul (F.args_tuple_mul_2 _ _) (ud a its.toArray n dd sl k t c1 b1) ⟨ho,.ref a,H,I,rfl,?_⟩
     have e:(List.replicate k.toNat ds).flatten=ds:=by
      rw[Bool.or_eq_true]at b1
      rcases b1 with z | z
      . have:its=[]:=by simpa using z
        have:ds=[]:=by rw[this]at l1;simpa using l1.symm
        subst this
        simp
      . have:k=1:=eq_of_beq z
        subst this
        simp
     rw[e]at w
     exact QG.here w st (.tup h1 q1)
   . by_cases b2:(decide (k≤0)||its.toArray.isEmpty)=true
     . refine call_meets F.slot_tuple_mul ⟨_,ho,rfl⟩ F.entry_tuple_mul (F.args_tuple_mul_2 _ _) (rM a its.toArray n dd sl k t c1 b1 b2) ⟨ho,?_⟩
       have h0:k.toNat=0:=by
        rw[Bool.or_eq_true]at b2
        rcases b2 with z | z
        . have:=of_decide_eq_true z;omega
        . exact absurd (by rw[z];rfl) b1
       have:=new 0 h0.symm
       exact this
     . have h0:0<k:=by
        cases z:decide (k≤0)with
        | true=>exact absurd (by rw[z];rfl) b2
        | false=>have:=of_decide_eq_false z;omega
       have ek:(its.toArray.size:Int)*k=((its.length*k.toNat:Nat):Int):=by
        rw[w9,Int.natCast_mul,Int.toNat_of_nonneg (by omega)]
       have fz:List.foldl (λ x1 x2=>x1++x2) #[] (List.replicate k.toNat its.toArray)=(List.replicate k.toNat its).flatten.toArray:=by
        have:=foldl_rep its k.toNat []
        rw[List.nil_append]at this
        exact this
       have big:its.length*k.toNat≤1000000:=by rw[l1];exact hz
       refine call_meets F.slot_tuple_mul ⟨_,ho,rfl⟩ F.entry_tuple_mul (F.args_tuple_mul_2 _ _) (sY a its.toArray n dd sl k t c1 b1 b2 (by rw[ek];omega) ?_ ?_) ⟨ho,?_⟩
       . rw[ek]
         have:(1000000:Nat)≤sizeLine:=by decide
         unfold Builtin.Tuple.tupleTooMany
         rw[decide_eq_true_eq]
         omega
       . rw[fz,w9,len_rep,Nat.mul_comm];exact small big
       . rw[fz]
         exact new _ rfl
variable {W : WD}
set_option genInjectivity false in
structure Wd where
 P:Program
 w:World
 K:PySem.W.Frag
 mg:Str->Option Value
 base:Heap
 cd:Option (Value×Str):=none
abbrev Nm:=List (Str×NameKind)
structure At(Ω:Wd)(X:Cx)(r:Nat)(top:Bool)(N:List Str)(nm:Nm):Prop where
 p:X.prog=Ω.P
 w:X.w=Ω.w
 k:X.K=Ω.K
 g:X.mg=Ω.mg
 b:X.base=Ω.base
 room:Room r X.A
 xe:X.xe=λ _ _=>False
 calm:X.calm=true
 n:X.N=N
 nd:N.Nodup
 kind:X.env.scope.kind=.function
 look:∀x k,nm.lookup x=some k->X.env.kindOf x=some k∨(k=.free/\X.env.kindOf x=some .cell)
 fn:∀x,nm.lookup x=some .cell->X.fn x=true
 cd:top=true->∀p,Ω.cd=some p->X.env.code=p.1/\X.env.qual=p.2
 fr:top=true->X.stack=X.env::X.outer/\X.env.frame=some X.env.locals/\X.ex=[]
def vis(nm:Nm)(x:Str):Bool:=match nm.lookup x with | some .local=>true | some .cell=>true | some .free=>true | _=>false
def lcl(top:Bool)(nm:Nm)(x:Str):Bool:=match nm.lookup x with | some .local=>true | some .cell=>true | _=>false
def glb(nm:Nm)(x:Str):Bool:=nm.lookup x==some .globalImplicit
def okN(x:Str):Bool:=!(x==("__debug__":Str))&&(!(x==("__classdict__":Str))&& !(x==("__name__":Str)))
def okE:Expr->Bool
 | .Starred .. =>false | .Set .. =>false | .Slice .. =>false | _=>true
def noC:Expr->Bool
 | .ListComp .. =>false | .SetComp .. =>false | .DictComp .. =>false | _=>true
def Ep:Expr->Bool
 | .UnaryOp .. =>false | .BoolOp .. =>false | .IfExp .. =>false | .Compare .. =>false | _=>true
theorem aa{a b:Bool}(h:(a&&b)=true):a=true/\b=true:=by cases a<;>cases b<;>first | exact⟨rfl,rfl⟩ | exact(y9 h).elim
theorem nt{a:Bool}(h:(!a)=true):a=false:=by cases a<;>first | rfl | exact(y9 h).elim
theorem aY{x:Str}(h:okN x=true):(x==("__debug__":Str))=false/\(x==("__classdict__":Str))=false/\x≠"__name__":=by
 obtain⟨h1,h2⟩:=aa h
 obtain⟨h2,h3⟩:=aa h2
 exact⟨nt h1,nt h2,λ e=>by rw[e]at h3;simp at h3⟩
section
variable {Ω : Wd} {X : Cx} {r : Nat} {top : Bool} {N : List Str} {nm : Nm} {x : Str}
theorem At.vis(A:At Ω X r top N nm)(h:RF.vis nm x=true):Vis X.env.scope x:=by
 unfold RF.vis at h
 cases e:nm.lookup x with
 | none=>rw[e]at h;cases h
 | some k=>
   rw[e]at h
   have q:=A.look x k e
   cases k with
   | «local»=>rcases q with q | ⟨q,_⟩;exact .inl q;exact nomatch q
   | cell=>rcases q with q | ⟨q,_⟩;exact .inr (.inl q);exact nomatch q
   | free=>rcases q with q | ⟨_,q⟩;exact .inr (.inr q);exact .inr (.inl q)
   | _=>exact(y9 h).elim
theorem At.lcl(A:At Ω X r top N nm)(h:RF.lcl top nm x=true):Loc X.env.scope x/\(X.fn x=true∨X.env.scope.names.lookup x=some .local):=by
 unfold RF.lcl at h
 cases e:nm.lookup x with
 | none=>rw[e]at h;cases h
 | some k=>
   rw[e]at h
   have q:=A.look x k e
   cases k with
   | «local»=>rcases q with q | ⟨q,_⟩;exact⟨.inl q,.inr q⟩;exact nomatch q
   | cell=>rcases q with q | ⟨q,_⟩;exact⟨.inr q,.inl (A.fn x e)⟩;exact nomatch q
   | _=>exact(y9 h).elim
theorem At.glb(A:At Ω X r top N nm)(h:RF.glb nm x=true):Gl X x:=by
 have e:nm.lookup x=some .globalImplicit:=eq_of_beq h
 rcases A.look x _ e with q | ⟨q,_⟩
 . exact q
 . exact nomatch q
end
theorem aD{e:Expr}(h:okE e=true)(es:List Expr)(env:Env):starEach (e::es) env=(false,eval e env)::starEach es env:=by
 cases e<;>first | rfl | exact(y9 h).elim
theorem mj:∀{es:List Expr}(_:es.all okE=true)(pos:Pos)(env:Env),(backTo pos (starEach es env)).any (·.1)=false
 | [],_,_,_=>rfl
 | e::es,h,pos,env=>by
   rw[List.all_cons]at h
   obtain⟨h1,h2⟩:=aa h
   rw[aD h1]
   show(false||(backTo pos (starEach es env)).any (·.1))=false
   rw[mj h2];rfl
theorem dB{op:CmpOp}{e:Expr}(h:okE e=true):behindInMarks op e=false:=by
 cases e<;>first | rfl | exact(y9 h).elim
theorem pq{e:Expr}(h:okE e=true):sG e:=by
 intro _ _
 cases e<;>first | rfl | exact(y9 h).elim
theorem gA{e:Expr}(h:okE e=true)(env:Env):∀x,foldedSetIterable e env x=pure x:=by
 intro x
 cases e<;>first | rfl | exact(y9 h).elim
theorem kO{e:Expr}(h:noC e=true)(t:Option Expr)(l:Nat)(env:Env):swapsWith e t l env=pure false:=by
 cases e<;>first | rfl | exact(y9 h).elim
theorem zO{e:Expr}(h:Ep e=true)(env:Env):∀whole,isTrue e env whole=(do let v ←whole;standAt e.pos;holding [v] (truthy v)):=by
 intro w
 cases e<;>first | rfl | exact(y9 h).elim
section
variable {X : Cx} {Γ : Gam} {S : Store} {e : Expr} {es : List Expr}
theorem EvA.mono{W W':List D->Store->Prop}(h:EvA X Γ S es W)(k:∀ds S',W ds S'->W' ds S'):EvA X Γ S es W':=λ pos pins s σ H O I env st=>
 thn (h pos pins s σ H O I env st) λ _ _ hq_=>by obtain⟨v,H',I',r,O',d,S',w,q⟩:=hq_;exact⟨v,H',I',r,O',d,S',k d S' w,q⟩
theorem Ts.mono{W W':Bool->Store->Prop}(h:Ts X Γ S e W)(k:∀c S',W c S'->W' c S'):Ts X Γ S e W':=λ pins s σ H O I env st=>
 thn (h pins s σ H O I env st) λ _ _ hq_=>by obtain⟨H',I',O',S',w,q⟩:=hq_;exact⟨H',I',O',S',k _ S' w,q⟩
theorem BdW.mono{d:D}{W W':Gam->Store->Prop}(h:BdW X e d Γ S W)(k:∀G S',W G S'->W' G S'):BdW X e d Γ S W':=λ pins s σ H O v u I env st r ru=>
 thn (h pins s σ H O v u I env st r ru) λ _ _ q=>by
  obtain⟨σ',H',I',O',G,S',w,q⟩:=q
  exact⟨σ',H',I',O',G,S',k G S' w,q⟩
theorem ItW.mono{tg:Expr}{W W':List D->Store->Prop}(h:ItW X Γ S tg e W)(k:∀ds S',W ds S'->W' ds S'):ItW X Γ S tg e W':=λ pins s σ H O I env st=>
 thn (h pins s σ H O I env st) λ _ _ q=>thn q λ _ _ q=>by
  obtain⟨it,fp,tn,J,H',e1,e2,e3,e4,e5,O',ds,S',w,z⟩:=q
  exact⟨it,fp,tn,J,H',e1,e2,e3,e4,e5,O',ds,S',k ds S' w,z⟩
theorem PJ{pins:Pins}{O:Own}{H:Hp}{W W':DL.Fin}(h1:∀G S,W.nx G S->W'.nx G S)(h2:∀d S,W.rt d S->W'.rt d S)(h3:∀G S,W.bk G S->W'.bk G S)(h4:∀G S,W.ct G S->W'.ct G S){f:Flow}{s':Shared}(q:SP X pins (ends X.K O H W) f s'):SP X pins (ends X.K O H W') f s':=by
 cases f with
 | next=>obtain⟨σ,H',I,O',G,S',w,q⟩:=q;exact⟨σ,H',I,O',G,S',h1 _ _ w,q⟩
 | brk=>obtain⟨σ,H',I,O',G,S',w,q⟩:=q;exact⟨σ,H',I,O',G,S',h3 _ _ w,q⟩
 | cont=>obtain⟨σ,H',I,O',G,S',w,q⟩:=q;exact⟨σ,H',I,O',G,S',h4 _ _ w,q⟩
 | ret u=>obtain⟨v,σ,H',I,r,O',d,S',w,q⟩:=q;exact⟨v,σ,H',I,r,O',d,S',h2 _ _ w,q⟩
theorem Rn.mono{st:Stmt}{W W':DL.Fin}(h:Rn X Γ S st W)(h1:∀G S,W.nx G S->W'.nx G S)(h2:∀d S,W.rt d S->W'.rt d S)(h3:∀G S,W.bk G S->W'.bk G S)(h4:∀G S,W.ct G S->W'.ct G S):Rn X Γ S st W':=λ pins s σ H O I env ok=>
 thn (h pins s σ H O I env ok) λ _ _ q=>PJ h1 h2 h3 h4 q
theorem Fw{a b c:Expr}{op op':CmpOp}{pos:Pos}{W:Bool->Store->Prop}(h:Ev X Γ S a λ x S1=>Ev X Γ S1 b λ y S2=>aV X op x y S2 (asB λ k S3=>(k=false->W false S3)/\(k=true->Ev X Γ S3 c λ t S4=>aV X op' y t S4 (asB W))))
 (hm:lastMarks [op,op'] [b,c]=false):Ts X Γ S (.Compare a [op,op'] [b,c] pos) W:=by
 intro pins s σ H O I env st
 refine isTrue_chain (rs:=[]) (thn (h pins s σ H O I env st) λ u s1 hq_=>?_) hm
 obtain⟨v,H1,I1,r1,O1,x,S1,hb,st1,ok1,rep1⟩:=hq_
 refine test_link (thn (hb pins s1 σ H1 O1 I1 (env.mono st1) ok1) λ u' s2 hq_=>?_)
 obtain⟨w,H2,I2,r2,O2,y,S2,hw,st2,ok2,rep2⟩:=hq_
 refine thn (hw pins s2 σ H2 O2 v w u u' I2 ok2 (rep1.mono st2) rep2 r1 r2) λ _ s3 hq_=>?_
 obtain⟨z,H3,I3,r3,O3,d3,S3,⟨k,hd,k1,k2⟩,st3,ok3,rep3⟩:=hq_
 subst hd
 cases rep3
 cases r3
 refine wpAny_truthy_bool ?_
 cases k with
 | false=>exact ite_ff ⟨H3,I3,O3,S3,k1 rfl,(st1.trans st2).trans st3,ok3⟩
 | true=>
   refine ite_tt (test_last (thn (k2 rfl pins s3 σ H3 O3 I3 (((env.mono st1).mono st2).mono st3) ok3) λ u4 s4 hq_=>?_))
   obtain⟨w4,H4,I4,r4,O4,t,S4,h4,st4,ok4,rep4⟩:=hq_
   refine thn (h4 pins s4 σ H4 O4 w w4 u' u4 I4 ok4 ((rep2.mono st3).mono st4) rep4 r2 r4) λ _ s5 hq_=>?_
   obtain⟨z5,H5,I5,r5,O5,d5,S5,⟨k,hd,w5⟩,st5,ok5,rep5⟩:=hq_
   subst hd
   cases rep5
   cases r5
   exact wpAny_truthy_bool ⟨H5,I5,O5,S5,w5,(((st1.trans st2).trans st3).trans st4).trans st5,ok5⟩
end
def bII(x y:D)(k:Int->Int->Prop):Prop:=match x with
 | .int i=>(match y with
   | .int j=>k i j
   | _=>False)
 | _=>False
theorem dM{x y:D}{k:Int->Int->Prop}(h:bII x y k):∃i j,x=.int i/\y=.int j/\k i j:=by
 cases x<;>first | exact h.elim | (cases y<;>first | exact h.elim | exact⟨_,_,rfl,rfl,h⟩)
def bTu(x:D)(k:List D->Prop):Prop:=match x with
 | .tup a=>k a
 | _=>False
theorem tO{x:D}{k:List D->Prop}(h:bTu x k):∃a,x=.tup a/\k a:=by cases x<;>first | exact h.elim | exact⟨_,rfl,h⟩
def bLs(x:D)(k:List D->Prop):Prop:=match x with
 | .lst a=>k a
 | _=>False
theorem BJ{x:D}{k:List D->Prop}(h:bLs x k):∃a,x=.lst a/\k a:=by cases x<;>first | exact h.elim | exact⟨_,rfl,h⟩
def bIn(x:D)(k:Int->Prop):Prop:=match x with
 | .int a=>k a
 | _=>False
theorem Nz{x:D}{k:Int->Prop}(h:bIn x k):∃a,x=.int a/\k a:=by cases x<;>first | exact h.elim | exact⟨_,rfl,h⟩
def JL(x:D)(a b c:Prop):Prop:=match x with
 | .int _=>a
 | .tup _=>b
 | _=>c
theorem zu{x:D}{a b c:Prop}(h:JL x a b c):a∨b∨c:=by cases x<;>first | exact .inl h | exact .inr (.inl h) | exact .inr (.inr h)
def Em(op:Operator)(x y:D)(S:Store)(W:WD):Prop:=match op with
 | .Add=>JL x (bII x y λ i j=>W (.int (i+j)) S) (bTu x λ a=>bTu y λ b=>a.length+b.length≤1000000/\W (.tup (a++b)) S) (bLs x λ a=>bLs y λ b=>a.length+b.length≤1000000/\W (.lst (a++b)) S)
 | .Sub=>bII x y λ i j=>W (.int (i-j)) S
 | .Mult=>JL x (bII x y λ i j=>xT i j/\W (.int (i*j)) S) (bTu x λ a=>bIn y λ n=>(-(2 ^ 63)≤n/\n<2 ^ 63)/\a.length*n.toNat≤1000000/\W (.tup (List.replicate n.toNat a).flatten) S) False
 | .Mod=>bII x y λ i j=>0<j/\W (.int (i % j)) S
 | .FloorDiv=>bII x y λ i j=>(0<j/\j<1073741824)/\W (.int (i/j)) S
 | .Pow=>bII x y λ i j=>CPow i j/\W (.int (i ^ j.toNat)) S
 | _=>False
theorem yH{X:Cx}{op:Operator}{x y:D}{S:Store}(h:Em op x y S W):cA X op x y S W:=by
 cases op<;>first | exact(show False from h).elim | skip
 . rcases zu h with h | h | h
   . obtain⟨i,j,rfl,rfl,h⟩:=dM h;exact Um h
   . obtain⟨a,rfl,h1⟩:=tO h;obtain⟨b,rfl,h2⟩:=tO h1;exact Tj h2.1 h2.2
   . obtain⟨a,rfl,h1⟩:=BJ h;obtain⟨b,rfl,h2⟩:=BJ h1;exact RD h2.1 h2.2
 . obtain⟨i,j,rfl,rfl,h⟩:=dM h;exact Ui h
 . rcases zu h with h | h | h
   . obtain⟨i,j,rfl,rfl,h⟩:=dM h;exact Uo h.1 h.2
   . obtain⟨a,rfl,h1⟩:=tO h;obtain⟨b,rfl,h2⟩:=Nz h1;exact Qe h2.1 h2.2.1 h2.2.2
   . exact h.elim
 all_goals obtain⟨i,j,rfl,rfl,h⟩:=dM h
 all_goals first | exact Uq h.1 h.2 | exact QD h.1 h.2 | exact U0 h.1 h.2
def Ky(x y:D)(S:Store)(W:WD):Prop:=match x,y with
 | .tup ds,.int i=>∃d,atI ds i=some d/\W d S
 | .lst ds,.int i=>∃d,atI ds i=some d/\W d S
 | .loc k,.int i=>∃ds d,S[k]? =some ds/\atI ds i=some d/\W d S
 | _,_=>False
theorem Mu{X:Cx}{a b:Expr}{x y:D}{S:Store}(h:Ky x y S W):IxW X a b x y S W:=by
 unfold Ky at h
 split at h
 . obtain⟨d,h1,h2⟩:=h;exact Uy h1 h2
 . obtain⟨d,h1,h2⟩:=h;exact Uh h1 h2
 . obtain⟨ds,d,h1,h2,h3⟩:=h;exact Vq h1 h2 h3
 . exact h.elim
def Jf(x:D)(l h:Option Int)(S:Store)(W:WD):Prop:=match x with
 | .tup ds=>W (.tup (cutD ds l h)) S
 | .lst ds=>W (.lst (cutD ds l h)) S
 | .loc k=>∃ds,S[k]? =some ds/\W (.lst (cutD ds l h)) S
 | _=>False
theorem Vu{X:Cx}{S:Store}{k:Nat}{ds:List D}{lo hi:Option Int}(hk:S[k]? =some ds)(w:W (.lst (cutD ds lo hi)) S):SlW X (.loc k) lo hi S W:=by
 intro pins s σ H O v u vl vu sl I st r1 r3 hs pl pu
 cases r1 with
 | @loc p _ h1=>
   obtain⟨xs,hx,q1⟩:=st.obj k p ds h1 hk
   exact Cg pins s σ H _ u vl vu lo hi sl _ I r3 hs pl pu ⟨p,xs,rfl,SqL.of hx,λ p' hp=>fJ w st hp (rK q1 lo hi)⟩
theorem Mg{X:Cx}{x:D}{l r:Option Int}{S:Store}(h:Jf x l r S W):SlW X x l r S W:=by
 unfold Jf at h
 split at h
 . exact Uk h
 . exact Vk h
 . obtain⟨ds,h1,h2⟩:=h;exact Vu h1 h2
 . exact h.elim
inductive Ty where
 | int | bool | tuple | list | str
 deriving DecidableEq
def Ty.id:Ty->String
 | .int=>"int" | .bool=>"bool" | .tuple=>"tuple" | .list=>"list" | .str=>"str"
def Ty.nm:Ty->Str
 | .int=>"int" | .bool=>"bool" | .tuple=>"tuple" | .list=>"list" | .str=>"str"
def isD:Ty->D->Bool
 | .int,.int _=>true | .int,.bl _=>true | .bool,.bl _=>true | .tuple,.tup _=>true | .list,.lst _=>true | .list,.loc _=>true | .str,.str _=>true | _,_=>false
theorem RT(T:Ty)(x:D):isi (tyD x) T.id=isD T x:=by cases T<;>cases x<;>rfl
theorem Ty.isT(T:Ty):DL.isT T.id=true:=by cases T<;>rfl
theorem Ty.boot(T:Ty):bootBuiltins T.nm=some (.type T.id):=by cases T<;>decide+kernel
theorem Ty.ok(T:Ty):(T.nm==("__debug__":Str))=false/\T.nm≠"__name__":=by cases T<;>decide+kernel
end RF
set_option maxHeartbeats 1000000
namespace RF
open PySem PySem.Spec L2 DL
open PyProof.Rows
variable {e : Expr}
def nameV:Expr->Option Str
 | .Name x _=>some x
 | _=>none
theorem bx{x:Str}(h:nameV e=some x):∃p,e=.Name x p:=by
 unfold nameV at h
 split at h
 . cases h;exact⟨_,rfl⟩
 . cases h
def yL:Expr->Option (Expr×List Expr×Bool)
 | .Call f es ks _=>some (f,es,ks.isEmpty)
 | _=>none
theorem Hn{f:Expr}{es:List Expr}(h:yL e=some (f,es,true)):∃pos,e=.Call f es [] pos:=by
 unfold yL at h
 split at h
 . rename_i f' es' ks pos
   have h:=Option.some.inj h
   have h1:=congrArg Prod.fst h
   have h2:=congrArg (λ z=>z.2.1) h
   have h3:ks.isEmpty=true:=congrArg (λ z=>z.2.2) h
   have h1:f'=f:=h1
   have h2:es'=es:=h2
   cases ks with
   | nil=>subst h1 h2;exact⟨pos,rfl⟩
   | cons=>cases h3
 . cases h
def anB{α:Type}(o:Option α)(k:α->Bool):Bool:=match o with
 | some a=>k a
 | none=>false
theorem aX{α:Type}{o:Option α}{k:α->Bool}(h:anB o k=true):∃a,o=some a/\k a=true:=by
 cases o with
 | none=>cases h
 | some a=>exact⟨a,rfl,h⟩
def fj(e:Expr)(k:Str->List Expr->Bool):Bool:=anB (yL e) λ z=>z.2.2&&anB (nameV z.1) λ f=>k f z.2.1
theorem b7{k:Str->List Expr->Bool}(h:fj e k=true):∃f p es pos,e=.Call (.Name f p) es [] pos/\k f es=true:=by
 obtain⟨⟨f,es,b⟩,h1,h⟩:=aX h
 obtain⟨hb,h⟩:=aa h
 have hb:b=true:=hb
 subst hb
 obtain⟨x,h2,h⟩:=aX h
 obtain⟨pos,rfl⟩:=Hn h1
 obtain⟨p,e2⟩:=bx h2
 have e2:f=.Name x p:=e2
 subst e2
 exact⟨x,p,es,pos,rfl,h⟩
def dj{α:Type}(l:List α)(k:α->Bool):Bool:=match l with
 | [a]=>k a
 | _=>false
theorem bj{α:Type}{l:List α}{k:α->Bool}(h:dj l k=true):∃a,l=[a]/\k a=true:=by
 cases l with
 | nil=>cases h
 | cons a l=>cases l with
   | nil=>exact⟨a,rfl,h⟩
   | cons=>cases h
def two2{α:Type}(l:List α)(k:α->α->Bool):Bool:=match l with
 | [a,b]=>k a b
 | _=>false
theorem two2_of{α:Type}{l:List α}{k:α->α->Bool}(h:two2 l k=true):∃a b,l=[a,b]/\k a b=true:=by
 cases l with
 | nil=>cases h
 | cons a l=>cases l with
   | nil=>cases h
   | cons b l=>cases l with
     | nil=>exact⟨a,b,rfl,h⟩
     | cons=>cases h
def Ek:Expr->Bool
 | .Tuple .. =>true
 | _=>false
theorem Cv(h:Ek e=true):∃es k p,e=.Tuple es k p:=by
 unfold Ek at h
 split at h
 . exact⟨_,_,_,rfl⟩
 . cases h
def wZ:Expr->Option (Expr×Str×Pos)
 | .Attribute x m p=>some (x,m,p)
 | _=>none
theorem zB{x:Expr}{m:Str}{p:Pos}(h:wZ e=some (x,m,p)):e=.Attribute x m p:=by
 unfold wZ at h
 split at h
 . cases h;rfl
 . cases h
def KD:Stmt->Option (List Expr×Expr)
 | .Assign ts e _=>some (ts,e)
 | _=>none
theorem MK{st:Stmt}{ts:List Expr}(h:KD st=some (ts,e)):∃p,st=.Assign ts e p:=by
 unfold KD at h
 split at h
 . cases h;exact⟨_,rfl⟩
 . cases h
def setB(st:Stmt)(k:Str->Expr->Bool):Bool:=anB (KD st) λ z=>dj z.1 λ t=>anB (nameV t) λ x=>k x z.2
theorem sV{st:Stmt}{k:Str->Expr->Bool}(h:setB st k=true):∃x q e p,st=.Assign [.Name x q] e p/\k x e=true:=by
 obtain⟨⟨ts,e⟩,h1,h⟩:=aX h
 obtain⟨t,e1,h⟩:=bj h
 obtain⟨x,h2,h⟩:=aX h
 obtain⟨p,rfl⟩:=MK h1
 obtain⟨q,rfl⟩:=bx h2
 have e1:ts=[Expr.Name x q]:=e1
 subst e1
 exact⟨x,q,e,p,rfl,h⟩
end RF
set_option maxHeartbeats 4000000
namespace RF
open PySem PySem.Spec L2 DL
open PyProof.Rows
variable {ds : List D} {S : Store} {x y : D} {W : Bool -> Store -> Prop}
mutual
def eqD:D->D->Bool
 | .non,.non=>true
 | .bl a,.bl b=>a==b
 | .int a,.int b=>a==b
 | .bl a,.int b=>(if a then 1 else 0)==b
 | .int a,.bl b=>a==(if b then 1 else 0)
 | .str a,.str b=>a==b
 | .tup a,.tup b=>cT a b
 | .lst a,.lst b=>cT a b
 | .dic,.dic=>true
 | _,_=>false
def cT:List D->List D->Bool
 | [],[]=>true
 | a::as,b::bs=>eqD a b&&cT as bs
 | _,_=>false
end
mutual
def okD:D->Bool
 | .tup ds=>bW ds
 | .lst ds=>bW ds
 | .loc _=>false
 | .dic=>false
 | .dlo _=>false
 | _=>true
def bW:List D->Bool
 | []=>true
 | d::ds=>okD d&&bW ds
end
mutual
inductive Sn(K:PySem.W.Frag)(H:Hp):V->D->Prop
 | non:Sn K H .non .non
 | bl(b:Bool):Sn K H (.bl b) (.bl b)
 | int(i:Int):Sn K H (.int i) (.int i)
 | str(x:Str):Sn K H (.str x) (.str x)
 | tup{a:Addr}{xs:List V}{ds:List D}(h:SqT K H a xs)(r:Sns K H xs ds):Sn K H (.ref a) (.tup ds)
 | lst{a:Addr}{xs:List V}{ds:List D}(h:SqL K H a xs)(r:Sns K H xs ds):Sn K H (.ref a) (.lst ds)
inductive Sns(K:PySem.W.Frag)(H:Hp):List V->List D->Prop
 | nil:Sns K H [] []
 | cons{v:V}{d:D}{vs:List V}{ds:List D}(r:Sn K H v d)(t:Sns K H vs ds):Sns K H (v::vs) (d::ds)
end
section
variable {K : PySem.W.Frag} {H : Hp} {O : Own}
theorem Sns.length:∀{vs:List V}{ds:List D},Sns K H vs ds->vs.length=ds.length
 | _,_,.nil=>rfl
 | _,_,.cons _ t=>by simp[Sns.length t]
theorem Sns.get:∀{vs:List V}{ds:List D}{i:Nat}{d:D},Sns K H vs ds->ds[i]? =some d->∃v,vs[i]? =some v/\Sn K H v d
 | _,_,_,_,.nil,e=>by simp at e
 | _,_,0,_,.cons r _,e=>by simp at e;subst e;exact⟨_,rfl,r⟩
 | _,_,i+1,d,.cons _ t,e=>by
   obtain⟨v,h1,h2⟩:=Sns.get (i:=i) (d:=d) t (by simpa using e)
   exact⟨v,by simpa using h1,h2⟩
mutual
theorem zM{v:V}{d:D}(h:okD d=true)(r:Rep K O H v d):Sn K H v d:=by
 cases r with
 | non=>exact .non
 | bl b=>exact .bl b
 | int i=>exact .int i
 | str x=>exact .str x
 | tup h1 r=>exact .tup h1.sq (m9 h r)
 | lst h1 r=>exact .lst h1.sq (m9 h r)
 | loc=>cases h
 | dic=>cases h
 | dlo=>cases h
theorem m9{vs:List V}{ds:List D}(h:bW ds=true)(r:Reps K O H vs ds):Sns K H vs ds:=by
 cases r with
 | nil=>exact .nil
 | cons r t=>
   obtain⟨h1,h2⟩:=aa h
   exact .cons (zM h1 r) (m9 h2 t)
end
end
section
variable {X : Cx} {pins : Pins} {s : Shared} {σ : DL.St} {H : Hp}
mutual
theorem rA(I:Inv X pins σ H s){v:V}{x y:D}(a:Sn X.K H v x)(b:Sn X.K H v y):x=y:=by
 cases a with
 | non=>cases b;rfl
 | bl=>cases b;rfl
 | int=>cases b;rfl
 | str=>cases b;rfl
 | tup h r=>
   cases b with
   | tup h' r'=>
     have e:=I.tuple_inj h h'
     subst e
     rw[rT I r r']
   | lst h' r'=>
     exfalso
     obtain⟨its,_,⟨o,h2,h3,_⟩,_⟩:=I.tuple h
     obtain⟨its2,_,pl,_⟩:=I.list h'
     obtain⟨o',h2',h3',_⟩:=pl.isList
     rw[h2]at h2'
     cases h2'
     rw[h3]at h3'
     exact absurd h3' (by decide)
 | lst h r=>
   cases b with
   | lst h' r'=>
     have e:=I.list_inj h h'
     subst e
     rw[rT I r r']
   | tup h' r'=>
     exfalso
     obtain⟨its,_,⟨o,h2,h3,_⟩,_⟩:=I.tuple h'
     obtain⟨its2,_,pl,_⟩:=I.list h
     obtain⟨o',h2',h3',_⟩:=pl.isList
     rw[h2]at h2'
     cases h2'
     rw[h3]at h3'
     exact absurd h3' (by decide)
theorem rT(I:Inv X pins σ H s){vs:List V}{xs ys:List D}(a:Sns X.K H vs xs)(b:Sns X.K H vs ys):xs=ys:=by
 cases a with
 | nil=>cases b;rfl
 | cons r t=>
   cases b with
   | cons r' t'=>rw[rA I r r',rT I t t']
end
end
theorem Oh(a b:List D):eqD (.tup a) (.tup b)=cT a b:=rfl
theorem MJ(a b:List D):eqD (.lst a) (.lst b)=cT a b:=rfl
mutual
theorem j9:∀(x:D),ao x=true->eqD x x=true
 | .non,_=>rfl
 | .bl b,_=>beq_self_eq_true b
 | .int i,_=>beq_self_eq_true i
 | .str s,_=>beq_self_eq_true s
 | .tup ds,h=>lN ds h
 | .lst ds,h=>lN ds h
 | .loc _,h=>by cases h
 | .dlo _,h=>by cases h
 | .dic,_=>rfl
theorem lN:∀(xs:List D),aq xs=true->cT xs xs=true
 | [],_=>rfl
 | d::ds,h=>by
   obtain⟨h1,h2⟩:=aa (show(ao d&&aq ds)=true from h)
   show(eqD d d&&cT ds ds)=true
   rw[j9 d h1,lN ds h2]
   rfl
end
abbrev eqJ(ds es:List D)(j:Nat):Bool:=eqD (ds.getD j .non) (es.getD j .non)
theorem J9(d e:D)(ds es:List D):(eqJ (d::ds) (e::es)) ∘ Nat.succ=eqJ ds es:=by
 funext j;simp[eqJ,List.getD]
theorem j6:∀(ds es:List D),((List.range (min ds.length es.length)).all (eqJ ds es)&&ds.length==es.length)=cT ds es
 | [],[]=>by simp[cT]
 | [],e::es=>by simp[cT]
 | d::ds,[]=>by simp[cT]
 | d::ds,e::es=>by
   have ih:=j6 ds es
   have h1:min (d::ds).length (e::es).length=min ds.length es.length+1:=by simp only[List.length_cons];omega
   rw[h1,List.range_succ_eq_map,List.all_cons,List.all_map,J9]
   have h2:((d::ds).length==(e::es).length)=(ds.length==es.length):=by simp
   have h3:eqJ (d::ds) (e::es) 0=eqD d e:=by simp[eqJ,List.getD]
   rw[h2,h3,Bool.and_assoc,ih]
   simp only[cT]
theorem Jx{es:List D}(h:ds.length=es.length):(List.range ds.length).all (eqJ ds es)=cT ds es:=by
 rw[←j6 ds es,←h,Nat.min_self,beq_self_eq_true,Bool.and_true]
theorem M6{es:List D}(h:ds.length≠es.length):cT ds es=false:=by
 rw[←j6 ds es]
 have:(ds.length==es.length)=false:=by simpa using h
 rw[this,Bool.and_false]
section
variable {X : Cx}
theorem tM{n:Nat}(ih:∀(x y:D),deep x≤n->∀{pins:Pins}{s:Shared}{σ:DL.St}{H:Hp}{v w:V}{u u':Value}{A:Around},Inv X pins σ H s->Sn X.K H v x->Sn X.K H w y->RelV v u->RelV w u'->A.units+n<cLine->SeqAt.EqAt A s u u' (eqD x y))
 (x y:D)(hx:deep x≤n+1){pins:Pins}{s:Shared}{σ:DL.St}{H:Hp}{v w:V}{u u':Value}{A:Around}(I:Inv X pins σ H s)(r1:Sn X.K H v x)(r2:Sn X.K H w y)(ru:RelV v u)(ru':RelV w u')(hu:A.units+(n+1)<cLine):
 SeqAt.RcAt A s u u' (eqD x y)/\SeqAt.RcNeAt A s u u' (!eqD x y):=by
 have hu0:A.units<cLine:=by omega
 have part:∀{ds es:List D}{xs ys:List V}{its its2:List Value},bc ds≤n->Sns X.K H xs ds->Sns X.K H ys es->Vals xs its->Vals ys its2->∀j(h1:j<its.toArray.size)(h2:j<its2.toArray.size),SeqAt.EqAt A.in1 s its.toArray[j] its2.toArray[j] (eqJ ds es j):=by
  intro ds es xs ys its its2 hd q1 q2 v1 v2 j j1 j2
  have l1:its.length=ds.length:=by rw[←v1.length,q1.length]
  have l2:its2.length=es.length:=by rw[←v2.length,q2.length]
  have hj:j<ds.length:=by simpa[l1]using j1
  have hj2:j<es.length:=by simpa[l2]using j2
  obtain⟨z1,a1,b1⟩:=q1.get (y0 hj)
  obtain⟨z2,a2,b2⟩:=q2.get (y0 hj2)
  obtain⟨u1,c1,d1⟩:=v1.get a1
  obtain⟨u2,c2,d2⟩:=v2.get a2
  have e1:its.toArray[j]=u1:=by have:=(z0.mp c1).2;simpa using this
  have e2:its2.toArray[j]=u2:=by have:=(z0.mp c2).2;simpa using this
  rw[e1,e2]
  have e3:eqJ ds es j=eqD ds[j] es[j]:=by simp[eqJ,List.getD,hj,hj2]
  rw[e3]
  have hd':=dz (y0 hj)
  exact ih ds[j] es[j] (by omega) I b1 b2 d1 d2 (by show A.units+1+n<cLine;omega)
 cases r1 with
 | non=>
   cases ru
   cases r2 with
   | non=>cases ru';exact⟨SeqAt.RcAt.none_none,SeqAt.RcNeAt.none_none⟩
   | bl b=>cases ru';exact⟨SeqAt.RcAt.none_bool b,SeqAt.RcNeAt.none_bool b⟩
   | int i=>obtain⟨t',rfl⟩:=ru';exact⟨SeqAt.RcAt.none_int i t',SeqAt.RcNeAt.none_int i t'⟩
   | str i=>obtain⟨t',rfl⟩:=ru';exact⟨SeqAt.RcAt.none_str i t',SeqAt.RcNeAt.none_str i t'⟩
   | tup h2 q2=>
     cases ru';obtain⟨its2,v2,p2,_⟩:=I.tuple h2
     exact⟨SeqAt.RcAt.none_tuple (show s.heap.IsTuple _ its2.toArray from p2) hu0,SeqAt.RcNeAt.none_tuple (show s.heap.IsTuple _ its2.toArray from p2) hu0⟩
   | lst h2 q2=>
     cases ru';obtain⟨its2,v2,p2,_⟩:=I.list h2
     exact⟨SeqAt.RcAt.none_list p2.isList hu0,SeqAt.RcNeAt.none_list p2.isList hu0⟩
 | bl a=>
   cases ru
   cases r2 with
   | non=>cases ru';exact⟨SeqAt.RcAt.bool_none a,SeqAt.RcNeAt.bool_none a⟩
   | bl b=>cases ru';exact⟨SeqAt.RcAt.bool_bool a b,SeqAt.RcNeAt.bool_bool a b⟩
   | int i=>obtain⟨t',rfl⟩:=ru';exact⟨SeqAt.RcAt.bool_int a i t',SeqAt.RcNeAt.bool_int a i t'⟩
   | str i=>obtain⟨t',rfl⟩:=ru';exact⟨SeqAt.RcAt.bool_str a i t',SeqAt.RcNeAt.bool_str a i t'⟩
   | tup h2 q2=>
     cases ru';obtain⟨its2,v2,p2,_⟩:=I.tuple h2
     exact⟨SeqAt.RcAt.bool_tuple a (show s.heap.IsTuple _ its2.toArray from p2) hu0,SeqAt.RcNeAt.bool_tuple a (show s.heap.IsTuple _ its2.toArray from p2) hu0⟩
   | lst h2 q2=>
     cases ru';obtain⟨its2,v2,p2,_⟩:=I.list h2
     exact⟨SeqAt.RcAt.bool_list a p2.isList hu0,SeqAt.RcNeAt.bool_list a p2.isList hu0⟩
 | int a=>
   obtain⟨t,rfl⟩:=ru
   cases r2 with
   | non=>cases ru';exact⟨SeqAt.RcAt.int_none a t,SeqAt.RcNeAt.int_none a t⟩
   | bl b=>cases ru';exact⟨SeqAt.RcAt.int_bool a t b,SeqAt.RcNeAt.int_bool a t b⟩
   | int i=>obtain⟨t',rfl⟩:=ru';exact⟨SeqAt.RcAt.int_int a t i t',SeqAt.RcNeAt.int_int a t i t'⟩
   | str i=>obtain⟨t',rfl⟩:=ru';exact⟨SeqAt.RcAt.int_str a t i t',SeqAt.RcNeAt.int_str a t i t'⟩
   | tup h2 q2=>
     cases ru';obtain⟨its2,v2,p2,_⟩:=I.tuple h2
     exact⟨SeqAt.RcAt.int_tuple a t (show s.heap.IsTuple _ its2.toArray from p2) hu0,SeqAt.RcNeAt.int_tuple a t (show s.heap.IsTuple _ its2.toArray from p2) hu0⟩
   | lst h2 q2=>
     cases ru';obtain⟨its2,v2,p2,_⟩:=I.list h2
     exact⟨SeqAt.RcAt.int_list a t p2.isList hu0,SeqAt.RcNeAt.int_list a t p2.isList hu0⟩
 | str a=>
   obtain⟨t,rfl⟩:=ru
   cases r2 with
   | non=>cases ru';exact⟨SeqAt.RcAt.str_none a t,SeqAt.RcNeAt.str_none a t⟩
   | bl b=>cases ru';exact⟨SeqAt.RcAt.str_bool a t b,SeqAt.RcNeAt.str_bool a t b⟩
   | int i=>obtain⟨t',rfl⟩:=ru';exact⟨SeqAt.RcAt.str_int a t i t',SeqAt.RcNeAt.str_int a t i t'⟩
   | str i=>obtain⟨t',rfl⟩:=ru';exact⟨SeqAt.RcAt.str_str a t i t',SeqAt.RcNeAt.str_str a t i t'⟩
   | tup h2 q2=>
     cases ru';obtain⟨its2,v2,p2,_⟩:=I.tuple h2
     exact⟨SeqAt.RcAt.str_tuple a t (show s.heap.IsTuple _ its2.toArray from p2) hu0,SeqAt.RcNeAt.str_tuple a t (show s.heap.IsTuple _ its2.toArray from p2) hu0⟩
   | lst h2 q2=>
     cases ru';obtain⟨its2,v2,p2,_⟩:=I.list h2
     exact⟨SeqAt.RcAt.str_list a t p2.isList hu0,SeqAt.RcNeAt.str_list a t p2.isList hu0⟩
 | @tup a xs ds h1 q1=>
   cases ru
   obtain⟨its,v1,p1,_⟩:=I.tuple h1
   have p1:s.heap.IsTuple a its.toArray:=p1
   cases r2 with
   | non=>cases ru';exact⟨SeqAt.RcAt.tuple_none p1 hu0,SeqAt.RcNeAt.tuple_none p1 hu0⟩
   | bl b=>cases ru';exact⟨SeqAt.RcAt.tuple_bool b p1 hu0,SeqAt.RcNeAt.tuple_bool b p1 hu0⟩
   | int i=>obtain⟨t',rfl⟩:=ru';exact⟨SeqAt.RcAt.tuple_int i t' p1 hu0,SeqAt.RcNeAt.tuple_int i t' p1 hu0⟩
   | str i=>obtain⟨t',rfl⟩:=ru';exact⟨SeqAt.RcAt.tuple_str i t' p1 hu0,SeqAt.RcNeAt.tuple_str i t' p1 hu0⟩
   | @tup b ys es h2 q2=>
     cases ru'
     obtain⟨its2,v2,p2,_⟩:=I.tuple h2
     have p2:s.heap.IsTuple b its2.toArray:=p2
     have l1:its.toArray.size=ds.length:=by rw[w9,←v1.length,q1.length]
     have l2:its2.toArray.size=es.length:=by rw[w9,←v2.length,q2.length]
     have hd:bc ds≤n:=by simp[deep]at hx;exact hx
     have a1:=SeqAt.RcAt.tuples (e:=eqJ ds es) p1 p2 hu0 (part hd q1 q2 v1 v2)
     have a2:=SeqAt.RcNeAt.tuples (e:=eqJ ds es) p1 p2 hu0 (part hd q1 q2 v1 v2)
     rw[l1,l2,j6]at a1 a2
     rw[Oh]
     exact⟨a1,a2⟩
   | lst h2 q2=>
     cases ru';obtain⟨its2,v2,p2,_⟩:=I.list h2
     exact⟨SeqAt.RcAt.tuple_list p1 p2.isList hu0,SeqAt.RcNeAt.tuple_list p1 p2.isList hu0⟩
 | @lst a xs ds h1 q1=>
   cases ru
   obtain⟨its,v1,p1,_⟩:=I.list h1
   have p1:=p1.isList
   cases r2 with
   | non=>cases ru';exact⟨SeqAt.RcAt.list_none p1 hu0,SeqAt.RcNeAt.list_none p1 hu0⟩
   | bl b=>cases ru';exact⟨SeqAt.RcAt.list_bool b p1 hu0,SeqAt.RcNeAt.list_bool b p1 hu0⟩
   | int i=>obtain⟨t',rfl⟩:=ru';exact⟨SeqAt.RcAt.list_int i t' p1 hu0,SeqAt.RcNeAt.list_int i t' p1 hu0⟩
   | str i=>obtain⟨t',rfl⟩:=ru';exact⟨SeqAt.RcAt.list_str i t' p1 hu0,SeqAt.RcNeAt.list_str i t' p1 hu0⟩
   | tup h2 q2=>
     cases ru';obtain⟨its2,v2,p2,_⟩:=I.tuple h2
     exact⟨SeqAt.RcAt.list_tuple p1 (show s.heap.IsTuple _ its2.toArray from p2) hu0,SeqAt.RcNeAt.list_tuple p1 (show s.heap.IsTuple _ its2.toArray from p2) hu0⟩
   | @lst b ys es h2 q2=>
     cases ru'
     obtain⟨its2,v2,p2,_⟩:=I.list h2
     have p2:=p2.isList
     have l1:its.toArray.size=ds.length:=by rw[w9,←v1.length,q1.length]
     have l2:its2.toArray.size=es.length:=by rw[w9,←v2.length,q2.length]
     have hd:bc ds≤n:=by simp[deep]at hx;exact hx
     rw[MJ]
     by_cases hl:ds.length=es.length
     . have a1:=SeqAt.RcAt.lists (e:=eqJ ds es) p1 p2 (by rw[l1,l2,hl]) hu0 (part hd q1 q2 v1 v2)
       have a2:=SeqAt.RcNeAt.lists (e:=eqJ ds es) p1 p2 (by rw[l1,l2,hl]) hu0 (part hd q1 q2 v1 v2)
       rw[l1,Jx hl]at a1 a2
       exact⟨a1,a2⟩
     . have z:(its.toArray.size !=its2.toArray.size)=true:=by rw[l1,l2];simpa using hl
       rw[M6 hl]
       exact⟨SeqAt.RcAt.lists_lengths p1 p2 z hu0,SeqAt.RcNeAt.lists_lengths p1 p2 z hu0⟩
theorem z9:∀{K:PySem.W.Frag}{H:Hp}{v:V}{x:D},Sn K H v x->ao x=true:=by
 intro K H v x h
 refine Sn.rec (motive_1:=λ v x _=>ao x=true) (motive_2:=λ vs xs _=>aq xs=true) ?_ ?_ ?_ ?_ ?_ ?_ ?_ ?_ h
 . simp[ao]
 . intro b;simp[ao]
 . intro b;simp[ao]
 . intro b;simp[ao]
 . intro a xs ds h r ih;simpa[ao]using ih
 . intro a xs ds h r ih;simpa[ao]using ih
 . simp[aq]
 . intro v d vs ds r t ih1 ih2;simp[aq,ih1,ih2]
theorem Jo (n:Nat):∀(x y:D),deep x≤n->∀{pins:Pins}{s:Shared}{σ:DL.St}{H:Hp}{v w:V}{u u':Value}{A:Around},Inv X pins σ H s->Sn X.K H v x->Sn X.K H w y->RelV v u->RelV w u'->A.units+n<cLine->SeqAt.EqAt A s u u' (eqD x y):=by
 induction n with
 | zero=>
   intro x y hx pins s σ H v w u u' A I r1 r2 ru ru' hu
   cases r1 with
   | non=>
     cases ru
     cases r2 with
     | non=>cases ru';exact SeqAt.EqAt.same _
     | bl b=>cases ru';exact SeqAt.EqAt.none_bool b
     | int i=>obtain⟨t',rfl⟩:=ru';exact SeqAt.EqAt.none_int i t'
     | str i=>obtain⟨t',rfl⟩:=ru';exact SeqAt.EqAt.none_str i t'
     | tup h2 q2=>cases ru';obtain⟨its2,v2,p2,_⟩:=I.tuple h2;exact SeqAt.EqAt.none_tuple (show s.heap.IsTuple _ its2.toArray from p2) (by omega)
     | lst h2 q2=>cases ru';obtain⟨its2,v2,p2,_⟩:=I.list h2;exact SeqAt.EqAt.none_list p2.isList (by omega)
   | bl a=>
     cases ru
     cases r2 with
     | non=>cases ru';exact SeqAt.EqAt.bool_none a
     | bl b=>cases ru';exact SeqAt.EqAt.bool_bool a b
     | int i=>obtain⟨t',rfl⟩:=ru';exact SeqAt.EqAt.bool_int a i t'
     | str i=>obtain⟨t',rfl⟩:=ru';exact SeqAt.EqAt.bool_str a i t'
     | tup h2 q2=>cases ru';obtain⟨its2,v2,p2,_⟩:=I.tuple h2;exact SeqAt.EqAt.bool_tuple a (show s.heap.IsTuple _ its2.toArray from p2) (by omega)
     | lst h2 q2=>cases ru';obtain⟨its2,v2,p2,_⟩:=I.list h2;exact SeqAt.EqAt.bool_list a p2.isList (by omega)
   | int a=>
     obtain⟨t,rfl⟩:=ru
     cases r2 with
     | non=>cases ru';exact SeqAt.EqAt.int_none a t
     | bl b=>cases ru';exact SeqAt.EqAt.int_bool a t b
     | int i=>obtain⟨t',rfl⟩:=ru';exact SeqAt.EqAt.int_int a t i t'
     | str i=>obtain⟨t',rfl⟩:=ru';exact SeqAt.EqAt.int_str a t i t'
     | tup h2 q2=>cases ru';obtain⟨its2,v2,p2,_⟩:=I.tuple h2;exact SeqAt.EqAt.int_tuple a t (show s.heap.IsTuple _ its2.toArray from p2) (by omega)
     | lst h2 q2=>cases ru';obtain⟨its2,v2,p2,_⟩:=I.list h2;exact SeqAt.EqAt.int_list a t p2.isList (by omega)
   | str a=>
     obtain⟨t,rfl⟩:=ru
     cases r2 with
     | non=>cases ru';exact SeqAt.EqAt.str_none a t
     | bl b=>cases ru';exact SeqAt.EqAt.str_bool a t b
     | int i=>obtain⟨t',rfl⟩:=ru';exact SeqAt.EqAt.str_int a t i t'
     | str i=>obtain⟨t',rfl⟩:=ru';exact SeqAt.EqAt.str_str a t i t'
     | tup h2 q2=>cases ru';obtain⟨its2,v2,p2,_⟩:=I.tuple h2;exact SeqAt.EqAt.str_tuple a t (show s.heap.IsTuple _ its2.toArray from p2) (by omega)
     | lst h2 q2=>cases ru';obtain⟨its2,v2,p2,_⟩:=I.list h2;exact SeqAt.EqAt.str_list a t p2.isList (by omega)
   | tup _ _=>simp[deep]at hx
   | lst _ _=>simp[deep]at hx
 | succ n ih=>
   intro x y hx pins s σ H v w u u' A I r1 r2 ru ru' hu
   by_cases h0:deep x≤n
   . exact ih x y h0 I r1 r2 ru ru' (by omega)
   . have both:=tM ih x y hx I r1 r2 ru ru' hu
     cases r1 with
     | non=>simp[deep]at h0
     | bl b=>simp[deep]at h0
     | int b=>simp[deep]at h0
     | str b=>simp[deep]at h0
     | @tup a xs ds h1 q1=>
       cases ru
       obtain⟨its,v1,p1,_⟩:=I.tuple h1
       have p1:s.heap.IsTuple a its.toArray:=p1
       cases r2 with
       | non=>cases ru';exact SeqAt.EqAt.tuple_none p1 (by omega)
       | bl b=>cases ru';exact SeqAt.EqAt.tuple_bool b p1 (by omega)
       | int i=>obtain⟨t',rfl⟩:=ru';exact SeqAt.EqAt.tuple_int i t' p1 (by omega)
       | str i=>obtain⟨t',rfl⟩:=ru';exact SeqAt.EqAt.tuple_str i t' p1 (by omega)
       | @tup b ys es h2 q2=>
         cases ru'
         by_cases e:a=b
         . subst e
           have e2:=rA I (.tup h1 q1) (.tup h2 q2)
           rw[←e2,j9 _ (z9 (.tup h1 q1))]
           exact SeqAt.EqAt.same _
         . exact SeqAt.EqAt.of_refs e both.1
       | @lst b ys es h2 q2=>
         cases ru';obtain⟨its2,v2,p2,_⟩:=I.list h2;exact SeqAt.EqAt.tuple_list p1 p2.isList (by omega)
     | @lst a xs ds h1 q1=>
       cases ru
       obtain⟨its,v1,p1,_⟩:=I.list h1
       have p1:=p1.isList
       cases r2 with
       | non=>cases ru';exact SeqAt.EqAt.list_none p1 (by omega)
       | bl b=>cases ru';exact SeqAt.EqAt.list_bool b p1 (by omega)
       | int i=>obtain⟨t',rfl⟩:=ru';exact SeqAt.EqAt.list_int i t' p1 (by omega)
       | str i=>obtain⟨t',rfl⟩:=ru';exact SeqAt.EqAt.list_str i t' p1 (by omega)
       | tup h2 q2=>cases ru';obtain⟨its2,v2,p2,_⟩:=I.tuple h2;exact SeqAt.EqAt.list_tuple p1 (show s.heap.IsTuple _ its2.toArray from p2) (by omega)
       | @lst b ys es h2 q2=>
         cases ru'
         by_cases e:a=b
         . subst e
           have e2:=rA I (.lst h1 q1) (.lst h2 q2)
           rw[←e2,j9 _ (z9 (.lst h1 q1))]
           exact SeqAt.EqAt.same _
         . exact SeqAt.EqAt.of_refs e both.1
def vw(S:Store):D->D
 | .loc k=>match S[k]? with | some ds=>.lst ds | none=>.loc k
 | d=>d
def Ef(S:Store)(x y:D):Prop:=okD (vw S x)=true/\okD (vw S y)=true/\deep (vw S x)≤50
theorem iK{K:PySem.W.Frag}{O:Own}{H:Hp}{v:V}(st:StOk K O H S)(r:Rep K O H v x)(h:okD (vw S x)=true):Sn K H v (vw S x):=by
 cases r with
 | @loc a k hk=>
   simp only[vw]at h ⊢
   have hl:k<S.length:=by rw[←st.len];exact(z0.mp hk).1
   obtain⟨xs,hx,q⟩:=st.obj k a S[k] hk (y0 hl)
   rw[y0 hl]at h ⊢
   exact .lst (SqL.of hx) (m9 (by simpa[okD]using h) q)
 | non=>exact .non
 | bl b=>exact .bl b
 | int i=>exact .int i
 | str i=>exact .str i
 | tup h1 q1=>exact zM h (.tup h1 q1)
 | lst h1 q1=>exact zM h (.lst h1 q1)
 | dic h1 e1=>simp[vw,okD]at h
 | dlo h1 _=>simp[vw,okD]at h
theorem U6(hu:X.A.units+60<cLine)(h:Ef S x y)(w:W (eqD (vw S x) (vw S y)) S):aV X .Eq x y S (asB W):=by
 intro pins s σ H O v w' u u' I st r1 r2 r3 r4
 obtain⟨h1,h2,h3⟩:=h
 have:=(tM (n:=50) (A:=X.A) (Jo 50) (vw S x) (vw S y) (by omega) I (iK st r1 h1) (iK st r2 h2) r3 r4 (by omega)).1
 exact this _ _ _ _ ⟨.bl _,H,I,rfl,QG.here ⟨_,rfl,w⟩ st (.bl _)⟩
theorem Vd(hu:X.A.units+60<cLine)(h:Ef S x y)(w:W (!eqD (vw S x) (vw S y)) S):aV X .NotEq x y S (asB W):=by
 intro pins s σ H O v w' u u' I st r1 r2 r3 r4
 obtain⟨h1,h2,h3⟩:=h
 have:=(tM (n:=50) (A:=X.A) (Jo 50) (vw S x) (vw S y) (by omega) I (iK st r1 h1) (iK st r2 h2) r3 r4 (by omega)).2
 exact this _ _ _ _ ⟨.bl _,H,I,rfl,QG.here ⟨_,rfl,w⟩ st (.bl _)⟩
theorem oN:∀{xs:List V}{its:List Value}{i:Nat}{v:V},Vals xs its->xs[i]? =some v->∃y,its[i]? =some y/\RelV v y
 | _,_,_,_,.nil,e=>by simp at e
 | _,_,0,_,.cons a _,e=>by simp at e;subst e;exact⟨_,rfl,a⟩
 | _,_,i+1,v,.cons _ t,e=>by
   obtain⟨y,h1,h2⟩:=oN (i:=i) (v:=v) t (by simpa using e)
   exact⟨y,by simpa using h1,h2⟩
theorem Ci{pins:Pins}{s:Shared}{σ:DL.St}{H:Hp}{v w':V}{u u':Value}(hu:X.A.units+60<cLine)(I:Inv X pins σ H s)(sx:Sn X.K H v x)(sy:Sn X.K H w' (.lst ds))(r3:RelV v u)(r4:RelV w' u')(h3:bc ds≤50):
 ∃(l:Addr) (its:List Value) (e:Value->Bool),u'=.ref l/\s.heap.IsList l its.toArray/\(∀y,y∈its.toArray->SeqAt.EqAt X.A.in1 s y u (e y))/\its.toArray.any e=ds.any λ d=>eqD d x:=by
 classical
 cases sy with
 | @lst a xs _ h1 q1=>
   cases r4
   obtain⟨its,rv,pl,hz⟩:=I.list h1
   let e:Value->Bool:=λ y=>decide (∃(v':V) (d:D),RelV v' y/\Sn X.K H v' d/\eqD d x=true)
   have ev:∀(y:Value)(v':V)(d:D),RelV v' y->Sn X.K H v' d->e y=eqD d x:=by
    intro y v' d hr hs
    cases hd:eqD d x with
    | true=>exact decide_eq_true ⟨v',d,hr,hs,hd⟩
    | false=>
      refine decide_eq_false ?_
      rintro⟨v2,d2,hr2,hs2,hd2⟩
      have ev':=hr2.inj hr
      subst ev'
      have:=rA I hs2 hs
      subst this
      rw[hd]at hd2;cases hd2
   refine⟨a,its,e,rfl,pl.isList,?_,?_⟩
   . intro y hy
     have hy':y∈its:=by simpa using hy
     obtain⟨i,hi⟩:=List.getElem?_of_mem hy'
     have hlt:i<xs.length:=by rw[rv.length];exact(z0.mp hi).1
     obtain⟨d,hd⟩:∃d,ds[i]? =some d:=⟨_,y0 (by rw[←q1.length];exact hlt)⟩
     obtain⟨v',hv',hs⟩:=q1.get hd
     obtain⟨y',hy2,hr⟩:=oN rv hv'
     rw[hi]at hy2;cases hy2
     rw[ev y v' d hr hs]
     exact Jo 50 d x (Nat.le_trans (dz hd) h3) I hs sx hr r3 (by show X.A.units+1+50<cLine;omega)
   . have hlen:its.length=ds.length:=by rw[←rv.length,q1.length]
     have main:∀(xs:List V)(its:List Value)(ds:List D),Vals xs its->Sns X.K H xs ds->its.any e=ds.any λ d=>eqD d x:=by
      intro xs its ds rv q1
      induction rv generalizing ds with
      | nil=>cases q1;rfl
      | cons hr _ ih=>
        cases q1 with
        | cons hs ht=>rw[List.any_cons,List.any_cons,ev _ _ _ hr hs,ih _ ht]
     rw[List.any_toArray]
     exact main xs its ds rv q1
theorem Uj(hu:X.A.units+60<cLine)(hy:vw S y=.lst ds)(h1:okD (vw S x)=true)(h2:bW ds=true)(h3:bc ds≤50)(w:W (ds.any λ d=>eqD d (vw S x)) S):aV X .In x y S (asB W):=by
 intro pins s σ H O v w' u u' I st r1 r2 r3 r4
 have sy:=iK st r2 (by rw[hy];simpa[okD]using h2)
 rw[hy]at sy
 obtain⟨l,its,e,rfl,hl,he,ha⟩:=Ci hu I (iK st r1 h1) sy r3 r4 h3
 refine SeqAt.in_listAt e hl he ?_
 rw[ha]
 exact⟨.bl _,H,I,rfl,QG.here ⟨_,rfl,w⟩ st (.bl _)⟩
theorem Px(hu:X.A.units+60<cLine)(hy:vw S y=.lst ds)(h1:okD (vw S x)=true)(h2:bW ds=true)(h3:bc ds≤50)(w:W (!(ds.any λ d=>eqD d (vw S x))) S):aV X .NotIn x y S (asB W):=by
 intro pins s σ H O v w' u u' I st r1 r2 r3 r4
 have sy:=iK st r2 (by rw[hy];simpa[okD]using h2)
 rw[hy]at sy
 obtain⟨l,its,e,rfl,hl,he,ha⟩:=Ci hu I (iK st r1 h1) sy r3 r4 h3
 refine SeqAt.notIn_listAt e hl he ?_
 rw[ha]
 exact⟨.bl _,H,I,rfl,QG.here ⟨_,rfl,w⟩ st (.bl _)⟩
end
end RF
namespace RF
open PySem PySem.Spec L2 DL
open PyProof.Rows
variable {X : Cx}
def isN:D->Bool
 | .non=>true
 | _=>false
theorem Rz{a b:Bool}{S:Store}{W:Bool->Store->Prop}(w:W (a==b) S):aV X .Is (.bl a) (.bl b) S (asB W):=by
 intro pins s σ H O v w' u u' I st r1 r2 r3 r4
 cases r1;cases r2;cases r3;cases r4
 refine wpAny_is_plain rfl ?_
 have e:(Value.bool a==Value.bool b)=(a==b):=by cases a<;>cases b<;>rfl
 rw[e]
 exact⟨.bl _,H,I,rfl,QG.here ⟨_,rfl,w⟩ st (.bl _)⟩
theorem GK{a b:Bool}{S:Store}{W:Bool->Store->Prop}(w:W (!(a==b)) S):aV X .IsNot (.bl a) (.bl b) S (asB W):=by
 intro pins s σ H O v w' u u' I st r1 r2 r3 r4
 cases r1;cases r2;cases r3;cases r4
 refine wpAny_isNot_plain rfl ?_
 have e:(Value.bool a==Value.bool b)=(a==b):=by cases a<;>cases b<;>rfl
 rw[e]
 exact⟨.bl _,H,I,rfl,QG.here ⟨_,rfl,w⟩ st (.bl _)⟩
def bEq(x y:D)(ki:Int->Int->Prop)(kb:Bool->Bool->Prop)(g:Prop):Prop:=match x with
 | .int i=>(match y with
   | .int j=>ki i j
   | _=>g)
 | .bl i=>(match y with
   | .bl j=>kb i j
   | _=>g)
 | _=>g
theorem CQ{x y:D}{ki:Int->Int->Prop}{kb:Bool->Bool->Prop}{g:Prop}(h:bEq x y ki kb g):(∃i j,x=.int i/\y=.int j/\ki i j)∨(∃i j,x=.bl i/\y=.bl j/\kb i j)∨g:=by
 cases x<;>first | exact .inr (.inr h) | (cases y<;>first | exact .inr (.inr h) | exact .inl ⟨_,_,rfl,rfl,h⟩ | exact .inr (.inl ⟨_,_,rfl,rfl,h⟩))
def bIs(x y:D)(n:Prop)(kb:Bool->Bool->Prop):Prop:=match y with
 | .non=>n
 | .bl j=>(match x with
   | .bl i=>kb i j
   | _=>False)
 | _=>False
theorem Cm{x y:D}{n:Prop}{kb:Bool->Bool->Prop}(h:bIs x y n kb):(y=.non/\n)∨∃i j,x=.bl i/\y=.bl j/\kb i j:=by
 cases y<;>first | exact h.elim | exact .inl ⟨rfl,h⟩ | (cases x<;>first | exact h.elim | exact .inr ⟨_,_,rfl,rfl,h⟩)
@[irreducible] noncomputable def aQ(op:CmpOp)(x y:D)(S:Store)(W:Bool->Store->Prop):Prop:=match op with
  | .Lt=>bII x y λ i j=>W (decide (i<j)) S
  | .LtE=>bII x y λ i j=>W (decide (i≤j)) S
  | .Gt=>bII x y λ i j=>W (decide (j<i)) S
  | .GtE=>bII x y λ i j=>W (decide (j≤i)) S
  | .Eq=>bEq x y (λ i j=>W (decide (i=j)) S) (λ i j=>W (i==j) S) (Ef S x y/\W (eqD (vw S x) (vw S y)) S)
  | .NotEq=>bEq x y (λ i j=>W (!decide (i=j)) S) (λ i j=>W (!(i==j)) S) ((Ef S x y/\W (!eqD (vw S x) (vw S y)) S)∨(x=y/\ao x=true/\deep x≤50/\W false S))
  | .Is=>bIs x y (W (isN x) S) λ i j=>W (i==j) S
  | .IsNot=>bIs x y (W (!isN x) S) λ i j=>W (!(i==j)) S
  | .In=>∃ds,vw S y=.lst ds/\okD (vw S x)=true/\bW ds=true/\bc ds≤50/\W (ds.any λ d=>eqD d (vw S x)) S
  | .NotIn=>∃ds,vw S y=.lst ds/\okD (vw S x)=true/\bW ds=true/\bc ds≤50/\W (!(ds.any λ d=>eqD d (vw S x))) S
theorem bM{op:CmpOp}{x y:D}{S:Store}{W:Bool->Store->Prop}{b:Bool}(h:∀V:WD,V (.bl b) S->aV X op x y S V)(w:W b S):aV X op x y S (asB W):=h (asB W) ⟨b,rfl,w⟩
theorem fc{op:CmpOp}{x y:D}{S:Store}{W:Bool->Store->Prop}(hu:X.A.units+60<cLine)(h:aQ op x y S W):aV X op x y S (asB W):=by
 unfold aQ at h
 cases op with
 | Lt=>obtain⟨i,j,rfl,rfl,h⟩:=dM h;exact bM (λ _=>Wk) h
 | LtE=>obtain⟨i,j,rfl,rfl,h⟩:=dM h;exact bM (λ _=>Vz) h
 | Gt=>obtain⟨i,j,rfl,rfl,h⟩:=dM h;exact bM (λ _=>VR) h
 | GtE=>obtain⟨i,j,rfl,rfl,h⟩:=dM h;exact bM (λ _=>VH) h
 | Eq=>
   rcases CQ h with⟨i,j,rfl,rfl,h⟩ | ⟨i,j,rfl,rfl,h⟩ | h
   . exact bM (λ _=>U8) h
   . exact bM (λ _=>Up) h
   . exact U6 hu h.1 h.2
 | NotEq=>
   rcases CQ h with⟨i,j,rfl,rfl,h⟩ | ⟨i,j,rfl,rfl,h⟩ | h | ⟨rfl,h1,h2,h3⟩
   . exact bM (λ _=>UW) h
   . exact bM (λ _=>Vr) h
   . exact Vd hu h.1 h.2
   . exact JH hu h1 h2 ⟨false,rfl,h3⟩
 | Is=>
   rcases Cm h with⟨rfl,h⟩ | ⟨i,j,rfl,rfl,h⟩
   . exact bM (λ V w=>UT w) h
   . exact Rz h
 | IsNot=>
   rcases Cm h with⟨rfl,h⟩ | ⟨i,j,rfl,rfl,h⟩
   . refine bM (λ V w=>NP ?_) h
     cases x<;>exact w
   . exact GK h
 | In=>obtain⟨ds,h1,h2,h3,h4,h5⟩:=h;exact Uj hu h1 h2 h3 h4 h5
 | NotIn=>obtain⟨ds,h1,h2,h3,h4,h5⟩:=h;exact Px hu h1 h2 h3 h4 h5
section
variable {i j : Int} {a b : Bool} {x y : D} {S : Store} {W : Bool -> Store -> Prop}
theorem cLt(w:W (decide (i<j)) S):aQ .Lt (.int i) (.int j) S W:=by unfold aQ;exact w
theorem cLe(w:W (decide (i≤j)) S):aQ .LtE (.int i) (.int j) S W:=by unfold aQ;exact w
theorem cGt(w:W (decide (j<i)) S):aQ .Gt (.int i) (.int j) S W:=by unfold aQ;exact w
theorem cEqI(w:W (decide (i=j)) S):aQ .Eq (.int i) (.int j) S W:=by unfold aQ;exact w
theorem cNeI(w:W (!decide (i=j)) S):aQ .NotEq (.int i) (.int j) S W:=by unfold aQ;exact w
end
set_option genInjectivity false in
structure Ex(Ω:Wd) where
 lev:Nat
 chk:Bool->List Str->Nm->Expr->Bool
 wp:Gam->Store->WD->Prop
 sound:∀{X:Cx}{r:Nat}{top:Bool}{N:List Str}{nm:Nm}{e:Expr}{Γ:Gam}{S:Store}{W:WD},At Ω X r top N nm->lev≤r->chk top N nm e=true->wp Γ S W->Ev X Γ S e W
set_option genInjectivity false in
structure Te(Ω:Wd) where
 lev:Nat
 chk:Bool->List Str->Nm->Expr->Bool
 wp:Gam->Store->(Bool->Store->Prop)->Prop
 sound:∀{X:Cx}{r:Nat}{top:Bool}{N:List Str}{nm:Nm}{e:Expr}{Γ:Gam}{S:Store}{W:Bool->Store->Prop},At Ω X r top N nm->lev≤r->chk top N nm e=true->wp Γ S W->Ts X Γ S e W
set_option genInjectivity false in
structure Ar(Ω:Wd) where
 lev:Nat
 chk:Bool->List Str->Nm->List Expr->Bool
 wp:Gam->Store->(List D->Store->Prop)->Prop
 plain:∀{top:Bool}{N:List Str}{nm:Nm}{es:List Expr},chk top N nm es=true->es.all okE=true
 sound:∀{X:Cx}{r:Nat}{top:Bool}{N:List Str}{nm:Nm}{es:List Expr}{Γ:Gam}{S:Store}{W:List D->Store->Prop},At Ω X r top N nm->lev≤r->chk top N nm es=true->wp Γ S W->EvA X Γ S es W
set_option genInjectivity false in
structure Bo(Ω:Wd) where
 lev:Nat
 chk:Bool->List Str->Nm->List Expr->Bool
 wpA:Gam->Store->WD->Prop
 wpO:Gam->Store->WD->Prop
 ne:∀{top:Bool}{N:List Str}{nm:Nm}{es:List Expr},chk top N nm es=true->∃b rest,es=b::rest
 soundA:∀{X:Cx}{r:Nat}{top:Bool}{N:List Str}{nm:Nm}{es:List Expr}{Γ:Gam}{S:Store}{W:WD}{pos:Pos},At Ω X r top N nm->lev≤r->chk top N nm es=true->wpA Γ S W->Ev X Γ S (.BoolOp .And es pos) W
 soundO:∀{X:Cx}{r:Nat}{top:Bool}{N:List Str}{nm:Nm}{es:List Expr}{Γ:Gam}{S:Store}{W:WD}{pos:Pos},At Ω X r top N nm->lev≤r->chk top N nm es=true->wpO Γ S W->Ev X Γ S (.BoolOp .Or es pos) W
set_option genInjectivity false in
structure Bt(Ω:Wd) where
 lev:Nat
 chk:Bool->List Str->Nm->List Expr->Bool
 wpA:Gam->Store->(Bool->Store->Prop)->Prop
 wpO:Gam->Store->(Bool->Store->Prop)->Prop
 ne:∀{top:Bool}{N:List Str}{nm:Nm}{es:List Expr},chk top N nm es=true->∃b rest,es=b::rest
 soundA:∀{X:Cx}{r:Nat}{top:Bool}{N:List Str}{nm:Nm}{es:List Expr}{Γ:Gam}{S:Store}{W:Bool->Store->Prop}{pos:Pos},At Ω X r top N nm->lev≤r->chk top N nm es=true->wpA Γ S W->TsW X Γ S (.BoolOp .And es pos) W
 soundO:∀{X:Cx}{r:Nat}{top:Bool}{N:List Str}{nm:Nm}{es:List Expr}{Γ:Gam}{S:Store}{W:Bool->Store->Prop}{pos:Pos},At Ω X r top N nm->lev≤r->chk top N nm es=true->wpO Γ S W->TsW X Γ S (.BoolOp .Or es pos) W
theorem At.hu{Ω:Wd}{r:Nat}{top:Bool}{N:List Str}{nm:Nm}(A:At Ω X r top N nm):X.A.units+60<cLine:=by have:=A.room.un;omega
theorem lv2{a b r:Nat}(h:max a b≤r):a≤r/\b≤r:=by omega
variable {Ω : Wd}
def Ex.var(i:Nat):Ex Ω where
 lev:=0
 chk _ N nm e:=match e with | .Name x _=>(N[i]? ==some x)&&(vis nm x&&okN x) | _=>false
 wp Γ S W:=match Γ[i]? with | some (some d)=>W d S | _=>False
 sound:=by
  intro X r top N nm e Γ S W A _ hc hw
  cases e with
  | Name x pos=>
    obtain⟨h1,h2⟩:=aa hc
    obtain⟨h2,h3⟩:=aa h2
    obtain⟨d1,d2,_⟩:=aY h3
    have h1:N[i]? =some x:=eq_of_beq h1
    cases hΓ:Γ[i]? with
    | none=>rw[hΓ]at hw;exact hw.elim
    | some o=>
      cases o with
      | none=>rw[hΓ]at hw;exact hw.elim
      | some d=>
        rw[hΓ]at hw
        exact Ph i hΓ hw (by rw[A.n];exact h1) (A.vis h2) d1 d2
  | _=>exact fE hc
def Ex.int(i:Int):Ex Ω where
 lev:=0
 chk _ _ _ e:=match e with | .Constant (.int j) _ _=>j==i | _=>false
 wp _ S W:=W (.int i) S
 sound:=by
  intro X r top N nm e Γ S W A _ hc hw
  cases e with
  | Constant c k pos=>
    cases c with
    | int j=>have e:j=i:=eq_of_beq hc;subst e;exact Rp hw
    | _=>exact fE hc
  | _=>exact fE hc
def Ex.bl(i:Bool):Ex Ω where
 lev:=0
 chk _ _ _ e:=match e with | .Constant (.bool j) _ _=>j==i | _=>false
 wp _ S W:=W (.bl i) S
 sound:=by
  intro X r top N nm e Γ S W A _ hc hw
  cases e with
  | Constant c k pos=>
    cases c with
    | bool j=>have e:j=i:=eq_of_beq hc;subst e;exact T7 hw
    | _=>exact fE hc
  | _=>exact fE hc
def Ex.non:Ex Ω where
 lev:=0
 chk _ _ _ e:=match e with | .Constant .none _ _=>true | _=>false
 wp _ S W:=W .non S
 sound:=by
  intro X r top N nm e Γ S W A _ hc hw
  cases e with
  | Constant c k pos=>
    cases c with
    | none=>exact Pr hw
    | _=>exact fE hc
  | _=>exact fE hc
def Ex.str(i:Str):Ex Ω where
 lev:=0
 chk _ _ _ e:=match e with | .Constant (.str j) _ _=>j==i | _=>false
 wp _ S W:=W (.str i) S
 sound:=by
  intro X r top N nm e Γ S W A _ hc hw
  cases e with
  | Constant c k pos=>
    cases c with
    | str j=>have e:j=i:=eq_of_beq hc;subst e;exact yc hw
    | _=>exact fE hc
  | _=>exact fE hc
def Ex.gint{x:Str}{i:Int}(h:∃t,Ω.mg x=some (.int i t)):Ex Ω where
 lev:=0
 chk _ _ nm e:=match e with | .Name y _=>(y==x)&&(glb nm x&&okN x) | _=>false
 wp _ S W:=W (.int i) S
 sound:=by
  intro X r top N nm e Γ S W A _ hc hw
  cases e with
  | Name y pos=>
    obtain⟨h1,h2⟩:=aa hc
    obtain⟨h2,h3⟩:=aa h2
    have e:y=x:=eq_of_beq h1
    subst e
    obtain⟨t,h⟩:=h
    exact Ku (by rw[A.g];exact h) hw (A.glb h2) (aY h3).1
  | _=>exact fE hc
def Ex.bin(op:Operator)(a b:Ex Ω):Ex Ω where
 lev:=max a.lev b.lev
 chk top N nm e:=match e with | .BinOp l o r _=>(o==op)&&(a.chk top N nm l&&b.chk top N nm r) | _=>false
 wp Γ S W:=a.wp Γ S λ x S1=>b.wp Γ S1 λ y S2=>Em op x y S2 W
 sound:=by
  intro X r top N nm e Γ S W A hl hc hw
  obtain⟨l1,l2⟩:=lv2 hl
  cases e with
  | BinOp l o r' pos=>
    obtain⟨h1,h2⟩:=aa hc
    obtain⟨h2,h3⟩:=aa h2
    have e:o=op:=eq_of_beq h1
    subst e
    exact qZ ((a.sound A l1 h2 hw).mono λ x S1 q=>(b.sound A l2 h3 q).mono λ y S2 q=>yH q)
  | _=>exact fE hc
def Ex.cmp(op:CmpOp)(a b:Ex Ω):Ex Ω where
 lev:=max a.lev b.lev
 chk top N nm e:=match e with | .Compare l [o] [r] _=>(o==op)&&(okE r&&(a.chk top N nm l&&b.chk top N nm r)) | _=>false
 wp Γ S W:=a.wp Γ S λ x S1=>b.wp Γ S1 λ y S2=>aQ op x y S2 λ c S3=>W (.bl c) S3
 sound:=by
  intro X r top N nm e Γ S W A hl hc hw
  obtain⟨l1,l2⟩:=lv2 hl
  cases e with
  | Compare l os rs pos=>
    match os,rs,hc with
    | [o],[r'],hc=>
      obtain⟨h1,h2⟩:=aa hc
      obtain⟨h0,h2⟩:=aa h2
      obtain⟨h2,h3⟩:=aa h2
      have e:o=op:=eq_of_beq h1
      subst e
      exact Gm ((a.sound A l1 h2 hw).mono λ x S1 q=>(b.sound A l2 h3 q).mono λ y S2 q=>(fc A.hu q).mono λ d S3 ⟨c,e,w⟩=>by subst e;exact w) (dB h0)
    | [],_,hc=>exact fE hc
    | [_],[],hc=>exact fE hc
    | [_],_::_::_,hc=>exact fE hc
    | _::_::_,_,hc=>exact fE hc
  | _=>exact fE hc
def Te.cmp(op:CmpOp)(a b:Ex Ω):Te Ω where
 lev:=max a.lev b.lev
 chk top N nm e:=match e with | .Compare l [o] [r] _=>(o==op)&&(okE r&&(a.chk top N nm l&&b.chk top N nm r)) | _=>false
 wp Γ S W:=a.wp Γ S λ x S1=>b.wp Γ S1 λ y S2=>aQ op x y S2 W
 sound:=by
  intro X r top N nm e Γ S W A hl hc hw
  obtain⟨l1,l2⟩:=lv2 hl
  cases e with
  | Compare l os rs pos=>
    match os,rs,hc with
    | [o],[r'],hc=>
      obtain⟨h1,h2⟩:=aa hc
      obtain⟨h0,h2⟩:=aa h2
      obtain⟨h2,h3⟩:=aa h2
      have e:o=op:=eq_of_beq h1
      subst e
      exact TY ((a.sound A l1 h2 hw).mono λ x S1 q=>(b.sound A l2 h3 q).mono λ y S2 q=>fc A.hu q) (dB h0)
    | [],_,hc=>exact fE hc
    | [_],[],hc=>exact fE hc
    | [_],_::_::_,hc=>exact fE hc
    | _::_::_,_,hc=>exact fE hc
  | _=>exact fE hc
abbrev LK(a:Ex Ω)(o1:CmpOp)(b:Ex Ω)(o2:CmpOp)(c:Ex Ω)(Γ:Gam)(S:Store)(W:Bool->Store->Prop):Prop:=
 a.wp Γ S λ x S1=>b.wp Γ S1 λ y S2=>aQ o1 x y S2 λ k S3=>(k=false->W false S3)/\(k=true->c.wp Γ S3 λ t S4=>aQ o2 y t S4 W)
def Ex.ch2(a:Ex Ω)(o1:CmpOp)(b:Ex Ω)(o2:CmpOp)(c:Ex Ω):Ex Ω where
 lev:=max (max a.lev b.lev) c.lev
 chk top N nm e:=match e with | .Compare l [p1,p2] [m,r] _=>(p1==o1)&&((p2==o2)&&(okE r&&(a.chk top N nm l&&(b.chk top N nm m&&c.chk top N nm r)))) | _=>false
 wp Γ S W:=LK a o1 b o2 c Γ S λ k S1=>W (.bl k) S1
 sound:=by
  intro X r top N nm e Γ S W A hl hc hw
  obtain⟨l1,l3⟩:=lv2 hl
  obtain⟨l1,l2⟩:=lv2 l1
  cases e with
  | Compare l os rs pos=>
    match os,rs,hc with
    | [p1,p2],[m,r'],hc=>
      obtain⟨h1,h2⟩:=aa hc
      obtain⟨h2,h3⟩:=aa h2
      obtain⟨h0,h3⟩:=aa h3
      obtain⟨h3,h4⟩:=aa h3
      obtain⟨h4,h5⟩:=aa h4
      have e:p1=o1:=eq_of_beq h1
      subst e
      have e:p2=o2:=eq_of_beq h2
      subst e
      refine Jy ((a.sound A l1 h3 hw).mono λ x S1 q=>(b.sound A l2 h4 q).mono λ y S2 q=>(fc A.hu q).mono λ d S3 ⟨k,e,w⟩=>⟨k,e,w.1,λ hk=>(c.sound A l3 h5 (w.2 hk)).mono λ t S4 q=>(fc A.hu q).mono λ d S3 ⟨c,e,w⟩=>by subst e;exact w⟩) (dB h0)
    | [],_,hc=>exact fE hc
    | [_],_,hc=>exact fE hc
    | [_,_],[],hc=>exact fE hc
    | [_,_],[_],hc=>exact fE hc
    | [_,_],_::_::_::_,hc=>exact fE hc
    | _::_::_::_,_,hc=>exact fE hc
  | _=>exact fE hc
def Te.ch2(a:Ex Ω)(o1:CmpOp)(b:Ex Ω)(o2:CmpOp)(c:Ex Ω):Te Ω where
 lev:=max (max a.lev b.lev) c.lev
 chk top N nm e:=match e with | .Compare l [p1,p2] [m,r] _=>(p1==o1)&&((p2==o2)&&(okE r&&(a.chk top N nm l&&(b.chk top N nm m&&c.chk top N nm r)))) | _=>false
 wp Γ S W:=LK a o1 b o2 c Γ S W
 sound:=by
  intro X r top N nm e Γ S W A hl hc hw
  obtain⟨l1,l3⟩:=lv2 hl
  obtain⟨l1,l2⟩:=lv2 l1
  cases e with
  | Compare l os rs pos=>
    match os,rs,hc with
    | [p1,p2],[m,r'],hc=>
      obtain⟨h1,h2⟩:=aa hc
      obtain⟨h2,h3⟩:=aa h2
      obtain⟨h0,h3⟩:=aa h3
      obtain⟨h3,h4⟩:=aa h3
      obtain⟨h4,h5⟩:=aa h4
      have e:p1=o1:=eq_of_beq h1
      subst e
      have e:p2=o2:=eq_of_beq h2
      subst e
      refine Fw ((a.sound A l1 h3 hw).mono λ x S1 q=>(b.sound A l2 h4 q).mono λ y S2 q=>(fc A.hu q).mono λ d S3 ⟨k,e,w⟩=>⟨k,e,w.1,λ hk=>(c.sound A l3 h5 (w.2 hk)).mono λ t S4 q=>fc A.hu q⟩) (dB h0)
    | [],_,hc=>exact fE hc
    | [_],_,hc=>exact fE hc
    | [_,_],[],hc=>exact fE hc
    | [_,_],[_],hc=>exact fE hc
    | [_,_],_::_::_::_,hc=>exact fE hc
    | _::_::_::_,_,hc=>exact fE hc
  | _=>exact fE hc
def Te.val(a:Ex Ω):Te Ω where
 lev:=a.lev
 chk top N nm e:=Ep e&&a.chk top N nm e
 wp Γ S W:=a.wp Γ S λ d S1=>match d with | .bl c=>W c S1 | _=>False
 sound:=by
  intro X r top N nm e Γ S W A hl hc hw
  obtain⟨h1,h2⟩:=aa hc
  refine Qm ((a.sound A hl h2 hw).mono λ d S1 q=>?_) (zO h1 _)
  cases d<;>first | exact⟨_,rfl,q⟩ | exact q.elim
def Te.not(t:Te Ω):Te Ω where
 lev:=t.lev
 chk top N nm e:=match e with | .UnaryOp .Not a _=>t.chk top N nm a | _=>false
 wp Γ S W:=t.wp Γ S λ c S1=>W (!c) S1
 sound:=by
  intro X r top N nm e Γ S W A hl hc hw
  cases e with
  | UnaryOp o a pos=>
    cases o with
    | Not=>exact Q6 (t.sound A hl hc hw)
    | _=>exact fE hc
  | _=>exact fE hc
def Bt.one(t:Te Ω):Bt Ω where
 lev:=t.lev
 chk top N nm es:=match es with | [e]=>t.chk top N nm e | _=>false
 wpA Γ S W:=t.wp Γ S W
 wpO Γ S W:=t.wp Γ S W
 ne:=by
  intro top N nm es hc
  match es,hc with
  | [e],_=>exact⟨_,_,rfl⟩
  | [],hc=>exact fE hc
  | _::_::_,hc=>exact fE hc
 soundA:=by
  intro X r top N nm es Γ S W pos A hl hc hw
  match es,hc with
  | [e],hc=>exact tw_and1 (t.sound A hl hc hw)
  | [],hc=>exact fE hc
  | _::_::_,hc=>exact fE hc
 soundO:=by
  intro X r top N nm es Γ S W pos A hl hc hw
  match es,hc with
  | [e],hc=>exact tw_or1 (t.sound A hl hc hw)
  | [],hc=>exact fE hc
  | _::_::_,hc=>exact fE hc
def Bt.cons(t:Te Ω)(r:Bt Ω):Bt Ω where
 lev:=max t.lev r.lev
 chk top N nm es:=match es with | e::es=>t.chk top N nm e&&r.chk top N nm es | _=>false
 wpA Γ S W:=t.wp Γ S λ c S1=>(c=true->r.wpA Γ S1 W)/\(c=false->W false S1)
 wpO Γ S W:=t.wp Γ S λ c S1=>(c=true->W true S1)/\(c=false->r.wpO Γ S1 W)
 ne:=by
  intro top N nm es hc
  match es,hc with
  | _::_,_=>exact⟨_,_,rfl⟩
  | [],hc=>exact fE hc
 soundA:=by
  intro X r' top N nm es Γ S W pos A hl hc hw
  obtain⟨l1,l2⟩:=lv2 hl
  match es,hc with
  | e::es,hc=>
    obtain⟨h1,h2⟩:=aa hc
    obtain⟨b,rest,rfl⟩:=r.ne h2
    exact tw_and (Ts.mono (t.sound A l1 h1 hw) λ c S1 q=>⟨λ hk=>r.soundA A l2 h2 (q.1 hk),q.2⟩)
  | [],hc=>exact fE hc
 soundO:=by
  intro X r' top N nm es Γ S W pos A hl hc hw
  obtain⟨l1,l2⟩:=lv2 hl
  match es,hc with
  | e::es,hc=>
    obtain⟨h1,h2⟩:=aa hc
    obtain⟨b,rest,rfl⟩:=r.ne h2
    exact tw_or (Ts.mono (t.sound A l1 h1 hw) λ c S1 q=>⟨q.1,λ hk=>r.soundO A l2 h2 (q.2 hk)⟩)
  | [],hc=>exact fE hc
def Te.and(l:Bt Ω):Te Ω where
 lev:=l.lev
 chk top N nm e:=match e with | .BoolOp .And es _=>l.chk top N nm es | _=>false
 wp Γ S W:=l.wpA Γ S W
 sound:=by
  intro X r top N nm e Γ S W A hl hc hw
  cases e with
  | BoolOp o es pos=>
    cases o with
    | And=>exact(l.soundA A hl hc hw).ts
    | _=>exact fE hc
  | _=>exact fE hc
def Te.or(l:Bt Ω):Te Ω where
 lev:=l.lev
 chk top N nm e:=match e with | .BoolOp .Or es _=>l.chk top N nm es | _=>false
 wp Γ S W:=l.wpO Γ S W
 sound:=by
  intro X r top N nm e Γ S W A hl hc hw
  cases e with
  | BoolOp o es pos=>
    cases o with
    | Or=>exact(l.soundO A hl hc hw).ts
    | _=>exact fE hc
  | _=>exact fE hc
def Bo.one(t:Ex Ω):Bo Ω where
 lev:=t.lev
 chk top N nm es:=match es with | [e]=>t.chk top N nm e | _=>false
 wpA Γ S W:=t.wp Γ S W
 wpO Γ S W:=t.wp Γ S W
 ne:=by
  intro top N nm es hc
  match es,hc with
  | [e],_=>exact⟨_,_,rfl⟩
  | [],hc=>exact fE hc
  | _::_::_,hc=>exact fE hc
 soundA:=by
  intro X r top N nm es Γ S W pos A hl hc hw
  match es,hc with
  | [e],hc=>exact Fx (t.sound A hl hc hw)
  | [],hc=>exact fE hc
  | _::_::_,hc=>exact fE hc
 soundO:=by
  intro X r top N nm es Γ S W pos A hl hc hw
  match es,hc with
  | [e],hc=>exact Fx (t.sound A hl hc hw)
  | [],hc=>exact fE hc
  | _::_::_,hc=>exact fE hc
def Bo.cons(t:Ex Ω)(r:Bo Ω):Bo Ω where
 lev:=max t.lev r.lev
 chk top N nm es:=match es with | e::es=>t.chk top N nm e&&r.chk top N nm es | _=>false
 wpA Γ S W:=t.wp Γ S λ d S1=>match d with | .bl c=>(c=true->r.wpA Γ S1 W)/\(c=false->W (.bl false) S1) | _=>False
 wpO Γ S W:=t.wp Γ S λ d S1=>match d with | .bl c=>(c=true->W (.bl true) S1)/\(c=false->r.wpO Γ S1 W) | _=>False
 ne:=by
  intro top N nm es hc
  match es,hc with
  | _::_,_=>exact⟨_,_,rfl⟩
  | [],hc=>exact fE hc
 soundA:=by
  intro X r' top N nm es Γ S W pos A hl hc hw
  obtain⟨l1,l2⟩:=lv2 hl
  match es,hc with
  | e::es,hc=>
    obtain⟨h1,h2⟩:=aa hc
    obtain⟨b,rest,rfl⟩:=r.ne h2
    refine Tr ((t.sound A l1 h1 hw).mono λ d S1 q=>?_)
    cases d<;>first | exact⟨_,rfl,λ hk=>r.soundA A l2 h2 (q.1 hk),q.2⟩ | exact q.elim
  | [],hc=>exact fE hc
 soundO:=by
  intro X r' top N nm es Γ S W pos A hl hc hw
  obtain⟨l1,l2⟩:=lv2 hl
  match es,hc with
  | e::es,hc=>
    obtain⟨h1,h2⟩:=aa hc
    obtain⟨b,rest,rfl⟩:=r.ne h2
    refine Vn ((t.sound A l1 h1 hw).mono λ d S1 q=>?_)
    cases d<;>first | exact⟨_,rfl,q.1,λ hk=>r.soundO A l2 h2 (q.2 hk)⟩ | exact q.elim
  | [],hc=>exact fE hc
def Ex.and(l:Bo Ω):Ex Ω where
 lev:=l.lev
 chk top N nm e:=match e with | .BoolOp .And es _=>l.chk top N nm es | _=>false
 wp Γ S W:=l.wpA Γ S W
 sound:=by
  intro X r top N nm e Γ S W A hl hc hw
  cases e with
  | BoolOp o es pos=>
    cases o with
    | And=>exact l.soundA A hl hc hw
    | _=>exact fE hc
  | _=>exact fE hc
def Ex.or(l:Bo Ω):Ex Ω where
 lev:=l.lev
 chk top N nm e:=match e with | .BoolOp .Or es _=>l.chk top N nm es | _=>false
 wp Γ S W:=l.wpO Γ S W
 sound:=by
  intro X r top N nm e Γ S W A hl hc hw
  cases e with
  | BoolOp o es pos=>
    cases o with
    | Or=>exact l.soundO A hl hc hw
    | _=>exact fE hc
  | _=>exact fE hc
def Ex.not(a:Ex Ω):Ex Ω where
 lev:=a.lev
 chk top N nm e:=match e with | .UnaryOp .Not b _=>a.chk top N nm b | _=>false
 wp Γ S W:=a.wp Γ S λ d S1=>match d with | .bl c=>W (.bl (!c)) S1 | _=>False
 sound:=by
  intro X r top N nm e Γ S W A hl hc hw
  cases e with
  | UnaryOp o b pos=>
    cases o with
    | Not=>
      refine RG ((a.sound A hl hc hw).mono λ d S1 q=>?_)
      cases d<;>first | exact⟨_,rfl,q⟩ | exact q.elim
    | _=>exact fE hc
  | _=>exact fE hc
def Ex.neg(a:Ex Ω):Ex Ω where
 lev:=a.lev
 chk top N nm e:=match e with | .UnaryOp .USub b _=>a.chk top N nm b | _=>false
 wp Γ S W:=a.wp Γ S λ d S1=>match d with | .int c=>W (.int (-c)) S1 | _=>False
 sound:=by
  intro X r top N nm e Γ S W A hl hc hw
  cases e with
  | UnaryOp o b pos=>
    cases o with
    | USub=>
      refine Tz ((a.sound A hl hc hw).mono λ d S1 q=>?_)
      cases d<;>first | exact⟨_,rfl,q⟩ | exact q.elim
    | _=>exact fE hc
  | _=>exact fE hc
def Ex.ifE(c:Te Ω)(a b:Ex Ω):Ex Ω where
 lev:=max c.lev (max a.lev b.lev)
 chk top N nm e:=match e with | .IfExp t x y _=>c.chk top N nm t&&(a.chk top N nm x&&b.chk top N nm y) | _=>false
 wp Γ S W:=c.wp Γ S λ k S1=>(k=true->a.wp Γ S1 W)/\(k=false->b.wp Γ S1 W)
 sound:=by
  intro X r top N nm e Γ S W A hl hc hw
  obtain⟨l1,l2⟩:=lv2 hl
  obtain⟨l2,l3⟩:=lv2 l2
  cases e with
  | IfExp t x y pos=>
    obtain⟨h1,h2⟩:=aa hc
    obtain⟨h2,h3⟩:=aa h2
    exact KH (Ts.mono (c.sound A l1 h1 hw) λ k S1 q=>⟨λ hk=>a.sound A l2 h2 (q.1 hk),λ hk=>b.sound A l3 h3 (q.2 hk)⟩)
  | _=>exact fE hc
def Ar.nil:Ar Ω where
 lev:=0
 chk _ _ _ es:=match es with | []=>true | _=>false
 wp _ S W:=W [] S
 plain:=by
  intro top N nm es hc
  match es,hc with
  | [],_=>rfl
  | _::_,hc=>exact fE hc
 sound:=by
  intro X r top N nm es Γ S W A _ hc hw
  match es,hc with
  | [],_=>exact gB hw
  | _::_,hc=>exact fE hc
def Ar.cons(a:Ex Ω)(r:Ar Ω):Ar Ω where
 lev:=max a.lev r.lev
 chk top N nm es:=match es with | e::es=>okE e&&(a.chk top N nm e&&r.chk top N nm es) | _=>false
 wp Γ S W:=a.wp Γ S λ d S1=>r.wp Γ S1 λ ds S2=>W (d::ds) S2
 plain:=by
  intro top N nm es hc
  match es,hc with
  | e::es,hc=>
    obtain⟨h1,h2⟩:=aa hc
    obtain⟨h2,h3⟩:=aa h2
    rw[List.all_cons,h1,r.plain h3];rfl
  | [],hc=>exact fE hc
 sound:=by
  intro X r' top N nm es Γ S W A hl hc hw
  obtain⟨l1,l2⟩:=lv2 hl
  match es,hc with
  | e::es,hc=>
    obtain⟨h1,h2⟩:=aa hc
    obtain⟨h2,h3⟩:=aa h2
    exact cF ((a.sound A l1 h2 hw).mono λ d S1 q=>r.sound A l2 h3 q) (aD h1 _ _)
  | [],hc=>exact fE hc
def Ex.tup(as:Ar Ω):Ex Ω where
 lev:=as.lev
 chk top N nm e:=match e with | .Tuple es _ _=>as.chk top N nm es | _=>false
 wp Γ S W:=as.wp Γ S λ ds S1=>ds.length≤1000000/\W (.tup ds) S1
 sound:=by
  intro X r top N nm e Γ S W A hl hc hw
  cases e with
  | Tuple es k pos=>exact RN (as.sound A hl hc hw)
  | _=>exact fE hc
def Ex.lst(as:Ar Ω):Ex Ω where
 lev:=as.lev
 chk top N nm e:=match e with | .List es _=>as.chk top N nm es | _=>false
 wp Γ S W:=as.wp Γ S λ ds S1=>ds.length≤1000000/\W (.lst ds) S1
 sound:=by
  intro X r top N nm e Γ S W A hl hc hw
  cases e with
  | List es pos=>exact Su (as.sound A hl hc hw)
  | _=>exact fE hc
def Ex.own(as:Ar Ω):Ex Ω where
 lev:=as.lev
 chk top N nm e:=match e with | .List es _=>as.chk top N nm es | _=>false
 wp Γ S W:=as.wp Γ S λ ds S1=>ds.length≤1000000/\W (.loc S1.length) (S1++[ds])
 sound:=by
  intro X r top N nm e Γ S W A hl hc hw
  cases e with
  | List es pos=>exact OD (as.sound A hl hc hw)
  | _=>exact fE hc
def Ex.ix(a b:Ex Ω):Ex Ω where
 lev:=max a.lev b.lev
 chk top N nm e:=match e with | .Subscript l r _=>okE r&&(a.chk top N nm l&&b.chk top N nm r) | _=>false
 wp Γ S W:=a.wp Γ S λ x S1=>b.wp Γ S1 λ y S2=>Ky x y S2 W
 sound:=by
  intro X r top N nm e Γ S W A hl hc hw
  obtain⟨l1,l2⟩:=lv2 hl
  cases e with
  | Subscript l r' pos=>
    obtain⟨h1,h2⟩:=aa hc
    obtain⟨h2,h3⟩:=aa h2
    exact Lb ((a.sound A l1 h2 hw).mono λ x S1 q=>(b.sound A l2 h3 q).mono λ y S2 q=>Mu q) (pq h1)
  | _=>exact fE hc
set_option genInjectivity false in
structure Po(Ω:Wd) where
 lev:Nat
 chk:Bool->List Str->Nm->Option Expr->Bool
 wp:Gam->Store->(Option Int->Store->Prop)->Prop
 sound:∀{X:Cx}{r:Nat}{top:Bool}{N:List Str}{nm:Nm}{e:Option Expr}{Γ:Gam}{S:Store}{W:Option Int->Store->Prop},At Ω X r top N nm->lev≤r->chk top N nm e=true->wp Γ S W->PoD X Γ S e W
def Po.no:Po Ω where
 lev:=0
 chk _ _ _ e:=match e with | none=>true | _=>false
 wp _ S W:=W none S
 sound:=by
  intro X r top N nm e Γ S W A hl hc hw
  cases e with
  | none=>exact VM hw
  | some e=>exact fE hc
def Po.so(a:Ex Ω):Po Ω where
 lev:=a.lev
 chk top N nm e:=match e with | some e=>a.chk top N nm e | _=>false
 wp Γ S W:=a.wp Γ S λ d S1=>match d with | .int i=>W (some i) S1 | _=>False
 sound:=by
  intro X r top N nm e Γ S W A hl hc hw
  cases e with
  | some e=>
    refine We ((a.sound A hl hc hw).mono λ d S1 q=>?_)
    cases d<;>first | exact⟨_,rfl,q⟩ | exact q.elim
  | none=>exact fE hc
theorem PoD.mono{Γ:Gam}{S:Store}{e:Option Expr}{W W':Option Int->Store->Prop}(h:PoD X Γ S e W)(k:∀c S',W c S'->W' c S'):PoD X Γ S e W':=by
 cases e with
 | none=>exact k _ _ h
 | some e=>exact Ev.mono h λ d S1 ⟨i,e,w⟩=>⟨i,e,k _ _ w⟩
def Ex.sl(a:Ex Ω)(lo hi:Po Ω):Ex Ω where
 lev:=max a.lev (max lo.lev hi.lev)
 chk top N nm e:=match e with | .Subscript l (.Slice x y none _) _=>a.chk top N nm l&&(lo.chk top N nm x&&hi.chk top N nm y) | _=>false
 wp Γ S W:=a.wp Γ S λ x S1=>lo.wp Γ S1 λ l S2=>hi.wp Γ S2 λ h S3=>Jf x l h S3 W
 sound:=by
  intro X r top N nm e Γ S W A hl hc hw
  obtain⟨l1,l2⟩:=lv2 hl
  obtain⟨l2,l3⟩:=lv2 l2
  cases e with
  | Subscript l sl pos=>
    cases sl with
    | Slice x y z p2=>
      cases z with
      | none=>
        obtain⟨h1,h2⟩:=aa hc
        obtain⟨h2,h3⟩:=aa h2
        exact xY ((a.sound A l1 h1 hw).mono λ x S1 q=>PoD.mono (lo.sound A l2 h2 q) λ l S2 q=>PoD.mono (hi.sound A l3 h3 q) λ h S3 q=>Mg q)
      | some _=>exact fE hc
    | _=>exact fE hc
  | _=>exact fE hc
def Ex.call{x:Str}{k n:Nat}{F:Ct}(C:Callee Ω.P Ω.w Ω.K Ω.mg Ω.base x k n F)(as:Ar Ω):Ex Ω where
 lev:=max k as.lev
 chk top N nm e:=match e with | .Call (.Name y _) (a::es) [] _=>(y==x)&&(glb nm x&&(okN x&&as.chk top N nm (a::es))) | _=>false
 wp Γ S W:=as.wp Γ S λ ds S1=>ds.length=n/\F ds S1 W
 sound:=by
  intro X r top N nm e Γ S W A hl hc hw
  obtain⟨l1,l2⟩:=lv2 hl
  cases e with
  | Call f es ks pos=>
    cases f with
    | Name y p=>
      match es,ks,hc with
      | a::es,[],hc=>
        obtain⟨h1,h2⟩:=aa hc
        obtain⟨h2,h3⟩:=aa h2
        obtain⟨h3,h4⟩:=aa h3
        have e:y=x:=eq_of_beq h1
        subst e
        have pl:=as.plain h4
        rw[List.all_cons]at pl
        obtain⟨p1,p2⟩:=aa pl
        have C':Callee X.prog X.w X.K X.mg X.base y k n F:=by rw[A.p,A.w,A.k,A.g,A.b];exact C
        exact Pa C' (A.room.mono l1) (as.sound A l2 h4 hw) (A.glb h2) (aY h3).1 (aD p1 _ _) (mj p2 _ _)
      | [],_,hc=>exact fE hc
      | _::_,_::_,hc=>exact fE hc
    | _=>exact fE hc
  | _=>exact fE hc
set_option genInjectivity false in
structure Bf where
 x:Str
 id:String
 boot:bootBuiltins x=some (.builtin id)
 wp:List D->Store->WD->Prop
 sound:∀{X:Cx}{ds:List D}{S:Store}{W:WD},X.calm=true->Room 0 X.A->wp ds S W->bG X (.builtin id) ds S W
def Ex.blt(b:Bf)(hm:Ω.mg b.x=none)(as:Ar Ω):Ex Ω where
 lev:=as.lev
 chk top N nm e:=match e with | .Call (.Name y _) (a::es) [] _=>(y==b.x)&&(glb nm b.x&&(okN b.x&&as.chk top N nm (a::es))) | _=>false
 wp Γ S W:=as.wp Γ S λ ds S1=>b.wp ds S1 W
 sound:=by
  intro X r top N nm e Γ S W A hl hc hw
  cases e with
  | Call f es ks pos=>
    cases f with
    | Name y p=>
      match es,ks,hc with
      | a::es,[],hc=>
        obtain⟨h1,h2⟩:=aa hc
        obtain⟨h2,h3⟩:=aa h2
        obtain⟨h3,h4⟩:=aa h3
        have e:y=b.x:=eq_of_beq h1
        subst e
        have pl:=as.plain h4
        rw[List.all_cons]at pl
        obtain⟨p1,p2⟩:=aa pl
        exact JD (EvA.mono (as.sound A hl h4 hw) λ ds S1 q=>b.sound A.calm (A.room.mono (Nat.zero_le _)) q) (by rw[A.g];exact hm) b.boot (A.glb h2) (aY h3).2.2 (aY h3).1 (aD p1 _ _) (mj p2 _ _)
      | [],_,hc=>exact fE hc
      | _::_,_::_,hc=>exact fE hc
    | _=>exact fE hc
  | _=>exact fE hc
set_option genInjectivity false in
structure Bc where
 x:Str
 id:String
 boot:bootBuiltins x=some (.type id)
 wp:List D->Store->WD->Prop
 sound:∀{X:Cx}{ds:List D}{S:Store}{W:WD},X.calm=true->Room 0 X.A->wp ds S W->bG X (.type id) ds S W
def Ex.typ(b:Bc)(hm:Ω.mg b.x=none)(as:Ar Ω):Ex Ω where
 lev:=as.lev
 chk top N nm e:=match e with | .Call (.Name y _) (a::es) [] _=>(y==b.x)&&(glb nm b.x&&(okN b.x&&as.chk top N nm (a::es))) | _=>false
 wp Γ S W:=as.wp Γ S λ ds S1=>b.wp ds S1 W
 sound:=by
  intro X r top N nm e Γ S W A hl hc hw
  cases e with
  | Call f es ks pos=>
    cases f with
    | Name y p=>
      match es,ks,hc with
      | a::es,[],hc=>
        obtain⟨h1,h2⟩:=aa hc
        obtain⟨h2,h3⟩:=aa h2
        obtain⟨h3,h4⟩:=aa h3
        have e:y=b.x:=eq_of_beq h1
        subst e
        have pl:=as.plain h4
        rw[List.all_cons]at pl
        obtain⟨p1,p2⟩:=aa pl
        exact J6 (EvA.mono (as.sound A hl h4 hw) λ ds S1 q=>b.sound A.calm (A.room.mono (Nat.zero_le _)) q) (by rw[A.g];exact hm) b.boot (A.glb h2) (aY h3).2.2 (aY h3).1 (aD p1 _ _) (mj p2 _ _)
      | [],_,hc=>exact fE hc
      | _::_,_::_,hc=>exact fE hc
    | _=>exact fE hc
  | _=>exact fE hc
def Ex.isi(hm:Ω.mg "isinstance"=none)(a:Ex Ω)(T:Ty)(hT:Ω.mg T.nm=none):Ex Ω where
 lev:=a.lev
 chk top N nm e:=fj e λ y es=>two2 es λ b c=>anB (nameV c) λ t=>(y==("isinstance":Str))&&(glb nm "isinstance"&&((t==T.nm)&&(glb nm T.nm&&(okE b&&a.chk top N nm b))))
 wp Γ S W:=a.wp Γ S λ d S1=>W (.bl (isD T d)) S1
 sound:=by
  intro X r top N nm e Γ S W A hl hc hw
  obtain⟨y,p,es,pos,rfl,hc_1⟩:=b7 hc
  obtain⟨b,c,rfl,hc_2⟩:=two2_of hc_1
  obtain⟨t,hn,hc_3⟩:=aX hc_2
  obtain⟨q,rfl⟩:=bx hn
  have hc:=hc_3
  . skip
    obtain⟨h1,g2⟩:=aa hc
    obtain⟨h2,g3⟩:=aa g2
    obtain⟨h3,g4⟩:=aa g3
    obtain⟨h4,g5⟩:=aa g4
    obtain⟨h5,h6⟩:=aa g5
    have e:y="isinstance":=eq_of_beq h1
    subst e
    have e:t=T.nm:=eq_of_beq h3
    subst e
    exact SX (Tn:=T.id) ((a.sound A hl h6 hw).mono λ d S1 q=>by rw[RT];exact q) T.isT T.boot (by rw[A.g];exact hm) (by rw[A.g];exact hT) (A.glb h2) (A.glb h4) T.ok.2 T.ok.1 (aD h5 _ _) (aD (e:=.Name T.nm q) rfl [] _)
end RF
namespace RF
open PySem PySem.Spec L2 DL
open PyProof.Rows
variable {Γ : Gam}
inductive Tg where
 | nm(i:Nat) | tup(is:List Nat)
def setAll:Gam->List Nat->List D->Gam
 | Γ,i::is,d::ds=>setAll (Γ.set i (some d)) is ds
 | Γ,_,_=>Γ
def Tg.wp:Tg->D->Gam->(Gam->Prop)->Prop
 | .nm i,d,Γ,W=>W (Γ.set i (some d))
 | .tup is,.tup ds,Γ,W=>ds.length=is.length/\W (setAll Γ is ds)
 | .tup _,_,_,_=>False
def Tg.slots:Tg->List Nat
 | .nm i=>[i]
 | .tup is=>is
def wX(top:Bool)(N:List Str)(nm:Nm)(i:Nat)(e:Expr):Bool:=match e with | .Name x _=>(N[i]? ==some x)&&lcl top nm x | _=>false
def fG(top:Bool)(N:List Str)(nm:Nm):List Nat->List Expr->Bool
 | [],[]=>true
 | i::is,e::es=>wX top N nm i e&&fG top N nm is es
 | _,_=>false
def Tg.chk(t:Tg)(top:Bool)(N:List Str)(nm:Nm)(e:Expr):Bool:=match t with
 | .nm i=>wX top N nm i e
 | .tup is=>match e with | .Tuple es _ _=>fG top N nm is es | _=>false
section
variable {Ω : Wd} {X : Cx} {r : Nat} {top : Bool} {N : List Str} {nm : Nm}
theorem FN(A:At Ω X r top N nm){i:Nat}{e:Expr}{d:D}{Γ:Gam}{S:Store}{W:Gam->Store->Prop}(hc:wX top N nm i e=true)(hw:W (Γ.set i (some d)) S):BdW X e d Γ S W:=by
 cases e with
 | Name x pos=>
   obtain⟨h1,h2⟩:=aa hc
   have h1:N[i]? =some x:=eq_of_beq h1
   obtain⟨l1,l2⟩:=A.lcl h2
   exact M3 i hw (by rw[A.n];exact A.nd) (by rw[A.n];exact h1) l1 l2
 | _=>exact fE hc
theorem za{i:Nat}{is:List Nat}{es:List Expr}(h:fG top N nm (i::is) es=true):∃x p es',es=.Name x p::es'/\wX top N nm i (.Name x p)=true/\fG top N nm is es'=true:=by
 cases es with
 | nil=>exact(y9 h).elim
 | cons e es=>
   obtain⟨h1,h2⟩:=aa h
   cases e with
   | Name x p=>exact⟨x,p,es,rfl,h1,h2⟩
   | _=>exact(y9 h1).elim
theorem CV{es:List Expr}(h:fG top N nm [] es=true):es=[]:=by
 cases es with
 | nil=>rfl
 | cons e es=>exact(y9 h).elim
theorem Hb(A:At Ω X r top N nm){S:Store}{W:Gam->Store->Prop}:∀{is:List Nat}{es:List Expr}{ds:List D}{Γ:Gam},fG top N nm is es=true->ds.length=is.length->W (setAll Γ is ds) S->xP X es ds Γ S W
 | [],es,ds,Γ,hc,hl,hw=>by
   have e:=CV hc
   subst e
   have e:ds=[]:=by simpa using hl
   subst e
   exact Nv hw
 | i::is,es,ds,Γ,hc,hl,hw=>by
   obtain⟨x,p,es',rfl,h1,h2⟩:=za hc
   cases ds with
   | nil=>simp at hl
   | cons d ds=>exact JR (FN A h1 (Hb A h2 (by simpa using hl) hw)) rfl
theorem BR:∀{is:List Nat}{es:List Expr},fG top N nm is es=true->∀env:Env,(assignEach es env).length=is.length/\(assignEach es env).findIdx? (·.1)=none
 | [],es,hc,env=>by
   have e:=CV hc
   subst e
   exact⟨rfl,rfl⟩
 | i::is,es,hc,env=>by
   obtain⟨x,p,es',rfl,h1,h2⟩:=za hc
   obtain⟨a,b⟩:=BR h2 env
   have e:assignEach (.Name x p::es') env=(false,assign (.Name x p) env)::assignEach es' env:=rfl
   rw[e]
   refine⟨by simp[a],?_⟩
   rw[List.findIdx?_cons,b]
   rfl
theorem Tg.sound(A:At Ω X r top N nm){t:Tg}{e:Expr}{d:D}{Γ:Gam}{S:Store}{W:Gam->Store->Prop}(hc:t.chk top N nm e=true)(hw:t.wp d Γ λ Γ'=>W Γ' S):BdW X e d Γ S W:=by
 cases t with
 | nm i=>exact FN A hc hw
 | tup is=>
   cases e with
   | Tuple es k pos=>
     have hc:fG top N nm is es=true:=hc
     cases d with
     | tup ds=>
       obtain⟨hl,hw⟩:ds.length=is.length/\W (setAll Γ is ds) S:=hw
       obtain⟨a,b⟩:=BR hc X.env
       exact RP (Hb A hc hl hw) A.calm (a.trans hl.symm) b
     | _=>exact hw.elim
   | _=>exact fE hc
end
theorem Sub.setAll{Γ:Gam}:∀{is:List Nat}{ds:List D}{Γ':Gam},Sub Γ Γ'->(∀i∈is,Γ[i]? =some none)->Sub Γ (RF.setAll Γ' is ds)
 | [],ds,Γ',h,_=>by cases ds<;>exact h
 | i::is,[],Γ',h,_=>h
 | i::is,d::ds,Γ',h,hi=>show Sub Γ (RF.setAll (Γ'.set i (some d)) is ds)from Sub.setAll (Γ':=Γ'.set i (some d)) (h.set i (some d) (hi i v3)) λ j hj=>hi j (x9 _ hj)
theorem uQ{cap:List (Option Nat)}{i:Nat}(h:cap[i]? =some none):(capt cap Γ)[i]? =some none:=by
 unfold capt
 rw[x6,h];rfl
set_option genInjectivity false in
structure Itb(Ω:Wd) where
 lev:Nat
 chk:Bool->List Str->Nm->Expr->Expr->Bool
 wp:Gam->Store->(List D->Store->Prop)->Prop
 sound:∀{X:Cx}{r:Nat}{top:Bool}{N:List Str}{nm:Nm}{tg e:Expr}{Γ:Gam}{S:Store}{W:List D->Store->Prop},At Ω X r top N nm->lev≤r->chk top N nm tg e=true->wp Γ S W->ItW X Γ S tg e W
theorem Tc{X:Cx}{S:Store}{tg e:Expr}{W:List D->Store->Prop}(h:Ev X Γ S e λ d S1=>match d with | .lst ds=>W ds S1 | .tup ds=>W ds S1 | _=>False):ItW X Γ S tg e W:=by
 intro pins s σ H O I env st
 refine thn (h pins s σ H O I env st) λ u s1 hq_=>?_
 obtain⟨v,H1,I1,r1,O1,d,S1,w,st1,ok1,rep⟩:=hq_
 cases rep with
 | @lst a xs ds h1 q1=>
   cases r1
   obtain⟨its,rv,p,hz⟩:=I1.list h1.sq
   refine wpAny_pyIter_list p.isList ?_
   refine⟨s1.heap.objs.size,[s1.heap.objs.size],_,_,H1,rfl,I1.kept (t':=s1.toks) λ b o e=>Heap.get?_push_of_some _ e,lX a _,⟨_,Heap.get?_push_size _ rfl,rfl,rfl⟩,λ b hb=>?_,O1,ds,S1,w,st1,ok1,nT h1 q1⟩
   have e:b=s1.heap.objs.size:=by simpa using hb
   subst e
   exact I1.fpOk (x8 _) (I1.hok.fresh (x8 _))
 | @tup a xs ds h1 q1=>
   cases r1
   obtain⟨its,rv,p,hz⟩:=I1.tuple h1.sq
   refine wpAny_pyIter_tuple (show s1.heap.IsTuple a its.toArray from p) ?_
   refine⟨s1.heap.objs.size,[s1.heap.objs.size],_,_,H1,rfl,I1.kept (t':=s1.toks) λ b o e=>Heap.get?_push_of_some _ e,pW a _,⟨_,Heap.get?_push_size _ rfl,rfl,rfl⟩,λ b hb=>?_,O1,ds,S1,w,st1,ok1,pL h1 q1⟩
   have e:b=s1.heap.objs.size:=by simpa using hb
   subst e
   exact I1.fpOk (x8 _) (I1.hok.fresh (x8 _))
 | _=>exact w.elim
variable {Ω : Wd}
def Itb.seq(a:Ex Ω):Itb Ω where
 lev:=a.lev
 chk top N nm _ e:=a.chk top N nm e
 wp Γ S W:=a.wp Γ S λ d S1=>match d with | .lst ds=>W ds S1 | .tup ds=>W ds S1 | _=>False
 sound:=by
  intro X r top N nm tg e Γ S W A hl hc hw
  exact Tc (a.sound A hl hc hw)
def Itb.rng1(hm:Ω.mg "range"=none)(a:Ex Ω):Itb Ω where
 lev:=a.lev
 chk top N nm _ e:=fj e λ y es=>dj es λ b=>(y==("range":Str))&&(glb nm "range"&&(okE b&&a.chk top N nm b))
 wp Γ S W:=a.wp Γ S λ d S1=>match d with | .int j=>(-(2 ^ 62)≤j/\j<2 ^ 62)/\W (upTo 0 j.toNat) S1 | _=>False
 sound:=by
  intro X r top N nm tg e Γ S W A hl hc hw
  obtain⟨y,p,es,pos,rfl,hc_1⟩:=b7 hc
  obtain⟨b,rfl,hc_2⟩:=bj hc_1
  have hc:=hc_2
  . skip
    obtain⟨h1,g2⟩:=aa hc
    obtain⟨h2,g3⟩:=aa g2
    obtain⟨h3,h4⟩:=aa g3
    have e:y="range":=eq_of_beq h1
    subst e
    refine Hw ((a.sound A hl h4 hw).mono λ d S1 q=>?_) (by rw[A.g];exact hm) (A.glb h2) (aD h3 [] _)
    cases d<;>first | exact⟨_,rfl,q.1.1,q.1.2,q.2⟩ | exact q.elim
def Itb.rng2(hm:Ω.mg "range"=none)(a b:Ex Ω):Itb Ω where
 lev:=max a.lev b.lev
 chk top N nm _ e:=fj e λ y es=>two2 es λ l r=>(y==("range":Str))&&(glb nm "range"&&((okE l&&okE r)&&(a.chk top N nm l&&b.chk top N nm r)))
 wp Γ S W:=a.wp Γ S λ d S1=>b.wp Γ S1 λ d' S2=>match d,d' with | .int i,.int j=>(-(2 ^ 62)≤i/\i<2 ^ 62/\ -(2 ^ 62)≤j/\j<2 ^ 62)/\W (upTo i (j-i).toNat) S2 | _,_=>False
 sound:=by
  intro X r top N nm tg e Γ S W A hl hc hw
  obtain⟨l1,l2⟩:=lv2 hl
  obtain⟨y,p,es,pos,rfl,hc_1⟩:=b7 hc
  obtain⟨l,r',rfl,hc_2⟩:=two2_of hc_1
  have hc:=hc_2
  . skip
    obtain⟨h1,g2⟩:=aa hc
    obtain⟨h2,g3⟩:=aa g2
    obtain⟨h3,h4⟩:=aa g3
    obtain⟨h5,h6⟩:=aa h3
    obtain⟨h7,h8⟩:=aa h4
    have e:y="range":=eq_of_beq h1
    subst e
    refine Gk ((a.sound A l1 h7 hw).mono λ d S1 q=>(b.sound A l2 h8 q).mono λ d' S2 q=>?_) (by rw[A.g];exact hm) (A.glb h2) (by rw[aD h5,aD h6];rfl) (aD h6 [] _)
    cases d<;>first | exact q.elim | (cases d'<;>first | exact⟨_,_,rfl,rfl,q.1,q.2⟩ | exact q.elim)
set_option genInjectivity false in
structure Cd(Ω:Wd) where
 lev:Nat
 chk:Bool->List Str->Nm->List Expr->Bool
 wp:Gam->Store->(Bool->Store->Prop)->Prop
 sound:∀{X:Cx}{r:Nat}{top:Bool}{N:List Str}{nm:Nm}{es:List Expr}{Γ:Gam}{S:Store}{W:Bool->Store->Prop},At Ω X r top N nm->lev≤r->chk top N nm es=true->wp Γ S W->TsA X Γ S es W
def Cd.no:Cd Ω where
 lev:=0
 chk _ _ _ es:=match es with | []=>true | _=>false
 wp _ S W:=W true S
 sound:=by
  intro X r top N nm es Γ S W A hl hc hw
  match es,hc with
  | [],_=>exact hw
  | _::_,hc=>exact fE hc
@[irreducible] noncomputable def pU(cap:List (Option Nat))(Γ:Gam)(elt:Ex Ω)(tg:Tg)(cd:Cd Ω)(W:WD)(ds:List D)(C0:Store->Prop)(S1:Store):Prop:=
  ds.length≤1000000/\∃Pv:Nat->List D->Store->Prop,Pv 0 [] S1/\(∀i acc S',Pv i acc S'->C0 S')/\
   (∀i d acc S',ds[i]? =some d->Pv i acc S'->tg.wp d (capt cap Γ) λ Γ2=>cd.wp Γ2 S' λ ok S3=>(ok=true->elt.wp Γ2 S3 λ y S4=>Pv (i+1) (acc++[y]) S4)/\(ok=false->Pv (i+1) acc S3))/\
   ∀acc S',Pv ds.length acc S'->W (.lst acc) S'∨W (.loc S'.length) (S'++[acc])
abbrev nD(cap:List (Option Nat))(Γ:Gam)(elt:Ex Ω)(tg:Tg)(cd:Cd Ω)(W:WD)(ds:List D)(S1:Store):Prop:=pU cap Γ elt tg cd W ds (λ _=>True) S1
theorem Ks{cap:List (Option Nat)}{elt:Ex Ω}{tg:Tg}{cd:Cd Ω}{W:WD}{ds:List D}{C0:Store->Prop}{S1:Store}(h:ds.length≤1000000/\∃Pv:Nat->List D->Store->Prop,Pv 0 [] S1/\(∀i acc S',Pv i acc S'->C0 S')/\
 (∀i d acc S',ds[i]? =some d->Pv i acc S'->tg.wp d (capt cap Γ) λ Γ2=>cd.wp Γ2 S' λ ok S3=>(ok=true->elt.wp Γ2 S3 λ y S4=>Pv (i+1) (acc++[y]) S4)/\(ok=false->Pv (i+1) acc S3))/\
 ∀acc S',Pv ds.length acc S'->W (.lst acc) S'∨W (.loc S'.length) (S'++[acc])):pU cap Γ elt tg cd W ds C0 S1:=by unfold pU;exact h
theorem gF{cap:List (Option Nat)}{elt:Ex Ω}{tg:Tg}{cd:Cd Ω}{W:WD}{ds:List D}{S1:Store}(h:ds.length≤1000000/\∃Pv:Nat->List D->Store->Prop,Pv 0 [] S1/\
 (∀i d acc S',ds[i]? =some d->Pv i acc S'->tg.wp d (capt cap Γ) λ Γ2=>cd.wp Γ2 S' λ ok S3=>(ok=true->elt.wp Γ2 S3 λ y S4=>Pv (i+1) (acc++[y]) S4)/\(ok=false->Pv (i+1) acc S3))/\
 ∀acc S',Pv ds.length acc S'->W (.lst acc) S'):nD cap Γ elt tg cd W ds S1:=by
 obtain⟨hz,Pv,p0,pt,pe⟩:=h
 exact Ks ⟨hz,Pv,p0,λ _ _ _ _=>trivial,pt,λ acc S' q=>.inl (pe acc S' q)⟩
def mY(N':List Str)(cap:List (Option Nat))(elt:Ex Ω)(tg:Tg)(it:Itb Ω)(cd:Cd Ω)(top:Bool)(N:List Str)(nm:Nm)(e:Expr):Bool:=match e with
 | .ListComp x [⟨t,i,cs,0⟩] sc _=>(sc.kind==.function)&&(jT sc.names&&(freeOk nm sc.names&&((sc.names.all λ y=>!(y.2==.local)||(sc.names.lookup y.1==some .local))&&(aJ N nm N' sc.names cap N'&&
  (okE i&&((tg.slots.all λ j=>cap[j]? ==some none)&&(decide N'.Nodup&&(it.chk top N nm t i&&(tg.chk false N' sc.names t&&(cd.chk false N' sc.names cs&&elt.chk false N' sc.names x))))))))))
 | _=>false
section
variable {X : Cx} {r : Nat} {top : Bool} {N : List Str} {nm : Nm}
theorem vh(A:At Ω X r top N nm){x:Str}(h:nm.lookup x=some .cell∨nm.lookup x=some .free):X.env.scope.names.lookup x=some .cell∨X.env.scope.names.lookup x=some .free:=by
 rcases h with h | h
 . rcases A.look x _ h with q | ⟨q,_⟩
   . exact .inl q
   . exact nomatch q
 . rcases A.look x _ h with q | ⟨_,q⟩
   . exact .inr q
   . exact .inl q
theorem lK(A:At Ω X r top N nm){names:Nm}(h:freeOk nm names=true):freeOk X.env.scope.names names=true:=by
 unfold freeOk
 refine List.all_eq_true.mpr λ y hy=>?_
 by_cases e:y.2=.free
 . have:=vh A (iR h y hy e)
   rcases this with q | q<;>simp[q]
 . simp[e]
theorem ig(A:At Ω X r top N nm){N':List Str}{names':Nm}:∀{cap:List (Option Nat)}{t:List Str},aJ N nm N' names' cap t=true->aJ X.N X.env.scope.names N' names' cap t=true
 | [],[],_=>rfl
 | [],_::_,h=>by simp[aJ]at h
 | none::_,[],h=>by simp[aJ]at h
 | some _::_,[],h=>by simp[aJ]at h
 | none::r,_::t,h=>by simp only[aJ]at h ⊢;exact ig A h
 | some j::r,x::t,h=>by
   simp only[aJ,Bool.and_eq_true,Bool.or_eq_true,beq_iff_eq]at h ⊢
   exact⟨⟨⟨by rw[A.n];exact h.1.1.1,vh A h.1.1.2⟩,h.1.2⟩,ig A h.2⟩
theorem FW(A:At Ω X r top N nm){sc:Scope}{N':List Str}{C:Addr}{s:Shared}{H:Hp}{ex:List Addr}{cl:List (Str×Addr)}(hk:sc.kind=.function)(nd:N'.Nodup):At Ω (bz X sc N' C s H ex cl) r false N' sc.names where
 cd:=λ h=>nomatch h
 fr:=λ h=>nomatch h
 p:=A.p
 w:=A.w
 k:=A.k
 g:=A.g
 b:=A.b
 room:=A.room
 xe:=A.xe
 calm:=A.calm
 n:=rfl
 nd:=nd
 kind:=hk
 look:=by
  intro x k h
  show(relabel sc X.env).names.lookup x=some k∨_
  rw[kh,dZ,h]
  rcases oV X.env x k with q | ⟨q1,q2⟩
  . exact .inl (congrArg some q)
  . refine .inr ⟨q1,?_⟩
    show(relabel sc X.env).names.lookup x=some .cell
    rw[kh,dZ,h]
    exact congrArg some q2
 fn:=λ x h=>by show(sc.names.lookup x==some .cell)=true;rw[h];rfl
theorem qO(A:At Ω X r top N nm){sc:Scope}{N':List Str}{cap:List (Option Nat)}{elt:Ex Ω}{tg:Tg}{cd:Cd Ω}{x t:Expr}{cs:List Expr}{Γ:Gam}{W:WD}{ds:List D}{C0:Store->Prop}{S1:Store}(le:elt.lev≤r)(lc:cd.lev≤r)(hk:sc.kind=.function)(nd:N'.Nodup)(hs:(tg.slots.all λ j=>cap[j]? ==some none)=true)
 (ht:tg.chk false N' sc.names t=true)(hcd:cd.chk false N' sc.names cs=true)(he:elt.chk false N' sc.names x=true)(h:pU cap Γ elt tg cd W ds C0 S1):wY X sc N' cap Γ x t cs W ds C0 S1:=by
 unfold pU at h
 obtain⟨hz,Pv,p0,pC,pt,pe⟩:=h
 refine⟨hz,Pv,p0,pC,λ i d acc S' hd hp C s H ex cl=>?_,pe⟩
 have B:=FW A (C:=C) (s:=s) (H:=H) (ex:=ex) (cl:=cl) hk nd
 have sl:∀j∈tg.slots,(capt cap Γ)[j]? =some none:=λ j hj=>uQ (by
  have:=List.all_eq_true.mp hs j hj
  exact eq_of_beq this)
 have base:=pt i d acc S' hd hp
 have go:∀Γ2,(cd.wp Γ2 S' λ ok S3=>(ok=true->elt.wp Γ2 S3 λ y S4=>Pv (i+1) (acc++[y]) S4)/\(ok=false->Pv (i+1) acc S3))->
  TsA (bz X sc N' C s H ex cl) Γ2 S' cs λ ok S3=>(ok=true->Ev (bz X sc N' C s H ex cl) Γ2 S3 x λ y S4=>Pv (i+1) (acc++[y]) S4)/\(ok=false->Pv (i+1) acc S3):=by
  intro Γ2 q
  have:=cd.sound B lc hcd q
  match cs,this with
  | [],this=>exact⟨λ hk=>elt.sound B le he (this.1 hk),this.2⟩
  | [c],this=>exact Ts.mono this λ ok S3 z=>⟨λ hk=>elt.sound B le he (z.1 hk),z.2⟩
  | _::_::_,this=>exact this.elim
 refine Tg.sound B (W:=λ Γ2 S2=>Sub (capt cap Γ) Γ2/\TsA (bz X sc N' C s H ex cl) Γ2 S2 cs λ ok S3=>(ok=true->Ev (bz X sc N' C s H ex cl) Γ2 S3 x λ y S4=>Pv (i+1) (acc++[y]) S4)/\(ok=false->Pv (i+1) acc S3)) ht ?_
 cases tg with
 | nm j=>exact⟨(Sub.refl _).set j _ (sl j (by simp[Tg.slots])),go _ base⟩
 | tup is=>
   cases d with
   | tup es=>exact⟨base.1,Sub.setAll (Sub.refl _) sl,go _ base.2⟩
   | _=>exact base.elim
end
def Ex.comp(N':List Str)(cap:List (Option Nat))(elt:Ex Ω)(tg:Tg)(it:Itb Ω)(cd:Cd Ω):Ex Ω where
 lev:=max elt.lev (max it.lev cd.lev)
 chk top N nm e:=mY N' cap elt tg it cd top N nm e
 wp Γ S W:=it.wp Γ S λ ds S1=>nD cap Γ elt tg cd W ds S1
 sound:=by
  intro X r top N nm e Γ S W A hl hc hw
  obtain⟨l1,l2⟩:=lv2 hl
  obtain⟨l2,l3⟩:=lv2 l2
  unfold mY at hc
  split at hc
  . rename_i x t i cs sc pos
    obtain⟨h1,hc⟩:=aa hc
    obtain⟨h2,hc⟩:=aa hc
    obtain⟨h3,hc⟩:=aa hc
    obtain⟨h4,hc⟩:=aa hc
    obtain⟨h5,hc⟩:=aa hc
    obtain⟨h6,hc⟩:=aa hc
    obtain⟨h7,hc⟩:=aa hc
    obtain⟨h8,hc⟩:=aa hc
    obtain⟨h9,hc⟩:=aa hc
    obtain⟨h10,hc⟩:=aa hc
    obtain⟨h11,h12⟩:=aa hc
    have hk:sc.kind=.function:=eq_of_beq h1
    refine Mx N' cap (ItW.toC (ItW.mono (it.sound A l2 h9 hw) λ ds S1 q=>qO A l1 l3 hk (of_decide_eq_true h8) h7 h10 h11 h12 q)) A.xe A.calm hk h2 (lK A h3) (λ y hy e=>?_) (ig A h5) (gA h6 _)
    . have:=List.all_eq_true.mp h4 y hy
      simpa[e]using this
  . exact fE hc
end RF
namespace RF
open PySem PySem.Spec L2 DL
open PyProof.Rows
variable {Ω : Wd}
theorem lV{e:Expr}(h:noC e=true)(t:Expr)(l:Nat)(env:Env):swapsWithSole [t] e l env=pure false:=by
 unfold swapsWithSole
 exact kO h (some t) l env
set_option genInjectivity false in
structure Sm(Ω:Wd) where
 lev:Nat
 chk:Bool->List Str->Nm->Stmt->Bool
 wp:Gam->Store->DL.Fin->Prop
 sound:∀{X:Cx}{r:Nat}{top:Bool}{N:List Str}{nm:Nm}{st:Stmt}{Γ:Gam}{S:Store}{W:DL.Fin},At Ω X r top N nm->lev≤r->chk top N nm st=true->wp Γ S W->Rn X Γ S st W
set_option genInjectivity false in
structure Bl(Ω:Wd) where
 lev:Nat
 chk:Bool->List Str->Nm->List Stmt->Bool
 wp:Gam->Store->DL.Fin->Prop
 sound:∀{X:Cx}{r:Nat}{top:Bool}{N:List Str}{nm:Nm}{sts:List Stmt}{Γ:Gam}{S:Store}{W:DL.Fin},At Ω X r top N nm->lev≤r->chk top N nm sts=true->wp Γ S W->Rns X Γ S sts W
def Bl.nil:Bl Ω where
 lev:=0
 chk _ _ _ sts:=match sts with | []=>true | _=>false
 wp Γ S W:=W.nx Γ S
 sound:=by
  intro X r top N nm sts Γ S W A hl hc hw
  match sts,hc with
  | [],_=>exact Q9 hw
  | _::_,hc=>exact fE hc
def Bl.cons(s:Sm Ω)(b:Bl Ω):Bl Ω where
 lev:=max s.lev b.lev
 chk top N nm sts:=match sts with | st::sts=>s.chk top N nm st&&b.chk top N nm sts | _=>false
 wp Γ S W:=s.wp Γ S {W with nx:=λ Γ1 S1=>b.wp Γ1 S1 W}
 sound:=by
  intro X r top N nm sts Γ S W A hl hc hw
  obtain⟨l1,l2⟩:=lv2 hl
  match sts,hc with
  | st::sts,hc=>
    obtain⟨h1,h2⟩:=aa hc
    exact uh (Rn.mono (s.sound A l1 h1 hw) (λ G S1 q=>b.sound A l2 h2 q) (λ _ _ q=>q) (λ _ _ q=>q) λ _ _ q=>q)
  | [],hc=>exact fE hc
def Sm.ret(a:Ex Ω):Sm Ω where
 lev:=a.lev
 chk top N nm st:=match st with | .Return (some e) _=>a.chk top N nm e | _=>false
 wp Γ S W:=a.wp Γ S W.rt
 sound:=by
  intro X r top N nm st Γ S W A hl hc hw
  cases st with
  | Return o pos=>
    cases o with
    | some e=>exact UG (a.sound A hl hc hw)
    | none=>exact fE hc
  | _=>exact fE hc
def Sm.expr(a:Ex Ω):Sm Ω where
 lev:=a.lev
 chk top N nm st:=match st with | .Expr e _=>noC e&&a.chk top N nm e | _=>false
 wp Γ S W:=a.wp Γ S λ _ S1=>W.nx Γ S1
 sound:=by
  intro X r top N nm st Γ S W A hl hc hw
  cases st with
  | Expr e pos=>
    obtain⟨h1,h2⟩:=aa hc
    exact Ra (a.sound A hl h2 hw) (kO h1 _ _ _)
  | _=>exact fE hc
def Sm.ite(c:Te Ω)(a b:Bl Ω):Sm Ω where
 lev:=max c.lev (max a.lev b.lev)
 chk top N nm st:=match st with | .If t xs ys _=>c.chk top N nm t&&(a.chk top N nm xs&&b.chk top N nm ys) | _=>false
 wp Γ S W:=c.wp Γ S λ k S1=>(k=true->a.wp Γ S1 W)/\(k=false->b.wp Γ S1 W)
 sound:=by
  intro X r top N nm st Γ S W A hl hc hw
  obtain⟨l1,l2⟩:=lv2 hl
  obtain⟨l2,l3⟩:=lv2 l2
  cases st with
  | If t xs ys pos=>
    obtain⟨h1,h2⟩:=aa hc
    obtain⟨h2,h3⟩:=aa h2
    exact Wi (Ts.mono (c.sound A l1 h1 hw) λ k S1 q=>⟨λ hk=>a.sound A l2 h2 (q.1 hk),λ hk=>b.sound A l3 h3 (q.2 hk)⟩)
  | _=>exact fE hc
def Sm.set(i:Nat)(a:Ex Ω):Sm Ω where
 lev:=a.lev
 chk top N nm st:=setB st λ x e=>(N[i]? ==some x)&&(lcl top nm x&&(noC e&&a.chk top N nm e))
 wp Γ S W:=a.wp Γ S λ d S1=>W.nx (Γ.set i (some d)) S1
 sound:=by
  intro X r top N nm st Γ S W A hl hc hw
  obtain⟨x,xp,e,sp,rfl,hc_1⟩:=sV hc
  have hc:=hc_1
  . obtain⟨h1,h2⟩:=aa hc
    obtain⟨h2,h3⟩:=aa h2
    obtain⟨h3,h4⟩:=aa h3
    obtain⟨l1,l2⟩:=A.lcl h2
    exact Ld i (a.sound A hl h4 hw) (by rw[A.n];exact A.nd) (by rw[A.n];exact eq_of_beq h1) l1 (kO h3 _ _ _) l2
def Sm.setC(i:Nat)(N':List Str)(cap:List (Option Nat))(elt:Ex Ω)(tg:Tg)(it:Itb Ω)(cd:Cd Ω):Sm Ω where
 lev:=max elt.lev (max it.lev cd.lev)
 chk top N nm st:=match st with | .Assign [.Name x p] e _=>(N[i]? ==some x)&&(lcl top nm x&&(top&&(mY N' cap elt tg it cd top N nm e))) | _=>false
 wp Γ S W:=it.wp Γ S λ ds S1=>nD cap Γ elt tg cd (λ d S2=>W.nx (Γ.set i (some d)) S2) ds S1
 sound := by
  intro X r top N nm st Γ S W A hl hc hw
  split at hc
  . rename_i x p e spos
    obtain⟨k1,q1⟩:=aa hc
    obtain⟨k2,q2⟩:=aa q1
    obtain⟨k0,hcomp⟩:=aa q2
    obtain⟨l1,l2⟩:=A.lcl k2
    have hN:X.N[i]? =some x:=by rw[A.n];exact eq_of_beq k1
    have nd:X.N.Nodup:=by rw[A.n];exact A.nd
    have hc2:=hcomp
    obtain⟨le,l3⟩:=lv2 hl
    obtain⟨li,lc⟩:=lv2 l3
    unfold mY at hc2
    split at hc2
    . rename_i x' t i' cs sc pos
      obtain⟨h1,hc⟩:=aa hc2
      obtain⟨h2,hc⟩:=aa hc
      obtain⟨h3,hc⟩:=aa hc
      obtain⟨h4,hc⟩:=aa hc
      obtain⟨h5,hc⟩:=aa hc
      obtain⟨h6,hc⟩:=aa hc
      obtain⟨h7,hc⟩:=aa hc
      obtain⟨h8,hc⟩:=aa hc
      obtain⟨h9,hc⟩:=aa hc
      obtain⟨h10,hc⟩:=aa hc
      obtain⟨h11,h12⟩:=aa hc
      have hk:sc.kind=.function:=eq_of_beq h1
      by_cases hb:(X.env.blockKind==.function&&X.env.kindOf x==some .local&&p.line==(Expr.ListComp x' [⟨t,i',cs,0⟩] sc pos).pos.line&& !(sc.names.any λ(n,k)=>n==x&&(k==.local||k==.cell)))=true
      . refine GC i N' cap (ItW.toC (ItW.mono (it.sound A li h9 hw) λ ds S1 q=>qO A le lc hk (of_decide_eq_true h8) h7 h10 h11 h12 q)) nd hN l1 ?_ l2 A.xe A.calm hk h2 (lK A h3) (λ y hy e=>?_) (ig A h5) (gA h6 _)
        . show(pure (X.env.blockKind==.function&&X.env.kindOf x==some .local&&p.line==(Expr.ListComp x' [⟨t,i',cs,0⟩] sc pos).pos.line&& !(sc.names.any λ(n,k)=>n==x&&(k==.local||k==.cell))):Sem Bool)=pure true
          rw[hb]
        . have:=List.all_eq_true.mp h4 y hy
          simpa[e]using this
      . have hb:_=false:=Bool.eq_false_iff.mpr hb
        refine Ld i ((Ex.comp N' cap elt tg it cd).sound A hl hcomp hw) nd hN l1 ?_ l2
        show(pure (X.env.blockKind==.function&&X.env.kindOf x==some .local&&p.line==(Expr.ListComp x' [⟨t,i',cs,0⟩] sc pos).pos.line&& !(sc.names.any λ(n,k)=>n==x&&(k==.local||k==.cell))):Sem Bool)=pure false
        rw[hb]
    . exact(y9 hc2).elim
  . exact fE hc
def Sm.setIx(o i a:Ex Ω):Sm Ω where
 lev:=max a.lev (max o.lev i.lev)
 chk top N nm st:=match st with | .Assign [.Subscript x y _] e _=>noC e&&(okE y&&(a.chk top N nm e&&(o.chk top N nm x&&i.chk top N nm y))) | _=>false
 wp Γ S W:=a.wp Γ S λ d S1=>o.wp Γ S1 λ x S2=>i.wp Γ S2 λ y S3=>match x,y with | .loc k,.int n=>∃ds j,S3[k]? =some ds/\ixN ds.length n=some j/\W.nx Γ (S3.set k (ds.set j d)) | _,_=>False
 sound:=by
  intro X r top N nm st Γ S W A hl hc hw
  obtain⟨l1,l2⟩:=lv2 hl
  obtain⟨l2,l3⟩:=lv2 l2
  split at hc
  . rename_i x y p e spos
    obtain⟨h1,hc⟩:=aa hc
    obtain⟨h2,hc⟩:=aa hc
    obtain⟨h3,hc⟩:=aa hc
    obtain⟨h4,h5⟩:=aa hc
    refine Mv ((a.sound A l1 h3 hw).mono λ d S1 q=>(o.sound A l2 h4 q).mono λ x S2 q=>(i.sound A l3 h5 q).mono λ y S3 q=>?_) ?_ (lV h1 _ _ _) ?_ rfl
    . cases x<;>first | exact q.elim | (cases y<;>first | exact q.elim | (obtain⟨ds,j,a,b,c⟩:=q;exact⟨_,_,ds,j,rfl,rfl,a,b,c⟩))
    . intro v
      cases y<;>first | rfl | exact(y9 h2).elim
    . rfl
  . exact fE hc
theorem Kq{X:Cx}{Γ:Gam}{S:Store}{tg e:Expr}{pos:Pos}{W:DL.Fin}(h:Ev X Γ S e λ d S1=>BdW X tg d Γ S1 W.nx)(hs:swapsWithSole [tg] e pos.line X.env=pure false)(hw:swappedStores [tg] e X.env=pure none)(h1:(assignEach [tg] X.env).map (·.2)=[assign tg X.env]):Rn X Γ S (.Assign [tg] e pos) W:=by
 intro pins s σ H O I env ok
 refine wpAny_Assign_stores (thn (h pins s σ H O I env ok) λ u s1 hq_=>?_) hs hw
 obtain⟨v,H1,I1,r1,O1,d,S1,w1,st1,ok1,rep1⟩:=hq_
 rw[h1]
 show wpAny _ _ (assign tg X.env u) _ _ _
 refine thn (w1 pins s1 σ H1 O1 v u I1 (env.mono st1) ok1 rep1 r1) λ _ s2 ⟨σ',H',I',q⟩=>⟨σ',H',I',QN.pre st1 q⟩
def Ux:Expr->Bool
 | .Tuple .. =>false
 | e=>noC e
def Sm.unpack(t:List Nat)(a:Ex Ω):Sm Ω where
 lev:=a.lev
 chk top N nm st:=match st with | .Assign [.Tuple es k p] e _=>Ux e&&((Tg.tup t).chk top N nm (.Tuple es k p)&&a.chk top N nm e) | _=>false
 wp Γ S W:=a.wp Γ S λ d S1=>(Tg.tup t).wp d Γ λ Γ1=>W.nx Γ1 S1
 sound:=by
  intro X r top N nm st Γ S W A hl hc hw
  split at hc
  . rename_i es k p e spos
    obtain⟨h1,hc⟩:=aa hc
    obtain⟨h2,h3⟩:=aa hc
    have hnc:noC e=true:=by cases e<;>first | rfl | exact(y9 h1).elim
    refine Kq ((a.sound A hl h3 hw).mono λ d S1 q=>Tg.sound A (W:=W.nx) h2 q) (lV hnc _ _ _) ?_ rfl
    cases e<;>first | rfl | exact(y9 h1).elim
  . exact fE hc
@[irreducible] noncomputable def jg(Γ:Gam)(tg:Tg)(body:Bl Ω)(W:DL.Fin)(ds:List D)(S1:Store):Prop:=
  ∃Pv:Nat->Gam->Store->Prop,Pv 0 Γ S1/\(∀i d Γ' S',ds[i]? =some d->Pv i Γ' S'->tg.wp d Γ' λ Γ2=>body.wp Γ2 S' {W with nx:=Pv (i+1),ct:=Pv (i+1),bk:=W.nx})/\(∀Γ' S',Pv ds.length Γ' S'->W.nx Γ' S')
theorem dR{Γ:Gam}{tg:Tg}{body:Bl Ω}{W:DL.Fin}{ds:List D}{S1:Store}(h:∃Pv:Nat->Gam->Store->Prop,Pv 0 Γ S1/\(∀i d Γ' S',ds[i]? =some d->Pv i Γ' S'->tg.wp d Γ' λ Γ2=>body.wp Γ2 S' {W with nx:=Pv (i+1),ct:=Pv (i+1),bk:=W.nx})/\(∀Γ' S',Pv ds.length Γ' S'->W.nx Γ' S')):jg Γ tg body W ds S1:=by unfold jg;exact h
def Sm.for(tg:Tg)(it:Itb Ω)(body:Bl Ω):Sm Ω where
 lev:=max it.lev body.lev
 chk top N nm st:=match st with | .For t i b [] _=>okE i&&(tg.chk top N nm t&&(it.chk top N nm t i&&body.chk top N nm b)) | _=>false
 wp Γ S W:=it.wp Γ S λ ds S1=>jg Γ tg body W ds S1
 sound:=by
  intro X r top N nm st Γ S W A hl hc hw
  obtain⟨l1,l2⟩:=lv2 hl
  split at hc
  . rename_i t i b pos
    obtain⟨h1,hc⟩:=aa hc
    obtain⟨h2,hc⟩:=aa hc
    obtain⟨h3,h4⟩:=aa hc
    refine Us (ItW.mono (it.sound A l1 h3 hw) λ ds S1 q=>?_) (by rw[A.xe];exact PassesOwn.never) A.calm (gA h1 _)
    unfold jg at q
    obtain⟨Pv,p0,pt,pe⟩:=q
    refine⟨Pv,p0,λ i d Γ' S' hd hp=>BdW.mono (Tg.sound A (W:=λ Γ2 S2=>body.wp Γ2 S2 {W with nx:=Pv (i+1),ct:=Pv (i+1),bk:=W.nx}) h2 (pt i d Γ' S' hd hp)) λ Γ2 S2 q=>body.sound A l2 h4 q,pe⟩
  . exact fE hc
def UL(N ps:List Str)(sm:Stmt)(k:Nat)(body:Bl Ω):Bool:=
 ((ak sm).kind==.function)&&(!(ak sm).isCoroutine&&(!(ak sm).isGenerator&&(decide N.Nodup&&(decide (N.take ps.length=ps)&&((ps.all λ x=>(ak sm).names.lookup x==some .local||(ak sm).names.lookup x==some .cell)&&
   (((ak sm).names.all λ y=>!(y.2==.free))&&(Nat.ble body.lev k&&body.chk true N (ak sm).names (bu sm))))))))
theorem aG(N0:Ω.cd=none){x qual:Str}{sm:Stmt}{f:Addr}{fd:FuncData}{N ps:List Str}{k:Nat}{F:Ct}(FF:Fun Ω.K x qual sm f fd)(body:Bl Ω)(hc:UL N ps sm k body=true)
 (vc:∀(ds:List D)(S:Store)(W:WD),F ds S W->ds.length=ps.length->body.wp (ds.map some++List.replicate (N.length-ds.length) none) S {nx:=λ _ S1=>W .non S1,rt:=W}):FnOk Ω.P Ω.w Ω.K Ω.mg Ω.base CX0 (k+1) f fd ps (spC Ω.K ps.length F):=by
 obtain⟨h1,hc⟩:=aa hc
 obtain⟨h2,hc⟩:=aa hc
 obtain⟨h3,hc⟩:=aa hc
 obtain⟨h4,hc⟩:=aa hc
 obtain⟨h5,hc⟩:=aa hc
 obtain⟨h6,hc⟩:=aa hc
 obtain⟨h7,hc⟩:=aa hc
 obtain⟨h8,h9⟩:=aa hc
 have nd:N.Nodup:=of_decide_eq_true h4
 have sc:FnScope N ps (ak sm):=⟨eq_of_beq h1,nt h2,nt h3,nd,of_decide_eq_true h5,λ x hx=>by
  have:=List.all_eq_true.mp h6 x hx
  simpa using this,λ y hy e=>by
  have:=List.all_eq_true.mp h7 y hy
  simp[e]at this⟩
 refine Lh FF sc λ cdv A outer s H E ds S W _ hr hl h=>?_
 refine body.sound (r:=k) (top:=true) (N:=N) (nm:=(ak sm).names) ⟨rfl,rfl,rfl,rfl,rfl,hr,rfl,rfl,rfl,nd,sc.kind,λ x kk h=>.inl h,λ _ _=>rfl,λ _ p q=>(nomatch (N0.symm.trans q)),λ _=>⟨rfl,rfl,rfl⟩⟩ (Nat.le_of_ble_eq_true h8) h9 (vc ds S W h hl)
theorem callee{x qual:Str}{sm:Stmt}{f:Addr}{fd:FuncData}{ps:List Str}{k n:Nat}{F:Ct}(FF:Fun Ω.K x qual sm f fd)(h:FnOk Ω.P Ω.w Ω.K Ω.mg Ω.base CX0 k f fd ps (spC Ω.K n F))(hm:Ω.mg x=some (.ref f))(b:Binds Ω.K fd ps []):Callee Ω.P Ω.w Ω.K Ω.mg Ω.base x k n F:=⟨f,fd,ps,h,hm,FF.kp,b⟩
end RF
namespace RF
open PySem PySem.Spec L2 DL
open PyProof.Rows
def cV:Bf where
 x:="len"
 id:="len"
 boot:=by decide+kernel
 wp ds S W:=match ds with
  | [.tup ds]=>W (.int ds.length) S
  | [.lst ds]=>W (.int ds.length) S
  | [.loc k]=>∃ds,S[k]? =some ds/\W (.int ds.length) S
  | _=>False
 sound:=by
  intro X ds S W hc hr h
  split at h
  . exact Q3 h
  . exact Rj h
  . obtain⟨ds,h1,h2⟩:=h;exact SM h1 h2
  . exact h.elim
def fU:Bf where
 x:="all"
 id:="all"
 boot:=by decide+kernel
 wp ds S W:=match ds with
  | [.lst ds]=>∃bs:List Bool,ds=bs.map .bl/\W (.bl (bs.all id)) S
  | _=>False
 sound:=by
  intro X ds S W hc hr h
  split at h
  . obtain⟨bs,rfl,h⟩:=h;exact k_all h hc
  . exact h.elim
def VN:Bf where
 x:="abs"
 id:="abs"
 boot:=by decide+kernel
 wp ds S W:=match ds with
  | [.int i]=>W (.int (if i<0 then-i else i)) S
  | _=>False
 sound:=by
  intro X ds S W hc hr h
  split at h
  . refine cQ Kl λ O H vs st r=>?_
    obtain⟨v,rfl,r'⟩:=dh r
    cases r'
    exact⟨_,rfl,QG.here h st (.int _)⟩
  . exact h.elim
def ql:Bc where
 x:="tuple"
 id:="tuple"
 boot:=by decide+kernel
 wp ds S W:=match ds with
  | [.lst ds]=>W (.tup ds) S
  | [.loc k]=>∃ds,S[k]? =some ds/\W (.tup ds) S
  | _=>False
 sound:=by
  intro X ds S W hc hr h
  split at h
  . exact Qu h
  . obtain⟨ds,h1,h2⟩:=h;exact Qx h1 h2
  . exact h.elim
def Ud:Bc where
 x:="list"
 id:="list"
 boot:=by decide+kernel
 wp ds S W:=match ds with
  | [.tup ds]=>W (.lst ds) S
  | [.lst ds]=>W (.lst ds) S
  | _=>False
 sound:=by
  intro X ds S W hc hr h
  split at h
  . exact Qv h
  . exact Tf h
  . exact h.elim
section
variable {X : Cx} {Γ : Gam} {S : Store} {e : Expr} {pos : Pos}
theorem MN{elts:List Expr}{k:Nat}{tp p:Pos}{W:List D->Store->Prop}(h:Ev X Γ S e λ d S1=>match d with | .lst ds=>W (ds.mapIdx λ i d=>.tup [.int i,d]) S1 | .tup ds=>W (ds.mapIdx λ i d=>.tup [.int i,d]) S1 | _=>False)(hm:X.mg "enumerate"=none)(hg:Gl X "enumerate")(hs:starEach [e] X.env=[(false,eval e X.env)]):
 ItW X Γ S (.Tuple elts k tp) (.Call (.Name "enumerate" p) [e] [] pos) W:=by
 intro pins s σ H O I env st
 refine Call_ (cZ I hg hm boot_enumerate (PyProof.Rows.callWith_type1 (thn (bw h.pe eE hs pos pins s σ H (λ vs H'=>∃v,vs=[v]/\QG X.K O H (λ d S1=>match d with | .lst ds=>W (ds.mapIdx λ i d=>.tup [.int i,d]) S1 | .tup ds=>W (ds.mapIdx λ i d=>.tup [.int i,d]) S1 | _=>False) v H') I ⟨O,env,st,λ v H' q=>⟨v,rfl,q⟩⟩) λ us s1 hq_=>?_) hs rfl))
 obtain⟨vs,H1,I1,r1,v,ev,O1,d,S1,w,st1,ok1,rep⟩:=hq_
 subst ev
 obtain⟨u,rfl,ru⟩:=vals1 r1
 cases rep with
 | @lst a xs ds h1 q1=>
   cases ru
   obtain⟨its,rv,pl,hz⟩:=I1.list h1.sq
   refine call_enumerate_list pl.isList λ h' he hi _ kp=>Cz (UV X.prog X.w X.K) I1 he hi kp ⟨O1,_,S1,w,st1,ok1,nU _ λ O' H' cv=>⟨xs,(h1.conv cv).sq,q1.conv cv⟩⟩
 | @tup a xs ds h1 q1=>
   cases ru
   obtain⟨its,rv,pl,hz⟩:=I1.tuple h1.sq
   obtain⟨⟨c,dct,dt,sl⟩,hl,hc,n,hd⟩:=pl
   replace hc:c=.type "tuple":=hc
   replace hd:dt=.seq its.toArray n:=hd
   subst hc hd
   refine callType_new F.called_enumerate (by decide) (F.typeCall_enumerate_1 _) (F.newCall_enumerate_1 _) (λ obj=>F.args_object_init_2 obj _) F.entry_enumerate_new (Hj a its.toArray n dct sl) ⟨hl,?_⟩
   have hz:(s1.heap.push {cls:=.type "tuple_iterator",data:=.fields #[.ref a,.int 0 0]}).objs.size=s1.heap.objs.size+1:=Heap.size_push ..
   show _/\_
   rw[hz]
   have he:IsEnum ((s1.heap.push {cls:=.type "tuple_iterator",data:=.fields #[.ref a,.int 0 0]}).push {cls:=.type "enumerate",data:=.fields #[.none,.bool false,.ref s1.heap.objs.size,rawInt 0,.none,.none]}) (s1.heap.objs.size+1) s1.heap.objs.size 0 .none:=by
    have:=Heap.get?_push_size (s1.heap.push {cls:=.type "tuple_iterator",data:=.fields #[.ref a,.int 0 0]}) (o:={cls:=.type "enumerate",data:=.fields #[.none,.bool false,.ref s1.heap.objs.size,rawInt 0,.none,.none]}) rfl
    rw[hz]at this
    exact this
   have hi:Heap.IsTupleIter ((s1.heap.push {cls:=.type "tuple_iterator",data:=.fields #[.ref a,.int 0 0]}).push {cls:=.type "enumerate",data:=.fields #[.none,.bool false,.ref s1.heap.objs.size,rawInt 0,.none,.none]}) s1.heap.objs.size a 0:=
    ⟨_,Heap.get?_push_of_some _ (Heap.get?_push_size _ rfl),rfl,rfl⟩
   exact⟨⟨_,he,rfl⟩,Cz (Jh X.prog X.w X.K) I1 he hi (λ b o e=>Heap.get?_push_of_some _ (Heap.get?_push_of_some _ e)) ⟨O1,_,S1,w,st1,ok1,nU _ λ O' H' cv=>⟨xs,(h1.conv cv).sq,q1.conv cv⟩⟩⟩
 | _=>exact w.elim
end
variable {Ω : Wd}
def Itb.enm(hm:Ω.mg "enumerate"=none)(a:Ex Ω):Itb Ω where
 lev:=a.lev
 chk top N nm tg e:=Ek tg&&fj e λ y es=>dj es λ b=>(y==("enumerate":Str))&&(glb nm "enumerate"&&(okE b&&a.chk top N nm b))
 wp Γ S W:=a.wp Γ S λ d S1=>match d with | .lst ds=>W (ds.mapIdx λ i d=>.tup [.int i,d]) S1 | .tup ds=>W (ds.mapIdx λ i d=>.tup [.int i,d]) S1 | _=>False
 sound:=by
  intro X r top N nm tg e Γ S W A hl hc hw
  obtain⟨h0,hc_1⟩:=aa hc
  obtain⟨ts,k,tp,rfl⟩:=Cv h0
  obtain⟨y,p,es,pos,rfl,hc_2⟩:=b7 hc_1
  obtain⟨b,rfl,hc_3⟩:=bj hc_2
  have hc:=hc_3
  . obtain⟨h1,h2⟩:=aa hc
    obtain⟨h2,h3⟩:=aa h2
    obtain⟨h3,h4⟩:=aa h3
    have e:=eq_of_beq h1
    subst e
    exact MN (a.sound A hl h4 hw) (by rw[A.g];exact hm) (A.glb h2) (aD h3 [] _)
def Itb.zip(hm:Ω.mg "zip"=none)(a b:Ex Ω):Itb Ω where
 lev:=max a.lev b.lev
 chk top N nm tg e:=Ek tg&&fj e λ y es=>two2 es λ l r=>(y==("zip":Str))&&(glb nm "zip"&&((okE l&&okE r)&&(a.chk top N nm l&&b.chk top N nm r)))
 wp Γ S W:=a.wp Γ S λ d S1=>b.wp Γ S1 λ d' S2=>match d,d' with | .tup ds,.tup es=>W (List.zipWith (λ x y=>.tup [x,y]) ds es) S2 | _,_=>False
 sound:=by
  intro X r top N nm tg e Γ S W A hl hc hw
  obtain⟨l1,l2⟩:=lv2 hl
  obtain⟨h0,hc_1⟩:=aa hc
  obtain⟨ts,k,tp,rfl⟩:=Cv h0
  obtain⟨y,p,es,pos,rfl,hc_2⟩:=b7 hc_1
  obtain⟨l',r',rfl,hc_3⟩:=two2_of hc_2
  have hc:=hc_3
  . obtain⟨h1,h2⟩:=aa hc
    obtain⟨h2,h3⟩:=aa h2
    obtain⟨h3,h4⟩:=aa h3
    obtain⟨h5,h6⟩:=aa h3
    obtain⟨h7,h8⟩:=aa h4
    have e:=eq_of_beq h1
    subst e
    refine Ju ((a.sound A l1 h7 hw).mono λ d S1 q=>(b.sound A l2 h8 q).mono λ d' S2 q=>?_) (by rw[A.g];exact hm) (A.glb h2) (aD h5 _ _) (aD h6 [] _)
    cases d<;>first | exact q.elim | (cases d'<;>first | exact⟨_,_,rfl,rfl,q⟩ | exact q.elim)
end RF
namespace RF
theorem ff{P:Prop}(h:false=true):P:=(y9 h).elim
theorem tf{P:Prop}(h:true=false):P:=(y9 h.symm).elim
open PySem PySem.Spec L2 DL
open PyProof.Rows
abbrev Cal(Ω:Wd)(x:Str)(k n:Nat)(F:Ct):Prop:=Callee Ω.P Ω.w Ω.K Ω.mg Ω.base x k n F
abbrev Ok(Ω:Wd)(k:Nat)(f:Addr)(fd:FuncData)(ps:List Str)(F:Ct):Prop:=FnOk Ω.P Ω.w Ω.K Ω.mg Ω.base CX0 k f fd ps (spC Ω.K ps.length F)
def nu:Ct:=λ ds S W=>∃ns,ds=[.lst (List.map .int ns)]/\ns.length≤63/\(∀S',W (.bl true) S')/\S=[]
theorem TX{K:PySem.W.Frag}{H:Hp}{a:Addr}{ns:List Int}{E:XK}(hl:ns.length≤63)(hS:SqL K H a (ns.map V.int)):spC K 1 nu [.ref a] H (λ v _=>v=.bl true) E:=by
 refine⟨⟨[],[]⟩,[.lst (ns.map .int)],[],λ d _=>d=.bl true,rfl,.cons (.lst (xs:=ns.map V.int) ?_ (Reps.of_ints ns)) .nil,?_,⟨ns,rfl,hl,λ _=>rfl,rfl⟩,λ v H' q=>?_⟩
 . rcases hS with h | h
   . exact .inl ⟨λ z=>by rcases z with z | z<;>exact absurd (show a∈([]:List Addr)from z) (by simp),h⟩
   . exact .inr (.inr h)
 . exact⟨List.nodup_nil,rfl,λ k a ds e=>by simp at e,λ k a ds e=>by simp at e,λ a h=>absurd (show a∈([]:List Addr)from h) (by simp),λ a h=>absurd (show a∈([]:List Addr)from h) (by simp)⟩
 . obtain⟨O',d,S',w,_,_,r⟩:=q
   subst w
   cases r
   rfl
theorem walk{lev:Nat}{x:Str}{l:PySem.W.OpenLaw}{q:Program}{loose:List Str}{XP:(Str->Option Value)->Heap->Prop}{YP:World->Heap->Prop}{d:DefRec}{K:Params->PySem.W.Frag}(hn:l.most=some 63)(hdf:d.params.defaults=[])(hr:Room lev callerA)
 (hY:∀(w:World)(h:Heap),YP w h->(K w.params).In h)
 (F:∀(w:World)(mg:Str->Option Value)(fa:Addr)(h:Heap),(K w.params).In h->h.Ns mainGlobals mg->mg d.name=some (.ref fa)->
  ∃fd:FuncData,(∀(s:Shared)(u:Value),BindsTo s fd ⟨[u],[]⟩ [(x,u)])/\∀base:Heap,(K w.params).In base->base.Ns mainGlobals mg->FnOk l.prog w (K w.params) mg base CX0 lev fa fd [x] (spC (K w.params) 1 nu)):
 PySem.W.WalkO q loose XP YP l.row.toRowW d [] (λ f vs=>PySem.call f vs):=
 L2.walk_of (n:=63) (k:=lev) (x:=x) (CX:=λ _=>CX0) (sp:=λ w=>spC (K w.params) 1 nu) hn (by decide) hdf hr hY F (λ _ _ a ns hl _ hS=>TX hl hS) λ _ _ _ _ _ z=>z
theorem Tg.mono{t:Tg}{d:D}{Γ:Gam}{W W':Gam->Prop}(h:t.wp d Γ W)(k:∀G,W G->W' G):t.wp d Γ W':=by
 cases t with
 | nm i=>exact k _ h
 | tup is=>
   cases d with
   | tup ds=>exact⟨h.1,k _ h.2⟩
   | _=>exact h.elim
section
variable {Ω : Wd} {cap : List (Option Nat)} {Γ : Gam} {elt : Ex Ω} {tg : Tg} {cd : Cd Ω} {W : WD} {ds : List D} {S1 : Store}
theorem dY(f:D->D)(hz:ds.length≤1000000)(h:∀(i:Nat)(d:D),ds[i]? =some d->∀Q:WD,Q (f d) S1->tg.wp d (capt cap Γ) λ Γ2=>elt.wp Γ2 S1 Q)(w:W (.lst (ds.map f)) S1):nD cap Γ elt tg (Cd.no (Ω:=Ω)) W ds S1:=by
 refine gF ⟨hz,λ i acc S'=>acc=(ds.take i).map f/\S'=S1,⟨rfl,rfl⟩,?_,?_⟩
 . rintro i d acc S' hd ⟨rfl,rfl⟩
   refine Tg.mono (h i d hd (λ y S4=>(ds.take i).map f++[y]=(ds.take (i+1)).map f/\S4=S') ⟨?_,rfl⟩) λ G q=>⟨λ _=>q,λ z=>tf z⟩
   rw[bN hd,List.map_append];rfl
 . rintro acc S' ⟨rfl,rfl⟩
   rw[List.take_length];exact w
theorem Ro(P:Nat->D->Prop)(Q:Store->Prop)(hz:ds.length≤1000000)(q0:Q S1)(h:∀(i:Nat)(d:D)(S':Store),ds[i]? =some d->Q S'->∀R:WD,(∀y S4,P i y->Q S4->R y S4)->tg.wp d (capt cap Γ) λ Γ2=>elt.wp Γ2 S' R)
 (w:∀(ys:List D)(S':Store),ys.length=ds.length->(∀i y,ys[i]? =some y->P i y)->Q S'->W (.lst ys) S'):nD cap Γ elt tg (Cd.no (Ω:=Ω)) W ds S1:=by
 refine gF ⟨hz,λ i acc S'=>(acc.length=i/\∀j y,acc[j]? =some y->P j y)/\Q S',⟨⟨rfl,λ j y e=>by simp at e⟩,q0⟩,?_,λ acc S' h=>w acc S' h.1.1 h.1.2 h.2⟩
 rintro i d acc S' hd ⟨⟨hl,ha⟩,q⟩
 refine Tg.mono (h i d S' hd q (λ y S4=>((acc++[y]).length=i+1/\∀j y',(acc++[y])[j]? =some y'->P j y')/\Q S4) λ y S4 hy q4=>⟨⟨by simp[hl],λ j y' e=>?_⟩,q4⟩) λ G q=>⟨λ _=>q,λ z=>tf z⟩
 by_cases hj:j<acc.length
 . rw[List.getElem?_append_left hj]at e;exact ha j y' e
 . rw[List.getElem?_append_right (by omega)]at e
   have:j-acc.length=0:=by
    have:=(z0.mp e).1
    simp at this;omega
   rw[this]at e
   simp at e
   subst e
   have:j=i:=by omega
   rw[this];exact hy
end
theorem bT{A B:Prop}(h:A):(true=true->A)/\(true=false->B):=⟨λ _=>h,λ z=>tf z⟩
theorem bF{A B:Prop}(h:B):(false=true->A)/\(false=false->B):=⟨λ z=>ff z,λ _=>h⟩
variable {W : WD}
mutual
theorem dD{K:PySem.W.Frag}{O O':Own}{H:Hp}(h:∀a,¬O.has a->¬O'.has a):∀{v:V}{d:D},ao d=true->Rep K O H v d->Rep K O' H v d
 | _,_,_,.non=>.non
 | _,_,_,.bl b=>.bl b
 | _,_,_,.int i=>.int i
 | _,_,_,.str x=>.str x
 | _,_,n,.tup h1 r=>.tup ⟨h _ h1.1,h1.2⟩ (fC h (by simpa[ao]using n) r)
 | _,_,n,.lst h1 r=>.lst (h1.imp (λ q=>⟨h _ q.1,q.2⟩) id) (fC h (by simpa[ao]using n) r)
 | _,_,n,.loc _=>by simp[ao]at n
 | _,_,n,.dlo _ _=>by simp[ao]at n
 | _,_,_,.dic h1 e=>.dic (h _ h1) e
theorem fC{K:PySem.W.Frag}{O O':Own}{H:Hp}(h:∀a,¬O.has a->¬O'.has a):∀{vs:List V}{ds:List D},aq ds=true->Reps K O H vs ds->Reps K O' H vs ds
 | _,_,_,.nil=>.nil
 | _,_,n,.cons r t=>by
   simp only[aq,Bool.and_eq_true]at n
   exact .cons (dD h n.1 r) (fC h n.2 t)
end
theorem yp{K:PySem.W.Frag}{O O':Own}{H:Hp}(h:∀a,¬O.has a->¬O'.has a):∀{vs:List (List Key×V)}{ds:List D},aq ds=true->Kps K O H vs ds->Kps K O' H vs ds
 | _,_,_,.nil=>.nil
 | _,_,n,.cons r t=>by
   simp only[aq,ao,Bool.and_eq_true]at n
   exact .cons (dD h n.1.2.1 r) (yp h n.2 t)
theorem pD{K:PySem.W.Frag}{O O':Own}{H:Hp}(h:∀a,¬O.has a->¬O'.has a):∀{vs:Cy}{ds:List D},aq ds=true->Kcs K O H vs ds->Kcs K O' H vs ds
 | _,_,_,.nil=>.nil
 | _,_,n,.cons e rk rv r t=>by
   simp only[aq,ao,Bool.and_eq_true]at n
   exact .cons e (dD h n.1.1 rk) rv (dD h n.1.2.1 r) (pD h n.2 t)
theorem yx{K:PySem.W.Frag}{O O':Own}{H:Hp}(h:∀a,¬O.has a->¬O'.has a):∀{vs:Oy}{ds:List D},aq ds=true->Kos K O H vs ds->Kos K O' H vs ds
 | _,_,_,.nil=>.nil
 | _,_,n,.cons e rv r t=>by
   simp only[aq,ao,Bool.and_eq_true]at n
   exact .cons e rv (dD h n.1.2.1 r) (yx h n.2 t)
theorem Jt{K:PySem.W.Frag}{O O':Own}{H:Hp}{a:Addr}{ds:List D}(h:∀a,¬O.has a->¬O'.has a)(n:aq ds=true)(b:DOb K O H a ds):DOb K O' H a ds:=by
 cases b with
 | t kvs e r=>exact .t kvs e (yp h n r)
 | c ys z e r=>exact .c ys z e (pD h n r)
 | o ys z e r=>exact .o ys z e (yx h n r)
 | m ys d' hd e r=>subst hd;exact .m ys d' rfl e (pD h (by simpa[aq,ao]using n) r)
 | p ps z b l c y q k e hd g=>exact .p ps z b l c y q k e hd (g.imp id λ⟨g1,x,g2,g3,g4⟩=>⟨g1,x,g2,h _ g3,g4⟩)
def flat(S:Store):Prop:=∀l∈S,aq l=true
theorem oE{A:List (Addr×Bool)}{n:Nat}{a:Addr}(h:a∈adr (A.take n)):a∈adr A:=by
 obtain⟨x,hx,rfl⟩:=List.mem_map.mp h
 exact List.mem_map.mpr ⟨x,List.mem_of_mem_take hx,rfl⟩
theorem jX{K:PySem.W.Frag}{O O':Own}{H H':Hp}{S':Store}{J:List (List D)}(st:Step O O' H H')(ok:StOk K O' H' (S'++J))(hl:O.A.length≤S'.length)(hS:flat S'):
 Step O ⟨O'.A.take S'.length,O'.B⟩ H H'/\StOk K ⟨O'.A.take S'.length,O'.B⟩ H' S'/\(∀b,¬O'.has b->¬(⟨O'.A.take S'.length,O'.B⟩:Own).has b)/\∀j a,S'.length≤j->∀{q:Bool},O'.A[j]? =some (a,q)->¬(⟨O'.A.take S'.length,O'.B⟩:Own).has a:=by
 obtain⟨N,eA,fN⟩:=st.ext
 have len:O'.A.length=S'.length+J.length:=by have:=ok.len;simpa using this
 have sub:∀b,¬O'.has b->¬(⟨O'.A.take S'.length,O'.B⟩:Own).has b:=λ b hb z=>hb (z.imp oE id)
 have nd:(adr (O'.A.take S'.length)).Nodup:=by
  show(List.map _ (List.take _ _)).Nodup
  rw[List.map_take]
  exact ok.nd.sublist (List.take_sublist _ _)
 refine⟨⟨st.kept,st.dom,⟨N.take (S'.length-O.A.length),by
  show O'.A.take S'.length=_
  rw[eA,List.take_append,List.take_of_length_le (by omega)],λ b hb=>fN b (oE hb)⟩,st.hid⟩,⟨nd,by simp[len],λ k b es e1 e2=>?_,λ k b es e1 e2=>?_,λ b hb=>ok.apart b (oE hb),ok.hidden⟩,sub,λ j a hj q ha z=>?_⟩
 . have hk:k<S'.length:=(z0.mp e2).1
   have e1':(O'.A.take S'.length)[k]? =some (b,false):=e1
   rw[List.getElem?_take,if_pos hk]at e1'
   obtain⟨ys,hy,r'⟩:=ok.obj k b es e1' (by rw[List.getElem?_append_left hk];exact e2)
   exact⟨ys,hy,fC sub (hS es (y8 e2)) r'⟩
 . have hk:k<S'.length:=(z0.mp e2).1
   have e1':(O'.A.take S'.length)[k]? =some (b,true):=e1
   rw[List.getElem?_take,if_pos hk]at e1'
   exact Jt sub (hS es (y8 e2)) (ok.dob k b es e1' (by rw[List.getElem?_append_left hk];exact e2))
 . rcases z with z | z
   . obtain⟨⟨a',q'⟩,hm,rfl⟩:=List.mem_map.mp z
     obtain⟨i,hi⟩:=List.getElem?_of_mem hm
     rw[List.getElem?_take]at hi
     split at hi
     . rename_i hlt
       exact Fq ok.nd hi ha (by omega) rfl
     . cases hi
   . exact ok.apart a (d9 ha) z
def Frz(n:Nat)(W:WD):WD:=λ d S1=>W d S1∨∃ds S',d=.loc S'.length/\S1=S'++[ds]/\n≤S'.length/\aq ds=true/\flat S'/\W (.lst ds) S'
theorem QG.frz{K:PySem.W.Frag}{O:Own}{H H':Hp}{v:V}{n:Nat}(hn:O.A.length=n)(q:QG K O H (Frz n W) v H'):QG K O H W v H':=by
 obtain⟨O',d,S1,w,st,ok,r⟩:=q
 rcases w with w | ⟨ds,S',rfl,rfl,hl,hd,hS,w⟩
 . exact⟨O',d,S1,w,st,ok,r⟩
 . obtain⟨st2,ok2,sub,na⟩:=jX st ok (by omega) hS
   cases r with
   | @loc a _ ha=>
     obtain⟨xs,hx,q1⟩:=ok.obj S'.length a ds ha (by simp)
     exact⟨_,.lst ds,S',w,st2,ok2,.lst (.inl ⟨na _ a (x8 _) ha,.inl hx⟩) (fC sub hd q1)⟩
theorem N6{X:Cx}{Γ:Gam}{S:Store}{sts:List Stmt}{W:DL.Fin}(h:Rns X Γ S sts {W with rt:=Frz S.length W.rt}):Rns X Γ S sts W:=λ pins s σ H O I env ok=>
 thn (h pins s σ H O I env ok) λ f s' q=>by
  cases f with
  | next=>exact q
  | brk=>exact q
  | cont=>exact q
  | ret u=>obtain⟨v,σ',H',I',r,q⟩:=q;exact⟨v,σ',H',I',r,QG.frz ok.len q⟩
variable {Ω : Wd}
def Bl.frz(b:Bl Ω):Bl Ω where
 lev:=b.lev
 chk:=b.chk
 wp Γ S W:=b.wp Γ S {W with rt:=Frz S.length W.rt}
 sound:=by
  intro X r top N nm sts Γ S W A hl hc hw
  exact N6 (b.sound A hl hc hw)
def hand(W:WD)(ds:List D)(S:Store):Prop:=W (.lst ds) S∨W (.loc S.length) (S++[ds])
theorem Jj{ds:List D}{S:Store}(h:hand W ds S)(hd:aq ds=true)(hS:flat S):Frz S.length W (.loc S.length) (S++[ds]):=by
 rcases h with h | h
 . exact .inr ⟨ds,S,rfl,rfl,x8 _,hd,hS,h⟩
 . exact .inl h
theorem HW{X:Cx}{Γ:Gam}{S:Store}{o e:Expr}{apos cpos:Pos}(h:Ev X Γ S o λ x S1=>∃k,x=.loc k/\Ev X Γ S1 e λ d S2=>∃ds,S2[k]? =some ds/\ds.length<1000000/\W .non (S2.set k (ds++[d])))
 (hbase:attributeBase o "append" X.env (eval o X.env)=eval o X.env)(hs:starEach [e] X.env=[(false,eval e X.env)])(hline:(apos.endLine==cpos.line)=true):Ev X Γ S (.Call (.Attribute o "append" apos) [e] [] cpos) W:=by
 intro pins s σ H O I env st
 have hty:∀(O1:Own)(x:D)(v:V)(H1:Hp)(S1:Store),(∃k,x=.loc k)->StOk X.K O1 H1 S1->Rep X.K O1 H1 v x->tyV X.K "list" v H1:=by
  rintro O1 x v H1 S1 ⟨k,rfl⟩ ok r
  cases r with
  | @loc a _ ha=>
    have hl:k<S1.length:=by rw[←ok.len];exact(z0.mp ha).1
    obtain⟨xs,hx,_⟩:=ok.obj k a S1[k] ha (y0 hl)
    exact .inl ⟨rfl,xs,SqL.of hx⟩
 have hA:PA X [e] (λ σ H Q=>∃O Γ S W',EnvOk X.K O H σ Γ/\StOk X.K O H S/\Ev X Γ S e W'/\∀v H',QG X.K O H W' v H'->Q [v] H'):=by
  rintro pos pins s σ H Q I ⟨O,Γ,S,W',env,st,he,k⟩
  rw[hs]
  show wpAny _ _ (spliced ((false,eval e X.env)::backTo pos (starEach [] X.env))) _ _ s
  refine Calls.spliced_cons (thn (he pins s σ H O I env st) λ u s1 hq_=>?_)
  obtain⟨v,H1,I1,r1,q⟩:=hq_
  exact Calls.spliced_nil ⟨[v],H1,I1,.cons r1 .nil,k v H1 q⟩
 refine EY (T:="list") PySem.F.plainAttrs_list PySem.F.slot_list_append PySem.F.type_list_append mF (h.pe) hA hbase (by rw[hs];rfl) hline hs rfl pins s σ H _ I ⟨O,env,st,λ v H' q=>?_⟩
 obtain⟨O1,x,S1,⟨k,rfl,he⟩,st1,ok1,rep1⟩:=q
 refine⟨hty O1 _ v H' S1 ⟨k,rfl⟩ ok1 rep1,O1,Γ,S1,_,env.mono st1,ok1,he,λ v2 H2 q2=>?_⟩
 obtain⟨O2,d,S2,⟨ds,hk,hz,w⟩,st2,ok2,rep2⟩:=q2
 have r:=rep1.mono st2
 cases r with
 | @loc a _ ha=>
   obtain⟨xs,hx,q1⟩:=ok2.obj k a ds ha hk
   exact⟨a,xs,v2,rfl,rfl,hx,by rw[q1.length];exact Nat.lt_of_lt_of_le hz (by decide),O2,.non,_,w,(st1.trans st2).trans (Step.put (d9 ha) _),ok2.put ha (q1.append (.cons rep2 .nil)),.non⟩
def nameE:Expr->Bool
 | .Name .. =>true
 | _=>false
def Ex.m_append(o a:Ex Ω):Ex Ω where
 lev:=max o.lev a.lev
 chk top N nm e:=match e with | .Call (.Attribute x m p) [y] [] q=>(m==("append":Str))&&(nameE x&&((p.endLine==q.line)&&(okE y&&(o.chk top N nm x&&a.chk top N nm y)))) | _=>false
 wp Γ S W:=o.wp Γ S λ x S1=>match x with | .loc k=>a.wp Γ S1 λ d S2=>∃ds,S2[k]? =some ds/\ds.length<1000000/\W .non (S2.set k (ds++[d])) | _=>False
 sound:=by
  intro X r top N nm e Γ S W A hl hc hw
  obtain⟨l1,l2⟩:=lv2 hl
  split at hc
  . rename_i x m p y q
    obtain⟨h1,g⟩:=aa hc
    obtain⟨h2,g⟩:=aa g
    obtain⟨h3,g⟩:=aa g
    obtain⟨h4,g⟩:=aa g
    obtain⟨h5,h6⟩:=aa g
    have e:=eq_of_beq h1
    subst e
    refine HW ((o.sound A l1 h5 hw).mono λ x S1 q=>?_) ?_ (aD h4 [] _) h3
    . cases x<;>first | exact q.elim | exact⟨_,rfl,a.sound A l2 h6 q⟩
    . cases x<;>first | rfl | exact ff h2
  . exact ff hc
theorem b8(S:Store)(x:List D):(S++[x])[S.length]? =some x:=by simp
theorem oM(S:Store)(x y:List D):(S++[x]).set S.length y=S++[y]:=by simp
theorem mX{α β:Type}{xs:List α}{f:α->β}{i:Nat}{e:β}(h:(xs.map f)[i]? =some e):∃x,xs[i]? =some x/\e=f x:=by
 rw[x6]at h
 cases e1:xs[i]? with
 | none=>rw[e1]at h;cases h
 | some x=>rw[e1]at h;cases h;exact⟨x,rfl,rfl⟩
theorem zc{cap:List (Option Nat)}{Γ:Gam}{elt:Ex Ω}{tg:Tg}{S1:Store}{α:Type}{xs:List α}{enc:α->D}(f:α->D)(hz:xs.length≤1000000)(h:∀(i:Nat)(x:α),xs[i]? =some x->∀Q:WD,Q (f x) S1->tg.wp (enc x) (capt cap Γ) λ Γ2=>elt.wp Γ2 S1 Q)
 (w:W (.lst (xs.map f)) S1):nD cap Γ elt tg (Cd.no (Ω:=Ω)) W (xs.map enc) S1:=by
 refine gF ⟨by rw[x5];exact hz,λ i acc S'=>acc=(xs.take i).map f/\S'=S1,⟨rfl,rfl⟩,?_,?_⟩
 . rintro i d acc S' hd ⟨rfl,rfl⟩
   obtain⟨x,hx,rfl⟩:=mX hd
   refine Tg.mono (h i x hx (λ y S4=>(xs.take i).map f++[y]=(xs.take (i+1)).map f/\S4=S') ⟨?_,rfl⟩) λ G q=>⟨λ _=>q,λ z=>tf z⟩
   rw[bN hx,List.map_append];rfl
 . rintro acc S' ⟨rfl,rfl⟩
   rw[x5,List.take_length];exact w
theorem wM2{i j:Int}{P:Prop}(h:L2.CPow i j)(p:P):L2.CPow i j/\P:=⟨h,p⟩
theorem wM5{α:Type}{l:List α}{P:Prop}(h:l.length≤1000000)(p:P):l.length≤1000000/\P:=⟨h,p⟩
theorem wM6{α β:Type}{l:List α}{k:List β}{P:Prop}(h:l.length+k.length≤1000000)(p:P):l.length+k.length≤1000000/\P:=⟨h,p⟩
theorem wM9{n:Int}{ds:List D}{d:D}{Q:D->Prop}(g:L2.atI ds n=some d)(q:Q d):∃d,L2.atI ds n=some d/\Q d:=⟨d,g,q⟩
end RF
namespace RF
open PySem PySem.Spec L2 DL
open PyProof.Rows
theorem Et{K:PySem.W.Frag}{O:Own}{H:Hp}{a:Addr}{k:Nat}{ds:List D}(h:O.A[k]? =some (a,false)):sZ K (Itl K a) O H (λ S=>S[k]? =some ds) ds:=by
 intro O' H' S' st ok hS i
 have h':O'.A[k]? =some (a,false):=st.lc k _ h
 obtain⟨xs,hx,r⟩:=ok.obj k a ds h' hS
 have hq:SqL K H' a xs:=SqL.of hx
 refine⟨λ d hd=>?_,λ hi=>⟨xs,hq,by rw[r.length];exact Nat.le_of_eq hi.symm⟩⟩
 obtain⟨v,hv,rv⟩:=r.get hd
 refine⟨⟨xs,v,hq,hv⟩,λ x H'' y=>?_⟩
 obtain⟨e,y⟩:=y
 subst e
 have e:=y xs hq
 rw[hv]at e
 cases e
 exact⟨aR.refl _,rv⟩
abbrev itC(W:List D->(Store->Prop)->Store->Prop):WD:=λ d S1=>match d with
 | .lst ds=>W ds (λ _=>True) S1
 | .tup ds=>W ds (λ _=>True) S1
 | .loc k=>∃ds,S1[k]? =some ds/\W ds (λ S=>S[k]? =some ds) S1
 | _=>False
theorem R4{X:Cx}{Γ:Gam}{S:Store}{tg e:Expr}{W:List D->(Store->Prop)->Store->Prop}(h:Ev X Γ S e (itC W)):ItC X Γ S tg e W:=by
 intro pins s σ H O I env st
 refine thn (h pins s σ H O I env st) λ u s1 hq_=>?_
 obtain⟨v,H1,I1,r1,O1,d,S1,w,st1,ok1,rep⟩:=hq_
 cases rep with
 | @lst a xs ds h1 q1=>
   cases r1
   obtain⟨its,rv,p,hz⟩:=I1.list h1.sq
   refine wpAny_pyIter_list p.isList ?_
   refine⟨s1.heap.objs.size,[s1.heap.objs.size],_,_,H1,rfl,I1.kept (t':=s1.toks) λ b o e=>Heap.get?_push_of_some _ e,lX a _,⟨_,Heap.get?_push_size _ rfl,rfl,rfl⟩,λ b hb=>?_,O1,ds,_,S1,w,st1,ok1,oJ (nT h1 q1)⟩
   have e:b=s1.heap.objs.size:=by simpa using hb
   subst e
   exact I1.fpOk (x8 _) (I1.hok.fresh (x8 _))
 | @tup a xs ds h1 q1=>
   cases r1
   obtain⟨its,rv,p,hz⟩:=I1.tuple h1.sq
   refine wpAny_pyIter_tuple (show s1.heap.IsTuple a its.toArray from p) ?_
   refine⟨s1.heap.objs.size,[s1.heap.objs.size],_,_,H1,rfl,I1.kept (t':=s1.toks) λ b o e=>Heap.get?_push_of_some _ e,pW a _,⟨_,Heap.get?_push_size _ rfl,rfl,rfl⟩,λ b hb=>?_,O1,ds,_,S1,w,st1,ok1,oJ (pL h1 q1)⟩
   have e:b=s1.heap.objs.size:=by simpa using hb
   subst e
   exact I1.fpOk (x8 _) (I1.hok.fresh (x8 _))
 | @loc a k h1=>
   cases r1
   obtain⟨ds,hk,w⟩:=w
   obtain⟨xs,hx,q1⟩:=ok1.obj k a ds h1 hk
   obtain⟨its,rv,p,hz⟩:=I1.list (SqL.of hx)
   refine wpAny_pyIter_list p.isList ?_
   refine⟨s1.heap.objs.size,[s1.heap.objs.size],_,_,H1,rfl,I1.kept (t':=s1.toks) λ b o e=>Heap.get?_push_of_some _ e,lX a _,⟨_,Heap.get?_push_size _ rfl,rfl,rfl⟩,λ b hb=>?_,O1,ds,_,S1,w,st1,ok1,Et h1⟩
   have e:b=s1.heap.objs.size:=by simpa using hb
   subst e
   exact I1.fpOk (x8 _) (I1.hok.fresh (x8 _))
 | _=>exact w.elim
theorem Qa{X:Cx}{Γ:Gam}{S:Store}{W:DL.Fin}{pos:Pos}{tg iter:Expr}{body:List Stmt}(h:ItC X Γ S tg iter λ ds C S1=>∃Pv:Nat->Gam->Store->Prop,Pv 0 Γ S1/\(∀i Γ' S',Pv i Γ' S'->C S')/\
 (∀i d Γ' S',ds[i]? =some d->Pv i Γ' S'->BdW X tg d Γ' S' λ Γ2 S2=>Rns X Γ2 S2 body {W with nx:=Pv (i+1),ct:=Pv (i+1),bk:=W.nx})/\(∀Γ' S',Pv ds.length Γ' S'->W.nx Γ' S'))
 (hp:PassesOwn (model X.prog X.w) X.A X.env X.xe)(hc:X.calm=true)(hs:∀x,foldedSetIterable iter X.env x=pure x):Rn X Γ S (.For tg iter body [] pos) W:=by
 intro pins s σ H O I env ok
 let WI:List D->(Store->Prop)->Store->Prop:=λ ds C S1=>∃Pv:Nat->Gam->Store->Prop,Pv 0 Γ S1/\(∀i Γ' S',Pv i Γ' S'->C S')/\
     (∀i d Γ' S',ds[i]? =some d->Pv i Γ' S'->BdW X tg d Γ' S' λ Γ2 S2=>Rns X Γ2 S2 body {W with nx:=Pv (i+1),ct:=Pv (i+1),bk:=W.nx})/\(∀Γ' S',Pv ds.length Γ' S'->W.nx Γ' S')
 have hI:PI X tg iter (λ σ H R=>∃O,EnvOk X.K O H σ Γ/\StOk X.K O H S/\∀J H',QIc X.K O H WI J H'->R J H'):=λ pins s σ H R I hh=>by
  obtain⟨O,env,st,k⟩:=hh
  refine thn (h pins s σ H O I env st) λ _ _ q=>thn q λ _ _ q2=>?_
  obtain⟨it,fp,tn,J,H',e1,e2,e3,e4,e5,e6⟩:=q2
  exact⟨it,fp,tn,J,H',e1,e2,e3,e4,e5,k J H' e6⟩
 have hG:PG X tg (λ v σ H Q=>∃O d Γ S W',EnvOk X.K O H σ Γ/\StOk X.K O H S/\Rep X.K O H v d/\BdW X tg d Γ S W'/\∀σ' H',QN X.K O H W' σ' H'->Q σ' H'):=λ pins s σ H v u Q I ru hh=>by
  obtain⟨O,d,Γ,S,W',env,st,r,b,k⟩:=hh
  refine thn (b pins s σ H O v u I env st r ru) λ _ _ q2=>?_
  obtain⟨σ',H',I',q⟩:=q2
  exact⟨σ',H',I',k σ' H' q⟩
 have hB:PSs X body (λ D σ H=>∃O Γ S W',EnvOk X.K O H σ Γ/\StOk X.K O H S/\Rns X Γ S body W'/\(∀σ' H',QN X.K O H W'.nx σ' H'->D.nx σ' H')/\(∀v H',QG X.K O H W'.rt v H'->D.rt v H')/\(∀σ' H',QN X.K O H W'.bk σ' H'->D.bk σ' H')/\∀σ' H',QN X.K O H W'.ct σ' H'->D.ct σ' H'):=
  λ pins s σ H D I hh=>by
   obtain⟨O,Γ,S,W',env,st,b,k1,k2,k3,k4⟩:=hh
   refine thn (b pins s σ H O I env st) λ f s' q=>?_
   cases f with
   | next=>obtain⟨σ',H',I',q⟩:=q;exact⟨σ',H',I',k1 σ' H' q⟩
   | brk=>obtain⟨σ',H',I',q⟩:=q;exact⟨σ',H',I',k3 σ' H' q⟩
   | cont=>obtain⟨σ',H',I',q⟩:=q;exact⟨σ',H',I',k4 σ' H' q⟩
   | ret u=>obtain⟨v,σ',H',I',r,q⟩:=q;exact⟨v,σ',H',I',r,k2 v H' q⟩
 refine zx hp hc hI hG hB hs pins s σ H _ I ⟨O,env,ok,λ J H1 q=>?_⟩
 obtain⟨O1,ds,C,S1,⟨Pv,p0,pC,pt,pe⟩,st1,ok1,yl⟩:=q
 refine⟨λ i m σ' H'=>m=ds.length-i/\i≤ds.length/\∃O' Γ' S',Pv i Γ' S'/\Step O1 O' H1 H'/\StOk X.K O' H' S'/\EnvOk X.K O' H' σ' Γ',⟨ds.length,by simp,Nat.zero_le _,O1,Γ,S1,p0,Step.refl _ _,ok1,env.mono st1⟩,?_⟩
 rintro i m σ2 H2 ⟨rfl,hi,O2,Γ2,S2,p2,st2,ok2,env2⟩
 obtain⟨y1,y2⟩:=yl O2 H2 S2 st2.conv ok2 (pC _ _ _ p2) i
 by_cases hlt:i<ds.length
 . obtain⟨go,yy⟩:=y1 ds[i] (y0 hlt)
   refine .inr ⟨go,λ σ' H'=>i+1≤ds.length/\∃O' Γ' S',Pv (i+1) Γ' S'/\Step O1 O' H1 H'/\StOk X.K O' H' S'/\EnvOk X.K O' H' σ' Γ',λ σ' H' q=>⟨ds.length-(i+1),by omega,rfl,q.1,q.2⟩,λ x H3 y=>?_⟩
   obtain⟨sm,rx⟩:=yy x H3 y
   have st3:=Step.same (O:=O2) sm
   refine⟨O2,ds[i],Γ2,S2,_,env2.mono st3,ok2.same sm,rx,pt i ds[i] Γ2 S2 (y0 hlt) p2,λ σ4 H4 q4=>?_⟩
   obtain⟨O4,Γ4,S4,w4,st4,ok4,env4⟩:=q4
   have stA:=(st2.trans st3).trans st4
   refine⟨O4,Γ4,S4,_,env4,ok4,w4,?_,?_,?_,?_⟩
   . rintro σ5 H5 ⟨O5,Γ5,S5,w5,st5,ok5,env5⟩
     exact⟨hlt,O5,Γ5,S5,w5,stA.trans st5,ok5,env5⟩
   . exact λ v H' q=>QG.pre (st1.trans stA) q
   . exact λ σ' H' q=>QN.pre (st1.trans stA) q
   . rintro σ5 H5 ⟨O5,Γ5,S5,w5,st5,ok5,env5⟩
     exact⟨hlt,O5,Γ5,S5,w5,stA.trans st5,ok5,env5⟩
 . have e:i=ds.length:=by omega
   subst e
   exact .inl ⟨y2 rfl,O2,Γ2,S2,pe Γ2 S2 p2,st1.trans st2,ok2,env2⟩
section
variable {Ω : Wd}
@[irreducible] noncomputable def QJ(Γ:Gam)(tg:Tg)(body:Bl Ω)(W:DL.Fin)(k:Nat)(ds:List D)(S1:Store):Prop:=
  ∃Pv:Nat->Gam->Store->Prop,Pv 0 Γ S1/\(∀i Γ' S',Pv i Γ' S'->S'[k]? =some ds)/\(∀i d Γ' S',ds[i]? =some d->Pv i Γ' S'->tg.wp d Γ' λ Γ2=>body.wp Γ2 S' {W with nx:=Pv (i+1),ct:=Pv (i+1),bk:=W.nx})/\(∀Γ' S',Pv ds.length Γ' S'->W.nx Γ' S')
def Sm.forL(tg:Tg)(it:Ex Ω)(body:Bl Ω):Sm Ω where
 lev:=max it.lev body.lev
 chk top N nm st:=match st with | .For t i b [] _=>okE i&&(tg.chk top N nm t&&(it.chk top N nm i&&body.chk top N nm b)) | _=>false
 wp Γ S W:=it.wp Γ S λ d S1=>match d with
  | .lst ds=>jg Γ tg body W ds S1
  | .tup ds=>jg Γ tg body W ds S1
  | .loc k=>∃ds,S1[k]? =some ds/\QJ Γ tg body W k ds S1
  | _=>False
 sound:=by
  intro X r top N nm st Γ S W A hl hc hw
  obtain⟨l1,l2⟩:=lv2 hl
  split at hc
  . rename_i t i b pos
    obtain⟨h1,hc⟩:=aa hc
    obtain⟨h2,hc⟩:=aa hc
    obtain⟨h3,h4⟩:=aa hc
    have step:∀(Pv:Nat->Gam->Store->Prop)(ds:List D),(∀i d Γ' S',ds[i]? =some d->Pv i Γ' S'->tg.wp d Γ' λ Γ2=>body.wp Γ2 S' {W with nx:=Pv (i+1),ct:=Pv (i+1),bk:=W.nx})->∀i d Γ' S',ds[i]? =some d->Pv i Γ' S'->BdW X t d Γ' S' λ Γ2 S2=>Rns X Γ2 S2 b {W with nx:=Pv (i+1),ct:=Pv (i+1),bk:=W.nx}:=
     λ Pv ds pt i d Γ' S' hd hp=>BdW.mono (Tg.sound A (W:=λ Γ2 S2=>body.wp Γ2 S2 {W with nx:=Pv (i+1),ct:=Pv (i+1),bk:=W.nx}) h2 (pt i d Γ' S' hd hp)) λ Γ2 S2 q=>body.sound A l2 h4 q
    refine Qa (R4 (Ev.mono (it.sound A l1 h3 hw) λ d S1 q=>?_)) (by rw[A.xe];exact PassesOwn.never) A.calm (gA h1 _)
    cases d with
    | lst ds=>
      have q:jg Γ tg body W ds S1:=q
      unfold jg at q
      obtain⟨Pv,p0,pt,pe⟩:=q
      exact⟨Pv,p0,λ _ _ _ _=>trivial,step Pv ds pt,pe⟩
    | tup ds=>
      have q:jg Γ tg body W ds S1:=q
      unfold jg at q
      obtain⟨Pv,p0,pt,pe⟩:=q
      exact⟨Pv,p0,λ _ _ _ _=>trivial,step Pv ds pt,pe⟩
    | loc k=>
      obtain⟨ds,hk,q⟩:=q
      unfold QJ at q
      obtain⟨Pv,p0,pC,pt,pe⟩:=q
      exact⟨ds,hk,Pv,p0,pC,step Pv ds pt,pe⟩
    | _=>exact(show False from q).elim
  . exact fE hc
end
variable {ds : List D}
def jQ(S:Store):D->Option (List D)
 | .lst ds=>some ds
 | .loc k=>S[k]?
 | _=>none
def putL(own:Bool)(W:WD)(ds:List D)(S:Store):Prop:=match own with
 | true=>W (.loc S.length) (S++[ds])
 | false=>W (.lst ds) S
section
variable {X : Cx} {S : Store} {W : WD}
theorem wR{pins:Pins}{s:Shared}{σ:DL.St}{H:Hp}{O:Own}{v:V}{d:D}(st:StOk X.K O H S)(r:Rep X.K O H v d)(h:jQ S d=some ds):∃a xs,v=.ref a/\SqL X.K H a xs/\Reps X.K O H xs ds:=by
 cases r with
 | @lst a xs _ h1 q1=>cases h;exact⟨a,xs,rfl,h1.sq,q1⟩
 | @loc a k h1=>
   obtain⟨xs,hx,q1⟩:=st.obj k a ds h1 h
   exact⟨a,xs,rfl,SqL.of hx,q1⟩
 | _=>cases h
theorem Iw{own:Bool}{K:PySem.W.Frag}{O:Own}{H:Hp}{p:Addr}{xs:List V}(w:putL own W ds S)(st:StOk K O H S)(h:H p=none)(r:Reps K O H xs ds):QG K O H W (.ref p) (upd H p (.lst xs)):=by
 cases own with
 | true=>exact yq w st h r
 | false=>exact fJ w st h r
theorem Qz{own:Bool}{x y:D}{es:List D}(hx:jQ S x=some ds)(hy:jQ S y=some es)(hz:ds.length+es.length≤1000000)(w:putL own W (ds++es) S):cA X .Add x y S W:=by
 intro pins s σ H O v w' u u' I st r1 r2 r3 r4
 obtain⟨a,xs,rfl,h1,q1⟩:=wR (pins:=pins) (s:=s) (σ:=σ) st r1 hx
 obtain⟨b,ys,rfl,h2,q2⟩:=wR (pins:=pins) (s:=s) (σ:=σ) st r2 hy
 cases r3
 cases r4
 obtain⟨its,v1,p1,_⟩:=I.list h1
 obtain⟨its2,v2,p2,_⟩:=I.list h2
 obtain⟨⟨cls,dd,data,sl⟩,n,ho,hc,hdd,hd⟩:=id p1
 obtain⟨⟨cls2,dd2,data2,sl2⟩,n2,ho2,hc2,hdd2,hd2⟩:=id p2
 simp only at hc hd hc2 hd2
 subst hc hd hc2 hd2
 have z:its.length+its2.length≤sizeLine:=by rw[←v1.length,←v2.length,q1.length,q2.length];exact small hz
 refine concat_meets ⟨_,ho,rfl⟩ ⟨_,ho2,rfl⟩ noFill_list_add seq_list_add PySem.F.slot_list_add PySem.F.entry_list_add (PySem.F.args_list_add_2 _ _)
  (list_addW a b its.toArray its2.toArray n n2 dd dd2 sl sl2 (by simpa using z)) ⟨ho,ho2,?_⟩
 have ea:its.toArray++its2.toArray=(its++its2).toArray:=by simp
 rw[ea]
 exact⟨.ref s.heap.objs.size,_,I.lnew (t':=s.toks) (v1.append v2) (by rw[List.length_append,q1.length,q2.length];exact small hz),rfl,Iw w st I.fresh (q1.append q2)⟩
theorem PK{own:Bool}{x:D}{k:Int}(hx:jQ S x=some ds)(hk: -(2 ^ 63)≤k/\k<2 ^ 63)(hz:ds.length*k.toNat≤1000000)(w:putL own W (List.replicate k.toNat ds).flatten S):cA X .Mult x (.int k) S W:=by
 intro pins s σ H O v w' u u' I st r1 r2 r3 r4
 obtain⟨a,xs,rfl,h1,q1⟩:=wR (pins:=pins) (s:=s) (σ:=σ) st r1 hx
 cases r2
 cases r3
 obtain⟨t,rfl⟩:=r4
 obtain⟨its,v1,p1,_⟩:=I.list h1
 obtain⟨⟨cls,dd,data,sl⟩,n,ho,hc,hdd,hd⟩:=id p1
 simp only at hc hd
 subst hc hd
 have l1:its.length=ds.length:=by rw[←v1.length,q1.length]
 have big:its.length*k.toNat≤1000000:=by rw[l1];exact hz
 have sz:(1000000:Nat)≤sizeLine:=by decide
 refine PySem.wpAny_binaryOp_repeat_ref (T:="list") (U:="int") (by decide) ⟨_,ho,rfl⟩ (λ s'=>typeIs_int s' k t) PySem.noFill_list_mul F.fills_int_mul F.slot_int_rmul PySem.repeat_list F.slot_int_index.lookup
  (call_meets F.slot_int_rmul (typeIs_int s k t) F.entry_int_rmul (F.args_int_rmul_2 _ _) (PySem.lm_int_rmul_list_any k t a its.toArray n dd sl) ⟨ho,rfl,⟨_,ho,rfl⟩,?_⟩)
 refine call_meets F.slot_list_mul ⟨_,ho,rfl⟩ F.entry_list_mul (F.args_list_mul_2 _ _) (PySem.lm_list_mul_any a its.toArray n dd sl k t ?_ ?_ ?_) ⟨ho,?_⟩
 . have c1:Builtin.List.listFitsIndex k=true:=by
    unfold Builtin.List.listFitsIndex
    rw[decide_eq_true (by omega),decide_eq_true (by omega)];rfl
   rw[c1];decide
 . rw[w9];omega
 . rw[w9]
   unfold Builtin.List.listTooLong
   rw[decide_eq_true_eq];omega
 . have ez:(List.replicate (if its.toArray.isEmpty=true then 0 else k.toNat) its.toArray).foldl (λ x1 x2=>x1++x2) #[]=(List.replicate k.toNat its).flatten.toArray:=by
    have fz:∀m:Nat,(List.replicate m its.toArray).foldl (λ x1 x2=>x1++x2) #[]=(List.replicate m its).flatten.toArray:=λ m=>by
     have:=foldl_rep its m []
     rw[List.nil_append]at this
     exact this
    rw[fz]
    by_cases e:its=[]
    . subst e;simp
    . have:its.toArray.isEmpty=false:=by simpa using e
      rw[this];rfl
   rw[ez]
   exact⟨.ref s.heap.objs.size,_,I.lnew (t':=s.toks) (v1.rep _) (by rw[len_rep,q1.length,Nat.mul_comm];exact small hz),rfl,Iw w st I.fresh (Reps.rep q1 _)⟩
theorem QR{ns:List Int}(w:W (.int ns.sum) S)(hc:X.calm=true):bG X (.builtin "sum") [.tup (ns.map .int)] S W:=by
 intro pins s σ H O vs us I st r ru
 obtain⟨v,rfl,r'⟩:=dh r
 obtain⟨u,rfl,ru'⟩:=vals1 ru
 cases r' with
 | @tup a xs _ h1 q1=>
   cases ru'
   obtain⟨its,rv,pl,hz⟩:=I.tuple h1.sq
   have ex:=q1.ints
   subst ex
   have hi:IntsAre its ns:=intsAre_of rv
   obtain⟨zs,ez⟩:=hi.allInts.items
   have hT:s.heap.IsTuple a its.toArray:=pl
   rw[ez]at hT
   have hlt:a<s.heap.objs.size:=by obtain⟨_,e,_⟩:=hT;exact Heap.lt_size e
   refine call_sum_walkG (wpAny_pyIter_tuple hT ?_)
   refine⟨_,_,_,_,_,_,numAt zs,rfl,Walks.tuple (A:=X.A.in1) (I.ok.hd hc) _ a (Nat.ne_of_lt hlt) (intItems zs),⟨⟨_,Heap.get?_push_size _ rfl,rfl,rfl⟩,hT.push _⟩,(λ b hb=>?_),(λ _ _=>intItems_at),λ h' tk t' hk=>?_⟩
   . show b<(s.heap.push _).objs.size
     rw[Heap.size_push]
     rcases List.mem_cons.mp hb with rfl | hb
     . exact Nat.lt_succ_self _
     . rcases List.mem_cons.mp hb with rfl | hb
       . exact Nat.lt_succ_of_lt hlt
       . cases hb
   . have e:preSum (numAt zs) (intItems zs).size=ns.sum:=by
      rw[show(intItems zs).size=zs.size by simp[intItems],preSum_eq,List.take_of_length_le (by simp),←nums_intItems,←ez]
      exact congrArg List.sum hi.numsOf
     rw[e]
     refine⟨.int _,H,I.kept (λ b o q=>hk b o (λ z=>?_) (Heap.get?_push_of_some _ q)),⟨_,rfl⟩,QG.here w st (.int _)⟩
     have z':b=s.heap.objs.size:=by simpa using z
     exact absurd (Heap.lt_size q) (by rw[z'];exact Nat.lt_irrefl _)
end
def Eh:Bf where
 x:="sum"
 id:="sum"
 boot:=by decide+kernel
 wp ds S W:=match ds with
  | [.lst ds]=>∃ns:List Int,ds=ns.map .int/\W (.int ns.sum) S
  | [.tup ds]=>∃ns:List Int,ds=ns.map .int/\W (.int ns.sum) S
  | _=>False
 sound:=by
  intro X ds S W hc hr h
  split at h
  . obtain⟨bs,rfl,h⟩:=h;exact Ue h hc
  . obtain⟨bs,rfl,h⟩:=h;exact QR h hc
  . exact h.elim
def yt(own:Bool)(op:Operator)(x y:D)(S:Store)(W:WD):Prop:=match op with
 | .Add=>∃ds es,jQ S x=some ds/\jQ S y=some es/\ds.length+es.length≤1000000/\putL own W (ds++es) S
 | .Mult=>∃ds k,jQ S x=some ds/\y=.int k/\(-(2 ^ 63)≤k/\k<2 ^ 63)/\ds.length*k.toNat≤1000000/\putL own W (List.replicate k.toNat ds).flatten S
 | _=>False
theorem G5{X:Cx}{own:Bool}{op:Operator}{x y:D}{S:Store}{W:WD}(h:yt own op x y S W):cA X op x y S W:=by
 unfold yt at h
 split at h
 . obtain⟨ds,es,h1,h2,h3,h4⟩:=h;exact Qz h1 h2 h3 h4
 . obtain⟨ds,k,h1,rfl,h3,h4,h5⟩:=h;exact PK h1 h3 h4 h5
 . exact h.elim
section
variable {Ω : Wd}
def Ex.binL(own:Bool)(op:Operator)(a b:Ex Ω):Ex Ω where
 lev:=max a.lev b.lev
 chk top N nm e:=match e with | .BinOp l o r _=>(o==op)&&(a.chk top N nm l&&b.chk top N nm r) | _=>false
 wp Γ S W:=a.wp Γ S λ x S1=>b.wp Γ S1 λ y S2=>yt own op x y S2 W
 sound:=by
  intro X r top N nm e Γ S W A hl hc hw
  obtain⟨l1,l2⟩:=lv2 hl
  cases e with
  | BinOp l o r' pos=>
    obtain⟨h1,h2⟩:=aa hc
    obtain⟨h2,h3⟩:=aa h2
    have e:o=op:=eq_of_beq h1
    subst e
    exact qZ ((a.sound A l1 h2 hw).mono λ x S1 q=>(b.sound A l2 h3 q).mono λ y S2 q=>G5 q)
  | _=>exact fE hc
def Ex.fdiv(a b:Ex Ω):Ex Ω where
 lev:=max a.lev b.lev
 chk top N nm e:=match e with | .BinOp l o r _=>(o==.FloorDiv)&&(a.chk top N nm l&&b.chk top N nm r) | _=>false
 wp Γ S W:=a.wp Γ S λ x S1=>b.wp Γ S1 λ y S2=>match x,y with
  | .int i,.int j=>(0<j/\j<1000000000000000000000000000000000000000000000000000000000000)/\W (.int (i/j)) S2
  | _,_=>False
 sound:=by
  intro X r top N nm e Γ S W A hl hc hw
  obtain⟨l1,l2⟩:=lv2 hl
  cases e with
  | BinOp l o r' pos=>
    obtain⟨h1,h2⟩:=aa hc
    obtain⟨h2,h3⟩:=aa h2
    have e:o=.FloorDiv:=eq_of_beq h1
    subst e
    refine qZ ((a.sound A l1 h2 hw).mono λ x S1 q=>(b.sound A l2 h3 q).mono λ y S2 q=>?_)
    split at q
    . rename_i i j
      refine jC (C:=λ _ j=>0<j/\j<1000000000000000000000000000000000000000000000000000000000000) (g:=λ i j=>i/j) (opI λ i j _ _ _ _ _ hc q=>?_) q.1 q.2
      have h1:(0:Int)<j:=hc.1
      have h2:j<1000000000000000000000000000000000000000000000000000000000000:=hc.2
      refine floordiv_int (by omega) (by rw[Int.fdiv_eq_ediv_of_nonneg i (by omega)];exact q) (.inl (PyProof.noPylong_of_log2 ?_))
      have h3:j.natAbs<2 ^ 200:=by omega
      have:j.natAbs.log2<200:=(Nat.log2_lt (by omega)).mpr h3
      omega
    . exact q.elim
  | _=>exact fE hc
end
end RF
namespace RF
open PySem PySem.Spec L2 DL
open PyProof.Rows
def Drp(n:Nat)(W:WD):WD:=λ d S1=>W d S1∨∃J S',S1=S'++J/\n≤S'.length/\ao d=true/\flat S'/\W d S'
theorem QG.drp{K:PySem.W.Frag}{O:Own}{H H':Hp}{W:WD}{v:V}{n:Nat}(hn:O.A.length=n)(q:QG K O H (Drp n W) v H'):QG K O H W v H':=by
 obtain⟨O',d,S1,w,st,ok,r⟩:=q
 rcases w with w | ⟨J,S',rfl,hl,hd,hS,w⟩
 . exact⟨O',d,S1,w,st,ok,r⟩
 . obtain⟨st2,ok2,sub,na⟩:=jX st ok (by omega) hS
   exact⟨_,d,S',w,st2,ok2,dD sub hd r⟩
abbrev tbl(led:Bool)(ps:List Nat):SetTable:={mask:=7,place:=ps.toArray,dummies:=#[],finger:=0,led:=led,moves:=0,plain:=true}
section
variable {Ω : Wd}
def Te.lval(a:Ex Ω):Te Ω where
 lev:=a.lev
 chk top N nm e:=Ep e&&a.chk top N nm e
 wp Γ S W:=a.wp Γ S λ d S1=>∃ds,vw S1 d=.lst ds/\(d=.lst ds∨∃k,d=.loc k/\S1[k]? =some ds)/\ds.length≤1000000/\W (!ds.isEmpty) S1
 sound:=by
  intro X r top N nm e Γ S W A hl hc hw
  obtain⟨h1,h2⟩:=aa hc
  intro pins s σ H O I env st
  refine isTrue_plain (thn (a.sound A hl h2 hw pins s σ H O I env st) λ u s3 hq_=>?_) (zO h1 _ _)
  obtain⟨z,H3,I3,r3,O3,d,S3,⟨ds,_,hd,hz,wc⟩,st3,ok3,rep3⟩:=hq_
  have main:∀(p:Addr)(xs:List V),z=.ref p->SqL X.K H3 p xs->xs.length=ds.length->wpAny (model X.prog X.w) X.A (truthy u) (TP X pins σ (QT X.K O H W)) X.xe s3:=by
   rintro p xs rfl hs hlen
   cases r3
   obtain⟨its,rv,pl,hzz⟩:=I3.list hs
   have hl2:its.length=ds.length:=by rw[←rv.length,hlen]
   refine wpAny_truthy_list pl.isList (by rw[w9];omega) ?_
   have e:(!its.toArray.isEmpty)= !ds.isEmpty:=by
    cases its with
    | nil=>cases ds with
      | nil=>rfl
      | cons _ _=>simp at hl2
    | cons _ _=>cases ds with
      | nil=>simp at hl2
      | cons _ _=>rfl
   rw[e]
   exact⟨H3,I3.tok _,O3,S3,wc,st3,ok3⟩
  rcases hd with rfl | ⟨k,rfl,hk⟩
  . cases rep3 with
    | @lst p xs _ g1 q1=>exact main p xs rfl g1.sq q1.length
  . cases rep3 with
    | @loc p _ g1=>
      obtain⟨xs,hx,q1⟩:=ok3.obj k p _ g1 hk
      exact main p xs rfl (SqL.of hx) q1.length
end
section
variable {Ω : Wd}
theorem V4{e:Expr}{env:Env}{cpos:Pos}(h:okE e=true):((backTo cpos (starEach [e] env)).all (λ x=>!x.1)&&(backToKw cpos (keywordEach [] env)).all (λ x=>x.1.isSome)
 &&decide ([e].length+([]:List Keyword).length+(if([]:List Keyword).isEmpty then 0 else 1)<30))=true:=by
 rw[aD h [] env];rfl
end
end RF
namespace XE
open PySem PySem.Spec PySem.W PySem.Calls PyProof.Rows Builtin Builtin.ObjectAttr Builtin.Getset_descriptor
def bA(x C:Addr)(po:Option Addr)(h:Heap):Prop:=∃o vs,h.get? x=some o/\o.cls=.ref C/\o.data=.fields vs/\∀dx,po=some dx->o.dict=some dx
structure Atr(K:Frag)(C:Addr):Prop where
 ga:findIn K (.ref C) "__getattribute__"=some (some (.builtin "BaseException.__getattribute__"))
 gh:findIn K (.ref C) "__getattr__"=some none
 ca:findIn K (.ref C) "__class__"=some (some (.builtin "object.__class__"))
 sp:specialIn K (.builtin "object.__class__") "__get__"=some (some (.builtin "getset_descriptor.__get__"))
 tk:takesIn K (.builtin "object.__class__")=some true
 mo:mroIn K C (.type "object")=some true
 mb:mroIn K C (.type "BaseException")=some true
section
variable {K : Frag} {x C : Addr} {po : Option Addr}
theorem Atr.cd(a:Atr K C):∃cd,clsIn K C=some cd:=by
 have:=a.mo
 unfold mroIn at this
 cases e:clsIn K C with
 | none=>rw[e]at this;cases this
 | some cd=>exact⟨cd,rfl⟩
theorem bA.ty{M:Model}{h:Heap}(p:bA x C po h):Looks M h (typeOf (.ref x)) (.ref C):=by
 obtain⟨o,_,h1,h2,_⟩:=p
 exact h2▸(Looks.ld h1).andThen .now
theorem Jg{M:Model}{h:Heap}(X:K.In h)(a:Atr K C):Looks M h (find (.ref x) (.ref C) "__class__") (.bind (.builtin "getset_descriptor.__get__") (.builtin "object.__class__")):=by
 unfold ObjectAttr.find
 refine(looks_findIn X a.ca).andThen ?_
 refine Looks.andThen (a:=some (.builtin "getset_descriptor.__get__")) (looks_specialIn X a.sp) ?_
 refine Looks.andThen (a:=some (.builtin "getset_descriptor.__get__",.builtin "object.__class__")) ?_ (Looks.tag .now)
 exact(looks_takesIn X a.tk).andThen .now
variable {prog : Program} {w : World} {A : Around} {E : Value -> Shared -> Prop} {s : Shared}
theorem N7{tp:Value}{R:Result->Shared->Prop}(X:K.In s.heap)(p:bA x C po s.heap)(a:Atr K C)(hq:R (.ok (.ret (.ref C))) s):
 codeAny (model prog w) A (.call (.builtin "getset_descriptor.__get__") ⟨[.builtin "object.__class__",.ref x,tp],[]⟩) R s:=by
 obtain⟨hh,g,dr,t,os⟩:=s
 have Lt:=p.ty (M:=model prog w);have Lm:=looks_mroIn (M:=model prog w) X a.mo
 refine codeAny_call_builtin KF.slot_gs.plain KF.entry_gs ?_;refine KF.slot_gs.check _ _ _ _ _ _ _ _ KF.type_class (KF.args_gs _ _ _) ?_
 unfold Builtin.«getset_descriptor.__get__» descrGet;rw[dga_obj];refine wpAny_bind (wpAny_pure ?_)
 unfold descrGetter descrCheckInstance descrNameAndClass isInstance;simp only[KF.owner_class]
 repeat lk
 refine⟨Code.quiet_builtin _ (by decide+kernel),?_⟩;refine codeAny_builtin KF.entry_class ?_
 unfold Builtin.«object.__class__» shownTypeOf;(repeat lk)
 exact hq
theorem Mt{Q:Option Value->Shared->Prop}(X:K.In s.heap)(p:bA x C po s.heap)(a:Atr K C)(hq:Q (some (.ref C)) {s with toks:=s.toks+1}):wpAny (model prog w) A (getAttr? (.ref x) "__class__") Q E s:=by
 obtain⟨hh,g,dr,t,os⟩:=s
 have L0:=p.ty (M:=model prog w)
 have L1:=looks_findIn (M:=model prog w) X a.ga
 have L2:=looks_findIn (M:=model prog w) X a.gh
 have L3:=Jg (M:=model prog w) (x:=x) X a
 have LB:=looks_mroIn (M:=model prog w) X a.mb
 have hne:(Value.builtin "BaseException.__getattribute__"==Value.builtin "object.__getattribute__")=false:=by decide+kernel
 unfold getAttr? getAttrBy? getAttrBy
 refine wpAny_bind (wpAny_mkText ?_)
 refine wpAny_bind (wpAny_attempt (wpAny_holding ?_))
 refine wpAny_bind (L0.at (wpAny_bind (L1.at ?_)))
 dsimp only
 rw[if_neg (by rw[hne,Bool.and_false];decide)]
 unfold getAttrByItsOwn hookBefore
 rw[if_pos (show onTheHeap (Value.ref C)=true from rfl)]
 refine wpAny_bind (L2.at ?_)
 refine wpAny_bind (wpAny_attempt (wpAny_holding ?_))
 unfold callGetattribute boundAndCalled
 rw[if_neg (by decide),F.attr_ValueError.ga.bind]
 refine wpAny_bind (wpAny_pure ?_)
 refine wpAny_call (codeAny_call_builtin F.attr_ValueError.ga.plain F.entry_bexc_ga ?_)
 have hk:builtinKind "BaseException.__getattribute__"=some .slot:=by decide+kernel
 have hs:splitId "BaseException.__getattribute__"=some ("BaseException","__getattribute__"):=by decide+kernel
 have ha:=F.args_bexc_ga (.ref x) (.str "__class__" t)
 simp only[checkBuiltinCall,hk,hs]
 refine wpAny_bind (wpAny_bind (L0.at (LB.at ?_)))
 rw[if_neg (by decide)]
 unfold argsOk at ha
 rw[show([Value.ref x]++[Value.str (Str.ofString "__class__") t])=[Value.ref x,Value.str "__class__" t]from rfl]
 refine wpAny_of_eq (a:=()) (by with_unfolding_all exact ha) ?_
 unfold Builtin.«object.__getattribute__»
 refine wpAny_bind (wpAny_of_eq (a:=(Value.ref x,[Value.str "__class__" t])) rfl ?_)
 refine wpAny_bind (wpAny_of_eq (a:=("__class__":Str)) rfl ?_)
 refine wpAny_bind (L0.at (wpAny_bind (L3.at ?_)))
 dsimp only
 unfold bindTo
 dsimp only
 refine wpAny_bind (wpAny_holding (wpAny_call ?_))
 refine N7 (K:=K) (C:=C) X p a ?_
 refine wpAny_pure ?_
 refine wpAny_of_eq (a:=Value.ref C) rfl ?_
 exact wpAny_pure hq
theorem zN(a:Atr K C):KitX K (.ref x) (.ref C) (bA x C po) where
 ty _ _ _ p:=p.ty
 it M h X _:=by
  obtain⟨cd,hc⟩:=a.cd
  unfold clsIn at hc
  split at hc
  . next ho=>intro A' Q' E' s' k q;unfold isType loadHead;exact wpAny_bind (wpAny_loadPart (k _ _ (X _ _ ho)) (wpAny_pure q))
  . cases hc
 ne h tp dd its n sl X htp:=by
  obtain⟨cd,hc⟩:=a.cd
  unfold clsIn at hc
  split at hc
  . next ho=>
    cases hb:(Value.ref C==.ref tp)with
    | false=>rfl
    | true=>
      have e:C=tp:=Value.ref.inj (eq_of_beq hb)
      have z:=X _ _ ho
      rw[e,htp]at z
      cases z
  . cases hc
 ca X p k:=Mt X p a k
end
abbrev lG:List Value:=[.type "ValueError",.type "Exception",.type "BaseException",.type "object"]
abbrev iW:String:="ValueError.__new__"
theorem Np{K:Frag}{h:Heap}{x:Str}{C:Addr}{bmB:List Value}{nid:String}{mg:Str->Option Value}(X:K.In h)(hm:mg x=some (.ref C))(q:excIn K C bmB nid=true):OwnCls x C bmB nid mg h:=by
 constructor
 . exact hm
 . unfold excIn at q
   split at q
   . next dd cd sl ho=>
     split at q
     . next C' bm k0 k1 k2 k3 n k5 hmr hsl=>
       rw[Bool.and_eq_true,Bool.and_eq_true,Bool.and_eq_true,Bool.and_eq_true,Bool.and_eq_true]at q
       obtain⟨⟨⟨⟨⟨e1,e2⟩,e3⟩,e4⟩,e5⟩,e6⟩:=q
       have e1:=eq_of_beq e1
       have e2:=eq_of_beq e2
       subst e1
       subst e2
       obtain⟨nm,bs,mro,ns,qn,hd,sn,sub,ab,col,del⟩:=cd
       simp only[Bool.not_eq_true']at hmr e3 e5 e6
       subst hmr
       subst e3
       obtain⟨l⟩:=sl
       obtain rfl:l=_:=hsl
       exact⟨bm,ns,nm,qn,bs,hd,sn,sub,ab,col,dd,k0,k1,k2,k3,k5,_,X _ _ ho,.of_isNs (isNs_of_in X e5),nsMap_none_of_in X e5 (eq_of_beq e6),tail_of_in X e4⟩
     . cases q
   . cases q
section
open Builtin
def DK(h h':Heap):Prop:=∀b o,h.get? b=some o->∃o',h'.get? b=some o'/\o'.dict=o.dict
theorem DK.refl(h:Heap):DK h h:=λ b o e=>⟨o,e,rfl⟩
theorem DK.trans{h h1 h2:Heap}(a:DK h h1)(b:DK h1 h2):DK h h2:=λ x o e=>by
 obtain⟨o1,e1,d1⟩:=a x o e
 obtain⟨o2,e2,d2⟩:=b x o1 e1
 exact⟨o2,e2,d2.trans d1⟩
inductive Dq{α:Type}:Sem α->Prop
 | pure(a:α):Dq (.pure a)
 | raise(e:Value):Dq (.raise e)
 | uns(w:String):Dq (.unsupported w)
 | rule{t:String}{k:Unit->Sem α}:Dq (k ())->Dq (.rule t k)
 | load{a:Addr}{p:Option Value}{k:Obj->Sem α}:(∀o,Dq (k o))->Dq (.load a p k)
 | update{a:Addr}{p:Option Value}{f:Obj->Obj}{k:Unit->Sem α}:(∀o,(f o).dict=o.dict/\(f o).isFreed=o.isFreed)->Dq (k ())->Dq (.update a p f k)
 | alloc{o:Obj}{k:Addr->Sem α}:(∀a,Dq (k a))->Dq (.alloc o k)
 | stack{k:List (Code×Pos)->Sem α}:(∀l,Dq (k l))->Dq (.stack k)
theorem Dq.bind{α β:Type}{m:Sem α}{f:α->Sem β}(h:Dq m)(g:∀a,Dq (f a)):Dq (m>>=f):=by
 show Dq (Sem.bind m f)
 induction h with
 | pure a=>exact g a
 | raise e=>exact .raise e
 | uns w=>exact .uns w
 | rule _ ih=>exact .rule ih
 | load _ ih=>exact .load ih
 | update c _ ih=>exact .update c ih
 | alloc _ ih=>exact .alloc ih
 | stack _ ih=>exact .stack ih
theorem Dq.wp{α:Type}{M:Model}{Γ:PySem.Ctx}{t:Sem α}(h:Dq t):∀{Q:α->Pos->Shared->Prop}{E:Value->Pos->Shared->Prop}{p:Pos}{s:Shared},Sem.wp M Γ t Q E p s->
 Sem.wp M Γ t (λ a p' s'=>Q a p' s'/\DK s.heap s'.heap) (λ e p' s'=>E e p' s'/\DK s.heap s'.heap) p s:=by
 induction h with
 | pure a=>intro Q E p s z;exact⟨z,DK.refl _⟩
 | raise e=>intro Q E p s z;exact⟨z,DK.refl _⟩
 | uns w=>intro Q E p s z;exact z
 | rule _ ih=>intro Q E p s z;exact ih z
 | load _ ih=>intro Q E p s z;obtain⟨o,ho,z⟩:=z;exact⟨o,ho,ih o z⟩
 | stack _ ih=>intro Q E p s z;exact ih _ z
 | @update a p f k c _ ih=>
   intro Q E p s z
   obtain⟨z1,z2⟩:=z
   have d:DK s.heap (s.heap.update a f):=λ b o e=>by
    by_cases hb:b=a
    . subst hb
      have fr:=(Heap.get?_some_iff.mp e).2
      exact⟨f o,Heap.get?_update_self _ e ((c o).2.trans fr),(c o).1⟩
    . exact⟨o,(Heap.get?_update_ne _ _ _ _ hb).trans e,rfl⟩
   exact⟨z1,Sem.wp_mono _ _ _ (λ _ _ _ q=>⟨q.1,d.trans q.2⟩) (λ _ _ _ q=>⟨q.1,d.trans q.2⟩) _ _ (ih z2)⟩
 | @alloc o k _ ih=>
   intro Q E p s z
   have d:DK s.heap (s.heap.push o):=λ b o' e=>⟨o',Heap.get?_push_of_some _ e,rfl⟩
   exact Sem.wp_mono _ _ _ (λ _ _ _ q=>⟨q.1,d.trans q.2⟩) (λ _ _ _ q=>⟨q.1,d.trans q.2⟩) _ _ (ih _ z)
theorem Dq.any{α:Type}{M:Model}{A:Around}{t:Sem α}{Q:α->Shared->Prop}{E:Value->Shared->Prop}{s:Shared}(h:Dq t)(z:wpAny M A t Q E s):wpAny M A t (λ a s'=>Q a s'/\DK s.heap s'.heap) (λ e s'=>E e s'/\DK s.heap s'.heap) s:=
 λ Γ p hΓ=>h.wp (z Γ p hΓ)
theorem km(v:Value)(i:Nat):Dq (field v i):=by
 unfold field fieldsOf
 refine .bind ?_ λ l=>?_
 . cases v<;>first | exact .uns _ | skip
   refine .load λ o=>?_
   show Dq (match o.data with | .fields vs=>pure vs | _=>unsupported "internal:no-fields")
   split
   . exact .pure _
   . exact .uns _
 . split
   . exact .pure _
   . exact .uns _
theorem jl(v:Value)(i:Nat)(x:Value):Dq (setField v i x):=by
 unfold setField
 cases v<;>first | exact .uns _ | skip
 unfold updateField
 refine .load λ o=>?_
 show Dq (match o.data with | .fields vs=>if i<vs.size then update _ (Obj.mapFields (·.setIfInBounds i x))else unsupported "internal:no-such-field" | _=>unsupported "internal:write-to-non-record")
 split
 . split
   . refine .update (λ o=>?_) (.pure _)
     obtain⟨c,d,dt,sl⟩:=o
     cases dt<;>exact⟨rfl,rfl⟩
   . exact .uns _
 . exact .uns _
theorem lL(e:Value)(f:Option Addr):Dq (setFlight e f):=by
 unfold setFlight
 refine .bind (km _ _) λ tb=>?_
 split
 . exact jl _ _ _
 . exact .pure _
theorem zF :∀l:List Env,Dq (readyFrames l)
 | []=>.pure _
 | env ::outer=>by
   unfold readyFrames
   split
   . refine .load λ o=>?_
     show Dq (if _ then _ else _)
     split
     . exact .pure _
     . refine .bind ?_ λ im=>.bind ?_ λ back=>.bind (.update (λ o=>⟨rfl,by cases o with | mk c d dt sl=>cases dt<;>rfl⟩) (.pure _)) λ _=>zF outer
       . unfold behindIsImport
         split
         . exact .pure _
         . split
           . exact .pure _
           . exact .bind (km _ _) λ _=>.pure _
       . unfold keptBack
         split
         . split
           . exact .pure _
           . exact .bind (.stack λ _=>.pure _) λ _=>.pure _
         . exact .pure _
   . exact .uns _
theorem Fj(env:Env):Dq (PySem.frameOf env):=by
 unfold PySem.frameOf
 refine .bind (.stack λ _=>.pure _) λ l=>.bind ?_ λ r=>?_
 . unfold frameObject
   split
   . exact .pure _
   . exact .bind (zF _) λ _=>.pure _
 . split
   . exact .pure _
   . exact .uns _
theorem KQ(f:Addr)(b:Bool):Dq (entryPlaceOf f b):=by
 unfold entryPlaceOf
 refine .bind (.stack λ _=>.pure _) λ l=>?_
 split<;>exact .pure _
theorem Jc(a b c d e:Value)(pl:List Value):Dq (EntryCells.newEntry a b c d e pl):=by
 have key:∀vs:Array Value,Dq (newObj (.type "traceback") (.fields vs)):=λ vs=>by
  unfold newObj
  dsimp only
  split
  . exact .bind (.uns _) λ _=>.alloc λ _=>.pure _
  . exact .alloc λ _=>.pure _
 exact key _
theorem tW(e:Value)(env:Env):Dq (noteFrame e env):=by
 unfold noteFrame
 split
 . rename_i L _
   refine .bind (km _ _) λ head=>?_
   have rest:Dq (do let a ←PySem.frameOf env;let pl ←entryPlaceOf L (head !=.none);let b ←EntryCells.newEntry head a .none (rawInt L) .none pl;setField e 1 b):=
    .bind (Fj _) λ _=>.bind (KQ _ _) λ _=>.bind (Jc _ _ _ _ _ _) λ _=>jl _ _ _
   split
   . refine .bind (km _ _) λ h3=>?_
     split
     . exact .pure _
     . exact .bind (jl _ _ _) λ _=>rest
   . exact rest
 . exact .uns _
theorem gm(env:Env)(e:Value):Dq (leaving env e):=.bind (tW _ _) λ _=>lL _ _
end
open PySem PySem.Spec L2 DL RF
open PyProof.Rows
variable {a : Addr}
theorem aO.some{P:Program}{w:World}{H:Hp}{h:Heap}{o:HO}(x:aO P w H h a o):∃u,h.get? a=some u:=by
 cases o with
 | lst xs=>obtain⟨_,_,_,_,e⟩:=x;exact⟨_,e⟩
 | tup xs=>obtain⟨_,_,_,o,e,_⟩:=x;exact⟨_,e⟩
 | dK kvs=>obtain⟨_,_,_,_,o,_,_,e,_⟩:=x;exact⟨_,e⟩
 | dT kvs=>obtain⟨_,_,_,_,o,_,_,e,_⟩:=x;exact⟨_,e⟩
 | set S n=>obtain⟨o,_,_,_,e,_⟩:=x;exact⟨_,e⟩
 | ins C dx fs=>obtain⟨_,_,_,e,_⟩:=x;exact⟨_,e⟩
 | own y=>exact x
 | xd fs=>obtain⟨_,⟨_,_,_,e,_⟩,_⟩:=x;exact⟨_,e⟩
 | rng lo hi=>obtain⟨_,_,_,e⟩:=x;exact⟨_,e⟩
 | frz ob u=>exact⟨_,x.1⟩
 | tbl ps=>exact⟨_,show h.get? a=_ from x⟩
 | met f y=>exact⟨_,show h.get? a=_ from x⟩
 | ext φ=>exact x.2.1
theorem HOk.none{P:Program}{w:World}{H:Hp}{h:Heap}(k:HOk P w H h)(e:h.get? a=none):H a=none:=by
 cases q:H a with
 | none=>rfl
 | some o=>obtain⟨u,z⟩:=aO.some (k a o q);rw[e]at z;cases z
structure Fl(P:Program)(w:World)(outer:List Env)(H:Hp)(h0:Heap)(H':Hp)(B h:Heap):Prop where
 hok:HOk P w H' B
 keep:∀b o,h0.get? b=some o->H b=none->b∉frs outer->B.get? b=some o
 there:∀b o,h0.get? b=some o->b∉frs outer->∃o',B.get? b=some o'
 slot:∀b o,h0.get? b=some o->b∈frs outer->∃sl,h.get? b=some {o with slots:=sl}
 free:∀b o,h0.get? b=some o->H b=none->H' b=none
 tups:∀b xs,H b=some (.tup xs)->H' b=some (.tup xs)
 frzs:∀b o u,H b=some (.frz o u)->H' b=some (.frz o u)
 tbls:∀b ps,H b=some (.tbl ps)->∃more,H' b=some (.tbl (ps++more))
section
variable {P : Program} {w : World} {outer : List Env} {H H' : Hp} {h0 B h h' : Heap}
theorem Fl.un(f:Fl P w outer H h0 H' B h)(st:B.StaysIn h):Un (frs outer) [] H H' h0 h where
 keep b o q n hb _:=st b o (f.keep b o q n hb)
 slot b o q n hb _:=f.slot b o q hb
 free b o q n _:=f.free b o q n
 there b o q _:=by
  by_cases hb:b∈frs outer
  . obtain⟨sl,e⟩:=f.slot b o q hb;exact⟨_,e⟩
  . obtain⟨o',e⟩:=f.there b o q hb;exact⟨o',st b o' e⟩
 tups:=f.tups
 frzs:=f.frzs
 tbls:=f.tbls
theorem Fl.on(f:Fl P w outer H h0 H' B h)(u:h.UpToSlots h')(ff:h.FunFrames B outer):Fl P w outer H h0 H' B h':=by
 refine⟨f.hok,f.keep,f.there,λ b o q hb=>?_,f.free,f.tups,f.frzs,f.tbls⟩
 obtain⟨sl,e⟩:=f.slot b o q hb
 obtain⟨_,o',e',d⟩:=ff.mem hb
 rw[e]at e'
 cases e'
 obtain⟨sl2,e2⟩:=u b _ e d
 exact⟨sl2,e2⟩
end
def CXE(P:Program)(w:World):CXT:=λ outer H s E e s'=>∃a C t po H' B,e=.ref a/\s'.os=s.os/\AllBare s'.gens/\Fl P w outer H s.heap H' B s'.heap/\Heap.FlyingW B outer a (.ref C) (.ref t) s'.heap/\(∀dx,po=some dx->∃o,s'.heap.get? a=some o/\o.dict=some dx)/\E (.ref C) po H'
section
variable {X : Cx} {pins : Pins} {σ : L2.St} {H1 : Hp} {s1 : Shared}
theorem eV(l:List Env)(env:Env){L:Addr}(h:env.frame=some L):frs (env::l)=L::frs l:=by
 unfold frs;rw[List.filterMap_cons,h]
theorem K6(I:Inv X pins σ H1 s1)(hst:X.stack=X.env::X.outer)(hfr:X.env.frame=some X.env.locals)(hex:X.ex=[]){h':Heap}
 (hs:∀b o,s1.heap.get? b=some o->b∈frs X.outer->∃sl,h'.get? b=some {o with slots:=sl}):
 Fl X.prog X.w X.outer X.H₀ X.s₀.heap H1 (PySem.W.hideAll s1.heap (frs X.stack)) h':=by
 have ne:∀b o,X.s₀.heap.get? b=some o->b≠X.env.locals:=λ b o q z=>absurd (Nat.lt_of_lt_of_le (Heap.lt_size q) (z▸I.ok.above)) (Nat.lt_irrefl _)
 have nin:∀b o,X.s₀.heap.get? b=some o->b∉frs X.outer->b∉frs X.stack:=λ b o q hb z=>by
  rw[hst,eV _ _ hfr]at z
  rcases List.mem_cons.mp z with z | z
  . exact ne b o q z
  . exact hb z
 have nx:∀b,b∉X.ex:=λ b z=>by rw[hex]at z;cases z
 refine⟨λ a o e=>?_,λ b o q n hb=>?_,λ b o q hb=>?_,λ b o q hb=>?_,λ b o q n=>I.base.free b o q n (nx b),I.base.tups,I.base.frzs,I.base.tbls⟩
 . refine(I.hok a o e).stay (λ b u hb r=>?_) (λ _ r=>r) (λ _ _ r=>r)
   refine PySem.W.hideAll_get _ r λ z=>?_
   have n:=I.stkFree b z
   rcases hb with rfl | hb
   . rw[e]at n;cases n
   . rw[hb]at n;cases n
 . exact PySem.W.hideAll_get _ (I.base.keep b o q n hb (nx b)) (nin b o q hb)
 . obtain⟨o',e⟩:=I.base.there b o q (nx b)
   exact⟨o',PySem.W.hideAll_get _ e (nin b o q hb)⟩
 . obtain⟨sl,e⟩:=I.base.slot b o q (I.ok.frf b hb) hb (nx b)
   obtain⟨sl2,e2⟩:=hs b _ e hb
   exact⟨sl2,e2⟩
theorem DQ{P:Program}{w:World}{K:PySem.W.Frag}{mg:Str->Option Value}{base:Heap}{N:List Str}{qual:Str}{sc:Scope}{f:Addr}{cd:Value}{A:Around}{outer:List Env}{s:Shared}{H:Hp}{E:XK}{C:Addr}{vs:List Value}{s2:Shared}
 (I:Inv (bY (CXE P w) P w K mg base N qual sc f cd A outer s H E) pins σ H1 s1)(ho:s2.os=s1.os)(hg:s2.gens=s1.gens)(hx:Heap.MadeExcOf s1.heap s2.heap a (.ref C) vs)(hE:E (.ref C) none H1):
 (bY (CXE P w) P w K mg base N qual sc f cd A outer s H E).xe (.ref a) s2:=by
 let X:=bY (CXE P w) P w K mg base N qual sc f cd A outer s H E
 have hin:∀env∈X.stack,∀b,env.frame=some b->b∈frs X.stack:=λ env he b hb=>List.mem_filterMap.mpr ⟨env,he,hb⟩
 refine wpAny_leaves_madeW (base:=PySem.W.hideAll s1.heap (frs X.stack)) (h:=s1.heap) (outer:=outer) I.ok.frames rfl (λ b o q=>PySem.W.of_hideAll _ q) (PySem.W.funFrames_hide I.stack hin) hx λ h' t x1 x2 x3 x4=>?_
 refine⟨a,C,t,none,H1,_,rfl,ho.trans I.os,by show AllBare s2.gens;rw[hg];exact I.bare,?_,x1,(λ _ z=>nomatch z),hE⟩
 refine K6 I rfl rfl rfl λ b o q hb=>?_
 obtain⟨_,o',e',d⟩:=I.funs.mem hb
 rw[q]at e'
 cases e'
 exact x4 b o (hx.keeps b o q) d
theorem JN{P:Program}{w:World}{K:PySem.W.Frag}{mg:Str->Option Value}{base:Heap}{N:List Str}{qual:Str}{sc:Scope}{f:Addr}{cd:Value}{A:Around}{outer:List Env}{s:Shared}{H:Hp}{E E':XK}{e:Value}{s2:Shared}
 (I:Inv (bY (CXE P w) P w K mg base N qual sc f cd A outer s H E) pins σ H1 s1)(h:CXE P w (bY (CXE P w) P w K mg base N qual sc f cd A outer s H E).stack H1 s1 E' e s2)(hE:∀c po H',E' (.ref c) po H'->E (.ref c) po H'):
 (bY (CXE P w) P w K mg base N qual sc f cd A outer s H E).xe e s2:=by
 let X:=bY (CXE P w) P w K mg base N qual sc f cd A outer s H E
 obtain⟨a,C,t,po,H',B,rfl,ho,hg,fl,fw,lk,hq⟩:=h
 refine wpAny_mono ((gm X.env (.ref a)).any (wpAny_leaves_onW (Q:=λ _ s'=>∃h',s'={s2 with heap:=h'}/\Heap.FlyingW B outer a (.ref C) (.ref t) h'/\s2.heap.UpToSlots h') (E:=λ _ _=>False) (base:=B) (outer:=outer) I.ok.frames rfl fw λ h' x1 x2=>⟨h',rfl,x1,x2⟩)) (λ _ s' z=>?_) λ _ _ z=>z.1.elim
 obtain⟨⟨h',rfl,x1,x2⟩,dk⟩:=z
 refine⟨a,C,t,po,H',B,rfl,ho.trans I.os,hg,?_,x1,λ dx e=>?_,hE _ _ _ hq⟩
 rotate_left
 . obtain⟨o,e1,e2⟩:=lk dx e
   obtain⟨o',e3,e4⟩:=dk a o e1
   exact⟨o',e3,e4.trans e2⟩
 have ne:∀b o,s.heap.get? b=some o->b≠X.env.locals:=λ b o q z=>absurd (Nat.lt_of_lt_of_le (Heap.lt_size q) (z▸I.ok.above)) (Nat.lt_irrefl _)
 have nin:∀b o,s.heap.get? b=some o->b∉frs outer->b∉frs X.stack:=λ b o q hb z=>by
  rw[show frs X.stack=X.env.locals::frs outer from eV outer X.env rfl]at z
  rcases List.mem_cons.mp z with z | z
  . exact ne b o q z
  . exact hb z
 have nx:∀b:Addr,b∉([]:List Addr):=λ b z=>nomatch z
 refine⟨fl.hok,λ b o q n hb=>?_,λ b o q hb=>?_,λ b o q hb=>?_,λ b o q n=>?_,λ b xs q=>fl.tups b xs (I.base.tups b xs q),λ b o u q=>fl.frzs b o u (I.base.frzs b o u q),λ b ps q=>?_⟩
 . exact fl.keep b o (I.base.keep b o q n hb (nx b)) (I.base.free b o q n (nx b)) (nin b o q hb)
 . obtain⟨o',e⟩:=I.base.there b o q (nx b)
   exact fl.there b o' e (nin b o q hb)
 . obtain⟨sl,e⟩:=I.base.slot b o q (I.ok.frf b hb) hb (nx b)
   have hb':b∈frs X.stack:=by rw[show frs X.stack=X.env.locals::frs outer from eV outer X.env rfl];exact x9 _ hb
   obtain⟨sl2,e2⟩:=fl.slot b _ e hb'
   obtain⟨_,o',e',d⟩:=fw.2.2.1.mem hb'
   rw[e2]at e'
   cases e'
   obtain⟨sl3,e3⟩:=x2 b _ e2 d
   exact⟨sl3,e3⟩
 . obtain⟨o',e⟩:=I.base.there b o q (nx b)
   exact fl.free b o' e (I.base.free b o q n (nx b))
 . obtain⟨m1,e1⟩:=I.base.tbls b ps q
   obtain⟨m2,e2⟩:=fl.tbls b _ e1
   exact⟨m1++m2,by rw[e2,Array.append_assoc]⟩
def ExO(a C t:Addr)(od:Option Addr)(h:Heap):Prop:=h.get? a=some {cls:=.ref C,dict:=od,data:=.fields #[.ref t,.none,.none,.none,.bool false,.none]}
def off(H:Hp)(a:Addr):Hp:=λ b=>if b=a then none else H b
theorem off_ne{H:Hp}{b:Addr}(h:b≠a):off H a b=H b:=if_neg h
theorem FT{H:Hp}{b:Addr}{o:HO}(h:off H a b=some o):b≠a/\H b=some o:=by
 unfold off at h
 split at h
 . cases h
 . rename_i n;exact⟨n,h⟩
theorem Gf{P:Program}{w:World}{K:PySem.W.Frag}{mg:Str->Option Value}{base:Heap}{N:List Str}{qual:Str}{sc:Scope}{f:Addr}{cd:Value}{A:Around}{outer:List Env}{s:Shared}{H:Hp}{E:XK}{C t dx:Addr}
 (I:Inv (bY (CXE P w) P w K mg base N qual sc f cd A outer s H E) pins σ H1 s1)(ha:H1 a=some (.ext (ExO a C t (some dx))))(new:s.heap.get? a=none)(hE:E (.ref C) (some dx) (off H1 a)):
 (bY (CXE P w) P w K mg base N qual sc f cd A outer s H E).xe (.ref a) s1:=by
 let X:=bY (CXE P w) P w K mg base N qual sc f cd A outer s H E
 have he:ExO a C t (some dx) s1.heap:=(I.hok a _ ha).1
 have hin:∀env∈X.stack,∀b,env.frame=some b->b∈a::frs X.stack:=λ env he b hb=>x9 _ (List.mem_filterMap.mpr ⟨env,he,hb⟩)
 have hen:(PySem.W.hideAll s1.heap (a::frs X.stack)).get? a=none:=PySem.W.hideAll_none _ (v3 ..)
 have lv:=wpAny_leaving_firstW (M:=model P w) (A:=X.A) (E:=λ _ _=>False) (Q:=λ _ s'=>∃h',s'={s1 with heap:=h'}/\Heap.LeftW (PySem.W.hideAll s1.heap (a::frs X.stack)) (X.env::outer) a (.ref C) (.ref t) s1.heap h')
  (base:=PySem.W.hideAll s1.heap (a::frs X.stack)) I.ok.frames (PySem.W.funFrames_hide I.stack hin) rfl he (λ b o q=>PySem.W.of_hideAll _ q) hen rfl rfl rfl λ h' hL=>⟨h',rfl,hL⟩
 refine wpAny_mono ((gm X.env (.ref a)).any lv) (λ _ s' z=>?_) λ _ _ z=>z.1.elim
 obtain⟨⟨h',rfl,k1,⟨_,_,k2⟩,k3,k4⟩,dk⟩:=z
 have ne:∀b o,s.heap.get? b=some o->b≠X.env.locals:=λ b o q z=>absurd (Nat.lt_of_lt_of_le (Heap.lt_size q) (z▸I.ok.above)) (Nat.lt_irrefl _)
 have na:∀b o,s.heap.get? b=some o->b≠a:=λ b o q z=>by rw[z,new]at q;cases q
 have nin:∀b o,s.heap.get? b=some o->b∉frs outer->b∉a::frs X.stack:=λ b o q hb z=>by
  rcases List.mem_cons.mp z with z | z
  . exact na b o q z
  . rw[show frs X.stack=X.env.locals::frs outer from eV outer X.env rfl]at z
    rcases List.mem_cons.mp z with z | z
    . exact ne b o q z
    . exact hb z
 have nx:∀b:Addr,b∉([]:List Addr):=λ b z=>nomatch z
 have up:∀b u,H1 b=some u->(∀φ,u≠.ext φ)->off H1 a b=some u:=λ b u q n=>by
  rw[off_ne λ z=>?_];exact q
  rw[z,ha]at q
  exact n _ (Option.some.inj q).symm
 refine⟨a,C,t,some dx,off H1 a,_,rfl,I.os,I.bare,⟨λ b o e=>?_,λ b o q n hb=>?_,λ b o q hb=>?_,λ b o q hb=>?_,λ b o q n=>?_,λ b xs q=>?_,λ b o u q=>?_,λ b ps q=>?_⟩,⟨k1,hen,k2,k3⟩,λ d e=>?_,hE⟩
 . obtain⟨n,e⟩:=FT e
   refine(I.hok b o e).stay (λ c u hc r=>?_) (λ c r=>up c _ r λ _ z=>nomatch z) (λ c xs r=>up c _ r λ _ z=>nomatch z)
   refine PySem.W.hideAll_get _ r λ z=>?_
   rcases List.mem_cons.mp z with z | z
   . rcases hc with rfl | hc
     . exact n z
     . rw[z,ha]at hc;cases hc
   . have n':=I.stkFree c z
     rcases hc with rfl | hc
     . rw[e]at n';cases n'
     . rw[hc]at n';cases n'
 . exact PySem.W.hideAll_get _ (I.base.keep b o q n hb (nx b)) (nin b o q hb)
 . obtain⟨o',e⟩:=I.base.there b o q (nx b)
   exact⟨o',PySem.W.hideAll_get _ e (nin b o q hb)⟩
 . obtain⟨sl,e⟩:=I.base.slot b o q (I.ok.frf b hb) hb (nx b)
   obtain⟨_,o',e',d⟩:=I.funs.mem hb
   rw[e]at e'
   cases e'
   obtain⟨sl2,e2⟩:=k4 b _ e d
   exact⟨sl2,e2⟩
 . rw[off_ne (na b o q)];exact I.base.free b o q n (nx b)
 . exact up b _ (I.base.tups b xs q) λ _ z=>nomatch z
 . exact up b _ (I.base.frzs b o u q) λ _ z=>nomatch z
 . obtain⟨m,e⟩:=I.base.tbls b ps q
   exact⟨m,up b _ e λ _ z=>nomatch z⟩
 . obtain⟨o',e1,e2⟩:=dk a _ he
   cases e
   exact⟨o',e1,e2⟩
end
end XE
namespace XE
open PySem PySem.Spec L2 DL RF
open PyProof.Rows
variable {K : PySem.W.Frag} {H' H : Hp} {O : Own}
abbrev WX:=Str->Store->Prop
abbrev XCt:=List D->Store->WD->WX->Prop
def QP(K:PySem.W.Frag)(O':Own)(H':Hp)(WE:WX)(nm:Str)(S':Store)(c:Value):Option Addr->Prop
 | none=>WE nm S'/\∀C,c=.ref C->PySem.W.excIn K C lG iW=true
 | some dx=>(∀C,c=.ref C->PySem.W.excIn K C lG iW=false)/\∃f d v,WE nm (S'++[[.str f,d]])/\H' dx=some (.xd [(f,v)])/\Rep K O' H' v d
def QX(mg:Str->Option Value)(K:PySem.W.Frag)(O:Own)(H:Hp)(WE:WX)(c:Value)(po:Option Addr)(H':Hp):Prop:=∃nm O' S',mg nm=some c/\QP K O' H' WE nm S' c po/\Step O O' H H'/\StOk K O' H' S'
theorem QP.no{O':Own}{WE:WX}{nm:Str}{S':Store}{C:Addr}{po:Option Addr}(h:QP K O' H' WE nm S' (.ref C) po)(x:PySem.W.excIn K C lG iW=true):po=none/\WE nm S':=by
 cases po with
 | none=>exact⟨rfl,h.1⟩
 | some dx=>have:=h.1 C rfl;rw[x]at this;cases this
theorem QP.imp{O':Own}{WE WE2:WX}{nm:Str}{S':Store}{c:Value}{po:Option Addr}(h:QP K O' H' WE nm S' c po)(q:∀S1,WE nm S1->WE2 nm S1):QP K O' H' WE2 nm S' c po:=by
 cases po with
 | none=>exact⟨q _ h.1,h.2⟩
 | some dx=>
   obtain⟨h1,f,d,v,h2,h3⟩:=h
   exact⟨h1,f,d,v,q _ h2,h3⟩
theorem QP.ex{O':Own}{WE:WX}{nm:Str}{S':Store}{c:Value}{po:Option Addr}(h:QP K O' H' WE nm S' c po):∃S1,WE nm S1:=by
 cases po with
 | none=>exact⟨_,h.1⟩
 | some dx=>
   obtain⟨_,_,_,_,h2,_⟩:=h
   exact⟨_,h2⟩
theorem QX.pre{mg:Str->Option Value}{O1:Own}{H1:Hp}{WE:WX}{c:Value}{po:Option Addr}(st:Step O O1 H H1)(q:QX mg K O1 H1 WE c po H'):QX mg K O H WE c po H':=by
 obtain⟨nm,O',S',h1,h2,h3,h4⟩:=q
 exact⟨nm,O',S',h1,h2,st.trans h3,h4⟩
def spX(mg:Str->Option Value)(K:PySem.W.Frag)(n:Nat)(F:XCt):Sp:=λ vs H Q E=>∃O ds S W WE,ds.length=n/\Reps K O H vs ds/\StOk K O H S/\F ds S W WE/\(∀v H',QG K O H W v H'->Q v H')/\∀c po H',QX mg K O H WE (.ref c) po H'->E (.ref c) po H'
def XL(X:Cx)(O:Own)(H:Hp)(WE:WX)(e:Value)(s2:Shared):Prop:=wpAny (model X.prog X.w) X.A (leaving X.env e) (λ _ s3=>∃E',CXE X.prog X.w X.outer X.H₀ X.s₀ E' e s3/\∀c po H',E' (.ref c) po H'->QX X.mg X.K O H WE (.ref c) po H') (λ _ _=>False) s2
theorem XL.pre{X:Cx}{O1:Own}{H1:Hp}{WE:WX}{e:Value}{s2:Shared}(st:Step O O1 H H1)(h:XL X O1 H1 WE e s2):XL X O H WE e s2:=
 wpAny_mono h (λ _ s3 z=>by obtain⟨E',h1,h2⟩:=z;exact⟨E',h1,λ c po H' q=>(h2 c po H' q).pre st⟩) λ _ _ z=>z
def XR(X:Cx)(O:Own)(H:Hp)(WE:WX)(e:Value)(s2:Shared):Prop:=
 (∃pins σ H1 s1 a C vs,e=.ref a/\Inv X pins σ H1 s1/\s2.os=s1.os/\s2.gens=s1.gens/\Heap.MadeExcOf s1.heap s2.heap a (.ref C) vs/\QX X.mg X.K O H WE (.ref C) none H1)∨
 (∃pins σ H1 s1 E',Inv X pins σ H1 s1/\CXE X.prog X.w X.stack H1 s1 E' e s2/\∀c po H',E' (.ref c) po H'->QX X.mg X.K O H WE (.ref c) po H')∨
 (∃pins σ H1 a C t dx,e=.ref a/\Inv X pins σ H1 s2/\H1 a=some (.ext (ExO a C t (some dx)))/\(X.ex=[]->X.s₀.heap.get? a=none)/\QX X.mg X.K O H WE (.ref C) (some dx) (off H1 a))∨
 XL X O H WE e s2
theorem XR.pre{X:Cx}{O1:Own}{H1:Hp}{WE:WX}{e:Value}{s2:Shared}(st:Step O O1 H H1)(h:XR X O1 H1 WE e s2):XR X O H WE e s2:=by
 rcases h with⟨pins,σ,H2,s1,a,C,vs,h1,h2,h3,h4,h5,h6⟩ | ⟨pins,σ,H2,s1,E',h1,h2,h3⟩ | ⟨pins,σ,H2,a,C,t,dx,h1,h2,h3,h4,h5⟩ | h
 . exact .inl ⟨pins,σ,H2,s1,a,C,vs,h1,h2,h3,h4,h5,h6.pre st⟩
 . exact .inr (.inl ⟨pins,σ,H2,s1,E',h1,h2,λ c po H' z=>(h3 c po H' z).pre st⟩)
 . exact .inr (.inr (.inl ⟨pins,σ,H2,a,C,t,dx,h1,h2,h3,h4,h5.pre st⟩))
 . exact .inr (.inr (.inr (h.pre st)))
def aK(X:Cx)(Γ:Gam)(S:Store)(sts:List Stmt)(W:DL.Fin)(WE:WX):Prop:=
 ∀ (pins:Pins)(s:Shared)(σ:L2.St)(H:Hp)(O:Own),Inv X pins σ H s->EnvOk X.K O H σ Γ->StOk X.K O H S->
   wpAny (model X.prog X.w) X.A (execs sts X.env) (SP X pins (ends X.K O H W)) (XR X O H WE) s
section
variable {X : Cx} {Γ : Gam} {S : Store} {sts : List Stmt} {st : Stmt} {W : DL.Fin} {WE : WX} {e : Expr} {es : List Expr}
theorem T5(h:Rns X.nox Γ S sts W):aK X Γ S sts W WE:=λ pins s σ H O I env ok=>
 wpAny_mono (h pins s σ H O (I.wish _) env ok) (λ _ _ q=>q.unwish) λ _ _ z=>z.elim
theorem NB(h:Rn X.nox Γ S st {W with nx:=λ Γ1 S1=>aK X Γ1 S1 sts W WE}):aK X Γ S (st::sts) W WE:=by
 intro pins s σ H O I env ok
 refine wpAny_execs_cons (wpAny_mono (h pins s σ H O (I.wish _) env ok) (λ f s1 q=>?_) λ _ _ z=>z.elim)
 cases f with
 | next=>
   obtain⟨σ',H',I',O1,Γ1,S1,w,st1,ok1,env1⟩:=q
   exact wpAny_mono (w pins s1 σ' H' O1 I'.unwish env1 ok1) (λ _ _ q=>cD st1 q) λ _ _ z=>z.pre st1
 | ret v=>exact q.unwish
 | brk=>exact q.unwish
 | cont=>exact q.unwish
def Exc(Ω:Wd)(x:Str):Prop:=∃C,Ω.mg x=some (.ref C)/\PySem.W.excIn Ω.K C lG iW=true/\Atr Ω.K C
theorem BP{x:Str}{C:Addr}{np cp rp:Pos}{pins:Pins}{s:Shared}{σ:L2.St}{Q:Flow->Shared->Prop}(hm:X.mg x=some (.ref C))(hx:PySem.W.excIn X.K C lG iW=true)(hcalm:X.calm=true)
 (h:EvA X.nox Γ S [e] λ ds S1=>ds.length=1/\WE x S1)(hg:Gl X x)(hdb:(x==("__debug__":Str))=false)(hs:starEach [e] X.env=[(false,eval e X.env)])
 (I:Inv X pins σ H s)(env:EnvOk X.K O H σ Γ)(ok:StOk X.K O H S):
 wpAny (model X.prog X.w) X.A (exec (.Raise (some (.Call (.Name x np) [e] [] cp)) none rp) X.env) Q (XR X O H WE) s:=by
 have OC:=Np (mg:=X.mg) I.ok.mod.kin hm hx
 obtain⟨tl,N,nm,q,bs,hd,sn,sub,ab,col,dd,k0,k1,k2,k3,k5,mN,hC,hN,hni,T⟩:=OC.obj
 have hpl:(backTo cp (starEach [e] X.env)).any (·.1)=false:=by rw[hs];rfl
 refine wpAny_Raise_call_subT (C:=C) (bm:=tl) (mN:=mN) (hdct:=hd) (N:=N) (nm:=nm) (q:=q) (bs:=bs) (sn:=sn) (sub:=sub) (ab:=ab) (col:=col) (dd:=dd) (k0:=k0) (k1:=k1) (k2:=k2) (k3:=k3) (k5:=k5) PySem.F.excBase_ValueError (T.hasType PySem.F.excBase_ValueError.hasBase) (I.ok.hd hcalm) hpl hni (jB I hg hm ⟨rfl,?_⟩ hdb)
 have h':=h cp pins s σ H O (I.wish _) env ok
 have h':wpAny (model X.prog X.w) X.A (spliced (backTo cp (starEach [e] X.env))) (AP X.nox pins σ (QA X.K O H λ ds S1=>ds.length=1/\WE x S1)) (λ _ _=>False) s:=h'
 rw[hs]at h' ⊢
 refine Calls.evalArgs_plain (wpAny_mono h' (λ vs s2 hq=>?_) λ _ _ z=>z.elim)
 obtain⟨ws,H1,I1,r1,O1,ds,S1,⟨l1,w1⟩,st1,ok1,rp1⟩:=hq
 have I1:=I1.unwish
 refine⟨rfl,?_,I1.bk _ _ hC,hN.keeps I1.bk,T.keeps I1.bk,λ h2 a hm2=>.inl ⟨pins,σ,H1,s2,a,C,vs,rfl,I1,rfl,rfl,hm2,x,O1,S1,hm,⟨w1,λ C' e=>by cases e;exact hx⟩,st1,ok1⟩⟩
 rw[←r1.length,rp1.length,l1];decide
theorem Rx{c:Expr}{x:Str}{C:Addr}{np cp rp pos:Pos}(hm:X.mg x=some (.ref C))(hx:PySem.W.excIn X.K C lG iW=true)(hcalm:X.calm=true)
 (h:Ts X.nox Γ S c λ k S1=>(k=true->EvA X.nox Γ S1 [e] λ ds S2=>ds.length=1/\WE x S2)/\(k=false->aK X Γ S1 sts W WE))(hg:Gl X x)(hdb:(x==("__debug__":Str))=false)(hs:starEach [e] X.env=[(false,eval e X.env)]):
 aK X Γ S (.If c [.Raise (some (.Call (.Name x np) [e] [] cp)) none rp] [] pos::sts) W WE:=by
 intro pins s σ H O I env ok
 refine wpAny_execs_cons (wpAny_If (wpAny_mono (h pins s σ H O (I.wish _) env ok) (λ d s1 hq=>?_) λ _ _ z=>z.elim))
 obtain⟨H1,I1,O1,S1,w,st1,ok1⟩:=hq
 have I1:=I1.unwish
 cases d with
 | true=>
   refine wpAny_execs_cons (wpAny_mono (BP (Q:=λ _ _=>False) hm hx hcalm (w.1 rfl) hg hdb hs I1 (env.mono st1) ok1) (λ _ _ z=>z.elim) λ _ _ z=>z.pre st1)
 | false=>
   refine wpAny_execs_nil ?_
   exact wpAny_mono (w.2 rfl pins s1 σ H1 O1 I1 (env.mono st1) ok1) (λ _ _ q=>cD st1 q) λ _ _ z=>z.pre st1
end
end XE
namespace XE
open PySem PySem.Spec L2 DL RF
open PyProof.Rows
variable {Ω : Wd}
structure BX(Ω:Wd) where
 lev:Nat
 chk:Bool->List Str->Nm->List Stmt->Bool
 wp:Gam->Store->DL.Fin->WX->Prop
 sound:∀{X:Cx}{r:Nat}{top:Bool}{N:List Str}{nm:Nm}{sts:List Stmt}{Γ:Gam}{S:Store}{W:DL.Fin}{WE:WX},At Ω X.nox r top N nm->lev≤r->chk top N nm sts=true->wp Γ S W WE->aK X Γ S sts W WE
def BX.of(b:Bl Ω):BX Ω where
 lev:=b.lev
 chk:=b.chk
 wp Γ S W _:=b.wp Γ S W
 sound:=by
  intro X r top N nm sts Γ S W WE A hl hc hw
  exact T5 (b.sound A hl hc hw)
def JV:Stmt->Option (Expr×List Stmt×Bool)
 | .If e b o _=>some (e,b,o.isEmpty)
 | _=>none
theorem NZ{st:Stmt}{e:Expr}{b:List Stmt}(h:JV st=some (e,b,true)):∃p,st=.If e b [] p:=by
 unfold JV at h
 split at h
 . rename_i e' b' o p
   have h:=Option.some.inj h
   have h1:e'=e:=congrArg Prod.fst h
   have h2:b'=b:=congrArg (λ z=>z.2.1) h
   have h3:o.isEmpty=true:=congrArg (λ z=>z.2.2) h
   cases o with
   | nil=>subst h1 h2;exact⟨p,rfl⟩
   | cons=>cases h3
 . cases h
def rsV:Stmt->Option (Option Expr×Bool)
 | .Raise e c _=>some (e,c.isNone)
 | _=>none
theorem FZ{st:Stmt}{e:Option Expr}(h:rsV st=some (e,true)):∃p,st=.Raise e none p:=by
 unfold rsV at h
 split at h
 . rename_i e' c p
   have h:=Option.some.inj h
   have h1:e'=e:=congrArg Prod.fst h
   have h2:c.isNone=true:=congrArg Prod.snd h
   cases c with
   | none=>subst h1;exact⟨p,rfl⟩
   | some=>cases h2
 . cases h
def DY:Expr->Bool
 | .Constant (.str _) _ _=>true
 | _=>false
theorem Cw{e:Expr}(h:DY e=true):∃x k p,e=.Constant (.str x) k p:=by
 unfold DY at h
 split at h
 . exact⟨_,_,_,rfl⟩
 . cases h
def BX.ifr{x:Str}(ex:Exc Ω x)(c:Te Ω)(rest:BX Ω):BX Ω where
 lev:=max c.lev rest.lev
 chk top N nm sts:=match sts with
  | []=>false
  | st::sts=>anB (JV st) λ z=>z.2.2&&dj z.2.1 λ b=>anB (rsV b) λ u=>u.2&&anB u.1 λ v=>fj v λ y es=>dj es λ m=>DY m&&((y==x)&&(glb nm x&&(okN x&&(c.chk top N nm z.1&&rest.chk top N nm sts))))
 wp Γ S W WE:=c.wp Γ S λ k S1=>(k=true->WE x S1)/\(k=false->rest.wp Γ S1 W WE)
 sound:=by
  intro X r top N nm sts Γ S W WE A hl hc hw
  obtain⟨l1,l2⟩:=lv2 hl
  cases sts with
  | nil=>exact fE hc
  | cons st sts=>
    obtain⟨⟨ce,bs,bb⟩,g1,hc_1⟩:=aX hc
    obtain⟨g2,hc_2⟩:=aa hc_1
    obtain⟨b,g3,hc_3⟩:=bj hc_2
    obtain⟨⟨v,vb⟩,g4,hc_4⟩:=aX hc_3
    obtain⟨g5,hc_5⟩:=aa hc_4
    obtain⟨v',g6,hc_6⟩:=aX hc_5
    obtain⟨y,np,es,cp,rfl,hc_7⟩:=b7 hc_6
    obtain⟨m,rfl,hc_8⟩:=bj hc_7
    obtain⟨g7,hc_9⟩:=aa hc_8
    obtain⟨m',j,cp0,rfl⟩:=Cw g7
    have hc:=hc_9
    have g2:bb=true:=g2
    have g3:bs=[b]:=g3
    have g5:vb=true:=g5
    have g6:v=some (.Call (.Name y np) [.Constant (.str m') j cp0] [] cp):=g6
    subst g2 g3 g5 g6
    obtain⟨pos,rfl⟩:=NZ g1
    obtain⟨rp,rfl⟩:=FZ g4
    obtain⟨h1,hc⟩:=aa hc
    obtain⟨h2,hc⟩:=aa hc
    obtain⟨h3,hc⟩:=aa hc
    obtain⟨h4,h5⟩:=aa hc
    have e:y=x:=eq_of_beq h1
    subst e
    obtain⟨C,hm,hx,_⟩:=ex
    refine Rx (C:=C) (by rw[show X.mg=Ω.mg from A.g];exact hm) (by rw[show X.K=Ω.K from A.k];exact hx) A.calm (Ts.mono (c.sound A l1 h4 hw) λ k S1 q=>⟨λ hk=>?_,λ hk=>rest.sound A l2 h5 (q.2 hk)⟩) (A.glb h2) (aY h3).1 rfl
    exact cF (yc (gB ⟨rfl,q.1 hk⟩)) rfl
def BX.cons(s:Sm Ω)(rest:BX Ω):BX Ω where
 lev:=max s.lev rest.lev
 chk top N nm sts:=match sts with | st::sts=>s.chk top N nm st&&rest.chk top N nm sts | _=>false
 wp Γ S W WE:=s.wp Γ S {W with nx:=λ Γ1 S1=>rest.wp Γ1 S1 W WE}
 sound:=by
  intro X r top N nm sts Γ S W WE A hl hc hw
  obtain⟨l1,l2⟩:=lv2 hl
  cases sts with
  | nil=>exact fE hc
  | cons st sts=>
    obtain⟨h1,h2⟩:=aa hc
    exact NB (Rn.mono (s.sound A l1 h1 hw) (λ G S1 q=>rest.sound A l2 h2 q) (λ _ _ q=>q) (λ _ _ q=>q) λ _ _ q=>q)
structure CalleeX(P:Program)(w:World)(K:PySem.W.Frag)(mg:Str->Option Value)(base:Heap)(x:Str)(k n:Nat)(F:XCt):Prop where
 ex:∃f fd ps,FnOk P w K mg base (CXE P w) k f fd ps (spX mg K n F)/\mg x=some (.ref f)/\PySem.W.keepIn K (.ref f)=true/\Binds K fd ps []
abbrev az(Ω:Wd)(x:Str)(k n:Nat)(F:XCt):Prop:=CalleeX Ω.P Ω.w Ω.K Ω.mg Ω.base x k n F
abbrev OkX(Ω:Wd)(k:Nat)(f:Addr)(fd:FuncData)(ps:List Str)(F:XCt):Prop:=FnOk Ω.P Ω.w Ω.K Ω.mg Ω.base (CXE Ω.P Ω.w) k f fd ps (spX Ω.mg Ω.K ps.length F)
theorem bI{x qual:Str}{sm:Stmt}{f:Addr}{fd:FuncData}{ps:List Str}{k n:Nat}{F:XCt}(FF:Fun Ω.K x qual sm f fd)(h:FnOk Ω.P Ω.w Ω.K Ω.mg Ω.base (CXE Ω.P Ω.w) k f fd ps (spX Ω.mg Ω.K n F))(hm:Ω.mg x=some (.ref f))(b:Binds Ω.K fd ps []):CalleeX Ω.P Ω.w Ω.K Ω.mg Ω.base x k n F:=⟨f,fd,ps,h,hm,FF.kp,b⟩
theorem HN{K:PySem.W.Frag}{O:Own}{H:Hp}{N:List Str}{vs:List V}{ds:List D}(r:Reps K O H vs ds):EnvOk K O H (L2.start N vs) (ds.map some++List.replicate (N.length-ds.length) none):=by
 have hv:vs.length=ds.length:=r.length
 constructor
 . simp[L2.start,hv]
 . intro i d h
   by_cases hi:i<ds.length
   . rw[List.getElem?_append_left (by simpa using hi),x6]at h
     cases e:ds[i]? with
     | none=>rw[e]at h;cases h
     | some d'=>
       rw[e]at h
       cases h
       obtain⟨v,hv',rv⟩:=r.get e
       refine⟨v,?_,rv⟩
       unfold L2.start
       rw[List.getElem?_append_left (by rw[x5,hv];exact hi),x6,hv']
       rfl
   . rw[List.getElem?_append_right (by simpa using hi),List.getElem?_replicate]at h
     split at h<;>cases h
theorem Qo{P:Program}{w:World}{K:PySem.W.Frag}{mg:Str->Option Value}{base:Heap}{x qual:Str}{sm:Stmt}{f:Addr}{fd:FuncData}{N ps:List Str}{k:Nat}{F:XCt}(FF:Fun K x qual sm f fd)(SC:FnScope N ps (ak sm))
 (body:∀(cdv:Value)(A:Around)(outer:List Env)(s:Shared)(H:Hp)(E:XK)(ds:List D)(S:Store)(W:WD)(WE:WX),Room k (A.deeper (envOfC qual (ak sm) s.heap.objs.size f cdv))->ds.length=ps.length->F ds S W WE->
  aK (bY (CXE P w) P w K mg base N qual (ak sm) f cdv A outer s H E) (ds.map some++List.replicate (N.length-ds.length) none) S (bu sm) {nx:=λ _ S1=>W .non S1,rt:=W} WE):FnOk P w K mg base (CXE P w) (k+1) f fd ps (spX mg K ps.length F):=by
 obtain⟨oc,od,kV,doc,pm,an,cdv,ct,osl,rfl,lk,hcd⟩:=FF.ex
 refine Lj lk hcd SC (λ vs H Q E h=>?_) λ A outer s H vs Q E hr h=>?_
 . obtain⟨O,ds,S,W,WE,hl,r,_⟩:=h
   rw[r.length,hl]
 . obtain⟨O,ds,S,W,WE,hl,r,st,hF,q,qe⟩:=h
   have hB:=body cdv A outer s H E ds S W WE hr hl hF
   refine⟨λ D σ H'=>σ=L2.start N vs/\H'=H/\(∀σ' H2,QN K O H (λ _ S1=>W .non S1) σ' H2->D.nx σ' H2)/\(∀v H2,QG K O H W v H2->D.rt v H2),?_,rfl,rfl,?_,λ v H2 z=>q v H2 z⟩
   . rintro pins s1 σ H' D I ⟨rfl,rfl,k1,k2⟩
     refine wpAny_mono (hB pins s1 _ H' O I (HN r) st) (λ f s' q=>?_) λ e s2 z=>?_
     . cases f with
       | next=>obtain⟨σ',H',I',q⟩:=q;exact⟨σ',H',I',k1 σ' H' q⟩
       | brk=>obtain⟨σ',H',I',_,_,_,q,_⟩:=q;exact q.elim
       | cont=>obtain⟨σ',H',I',_,_,_,q,_⟩:=q;exact q.elim
       | ret u=>obtain⟨v,σ',H',I',r,q⟩:=q;exact⟨v,σ',H',I',r,k2 v H' q⟩
     . rcases z with⟨pins,σ,H1,s1,a,C,vs,rfl,I1,h3,h4,h5,h6⟩ | ⟨pins,σ,H2,s1,E',I1,h2,h3⟩ | ⟨pins,σ,H2,a,C,t,dx,rfl,I1,h3,h4,h5⟩ | z
       . exact DQ I1 h3 h4 h5 (qe C none H1 h6)
       . exact JN I1 h2 λ c po H' z=>qe c po H' (h3 c po H' z)
       . exact Gf I1 h3 (h4 rfl) (qe C (some dx) _ h5)
       . refine wpAny_mono z (λ _ s3 z=>?_) λ _ _ z=>z.elim
         obtain⟨E',⟨a,C,t,po,H',B,rfl,y1,y2,y3,y4,y5,y6⟩,y7⟩:=z
         exact⟨a,C,t,po,H',B,rfl,y1,y2,y3,y4,y5,qe C po H' (y7 C po H' y6)⟩
   . rintro σ' H2 ⟨O',Γ',S',w,st',ok',_⟩
     exact q _ _ ⟨O',.non,S',w,st',ok',.non⟩
def Tw(N ps:List Str)(sm:Stmt)(k:Nat)(body:BX Ω):Bool:=
 ((ak sm).kind==.function)&&(!(ak sm).isCoroutine&&(!(ak sm).isGenerator&&(decide N.Nodup&&(decide (N.take ps.length=ps)&&((ps.all λ x=>(ak sm).names.lookup x==some .local||(ak sm).names.lookup x==some .cell)&&
   (((ak sm).names.all λ y=>!(y.2==.free))&&(Nat.ble body.lev k&&body.chk true N (ak sm).names (bu sm))))))))
theorem di(N0:Ω.cd=none){x qual:Str}{sm:Stmt}{f:Addr}{fd:FuncData}{N ps:List Str}{k:Nat}{F:XCt}(FF:Fun Ω.K x qual sm f fd)(body:BX Ω)(hc:Tw N ps sm k body=true)
 (vc:∀(ds:List D)(S:Store)(W:WD)(WE:WX),F ds S W WE->ds.length=ps.length->body.wp (ds.map some++List.replicate (N.length-ds.length) none) S {nx:=λ _ S1=>W .non S1,rt:=W} WE):OkX Ω (k+1) f fd ps F:=by
 obtain⟨h1,hc⟩:=aa hc
 obtain⟨h2,hc⟩:=aa hc
 obtain⟨h3,hc⟩:=aa hc
 obtain⟨h4,hc⟩:=aa hc
 obtain⟨h5,hc⟩:=aa hc
 obtain⟨h6,hc⟩:=aa hc
 obtain⟨h7,hc⟩:=aa hc
 obtain⟨h8,h9⟩:=aa hc
 have nd:N.Nodup:=of_decide_eq_true h4
 have sc:FnScope N ps (ak sm):=⟨eq_of_beq h1,nt h2,nt h3,nd,of_decide_eq_true h5,λ x hx=>by
  have:=List.all_eq_true.mp h6 x hx
  simpa using this,λ y hy e=>by
  have:=List.all_eq_true.mp h7 y hy
  simp[e]at this⟩
 refine Qo FF sc λ cdv A outer s H E ds S W WE hr hl h=>?_
 refine body.sound (r:=k) (top:=true) (N:=N) (nm:=(ak sm).names) ⟨rfl,rfl,rfl,rfl,rfl,hr,rfl,rfl,rfl,nd,sc.kind,λ x kk h=>.inl h,λ _ _=>rfl,λ _ p q=>(nomatch (N0.symm.trans q)),λ _=>⟨rfl,rfl,rfl⟩⟩ (Nat.le_of_ble_eq_true h8) h9 (vc ds S W WE h hl)
def XQ(X:Cx)(pins:Pins)(σ:L2.St)(O:Own)(H:Hp)(WE:WX)(e:Value)(s2:Shared):Prop:=
 ∃H1 s1 E',Inv X pins σ H1 s1/\CXE X.prog X.w X.stack H1 s1 E' e s2/\∀c po H',E' (.ref c) po H'->QX X.mg X.K O H WE (.ref c) po H'
def EvX(X:Cx)(Γ:Gam)(S:Store)(e:Expr)(W:WD)(WE:WX):Prop:=
 ∀ (pins:Pins)(s:Shared)(σ:L2.St)(H:Hp)(O:Own),Inv X pins σ H s->EnvOk X.K O H σ Γ->StOk X.K O H S->
   wpAny (model X.prog X.w) X.A (eval e X.env) (EP X pins σ (QG X.K O H W)) (XQ X pins σ O H WE) s
section
variable {X : Cx} {Γ : Gam} {S : Store} {W : WD} {WE : WX} {e : Expr} {es : List Expr} {pos : Pos}
theorem J1{x:Str}{p:Pos}{k n:Nat}{F:XCt}(C:CalleeX X.prog X.w X.K X.mg X.base x k n F)(hr:Room k X.A)(h:EvA X.nox Γ S (e::es) λ ds S1=>ds.length=n/\F ds S1 W WE)(hg:Gl X x)(hdb:(x==("__debug__":Str))=false)
 (he:starEach (e::es) X.env=(false,eval e X.env)::starEach es X.env)(hpl:(backTo pos (starEach es X.env)).any (·.1)=false):EvX X Γ S (.Call (.Name x p) (e::es) [] pos) W WE:=by
 intro pins s σ H O I env st
 obtain⟨f,fd,ps,hF,hm,hk,hb⟩:=C.ex
 refine wpAny_Call_Name_kw (jB I hg hm ?_ hdb)
 refine PySem.W.callWith_K (h₀:=X.base) I.ok.mod.kin hk (wpAny_mono (h pos pins s σ H O (I.wish _) env st) (λ us s1 hq=>?_) λ _ _ z=>z.elim) he hpl
 obtain⟨vs,H1,I1,r1,O1,ds,S1,⟨hl,w⟩,st1,ok1,rep⟩:=hq
 have I1:=I1.unwish
 refine⟨I1.kIn,?_⟩
 have h:spX X.mg X.K n F vs H1 (QG X.K O H W) (λ c po H'=>∃d,c=.ref d/\QX X.mg X.K O H WE (.ref d) po H'):=⟨O1,ds,S1,W,WE,hl,rep,ok1,w,λ v H' q=>q.pre st1,λ c po H' q=>⟨c,rfl,q.pre st1⟩⟩
 have hl2:us.length=ps.length:=by rw[←r1.length];exact hF.len _ _ _ _ h
 refine wpAny_call (codeAny_mono (hF.run X.A X.stack s1 H1 ⟨us,[]⟩ us vs _ _ hr I1.env0 ?_ r1 h) λ r s' hq=>?_)
 . have:=hb s1 us I1.kIn (by rw[List.append_nil];exact hl2)
   rw[List.append_nil]at this
   exact this
 . cases r with
   | error e=>
     refine⟨H1,s1,λ c po H'=>∃d,c=.ref d/\QX X.mg X.K O H WE (.ref d) po H',I1,hq,λ c po H' z=>?_⟩
     obtain⟨d,e,z⟩:=z
     cases e
     exact z
   | ok fl=>
     cases fl with
     | ret u=>exact I1.after hq
     | next=>exact False.elim hq
     | brk=>exact False.elim hq
     | cont=>exact False.elim hq
end
structure XEx(Ω:Wd) where
 lev:Nat
 chk:Bool->List Str->Nm->Expr->Bool
 wp:Gam->Store->WD->WX->Prop
 sound:∀{X:Cx}{r:Nat}{top:Bool}{N:List Str}{nm:Nm}{e:Expr}{Γ:Gam}{S:Store}{W:WD}{WE:WX},At Ω X.nox r top N nm->lev≤r->chk top N nm e=true->wp Γ S W WE->EvX X Γ S e W WE
def XEx.call{x:Str}{k n:Nat}{F:XCt}(C:az Ω x k n F)(as:Ar Ω):XEx Ω where
 lev:=max k as.lev
 chk top N nm e:=match e with | .Call (.Name y _) (a::es) [] _=>(y==x)&&(glb nm x&&(okN x&&as.chk top N nm (a::es))) | _=>false
 wp Γ S W WE:=as.wp Γ S λ ds S1=>ds.length=n/\F ds S1 W WE
 sound:=by
  intro X r top N nm e Γ S W WE A hl hc hw
  obtain⟨l1,l2⟩:=lv2 hl
  split at hc
  . rename_i y _ a es _
    obtain⟨h1,h2⟩:=aa hc
    obtain⟨h2,h3⟩:=aa h2
    obtain⟨h3,h4⟩:=aa h3
    have e:y=x:=eq_of_beq h1
    subst e
    have pl:=as.plain h4
    rw[List.all_cons]at pl
    obtain⟨p1,p2⟩:=aa pl
    have C':CalleeX X.prog X.w X.K X.mg X.base y k n F:=by
     have:=C
     rw[show X.prog=Ω.P from A.p,show X.w=Ω.w from A.w,show X.K=Ω.K from A.k,show X.mg=Ω.mg from A.g,show X.base=Ω.base from A.b];exact C
    exact J1 C' (A.room.mono l1) (as.sound A l2 h4 hw) (A.glb h2) (aY h3).1 (aD p1 _ _) (mj p2 _ _)
  . exact fE hc
end XE
namespace XE
open PySem PySem.Spec L2 DL RF
open PyProof.Rows
abbrev sup(X:Cx)(e:Value):Cx:={X with A:=X.A.mark (some e),calm:=false,xe:=λ _ _=>False}
section
variable {X : Cx} {pins : Pins} {σ : L2.St} {H : Hp} {s : Shared} {e : Value}
theorem Inv.sup(I:Inv X pins σ H s):Inv (sup X e) pins σ H s:=
 ⟨⟨I.ok.mod,I.ok.kind,I.ok.glob,I.ok.blt,I.ok.above,I.ok.inj,I.ok.has,I.ok.cab,(λ h=>nomatch h),I.ok.frames,I.ok.stk,I.ok.exf,I.ok.bs,I.ok.bsz,I.ok.noex,I.ok.exfs,I.ok.funs,I.ok.frf⟩,I.os,I.bare,I.base,I.loc,I.cell,I.free,I.freeC,I.pin,I.hok,I.len⟩
theorem Inv.unsup(ok:X.Ok)(I:Inv (XE.sup X e) pins σ H s):Inv X pins σ H s:=⟨ok,I.os,I.bare,I.base,I.loc,I.cell,I.free,I.freeC,I.pin,I.hok,I.len⟩
theorem HS{M:Model}{A:Around}{E:Value->Shared->Prop}{i:Nat}{x:Str}{pos:Pos}{Q:Unit->Shared->Prop}(I:Inv X pins σ H s)(hN:X.N.Nodup)(hi:X.N[i]? =some x)(hk:X.env.scope.names.lookup x=some .local)
 (h:∀s',Inv X pins (σ.set i none) H s'->Q () s'):wpAny M A (do bindName X.env x .none;unbindBehindTheSuite X.env x pos) Q E s:=by
 obtain⟨m,hn,hl⟩:=id I.loc
 have hcls:(X.env.scope.kind==.class||(X.env.scope.kind==.module&&X.env.locals !=X.env.globals))=false:=by rw[I.ok.kind];rfl
 have cne:=I.cne
 have ne:∀b o,X.s₀.heap.get? b=some o->b≠X.env.locals:=λ b o e=>Nat.ne_of_lt (Nat.lt_of_lt_of_le (Heap.lt_size e) I.ok.above)
 have hiσ:i<σ.length:=by rw[I.len];exact(z0.mp hi).1
 refine wpAny_nameGoes_keeps hk hn hcls λ h' v hn' hs=>h _ ⟨I.ok,I.os,I.bare,⟨λ b o e n hb hx=>?_,λ b o e n hb hx=>?_,I.base.free,λ b o e hx=>?_,I.base.tups,I.base.frzs,I.base.tbls⟩,⟨_,hn',λ j y w e1 e2 e3=>?_⟩,λ y c e=>?_,I.free,I.freeC,λ p hp=>?_,λ b ob e=>?_,by simpa using I.len⟩
 . exact(hs.2 b (ne b o e)).trans (I.base.keep b o e n hb hx)
 . obtain⟨sl,e1⟩:=I.base.slot b o e n hb hx;exact⟨sl,(hs.2 b (ne b o e)).trans e1⟩
 . obtain⟨o',e1⟩:=I.base.there b o e hx;exact⟨o',(hs.2 b (ne b o e)).trans e1⟩
 . by_cases hj:j=i
   . subst hj
     rw[List.getElem?_set_self hiσ]at e2
     cases e2
   . rw[List.getElem?_set_ne (Ne.symm hj)]at e2
     obtain⟨u',r',q⟩:=hl j y w e1 e2 e3
     refine⟨u',r',?_⟩
     rcases q with⟨k,e⟩ | ⟨k,c,e,z⟩
     . refine .inl ⟨k,?_⟩
       have nx:y≠x:=λ e=>hj (ou hN e1 (e▸hi))
       simp[nx,e]
     . exact .inr ⟨k,c,e,z.sameBut hs (cne y c e)⟩
 . obtain⟨w',z⟩:=I.cell y c e;exact⟨w',z.sameBut hs (cne y c e)⟩
 . obtain⟨e,n,ne,nf,d⟩:=I.pin p hp;exact⟨(hs.2 p.1 ne).trans e,n,ne,nf,d⟩
 . refine(I.hok b ob e).stay (λ c w' hc q=>(hs.2 c ?_).trans q) (λ _ q=>q) λ _ _ q=>q
   intro z
   have hf:=I.free
   rw[←z]at hf
   rcases hc with z2 | hc
   . rw[z2,e]at hf;cases hf
   . rw[hf]at hc;cases hc
theorem Rk{P:Program}{w:World}{H:Hp}{h:Heap}{a C:Addr}{po:Option Addr}(e:bA a C po h):aO P w H h a (.ext (bA a C po)):=by
 obtain⟨o,vs,h1,h2,h3⟩:=e
 exact⟨⟨o,vs,h1,h2,h3⟩,⟨o,h1⟩,λ g1 g2 ⟨o',vs',z1,z2,z3⟩ k=>⟨o',vs',k o' z1,z2,z3⟩⟩
theorem Inv.exc{a C:Addr}{po:Option Addr}{H1:Hp}{s1:Shared}(I:Inv X pins σ H s)(I1:Inv X pins σ H1 s1)(hex:X.ex=[])(new:∀b o,s1.heap.get? b=some o->b≠a)(hH:H a=none)(e:bA a C po s.heap):Inv X pins σ (upd H a (.ext (bA a C po))) s:=by
 have nx:∀b,b∉X.ex:=λ b z=>by rw[hex]at z;cases z
 have n0:∀b o,X.s₀.heap.get? b=some o->b≠a:=λ b o q=>by
  obtain⟨o',q'⟩:=I1.base.there b o q (nx b)
  exact new b o' q'
 have nL:X.env.locals≠a:=by
  obtain⟨m,⟨o,_,_,ho,_⟩,_⟩:=I1.loc
  exact new _ o ho
 have nt:∀b u,H b=some u->b≠a:=λ b u q z=>by rw[z,hH]at q;cases q
 refine⟨I.ok,I.os,I.bare,⟨I.base.keep,I.base.slot,λ b o q n hx=>?_,I.base.there,λ b xs q=>?_,λ b o u q=>?_,λ b ps q=>?_⟩,I.loc,I.cell,?_,λ x c q=>?_,λ p hp=>?_,λ b u q=>?_,I.len⟩
 . rw[aj (n0 b o q)];exact I.base.free b o q n hx
 . have:=I.base.tups b xs q;rw[aj (nt b _ this)];exact this
 . have:=I.base.frzs b o u q;rw[aj (nt b _ this)];exact this
 . obtain⟨m,this⟩:=I.base.tbls b ps q;exact⟨m,by rw[aj (nt b _ this)];exact this⟩
 . rw[aj nL];exact I.free
 . obtain⟨v,o,ho,_⟩:=I1.cell x c q
   rw[aj (new c o ho)];exact I.freeC x c q
 . obtain⟨z1,z2,z3⟩:=I.pin p hp
   obtain⟨w1,_⟩:=I1.pin p hp
   exact⟨z1,by rw[aj (new _ _ w1)];exact z2,z3⟩
 . by_cases hb:b=a
   . subst hb
     rw[aC]at q
     cases q
     exact Rk e
   . rw[aj hb]at q
     exact(I.hok b u q).stay (λ _ _ _ r=>r) (λ c r=>by rw[aj (nt c _ r)];exact r) λ c xs r=>by rw[aj (nt c _ r)];exact r
theorem caught{a C T t:Addr}{po:Option Addr}{B:Heap}{i:Nat}{n y:Str}{np hp:Pos}{b₀:Stmt}{suite:List Stmt}{rest:List ExceptHandler}{Q:Flow->Shared->Prop}{E:Value->Shared->Prop}
 {H1:Hp}{s1:Shared}(ok:X.Ok)(I1:Inv X pins σ H1 s1)(hex:X.ex=[])(new:∀b o,s1.heap.get? b=some o->b≠a)(hst:X.stack=X.env::X.outer)(hfr:X.env.frame=some X.env.locals)(fw:Heap.FlyingW B X.stack a (.ref C) (.ref t) s.heap)
 (inv:∀h',Heap.FlyingW B X.stack a (.ref C) (.ref t) h'->s.heap.UpToSlots h'->Inv X pins σ H {s with heap:=h'})(hok:HOk X.prog X.w H B)(lk:∀dx,po=some dx->∃o,s.heap.get? a=some o/\o.dict=some dx)
 (hg:Gl X y)(hy:X.mg y=some (.ref T))(hyd:(y==("__debug__":Str))=false)(hx:PySem.W.exmOne X.K (.ref C) (.ref T)=some true)
 (hN:X.N.Nodup)(hi:X.N[i]? =some n)(hn:X.env.scope.names.lookup n=some .local)
 (body:∀s6,Inv (XE.sup X (.ref a)) pins (σ.set i (some (.ref a))) (upd H a (.ext (bA a C po))) s6->wpAny (model X.prog X.w) (X.A.mark (some (.ref a))) (execs (b₀::suite) X.env)
  (λ f s7=>wpAny (model X.prog X.w) X.A (do bindName X.env n .none;unbindBehindTheSuite X.env n hp) (λ _ s8=>Q f s8) E s7) (λ _ _=>False) s6):
 wpAny (model X.prog X.w) X.A (noteFrame (.ref a) X.env) (λ _ s2=>wpAny (model X.prog X.w) X.A (setFlight (.ref a) none) (λ _ s3=>
  wpAny (model X.prog X.w) X.A (handleBy (.ref a) X.env (.ExceptHandler (some (.Name y np)) (some n) (b₀::suite) hp::rest)) Q E s3) E s2) E s:=by
 have hH:H a=none:=HOk.none hok fw.2.1
 have on:∀{h1 h2:Heap},(∀dx,po=some dx->∃o,h1.get? a=some o/\o.dict=some dx)->DK h1 h2->∀dx,po=some dx->∃o,h2.get? a=some o/\o.dict=some dx:=λ z dk dx e=>by
  obtain⟨o,e1,e2⟩:=z dx e
  obtain⟨o',e3,e4⟩:=dk a o e1
  exact⟨o',e3,e4.trans e2⟩
 have at_:∀{h1:Heap},Heap.FlyingW B X.stack a (.ref C) (.ref t) h1->(∀dx,po=some dx->∃o,h1.get? a=some o/\o.dict=some dx)->bA a C po h1:=λ f z=>by
  obtain⟨ob,vs,ho,hc,hd,_⟩:=f.first
  refine⟨ob,vs,ho,hc,hd,λ dx e=>?_⟩
  obtain⟨o,e1,e2⟩:=z dx e
  rw[ho]at e1
  cases e1
  exact e2
 refine wpAny_mono ((tW (.ref a) X.env).any (wpAny_looks_onW (Q:=λ _ s'=>∃h4,s'={s with heap:=h4}/\Heap.HeldW B (X.env::X.outer) a (.ref C) (.ref t) X.env.locals h4/\s.heap.UpToSlots h4) (E:=λ _ _=>False) (base:=B) (outer:=X.outer) (by rw[ok.frames,hst]) hfr (by rw[←hst];exact fw) λ h4 f4 u4=>⟨h4,rfl,f4,u4⟩)) (λ _ s4 z=>?_) λ _ _ z=>z.1.elim
 obtain⟨⟨h4,rfl,f4,u4⟩,d4⟩:=z
 have lk4:=on lk d4
 refine wpAny_mono ((lL (.ref a) none).any (wpAny_landsW (s:={s with heap:=h4}) (Q:=λ _ s'=>∃h5,s'={s with heap:=h5}/\Heap.FlyingW B (X.env::X.outer) a (.ref C) (.ref t) h5/\h4.UpToSlots h5) (E:=λ _ _=>False) f4 λ h5 f5 u5=>⟨h5,rfl,f5,u5⟩)) (λ _ s5 z=>?_) λ _ _ z=>z.1.elim
 obtain⟨⟨h5,rfl,f5,u5⟩,d5⟩:=z
 have lk5:=on lk4 d5
 rw[←hst]at f5
 have u45:=u4.trans u5
 have I5:=inv h5 f5 u45
 refine wpAny_handleBy_cons (codeAny_handlers_test (jB (X:=XE.sup X (.ref a)) (Inv.sup I5) hg hy ?_ hyd)) (by intro q;cases q)
 refine(PySem.W.exm_one (M:=model X.prog X.w) (K:=X.K) (h:=h5) (e:=a) I5.kIn (at_ f5 lk5).ty hx).here (codeAny_handlers_suite_as ?_)
 refine wpAny_mono ((lL (.ref a) none).any (lands_againW (Q:=λ _ s'=>∃h6,s'={s with heap:=h6}/\Heap.FlyingW B X.stack a (.ref C) (.ref t) h6/\h5.UpToSlots h6) (E:=λ _ _=>False) (s:={s with heap:=h5}) f5 λ h6 f6 u6=>⟨h6,rfl,f6,u6⟩)) (λ _ s6 z=>?_) λ _ _ z=>z.1.elim
 obtain⟨⟨h6,rfl,f6,u6⟩,d6⟩:=z
 have I6:=inv h6 f6 (u45.trans u6)
 have J:Inv X pins σ (upd H a (.ext (bA a C po))) {s with heap:=h6}:=Inv.exc I6 I1 hex new hH (at_ f6 (on lk5 d6))
 refine gV (X:=XE.sup X (.ref a)) (Inv.sup J) hN hi (.inl hn) (v:=.ref a) rfl (λ s7 I7=>?_) (.inr hn)
 exact wpAny_mono (body s7 I7) (λ f s8 q=>q) λ _ _ z=>z.elim
end
end XE
set_option maxHeartbeats 400000
namespace XE
open PySem PySem.Spec L2 DL RF
open PyProof.Rows
variable {e : Expr} {es : List Expr} {y : Str}
inductive HT where
 | one(y:Str) | any(ys:List Str) | no(t:HT) | or(s t:HT) | and(s t:HT) | eq(y z:Str)
def rG:Expr->Option (Str×List Expr)
 | .Call (.Name f _) es [] _=>some (f,es)
 | _=>none
def Kh:Expr->Option (List Expr)
 | .Tuple es _ _=>some es
 | _=>none
def zT:Expr->Option Expr
 | .UnaryOp .Not e _=>some e
 | _=>none
def orV:Expr->Option (List Expr)
 | .BoolOp .Or es _=>some es
 | _=>none
def t8:Expr->Option (List Expr)
 | .BoolOp .And es _=>some es
 | _=>none
def eqV:Expr->Option (Expr×List Expr)
 | .Compare a [.Eq] es _=>some (a,es)
 | _=>none
theorem pH{f:Str}(h:rG e=some (f,es)):∃p pos,e=.Call (.Name f p) es [] pos:=by
 unfold rG at h
 split at h
 . cases h;exact⟨_,_,rfl⟩
 . cases h
def mR:List Expr->Option (List Str)
 | []=>some []
 | e::r=>(nameV e).bind λ y=>(mR r).map (y::·)
theorem M7(h:Kh e=some es):∃k p,e=.Tuple es k p:=by
 unfold Kh at h
 split at h
 . cases h;exact⟨_,_,rfl⟩
 . cases h
theorem Cr{x:Expr}(h:zT e=some x):∃p,e=.UnaryOp .Not x p:=by
 unfold zT at h
 split at h
 . cases h;exact⟨_,rfl⟩
 . cases h
theorem Ip(h:orV e=some es):∃p,e=.BoolOp .Or es p:=by
 unfold orV at h
 split at h
 . cases h;exact⟨_,rfl⟩
 . cases h
theorem uz(h:t8 e=some es):∃p,e=.BoolOp .And es p:=by
 unfold t8 at h
 split at h
 . cases h;exact⟨_,rfl⟩
 . cases h
theorem Rm{a:Expr}(h:eqV e=some (a,es)):∃p,e=.Compare a [.Eq] es p:=by
 unfold eqV at h
 split at h
 . cases h;exact⟨_,rfl⟩
 . cases h
def isV(n y:Str)(e:Expr):Bool:=match rG e with
 | some (f,[a,b])=>(f==("isinstance":Str))&&((nameV a==some n)&&(nameV b==some y))
 | _=>false
theorem jO{n:Str}(h:isV n y e=true):∃p1 p2 p3 pos,e=.Call (.Name "isinstance" p1) [.Name n p2,.Name y p3] [] pos:=by
 unfold isV at h
 split at h
 . rename_i f a b hc
   obtain⟨h1,h⟩:=aa h
   obtain⟨h2,h3⟩:=aa h
   obtain⟨p,pos,rfl⟩:=pH hc
   obtain⟨p2,rfl⟩:=bx (eq_of_beq h2)
   obtain⟨p3,rfl⟩:=bx (eq_of_beq h3)
   obtain rfl:=eq_of_beq h1
   exact⟨_,_,_,_,rfl⟩
 . cases h
def yd(n:Str)(ys:List Str)(e:Expr):Bool:=match rG e with
 | some (f,[a,b])=>(f==("isinstance":Str))&&((nameV a==some n)&&(match Kh b with | some es=>mR es==some ys | none=>false))
 | _=>false
theorem BZ{n:Str}{ys:List Str}(h:yd n ys e=true):∃p1 p2 p3 k es pos,mR es=some ys/\e=.Call (.Name "isinstance" p1) [.Name n p2,.Tuple es k p3] [] pos:=by
 unfold yd at h
 split at h
 . rename_i f a b hc
   obtain⟨h1,h⟩:=aa h
   obtain⟨h2,h3⟩:=aa h
   obtain⟨p,pos,rfl⟩:=pH hc
   obtain⟨p2,rfl⟩:=bx (eq_of_beq h2)
   obtain rfl:=eq_of_beq h1
   split at h3
   . rename_i es ht
     obtain⟨k,p3,rfl⟩:=M7 ht
     exact⟨_,_,_,_,_,_,eq_of_beq h3,rfl⟩
   . cases h3
 . cases h
def HT.chk(n:Str):HT->Expr->Bool
 | .one y,e=>isV n y e
 | .any ys,e=>yd n ys e
 | .no t,e=>match zT e with | some x=>t.chk n x | none=>false
 | .or s t,e=>match orV e with | some [a,b]=>s.chk n a&&t.chk n b | _=>false
 | .and s t,e=>match t8 e with | some [a,b]=>s.chk n a&&t.chk n b | _=>false
 | .eq y z,e=>match eqV e with | some (a,[b])=>isV n y a&&isV n z b | _=>false
def HT.val(q:Str->Bool):HT->Bool
 | .one y=>q y
 | .any ys=>ys.any q
 | .no t=>!t.val q
 | .or s t=>s.val q||t.val q
 | .and s t=>s.val q&&t.val q
 | .eq y z=>q y==q z
def HT.nms:HT->List Str
 | .one y=>[y] | .any ys=>ys | .no t=>t.nms | .or s t=>s.nms++t.nms | .and s t=>s.nms++t.nms | .eq y z=>[y,z]
def Ans(Y:Cx)(C:Addr)(y:Str)(b:Bool):Prop:=Gl Y y/\(y==("__debug__":Str))=false/\∃(v:V) (u:Value),((∃T,v=.ref T/\u=.ref T)∨∃t,v=.ty t/\u=.type t)/\(Y.mg y=some u∨(Y.mg y=none/\bootBuiltins y=some u/\y≠"__name__"))/\PySem.W.kitOne Y.K (.ref C) u=some b
structure Sx(Y:Cx)(n:Str)(i:Nat)(C:Addr)(q:Str->Bool):Prop where
 ni:Y.N[i]? =some n
 vis:Vis Y.env.scope n
 d1:(n==("__debug__":Str))=false
 d2:(n==("__classdict__":Str))=false
 atr:Atr Y.K C
 mi:Y.mg "isinstance"=none
 gi:Gl Y "isinstance"
section
variable {Y : Cx} {n : Str} {i : Nat} {a C : Addr} {po : Option Addr} {q : Str -> Bool} {pins : Pins} {s : Shared} {σ : L2.St} {H : Hp}
theorem bh{H H1 H2:Hp}(a:aR H H1)(b:aR H1 H2):aR H H2:=λ x o h=>b x o (a x o h)
theorem same_refl{H:Hp}:aR H H:=λ _ _ h=>h
theorem Gu{b:Bool}{pos:Pos}(h:Ans Y C y b):∃v u,PE Y (.Name y pos) (tC v)/\(RelV v u/\∀u',RelV v u'->u'=u)/\PySem.W.kitOne Y.K (.ref C) u=some b:=by
 obtain⟨g,d,v,u,rr,hm,k⟩:=h
 have r':RelV v u/\∀u',RelV v u'->u'=u:=by
  rcases rr with⟨T,rfl,rfl⟩ | ⟨t,rfl,rfl⟩
  . exact⟨rfl,λ u' z=>z⟩
  . exact⟨rfl,λ u' z=>z⟩
 have r:=r'.1
 rcases hm with hm | ⟨hm,hb,hn⟩
 . exact⟨v,u,jP g hm r d,r',k⟩
 . exact⟨v,u,uE g hm hb r hn d,r',k⟩
theorem QF:∀{ys:List Str},mR es=some ys->(∀y∈ys,Ans Y C y (q y))->∃vs us,PA Y es (λ _ H Q=>Q vs H)/\(Vals vs us/\∀us',Vals vs us'->us'=us)/\PySem.W.kitAny Y.K (.ref C) us=some (ys.any q)/\vs.length=ys.length:=by
 induction es with
 | nil=>intro ys h _;cases h;exact⟨[],[],eE,⟨.nil,λ us' z=>by cases z;rfl⟩,rfl,rfl⟩
 | cons x es ih=>
   intro ys h hq
   obtain⟨y,hy,h⟩:=Option.bind_eq_some_iff.mp (show(nameV x).bind (λ y=>(mR es).map (y::·))=some ys from h)
   obtain⟨zs,e,h⟩:=Option.map_eq_some_iff.mp h
   subst h
   obtain⟨p,rfl⟩:=bx hy
   obtain⟨v,u,h1,h2,h3⟩:=Gu (pos:=p) (hq y (.head _))
   obtain⟨vs,us,g1,g2,g3,g4⟩:=ih e λ z hz=>hq z (.tail _ hz)
   refine⟨v::vs,u::us,?_,⟨.cons h2.1 g2.1,λ us' z=>?_⟩,?_,by simp[g4]⟩
   . exact bw h1 g1
   . cases z with
     | cons z1 z2=>rw[h2.2 _ z1,g2.2 _ z2]
   . unfold PySem.W.kitAny
     rw[h3,List.any_cons]
     cases q y with
     | true=>rfl
     | false=>exact g3
theorem jz{p1 p2 p3 pos:Pos}(sx:Sx Y n i C q)(hq:Ans Y C y (q y))(hs:σ[i]? =some (some (.ref a)))(ha:H a=some (.ext (bA a C po)))(I:Inv Y pins σ H s):
 wpAny (model Y.prog Y.w) Y.A (eval (.Call (.Name "isinstance" p1) [.Name n p2,.Name y p3] [] pos) Y.env) (EP Y pins σ (λ v H'=>v=.bl (q y)/\aR H H')) Y.xe s:=by
 obtain⟨v,u,pe,ru,k1⟩:=Gu (pos:=p3) hq
 have hcr:cN Y (.builtin "isinstance") (λ xs H' Q=>xs=[.ref a,v]/\H' a=some (.ext (bA a C po))/\Q (.bl (q y)) H'):=by
  rintro pins s σ H xs us Q I r ⟨rfl,ha,hq⟩
  obtain⟨u1,u2,rfl,r1,r2⟩:=vals2 r
  cases r1
  rw[ru.2 _ r2]
  exact PySem.W.kia_one (zN sx.atr) I.kIn (I.hok a _ ha).1 k1 (λ z=>nomatch z) λ tk=>⟨.bl _,H,I.tok tk,rfl,hq⟩
 exact j5 (e:=.Name n p2) (es:=[.Name y p3]) hcr sx.gi sx.mi PyProof.Rows.boot_isinstance (bw (yM sx.ni sx.vis sx.d1 sx.d2) (bw pe eE)) (by decide) (by decide) rfl rfl pins s σ H _ I ⟨.ref a,hs,rfl,ha,rfl,same_refl⟩
theorem Im{ys:List Str}{k:Nat}{p1 p2 p3 pos:Pos}(sx:Sx Y n i C q)(hn:mR es=some ys)(hl:ys.length≤1000)(hq:∀y∈ys,Ans Y C y (q y))(hs:σ[i]? =some (some (.ref a)))(ha:H a=some (.ext (bA a C po)))(I:Inv Y pins σ H s):
 wpAny (model Y.prog Y.w) Y.A (eval (.Call (.Name "isinstance" p1) [.Name n p2,.Tuple es k p3] [] pos) Y.env) (EP Y pins σ (λ v H'=>v=.bl (ys.any q)/\aR H H')) Y.xe s:=by
 obtain⟨vs,us,pa,ru,k1,l1⟩:=QF hn hq
 have hcr:cN Y (.builtin "isinstance") (λ xs H' Q=>∃p,xs=[.ref a,.ref p]/\H' p=some (.tup vs)/\H' a=some (.ext (bA a C po))/\Q (.bl (ys.any q)) H'):=by
  rintro pins s σ H xs us' Q I r ⟨p,rfl,hp,ha,hq⟩
  obtain⟨u1,u2,rfl,r1,r2⟩:=vals2 r
  cases r1
  cases r2
  obtain⟨its,rv,⟨⟨cls,dd,data,sl⟩,e1,e2,m,e3⟩,_⟩:=I.tuple (SqT.of (K:=Y.K) hp)
  simp only at e2 e3
  subst e2 e3
  rw[ru.2 _ rv]at e1
  exact PySem.W.kia_tup (zN sx.atr) I.kIn (I.hok a _ ha).1 e1 k1 (λ z=>nomatch z) λ tk=>⟨.bl _,H,I.tok tk,rfl,hq⟩
 refine j5 (e:=.Name n p2) (es:=[.Tuple es k p3]) hcr sx.gi sx.mi PyProof.Rows.boot_isinstance (bw (yM sx.ni sx.vis sx.d1 sx.d2) (bw (QQ pa) eE)) (by decide) (by decide) rfl rfl pins s σ H _ I ⟨.ref a,hs,by rw[l1];exact small (by omega),λ p hp=>?_⟩
 exact⟨p,rfl,aC,by rw[aj (aB ha hp)];exact ha,rfl,aR.fresh hp _⟩
def HT.small:HT->Bool
 | .any ys=>Nat.ble ys.length 1000
 | .no t=>t.small | .or s t=>s.small&&t.small | .and s t=>s.small&&t.small
 | _=>true
theorem HT.test(sx:Sx Y n i C q)(hs:σ[i]? =some (some (.ref a))):∀(t:HT)(e:Expr),t.chk n e=true->t.small=true->(∀y∈t.nms,Ans Y C y (q y))->∀(s:Shared)(H:Hp),H a=some (.ext (bA a C po))->Inv Y pins σ H s->
 wpAny (model Y.prog Y.w) Y.A (isTrue e Y.env (eval e Y.env)) (TP Y pins σ (λ b H'=>b=t.val q/\aR H H')) Y.xe s
 | .one y,e,hc,_,hq,s,H,ha,I=>by
   obtain⟨p1,p2,p3,pos,rfl⟩:=jO (show isV n y e=true from hc)
   refine isTrue_plain (thn (jz sx (hq y (.head _)) hs ha I) λ u s1 hq_=>?_) rfl
   obtain⟨v,H1,I1,r,e,sm⟩:=hq_
   subst e
   cases r
   exact wpAny_truthy_bool ⟨H1,I1,rfl,sm⟩
 | .any ys,e,hc,hl,hq,s,H,ha,I=>by
   obtain⟨p1,p2,p3,k,es,pos,hn,rfl⟩:=BZ (show yd n ys e=true from hc)
   refine isTrue_plain (thn (Im sx hn (Nat.le_of_ble_eq_true hl) hq hs ha I) λ u s1 hq_=>?_) rfl
   obtain⟨v,H1,I1,r,e,sm⟩:=hq_
   subst e
   cases r
   exact wpAny_truthy_bool ⟨H1,I1,rfl,sm⟩
 | .no t,e,hc,hl,hq,s,H,ha,I=>by
   have hc:(match zT e with | some x=>t.chk n x | none=>false)=true:=hc
   split at hc
   . rename_i x hv
     obtain⟨p,rfl⟩:=Cr hv
     exact isTrue_not (thn (HT.test sx hs t x hc hl hq s H ha I) λ c s1 ⟨H1,I1,e,sm⟩=>⟨H1,I1,by rw[e];rfl,sm⟩)
   . cases hc
 | .or u t,e,hc,hl,hq,s,H,ha,I=>by
   have hc:(match orV e with | some [a,b]=>u.chk n a&&t.chk n b | _=>false)=true:=hc
   split at hc
   . rename_i x y hv
     obtain⟨p,rfl⟩:=Ip hv
     obtain⟨h1,h2⟩:=aa hc
     obtain⟨l1,l2⟩:=aa hl
     refine isTrue_or (thn (HT.test sx hs u x h1 l1 (λ z hz=>hq z (List.mem_append_left _ hz)) s H ha I) λ c s1 hq_=>?_)
     obtain⟨H1,I1,e,sm⟩:=hq_
     cases c with
     | true=>exact⟨H1,I1,by show true=(u.val q||t.val q);rw[←e];rfl,sm⟩
     | false=>
       refine isTrue_or (thn (HT.test sx hs t y h2 l2 (λ z hz=>hq z (List.mem_append_right _ hz)) s1 H1 (sm a _ ha) I1) λ c s2 hq_=>?_)
       obtain⟨H2,I2,e2,sm2⟩:=hq_
       have ev:(HT.or u t).val q=c:=by show(u.val q||t.val q)=c;rw[←e,e2];rfl
       cases c with
       | true=>exact⟨H2,I2,ev.symm,bh sm sm2⟩
       | false=>exact isTrue_or_nil ⟨H2,I2,ev.symm,bh sm sm2⟩
   . cases hc
 | .and u t,e,hc,hl,hq,s,H,ha,I=>by
   have hc:(match t8 e with | some [a,b]=>u.chk n a&&t.chk n b | _=>false)=true:=hc
   split at hc
   . rename_i x y hv
     obtain⟨p,rfl⟩:=uz hv
     obtain⟨h1,h2⟩:=aa hc
     obtain⟨l1,l2⟩:=aa hl
     refine isTrue_and (thn (HT.test sx hs u x h1 l1 (λ z hz=>hq z (List.mem_append_left _ hz)) s H ha I) λ c s1 hq_=>?_)
     obtain⟨H1,I1,e,sm⟩:=hq_
     cases c with
     | false=>exact⟨H1,I1,by show false=(u.val q&&t.val q);rw[←e];rfl,sm⟩
     | true=>
       refine isTrue_and (thn (HT.test sx hs t y h2 l2 (λ z hz=>hq z (List.mem_append_right _ hz)) s1 H1 (sm a _ ha) I1) λ c s2 hq_=>?_)
       obtain⟨H2,I2,e2,sm2⟩:=hq_
       have ev:(HT.and u t).val q=c:=by show(u.val q&&t.val q)=c;rw[←e,e2];rfl
       cases c with
       | false=>exact⟨H2,I2,ev.symm,bh sm sm2⟩
       | true=>exact isTrue_and_nil ⟨H2,I2,ev.symm,bh sm sm2⟩
   . cases hc
 | .eq y z,e,hc,hl,hq,s,H,ha,I=>by
   have hc:(match eqV e with | some (a,[b])=>isV n y a&&isV n z b | _=>false)=true:=hc
   split at hc
   . rename_i a' b' hv
     obtain⟨p,rfl⟩:=Rm hv
     obtain⟨h1,h2⟩:=aa hc
     obtain⟨p1,p2,p3,p4,rfl⟩:=jO h1
     obtain⟨p5,p6,p7,p8,rfl⟩:=jO h2
     refine wpAny_isTrue_Compare1 (thn (jz sx (hq y (.head _)) hs ha I) λ u s1 hq_=>?_) (dB rfl)
     obtain⟨v,H1,I1,r,e,sm⟩:=hq_
     subst e
     cases r
     refine thn (jz sx (hq z (.tail _ (.head _))) hs (sm a _ ha) I1) λ u s2 hq_=>?_
     obtain⟨v,H2,I2,r,e,sm2⟩:=hq_
     subst e
     cases r
     refine thn (Ei pins s2 σ H2 (.bl (q y)) (.bl (q z)) _ _ (λ v H'=>v=.bl (q y==q z)/\H'=H2) I2 rfl rfl ⟨rfl,by rw[mG];exact⟨rfl,rfl⟩⟩) λ w s3 hq_=>?_
     obtain⟨v,H3,I3,r,e,e2⟩:=hq_
     subst e e2
     cases r
     exact wpAny_truthy_bool ⟨H3,I3,rfl,bh sm sm2⟩
   . cases hc
def HT.vals:HT->Bool
 | .eq _ _=>false
 | .any ys=>Nat.ble ys.length 1000
 | .no t=>t.vals | .or s t=>s.vals&&t.vals | .and s t=>s.vals&&t.vals
 | _=>true
theorem HT.ev(sx:Sx Y n i C q)(hs:σ[i]? =some (some (.ref a))):∀(t:HT)(e:Expr),t.chk n e=true->t.vals=true->(∀y∈t.nms,Ans Y C y (q y))->∀(s:Shared)(H:Hp),H a=some (.ext (bA a C po))->Inv Y pins σ H s->
 wpAny (model Y.prog Y.w) Y.A (eval e Y.env) (EP Y pins σ (λ v H'=>v=.bl (t.val q)/\aR H H')) Y.xe s
 | .one y,e,hc,_,hq,s,H,ha,I=>by
   obtain⟨p1,p2,p3,pos,rfl⟩:=jO (show isV n y e=true from hc)
   exact jz sx (hq y (.head _)) hs ha I
 | .any ys,e,hc,hl,hq,s,H,ha,I=>by
   obtain⟨p1,p2,p3,k,es,pos,hn,rfl⟩:=BZ (show yd n ys e=true from hc)
   exact Im sx hn (Nat.le_of_ble_eq_true hl) hq hs ha I
 | .eq y z,e,hc,hl,hq,s,H,ha,I=>by cases hl
 | .no t,e,hc,hl,hq,s,H,ha,I=>by
   have hc:(match zT e with | some x=>t.chk n x | none=>false)=true:=hc
   split at hc
   . rename_i x hv
     obtain⟨p,rfl⟩:=Cr hv
     refine UnaryOp_ (thn (HT.ev sx hs t x hc hl hq s H ha I) λ u s1 hq_=>?_)
     obtain⟨v,H1,I1,r,e,sm⟩:=hq_
     subst e
     cases r
     exact not_of (wpAny_truthy_bool ⟨.bl (!t.val q),H1,I1,rfl,rfl,sm⟩)
   . cases hc
 | .or u t,e,hc,hl,hq,s,H,ha,I=>by
   have hc:(match orV e with | some [a,b]=>u.chk n a&&t.chk n b | _=>false)=true:=hc
   split at hc
   . rename_i x y hv
     obtain⟨p,rfl⟩:=Ip hv
     obtain⟨h1,h2⟩:=aa hc
     obtain⟨l1,l2⟩:=aa hl
     refine BoolOp_or (thn (HT.ev sx hs u x h1 l1 (λ z hz=>hq z (List.mem_append_left _ hz)) s H ha I) λ w s1 hq_=>?_)
     obtain⟨v,H1,I1,r,e,sm⟩:=hq_
     subst e
     cases r
     refine wpAny_truthy_bool ?_
     cases ev:u.val q with
     | true=>exact⟨.bl true,H1,I1,rfl,by show V.bl true=.bl (u.val q||t.val q);rw[ev];rfl,sm⟩
     | false=>
       refine BoolOp_one (thn (HT.ev sx hs t y h2 l2 (λ z hz=>hq z (List.mem_append_right _ hz)) s1 H1 (sm a _ ha) I1) λ w s2 hq_=>?_)
       obtain⟨v,H2,I2,r,e2,sm2⟩:=hq_
       subst e2
       exact⟨_,H2,I2,r,by show V.bl (t.val q)=.bl (u.val q||t.val q);rw[ev];rfl,bh sm sm2⟩
   . cases hc
 | .and u t,e,hc,hl,hq,s,H,ha,I=>by
   have hc:(match t8 e with | some [a,b]=>u.chk n a&&t.chk n b | _=>false)=true:=hc
   split at hc
   . rename_i x y hv
     obtain⟨p,rfl⟩:=uz hv
     obtain⟨h1,h2⟩:=aa hc
     obtain⟨l1,l2⟩:=aa hl
     refine BoolOp_and (thn (HT.ev sx hs u x h1 l1 (λ z hz=>hq z (List.mem_append_left _ hz)) s H ha I) λ w s1 hq_=>?_)
     obtain⟨v,H1,I1,r,e,sm⟩:=hq_
     subst e
     cases r
     refine wpAny_truthy_bool ?_
     cases ev:u.val q with
     | false=>exact⟨.bl false,H1,I1,rfl,by show V.bl false=.bl (u.val q&&t.val q);rw[ev];rfl,sm⟩
     | true=>
       refine BoolOp_one (thn (HT.ev sx hs t y h2 l2 (λ z hz=>hq z (List.mem_append_right _ hz)) s1 H1 (sm a _ ha) I1) λ w s2 hq_=>?_)
       obtain⟨v,H2,I2,r,e2,sm2⟩:=hq_
       subst e2
       exact⟨_,H2,I2,r,by show V.bl (t.val q)=.bl (u.val q&&t.val q);rw[ev];rfl,bh sm sm2⟩
   . cases hc
theorem Vs{t:HT}(sx:Sx Y n i C q)(hc:t.chk n e=true)(hl:t.vals=true)(hq:∀y∈t.nms,Ans Y C y (q y)):PE Y e (λ σ H Q=>σ[i]? =some (some (.ref a))/\H a=some (.ext (bA a C po))/\∀H',aR H H'->Q (.bl (t.val q)) H'):=
 λ pins s σ H Q I ⟨hs,ha,k⟩=>thn (HT.ev sx hs t e hc hl hq s H ha I) λ u s1 ⟨v,H1,I1,r,e,sm⟩=>⟨v,H1,I1,r,by rw[e];exact k H1 sm⟩
inductive Oc where
 | str(x:Str) | bl(b:Bool) | non
 deriving DecidableEq
def Oc.v:Oc->V
 | .str x=>.str x | .bl b=>.bl b | .non=>.non
def Oc.d:Oc->D
 | .str x=>.str x | .bl b=>.bl b | .non=>.non
def Rg:Expr->Option Oc
 | .Constant (.str y) _ _=>some (.str y)
 | .Constant (.bool c) _ _=>some (.bl c)
 | .Constant .none _ _=>some .non
 | _=>none
def Oc.chk(o:Oc)(e:Expr):Bool:=match Rg e with
 | some o'=>decide (o'=o)
 | none=>false
theorem Oc.pe(o:Oc)(e:Expr)(h:o.chk e=true):PE Y e (tC o.v):=by
 unfold Oc.chk Rg at h
 split at h
 . rename_i o' hv
   obtain rfl:=of_decide_eq_true h
   split at hv
   . cases hv;exact Gw
   . cases hv;exact Lz
   . cases hv;exact FP
   . cases hv
 . cases h
inductive HB where
 | ifr(t:HT)(o:Oc) | pick(t:HT)(o0 o1:Oc) | both(y z:Str) | val(t:HT)
def rR:Stmt->Option Expr
 | .Return (some e) _=>some e
 | _=>none
theorem mZ{st:Stmt}(h:rR st=some e):∃p,st=.Return (some e) p:=by
 unfold rR at h
 split at h
 . cases h;exact⟨_,rfl⟩
 . cases h
def ifV:Stmt->Option (Expr×List Stmt)
 | .If e b [] _=>some (e,b)
 | _=>none
theorem Qd{st:Stmt}{b:List Stmt}(h:ifV st=some (e,b)):∃p,st=.If e b [] p:=by
 unfold ifV at h
 split at h
 . cases h;exact⟨_,rfl⟩
 . cases h
def subV:Expr->Option (Expr×Expr)
 | .Subscript (.List es p) b q=>some (.List es p,b)
 | _=>none
def JG:Expr->Option (List Expr)
 | .List es _=>some es
 | _=>none
theorem Om{a b:Expr}(h:subV e=some (a,b)):∃p,e=.Subscript a b p:=by
 unfold subV at h
 split at h
 . cases h;exact⟨_,rfl⟩
 . cases h
theorem M4(h:JG e=some es):∃p,e=.List es p:=by
 unfold JG at h
 split at h
 . cases h;exact⟨_,rfl⟩
 . cases h
def J4(n:Str)(t:HT)(e:Expr):Bool:=match rG e with
 | some (g,[x])=>(g==("int":Str))&&(t.chk n x&&(t.vals&&okE x))
 | _=>false
theorem Ot{n:Str}{t:HT}(h:J4 n t e=true):∃x gp p5,t.chk n x=true/\t.vals=true/\okE x=true/\e=.Call (.Name "int" gp) [x] [] p5:=by
 unfold J4 at h
 split at h
 . rename_i g x hc
   obtain⟨h1,h⟩:=aa h
   obtain⟨h2,h⟩:=aa h
   obtain⟨h3,h4⟩:=aa h
   obtain⟨p,pos,rfl⟩:=pH hc
   obtain rfl:=eq_of_beq h1
   exact⟨_,_,_,h2,h3,h4,rfl⟩
 . cases h
def rQ(n:Str)(t:HT)(o0 o1:Oc)(st:Stmt):Bool:=match (rR st).bind subV with
 | some (a,b)=>(match JG a with | some [c0,c1]=>o0.chk c0&&(o1.chk c1&&(okE c0&&okE c1)) | _=>false)&&J4 n t b
 | none=>false
def uc(n y z:Str)(st:Stmt):Bool:=match (rR st).bind t8 with
 | some [a,b]=>isV n y a&&isV n z b
 | _=>false
def yW(n:Str)(t:HT)(o:Oc)(st:Stmt):Bool:=match ifV st with
 | some (e,[r])=>(match rR r with | some c=>t.chk n e&&(t.small&&o.chk c) | none=>false)
 | _=>false
def zf(n:Str)(t:HT)(st:Stmt):Bool:=match rR st with
 | some e=>t.chk n e&&t.vals
 | none=>false
def HB.chk(n:Str):HB->Stmt->Bool
 | .val t,st=>zf n t st
 | .ifr t o,st=>yW n t o st
 | .pick t o0 o1,st=>rQ n t o0 o1 st
 | .both y z,st=>uc n y z st
def HB.nms:HB->List Str
 | .ifr t _=>t.nms | .pick t _ _=>t.nms | .both y z=>[y,z] | .val t=>t.nms
def HB.out(q:Str->Bool):List HB->Option Oc
 | []=>none
 | .ifr t o::r=>if t.val q then some o else HB.out q r
 | .pick t o0 o1::_=>some (if t.val q then o1 else o0)
 | .both y z::_=>some (.bl (q y&&q z))
 | .val t::_=>some (.bl (t.val q))
def HB.chks(n:Str):List HB->List Stmt->Bool
 | [],[]=>true
 | b::bs,st::sts=>b.chk n st&&HB.chks n bs sts
 | _,_=>false
def HE(Y:Cx)(pins:Pins)(σ:L2.St)(H:Hp)(o:Option Oc)(f:Flow)(s':Shared):Prop:=∃H',Inv Y pins σ H' s'/\aR H H'/\match o with | some c=>∃u,f=.ret u/\RelV c.v u | none=>f=.next
theorem HE.pre{H1:Hp}{o:Option Oc}{f:Flow}{s':Shared}(sm:aR H H1)(h:HE Y pins σ H1 o f s'):HE Y pins σ H o f s':=by
 obtain⟨H2,I,sm2,e⟩:=h
 exact⟨H2,I,bh sm sm2,e⟩
theorem J0{t:HT}{o0 o1:Oc}{st:Stmt}(sx:Sx Y n i C q)(hs:σ[i]? =some (some (.ref a)))(mt:Y.mg "int"=none)(gt:Gl Y "int")(hc:rQ n t o0 o1 st=true)(hz:∀y∈t.nms,Ans Y C y (q y))(ha:H a=some (.ext (bA a C po)))(I:Inv Y pins σ H s):
 wpAny (model Y.prog Y.w) Y.A (exec st Y.env) (HE Y pins σ H (some (if t.val q then o1 else o0))) Y.xe s:=by
 unfold rQ at hc
 split at hc
 . rename_i a' b' hv
   obtain⟨e0,hr,hv⟩:=Option.bind_eq_some_iff.mp hv
   obtain⟨p7,rfl⟩:=mZ hr
   obtain⟨p6,rfl⟩:=Om hv
   obtain⟨hc,hi⟩:=aa hc
   obtain⟨x,gp,p5,x1,x2,x3,rfl⟩:=Ot hi
   split at hc
   case h_2=>cases hc
   rename_i c0 c1 hl
   obtain⟨lp,rfl⟩:=M4 hl
   obtain⟨g3,hc⟩:=aa hc
   obtain⟨g4,hc⟩:=aa hc
   obtain⟨g5,g6⟩:=aa hc
   have P1:PE Y (.List [c0,c1] lp) _:=TJ (bw (Oc.pe o0 c0 g3) (bw (Oc.pe o1 c1 g4) eE (aD g6 [] _)) (aD g5 [c1] _))
   have P2:PE Y (.Call (.Name "int" gp) [x] [] p5) _:=Hd (he:=aD x3 [] _) Gq gt mt PyProof.Rows.boot_int (bw (Vs (a:=a) (po:=po) sx x1 x2 hz) eE (aD x3 [] _))
   have P3:=Vg (pos:=p6) (uB (X:=Y)) P1 P2 (pq rfl)
   refine wpAny_Return_some (thn (P3 pins s σ H (λ v H'=>v=(if t.val q then o1 else o0).v/\aR H H') I ?_) λ u s2 ⟨v,H2,I2,r,e1,e2⟩=>⟨H2,I2,e2,u,rfl,by rw[←e1];exact r⟩)
   refine⟨by show 2≤sizeLine;decide,λ p hp=>⟨hs,by rw[aj (aB ha hp)];exact ha,λ H' sm=>.inr ⟨t.val q,rfl,?_⟩⟩⟩
   refine⟨p,[o0.v,o1.v],(if t.val q then 1 else 0),(if t.val q then o1 else o0).v,rfl,rfl,SqL.of (sm p _ aC),?_,rfl,bh (aR.fresh hp _) sm⟩
   cases t.val q<;>rfl
 . exact fE hc
theorem Jl{z:Str}{st:Stmt}(sx:Sx Y n i C q)(hs:σ[i]? =some (some (.ref a)))(hc:uc n y z st=true)(hy:Ans Y C y (q y))(hz:Ans Y C z (q z))(ha:H a=some (.ext (bA a C po)))(I:Inv Y pins σ H s):
 wpAny (model Y.prog Y.w) Y.A (exec st Y.env) (HE Y pins σ H (some (.bl (q y&&q z)))) Y.xe s:=by
 unfold uc at hc
 split at hc
 . rename_i a' b' hv
   obtain⟨e0,hr,hv⟩:=Option.bind_eq_some_iff.mp hv
   obtain⟨p7,rfl⟩:=mZ hr
   obtain⟨p6,rfl⟩:=uz hv
   obtain⟨g1,g2⟩:=aa hc
   obtain⟨p1,p2,p3,p4,rfl⟩:=jO g1
   obtain⟨p1',p2',p3',p4',rfl⟩:=jO g2
   refine wpAny_Return_some (BoolOp_and (thn (jz sx hy hs ha I) λ u s1 hq_=>?_))
   obtain⟨v,H1,I1,r,e,sm⟩:=hq_
   subst e
   cases r
   refine wpAny_truthy_bool ?_
   cases ey:q y with
   | false=>exact⟨H1,I1,sm,_,rfl,rfl⟩
   | true=>
     refine BoolOp_one (thn (jz sx hz hs (sm a _ ha) I1) λ u s2 hq_=>?_)
     obtain⟨v,H2,I2,r,e,sm2⟩:=hq_
     subst e
     cases r
     exact⟨H2,I2,bh sm sm2,_,rfl,rfl⟩
 . exact fE hc
theorem NK{t:HT}{st:Stmt}(sx:Sx Y n i C q)(hs:σ[i]? =some (some (.ref a)))(hc:zf n t st=true)(hz:∀y∈t.nms,Ans Y C y (q y))(ha:H a=some (.ext (bA a C po)))(I:Inv Y pins σ H s):
 wpAny (model Y.prog Y.w) Y.A (exec st Y.env) (HE Y pins σ H (some (.bl (t.val q)))) Y.xe s:=by
 unfold zf at hc
 split at hc
 . rename_i e hv
   obtain⟨p7,rfl⟩:=mZ hv
   obtain⟨g1,g2⟩:=aa hc
   exact wpAny_Return_some (thn (HT.ev sx hs t e g1 g2 hz s H ha I) λ u s2 ⟨v,H2,I2,r,e1,sm⟩=>⟨H2,I2,sm,u,rfl,by rw[e1]at r;exact r⟩)
 . cases hc
theorem Ni{t:HT}{o:Oc}{st:Stmt}(sx:Sx Y n i C q)(hs:σ[i]? =some (some (.ref a)))(hc:yW n t o st=true)(hq:∀y∈t.nms,Ans Y C y (q y))(ha:H a=some (.ext (bA a C po)))(I:Inv Y pins σ H s):
 wpAny (model Y.prog Y.w) Y.A (exec st Y.env) (HE Y pins σ H (if t.val q then some o else none)) Y.xe s:=by
 unfold yW at hc
 split at hc
 . rename_i e r' hv
   obtain⟨pos,rfl⟩:=Qd hv
   split at hc
   case h_2=>cases hc
   rename_i c hr
   obtain⟨rp,rfl⟩:=mZ hr
   obtain⟨h1,hc⟩:=aa hc
   obtain⟨h2,h3⟩:=aa hc
   refine wpAny_If (thn (HT.test sx hs t e h1 h2 hq s H ha I) λ k s1 hq_=>?_)
   obtain⟨H1,I1,ev,sm⟩:=hq_
   cases k with
   | true=>
     refine wpAny_execs_cons (wpAny_Return_some (thn (Oc.pe o c h3 pins s1 σ H1 (λ v H'=>v=o.v/\H'=H1) I1 ⟨rfl,rfl⟩) λ u s2 hq_=>?_))
     obtain⟨v,H2,I2,r,e1,e2⟩:=hq_
     subst e1 e2
     rw[←ev]
     exact⟨H2,I2,sm,u,rfl,r⟩
   | false=>
     rw[←ev]
     exact wpAny_execs_nil ⟨H1,I1,sm,rfl⟩
 . exact fE hc
theorem HE.flow{o:Option Oc}{f:Flow}{s':Shared}(h:HE Y pins σ H o f s'):(∃c,o=some c/\∃u,f=.ret u)∨(o=none/\f=.next):=by
 obtain⟨H',_,_,e⟩:=h
 cases o with
 | none=>exact .inr ⟨rfl,e⟩
 | some c=>obtain⟨u,e,_⟩:=e;exact .inl ⟨c,rfl,u,e⟩
def HB.isPick:HB->Bool
 | .pick .. =>true
 | _=>false
theorem HB.run(sx:Sx Y n i C q)(hs:σ[i]? =some (some (.ref a)))(mt:Y.mg "int"=none):∀(bs:List HB)(sts:List Stmt),(bs.any HB.isPick=true->Gl Y "int")->HB.chks n bs sts=true->(∀b∈bs,∀y∈b.nms,Ans Y C y (q y))->∀(s:Shared)(H:Hp),H a=some (.ext (bA a C po))->Inv Y pins σ H s->
 wpAny (model Y.prog Y.w) Y.A (execs sts Y.env) (HE Y pins σ H (HB.out q bs)) Y.xe s
 | [],[],_,_,hq,s,H,ha,I=>wpAny_execs_nil ⟨H,I,same_refl,rfl⟩
 | [],_::_,_,hc,_,_,_,_,_=>(y9 hc).elim
 | _::_,[],_,hc,_,_,_,_,_=>(y9 hc).elim
 | b ::bs,st::sts,gt,hc,hq,s,H,ha,I=>by
   obtain⟨h1,h2⟩:=aa (show(b.chk n st&&HB.chks n bs sts)=true from hc)
   have ih:=HB.run sx hs mt bs sts (λ h=>gt (by rw[List.any_cons,h,Bool.or_true])) h2 λ c hc=>hq c (.tail _ hc)
   have hq:=hq b (.head _)
   refine wpAny_execs_cons ?_
   cases b with
   | pick t o0 o1=>
     refine thn (J0 sx hs mt (gt rfl) h1 hq ha I) λ f s1 z=>?_
     rcases HE.flow z with⟨c,_,u,rfl⟩ | ⟨e,_⟩
     . exact z
     . cases e
   | val t=>
     refine thn (NK sx hs h1 hq ha I) λ f s1 z=>?_
     rcases HE.flow z with⟨c,_,u,rfl⟩ | ⟨e,_⟩
     . exact z
     . cases e
   | both y y'=>
     refine thn (Jl sx hs h1 (hq y (.head _)) (hq y' (.tail _ (.head _))) ha I) λ f s1 z=>?_
     rcases HE.flow z with⟨c,_,u,rfl⟩ | ⟨e,_⟩
     . exact z
     . cases e
   | ifr t o=>
     refine thn (Ni sx hs h1 hq ha I) λ f s1 z=>?_
     have eo:HB.out q (.ifr t o::bs)=if t.val q then some o else HB.out q bs:=rfl
     rcases HE.flow z with⟨c,e,u,rfl⟩ | ⟨e,rfl⟩
     . rw[eo]
       cases ev:t.val q with
       | true=>rw[ev]at z;exact z
       | false=>rw[ev]at e;cases e
     . obtain⟨H1,I1,sm,_⟩:=z
       rw[eo]
       cases ev:t.val q with
       | true=>rw[ev]at e;cases e
       | false=>exact thn (ih s1 H1 (sm a _ ha) I1) λ f s2 z=>z.pre sm
end
end XE
set_option maxHeartbeats 1000000
namespace XE
open PySem PySem.Spec L2 DL RF
open PyProof.Rows
def qOf(x y:Str):Bool:=y==("TurnError":Str)||(y==("ValueError":Str)||y==x)
structure ExF(mg:Str->Option Value)(K:PySem.W.Frag)(L T:List Str):Prop where
 cls:∀x∈L,∃C,mg x=some (.ref C)/\PySem.W.excIn K C lG iW=true/\Atr K C/\(∃t,mg "TurnError"=some (.ref t)/\PySem.W.exmOne K (.ref C) (.ref t)=some true)/\
  ∀y∈T,∃(v:V) (u:Value),((∃t,v=.ref t/\u=.ref t)∨∃t,v=.ty t/\u=.type t)/\(mg y=some u∨(mg y=none/\bootBuiltins y=some u/\y≠"__name__"))/\PySem.W.kitOne K (.ref C) u=some (qOf x y)
theorem ExF.exc{Ω:Wd}{L T:List Str}(E:ExF Ω.mg Ω.K L T){x:Str}(h:x∈L):Exc Ω x:=by
 obtain⟨C,h1,h2,h3,_⟩:=E.cls x h
 exact⟨C,h1,h2,h3⟩
def Sh(K:PySem.W.Frag)(C:Addr):Bool:=
 (PySem.W.findIn K (.ref C) "__getattribute__"==some (some (.builtin "BaseException.__getattribute__")))&&((PySem.W.findIn K (.ref C) "__getattr__"==some none)&&((PySem.W.findIn K (.ref C) "__class__"==some (some (.builtin "object.__class__")))&&
 ((PySem.W.specialIn K (.builtin "object.__class__") "__get__"==some (some (.builtin "getset_descriptor.__get__")))&&((PySem.W.takesIn K (.builtin "object.__class__")==some true)&&((PySem.W.mroIn K C (.type "object")==some true)&&(PySem.W.mroIn K C (.type "BaseException")==some true))))))
def Pj(K:PySem.W.Frag)(C:Addr)(x y:Str):Bool:=match PySem.W.nsIn K mainGlobals y with
 | some (some (.ref t))=>PySem.W.kitOne K (.ref C) (.ref t)==some (qOf x y)
 | some none=>(y==("ValueError":Str))&&(PySem.W.kitOne K (.ref C) (.type "ValueError")==some (qOf x y))
 | _=>false
def Ke(K:PySem.W.Frag)(T:List Str)(x:Str):Bool:=match PySem.W.nsIn K mainGlobals x with
 | some (some (.ref C))=>PySem.W.excIn K C lG iW&&(Sh K C&&((match PySem.W.nsIn K mainGlobals "TurnError" with | some (some (.ref t))=>PySem.W.exmOne K (.ref C) (.ref t)==some true | _=>false)&&T.all (Pj K C x)))
 | _=>false
theorem QV{K:PySem.W.Frag}{h:Heap}{mg:Str->Option Value}{L T:List Str}(X:K.In h)(G:h.Ns mainGlobals mg)(e:L.all (Ke K T)=true):ExF mg K L T:=by
 constructor
 intro x hx
 have e:=List.all_eq_true.mp e x hx
 unfold Ke at e
 split at e
 . rename_i C hn
   obtain⟨e1,e⟩:=aa e
   obtain⟨e2,e⟩:=aa e
   obtain⟨e3,e4⟩:=aa e
   refine⟨C,PySem.W.mg_of X G hn,e1,?_,?_,λ y hy=>?_⟩
   . unfold Sh at e2
     obtain⟨a1,e⟩:=aa e2
     obtain⟨a2,e⟩:=aa e
     obtain⟨a3,e⟩:=aa e
     obtain⟨a4,e⟩:=aa e
     obtain⟨a5,e⟩:=aa e
     obtain⟨a6,a7⟩:=aa e
     exact⟨eq_of_beq a1,eq_of_beq a2,eq_of_beq a3,eq_of_beq a4,eq_of_beq a5,eq_of_beq a6,eq_of_beq a7⟩
   . split at e3
     . rename_i t ht
       exact⟨t,PySem.W.mg_of X G ht,eq_of_beq e3⟩
     . cases e3
   . have e:=List.all_eq_true.mp e4 y hy
     unfold Pj at e
     split at e
     . rename_i t ht
       exact⟨.ref t,.ref t,.inl ⟨t,rfl,rfl⟩,.inl (PySem.W.mg_of X G ht),eq_of_beq e⟩
     . rename_i ht
       obtain⟨a1,a2⟩:=aa e
       obtain rfl:=eq_of_beq a1
       exact⟨.ty "ValueError",.type "ValueError",.inr ⟨_,rfl,rfl⟩,.inr ⟨PySem.W.mg_none_of X G ht,by decide+kernel,by decide⟩,eq_of_beq a2⟩
     . cases e
 . cases e
variable {Ω : Wd}
structure BT(Ω:Wd) where
 lev:Nat
 chk:List Str->Nm->List Stmt->Bool
 wp:Gam->Store->DL.Fin->Prop
 sound:∀{X:Cx}{r:Nat}{N:List Str}{nm:Nm}{sts:List Stmt}{Γ:Gam}{S:Store}{W:DL.Fin},At Ω X r true N nm->X.stack=X.env::X.outer->X.env.frame=some X.env.locals->X.ex=[]->lev≤r->chk N nm sts=true->wp Γ S W->Rns X Γ S sts W
def BT.of(b:Bl Ω):BT Ω where
 lev:=b.lev
 chk N nm sts:=b.chk true N nm sts
 wp:=b.wp
 sound:=by
  intro X r N nm sts Γ S W A _ _ _ hl hc hw
  exact b.sound A hl hc hw
def BT.cons(s:Sm Ω)(b:BT Ω):BT Ω where
 lev:=max s.lev b.lev
 chk N nm sts:=match sts with | st::sts=>s.chk true N nm st&&b.chk N nm sts | _=>false
 wp Γ S W:=s.wp Γ S {W with nx:=λ Γ1 S1=>b.wp Γ1 S1 W}
 sound:=by
  intro X r N nm sts Γ S W A h1 h2 h3 hl hc hw
  obtain⟨l1,l2⟩:=lv2 hl
  cases sts with
  | nil=>exact fE hc
  | cons st sts=>
    obtain⟨g1,g2⟩:=aa hc
    exact uh (Rn.mono (s.sound A l1 g1 hw) (λ G S1 q=>b.sound A h1 h2 h3 l2 g2 q) (λ _ _ q=>q) (λ _ _ q=>q) λ _ _ q=>q)
section
variable {X : Cx} {Γ : Gam} {S : Store} {W : DL.Fin} {WE : WX} {e : Expr}
theorem Hu{P:Program}{w:World}{outer:List Env}{H1 H':Hp}{h1 B h2:Heap}{a C t:Addr}(fl:Fl P w outer H1 h1 H' B h2)(fw:Heap.FlyingW B outer a (.ref C) (.ref t) h2):∀b o,h1.get? b=some o->b≠a:=by
 intro b o q z
 by_cases hb:b∈frs outer
 . obtain⟨_,o',e',d⟩:=fw.2.2.1.mem hb
   obtain⟨oe,vs,e2,_,e3,_⟩:=fw.first
   rw[z,e2]at e'
   cases e'
   exact d vs e3
 . obtain⟨o',e'⟩:=fl.there b o q hb
   rw[z,fw.2.1]at e'
   cases e'
end
def Rb(N ps:List Str)(sm:Stmt)(k:Nat)(body:BT Ω):Bool:=
 ((ak sm).kind==.function)&&(!(ak sm).isCoroutine&&(!(ak sm).isGenerator&&(decide N.Nodup&&(decide (N.take ps.length=ps)&&((ps.all λ x=>(ak sm).names.lookup x==some .local||(ak sm).names.lookup x==some .cell)&&
   (((ak sm).names.all λ y=>!(y.2==.free))&&(Nat.ble body.lev k&&body.chk N (ak sm).names (bu sm))))))))
theorem T4(N0:Ω.cd=none){x qual:Str}{sm:Stmt}{f:Addr}{fd:FuncData}{N ps:List Str}{k:Nat}{F:Ct}(FF:Fun Ω.K x qual sm f fd)(body:BT Ω)(hc:Rb N ps sm k body=true)
 (vc:∀(ds:List D)(S:Store)(W:WD),F ds S W->ds.length=ps.length->body.wp (ds.map some++List.replicate (N.length-ds.length) none) S {nx:=λ _ S1=>W .non S1,rt:=W}):Ok Ω (k+1) f fd ps F:=by
 obtain⟨h1,hc⟩:=aa hc
 obtain⟨h2,hc⟩:=aa hc
 obtain⟨h3,hc⟩:=aa hc
 obtain⟨h4,hc⟩:=aa hc
 obtain⟨h5,hc⟩:=aa hc
 obtain⟨h6,hc⟩:=aa hc
 obtain⟨h7,hc⟩:=aa hc
 obtain⟨h8,h9⟩:=aa hc
 have nd:N.Nodup:=of_decide_eq_true h4
 have sc:FnScope N ps (ak sm):=⟨eq_of_beq h1,nt h2,nt h3,nd,of_decide_eq_true h5,λ x hx=>by
  have:=List.all_eq_true.mp h6 x hx
  simpa using this,λ y hy e=>by
  have:=List.all_eq_true.mp h7 y hy
  simp[e]at this⟩
 refine Lh FF sc λ cdv A outer s H E ds S W _ hr hl h=>?_
 refine body.sound (r:=k) (N:=N) (nm:=(ak sm).names) ⟨rfl,rfl,rfl,rfl,rfl,hr,rfl,rfl,rfl,nd,sc.kind,λ x kk h=>.inl h,λ _ _=>rfl,λ _ p q=>(nomatch (N0.symm.trans q)),λ _=>⟨rfl,rfl,rfl⟩⟩ rfl rfl rfl (Nat.le_of_ble_eq_true h8) h9 (vc ds S W h hl)
end XE
namespace RF
open PySem PySem.Spec L2 DL
open PyProof.Rows
def isStr:D->Bool
 | .str _=>true
 | _=>false
theorem NT(K:PySem.W.Frag)(d:D):PySem.W.kitOne K (.type (tyD d)) (.type "str")=some (isStr d):=by cases d<;>kernel_rfl
theorem MP{X:Cx}{Γ:Gam}{S:Store}{W:WD}{a:Expr}{p q pos:Pos}(h:Ev X Γ S a λ x S1=>W (.bl (isStr x)) S1)(hm1:X.mg "isinstance"=none)(hm:X.mg "str"=none)(hg1:Gl X "isinstance")(hg:Gl X "str")
 (hs1:starEach [a,.Name "str" q] X.env=(false,eval a X.env)::starEach [.Name "str" q] X.env):Ev X Γ S (.Call (.Name "isinstance" p) [a,.Name "str" q] [] pos) W:=by
 intro pins s σ H O I env st
 have hc:cN X (.builtin "isinstance") (λ xs H' Q=>∃v,xs=[v,.ty "str"]/\∃O' d S',StOk X.K O' H' S'/\Rep X.K O' H' v d/\Q (.bl (isStr d)) H'):=by
  intro pins s σ H xs us Q I r h
  obtain⟨v,rfl,O',d,S',st',rep,q⟩:=h
  obtain⟨u,u2,rfl,r1,r2⟩:=vals2 r
  cases r2
  refine Ce I st' rep r1 λ Z e p ne=>?_
  subst e
  exact PySem.W.kia_one Z I.kIn p (NT X.K d) ne λ tk=>⟨.bl _,H,I.tok tk,rfl,q⟩
 refine j5 hc hg1 hm1 PyProof.Rows.boot_isinstance (bw h.pe (bw (uE hg hm (show bootBuiltins "str"=some (.type "str")from by decide+kernel) (v:=.ty "str") rfl (by decide) (by decide)) eE rfl) hs1) (by decide) (by decide) hs1 rfl pins s σ H _ I ⟨O,env,st,λ v H' q=>?_⟩
 obtain⟨O',d,S',w,st1,ok1,rep⟩:=q
 exact⟨v,rfl,O',d,S',ok1,rep,O',_,S',w,st1,ok1,.bl _⟩
section
variable {Ω : Wd}
def Ex.isiS(hm1:Ω.mg "isinstance"=none)(a:Ex Ω)(hm:Ω.mg "str"=none):Ex Ω where
 lev:=a.lev
 chk top N nm e:=fj e λ f es=>two2 es λ b n=>anB (nameV n) λ t=>(f==("isinstance":Str))&&((t==("str":Str))&&(glb nm "isinstance"&&(glb nm "str"&&(okE b&&a.chk top N nm b))))
 wp Γ S W:=a.wp Γ S λ x S1=>W (.bl (isStr x)) S1
 sound:=by
  intro X r top N nm e Γ S W A hl hc hw
  obtain⟨f,p,es,pos,rfl,hc_1⟩:=b7 hc
  obtain⟨b,n,rfl,hc_2⟩:=two2_of hc_1
  have hc_2:anB (nameV n) (λ t=>(f==("isinstance":Str))&&((t==("str":Str))&&(glb nm "isinstance"&&(glb nm "str"&&(okE b&&a.chk top N nm b)))))=true:=hc_2
  obtain⟨t,hn,hc_3⟩:=aX hc_2
  obtain⟨q,rfl⟩:=bx hn
  obtain⟨h1,hc⟩:=aa hc_3
  obtain⟨h2,hc⟩:=aa hc
  obtain⟨h3,hc⟩:=aa hc
  obtain⟨h4,hc⟩:=aa hc
  obtain⟨h5,h6⟩:=aa hc
  obtain rfl:=eq_of_beq h1
  obtain rfl:=eq_of_beq h2
  exact MP (a.sound A hl h6 hw) (by rw[A.g];exact hm1) (by rw[A.g];exact hm) (A.glb h3) (A.glb h4) (aD h5 _ _)
end
end RF
namespace XE
open PySem PySem.Spec L2 DL RF
open PyProof.Rows
variable {Ω : Wd}
section
variable {X : Cx} {Γ : Gam} {S : Store} {sts : List Stmt} {W : DL.Fin} {WE : WX} {e : Expr} {pos : Pos}
theorem XQ.xr{pins:Pins}{σ:L2.St}{O:Own}{H:Hp}{ev:Value}{s2:Shared}(z:XQ X pins σ O H WE ev s2):XR X O H WE ev s2:=by
 obtain⟨H1,s1,E',h1,h2,h3⟩:=z
 exact .inr (.inl ⟨pins,σ,H1,s1,E',h1,h2,h3⟩)
theorem PX(w:W.nx Γ S):aK X Γ S [] W WE:=λ pins s σ H O I env st=>wpAny_execs_nil ⟨σ,H,I,O,Γ,S,w,Step.refl O H,st,env⟩
theorem Tt(h:EvX X Γ S e (λ _ S1=>aK X Γ S1 sts W WE) WE)(hs:swapsWith e none pos.line X.env=pure false):aK X Γ S (.Expr e pos::sts) W WE:=by
 intro pins s σ H O I env ok
 refine wpAny_execs_cons (wpAny_Expr_any (wpAny_mono (h pins s σ H O I env ok) (λ v s1 hq=>?_) λ _ _ z=>z.xr) I.quiet hs)
 obtain⟨x,H1,I1,r1,O1,d,S1,w,st1,ok1,rep1⟩:=hq
 exact wpAny_mono (w pins s1 σ H1 O1 I1 (env.mono st1) ok1) (λ _ _ q=>cD st1 q) λ _ _ z=>z.pre st1
theorem Pk(h:EvX X Γ S e W.rt WE):aK X Γ S (.Return (some e) pos::sts) W WE:=by
 intro pins s σ H O I env ok
 refine wpAny_execs_cons (wpAny_Return_some (wpAny_mono (h pins s σ H O I env ok) (λ v s1 hq=>?_) λ _ _ z=>z.xr))
 obtain⟨x,H1,I1,r1,q1⟩:=hq
 exact⟨x,σ,H1,I1,r1,q1⟩
theorem Qg(i:Nat){x:Str}{pos':Pos}(h:EvX X Γ S e (λ d S1=>aK X (Γ.set i (some d)) S1 sts W WE) WE)(hN:X.N.Nodup)(hi:X.N[i]? =some x)(hx:Loc X.env.scope x)
 (hs:swapsWith e (some (.Name x pos')) pos.line X.env=pure false)(hf:X.fn x=true∨X.env.scope.names.lookup x=some .local):aK X Γ S (.Assign [.Name x pos'] e pos::sts) W WE:=by
 intro pins s σ H O I env ok
 refine wpAny_execs_cons (wpAny_Assign_Name (wpAny_mono (h pins s σ H O I env ok) (λ v s1 hq=>?_) λ _ _ z=>z.xr) hs)
 obtain⟨y,H1,I1,r1,O1,d,S1,w,st1,ok1,rep1⟩:=hq
 refine gV I1 hN hi hx r1 (λ s2 I2=>?_) hf
 exact wpAny_mono (w pins s2 _ H1 O1 I2 ((env.mono st1).set rep1 i) ok1) (λ _ _ q=>cD st1 q) λ _ _ z=>z.pre st1
theorem Th{c:Expr}{xs ys:List Stmt}(h:Ts X.nox Γ S c λ k S1=>(k=true->aK X Γ S1 xs {W with nx:=λ Γ1 S2=>aK X Γ1 S2 sts W WE} WE)/\(k=false->aK X Γ S1 ys {W with nx:=λ Γ1 S2=>aK X Γ1 S2 sts W WE} WE)):
 aK X Γ S (.If c xs ys pos::sts) W WE:=by
 intro pins s σ H O I env ok
 refine wpAny_execs_cons (wpAny_If (wpAny_mono (h pins s σ H O (I.wish _) env ok) (λ d s1 hq=>?_) λ _ _ z=>z.elim))
 obtain⟨H1,I1,O1,S1,w,st1,ok1⟩:=hq
 have I1:=I1.unwish
 have go:∀zs:List Stmt,aK X Γ S1 zs {W with nx:=λ Γ1 S2=>aK X Γ1 S2 sts W WE} WE->wpAny (model X.prog X.w) X.A (execs zs X.env) (λ f s2=>match f with | .next=>wpAny (model X.prog X.w) X.A (execs sts X.env) (SP X pins (ends X.K O H W)) (XR X O H WE) s2 | f=>SP X pins (ends X.K O H W) f s2) (XR X O H WE) s1:=by
  intro zs hz
  refine wpAny_mono (hz pins s1 σ H1 O1 I1 (env.mono st1) ok1) (λ f s2 q=>?_) λ _ _ z=>z.pre st1
  cases f with
  | next=>
    obtain⟨σ',H',I',O2,Γ2,S2,w2,st2,ok2,env2⟩:=q
    exact wpAny_mono (w2 pins s2 σ' H' O2 I' env2 ok2) (λ _ _ q=>cD (st1.trans st2) q) λ _ _ z=>z.pre (st1.trans st2)
  | ret v=>exact cD (W:=W) st1 q
  | brk=>exact cD (W:=W) st1 q
  | cont=>exact cD (W:=W) st1 q
 cases d with
 | true=>exact go xs (w.1 rfl)
 | false=>exact go ys (w.2 rfl)
end
def BX.nil:BX Ω where
 lev:=0
 chk _ _ _ sts:=sts.isEmpty
 wp Γ S W _:=W.nx Γ S
 sound:=by
  intro X r top N nm sts Γ S W WE A hl hc hw
  cases sts with
  | nil=>exact PX hw
  | cons=>exact fE hc
def qx:Expr->Bool
 | .Call (.Name _ _) _ [] _=>true
 | _=>false
theorem j4{e:Expr}{t:Option Expr}{l:Nat}{env:Env}(h:qx e=true):swapsWith e t l env=pure false:=by
 unfold qx at h
 split at h
 . rfl
 . cases h
def BX.exs(x:XEx Ω)(rest:BX Ω):BX Ω where
 lev:=max x.lev rest.lev
 chk top N nm sts:=match sts with | .Expr e _::sts=>qx e&&(x.chk top N nm e&&rest.chk top N nm sts) | _=>false
 wp Γ S W WE:=x.wp Γ S (λ _ S1=>rest.wp Γ S1 W WE) WE
 sound:=by
  intro X r top N nm sts Γ S W WE A hl hc hw
  obtain⟨l1,l2⟩:=lv2 hl
  split at hc
  . obtain⟨h0,hc⟩:=aa hc
    obtain⟨h1,h2⟩:=aa hc
    refine Tt (λ pins s σ H O I env ok=>wpAny_mono (x.sound A l1 h1 hw pins s σ H O I env ok) (λ v s1 hq=>?_) λ _ _ z=>z) (j4 h0)
    obtain⟨y,H1,I1,r1,O1,d,S1,w,q⟩:=hq
    exact⟨y,H1,I1,r1,O1,d,S1,rest.sound A l2 h2 w,q⟩
  . exact fE hc
def BX.retx(x:XEx Ω)(rest:BX Ω):BX Ω where
 lev:=x.lev
 chk top N nm sts:=match sts with | .Return (some e) _::_=>x.chk top N nm e | _=>false
 wp Γ S W WE:=x.wp Γ S W.rt WE
 sound:=by
  intro X r top N nm sts Γ S W WE A hl hc hw
  split at hc
  . exact Pk (x.sound A hl hc hw)
  . exact fE hc
def BX.setx(i:Nat)(x:XEx Ω)(rest:BX Ω):BX Ω where
 lev:=max x.lev rest.lev
 chk top N nm sts:=match sts with | []=>false | st::sts=>setB st λ m e=>(N[i]? ==some m)&&(lcl top nm m&&(qx e&&(x.chk top N nm e&&rest.chk top N nm sts)))
 wp Γ S W WE:=x.wp Γ S (λ d S1=>rest.wp (Γ.set i (some d)) S1 W WE) WE
 sound:=by
  intro X r top N nm sts Γ S W WE A hl hc hw
  obtain⟨q1,q2⟩:=lv2 hl
  cases sts with
  | nil=>exact fE hc
  | cons st sts=>
    obtain⟨m,mp,e,sp,rfl,hc_1⟩:=sV hc
    have hc:=hc_1
    obtain⟨h1,hc⟩:=aa hc
    obtain⟨h2,hc⟩:=aa hc
    obtain⟨h3,hc⟩:=aa hc
    obtain⟨h4,h5⟩:=aa hc
    obtain⟨l1,l2⟩:=A.lcl h2
    refine Qg i (λ pins s σ H O I env ok=>wpAny_mono (x.sound A q1 h4 hw pins s σ H O I env ok) (λ v s1 hq=>?_) λ _ _ z=>z) (by rw[show X.N=N from A.n];exact A.nd) (by rw[show X.N=N from A.n];exact eq_of_beq h1) l1 (j4 h3) l2
    obtain⟨y,H1,I1,r1,O1,d,S1,w,q⟩:=hq
    exact⟨y,H1,I1,r1,O1,d,S1,rest.sound A q2 h5 w,q⟩
def BX.ite(c:Te Ω)(t e:BX Ω)(rest:BX Ω):BX Ω where
 lev:=max (max c.lev rest.lev) (max t.lev e.lev)
 chk top N nm sts:=match sts with | .If ce xs ys _::sts=>c.chk top N nm ce&&(t.chk top N nm xs&&(e.chk top N nm ys&&rest.chk top N nm sts)) | _=>false
 wp Γ S W WE:=c.wp Γ S λ k S1=>(k=true->t.wp Γ S1 {W with nx:=λ Γ1 S2=>rest.wp Γ1 S2 W WE} WE)/\(k=false->e.wp Γ S1 {W with nx:=λ Γ1 S2=>rest.wp Γ1 S2 W WE} WE)
 sound :=by
  intro X r top N nm sts Γ S W WE A hl hc hw
  obtain⟨l1,l2⟩:=lv2 hl
  obtain⟨l3,l4⟩:=lv2 l1
  obtain⟨l5,l6⟩:=lv2 l2
  split at hc
  . rename_i ce xs ys p0 sts
    obtain⟨h1,hc⟩:=aa hc
    obtain⟨h2,hc⟩:=aa hc
    obtain⟨h3,h4⟩:=aa hc
    have up:∀(b:BX Ω)(zs:List Stmt)(S1:Store),b.lev≤r->b.chk top N nm zs=true->b.wp Γ S1 {W with nx:=λ Γ1 S2=>rest.wp Γ1 S2 W WE} WE->aK X Γ S1 zs {W with nx:=λ Γ1 S2=>aK X Γ1 S2 sts W WE} WE:=by
     intro b zs S1 lb hb hw pins s σ H O I env ok
     refine wpAny_mono (b.sound A lb hb hw pins s σ H O I env ok) (λ f s1 q=>?_) λ _ _ z=>z
     cases f with
     | next=>
       obtain⟨σ',H',I',O1,Γ1,S1,w,st1,ok1,env1⟩:=q
       exact⟨σ',H',I',O1,Γ1,S1,rest.sound A l4 h4 w,st1,ok1,env1⟩
     | ret v=>exact q
     | brk=>exact q
     | cont=>exact q
    exact Th (Ts.mono (c.sound A l3 h1 hw) λ k S1 q=>⟨λ hk=>up t _ S1 l5 h2 (q.1 hk),λ hk=>up e _ S1 l6 h3 (q.2 hk)⟩)
  . exact fE hc
def TrS(X:Cx)(Γ:Gam)(S:Store)(sts:List Stmt)(W:DL.Fin)(WE:WX):Prop:=
 ∀ (pins:Pins)(s:Shared)(σ:L2.St)(H:Hp)(O:Own),Inv X pins σ H s->EnvOk X.K O H σ Γ->StOk X.K O H S->
   wpAny (model X.prog X.w) X.A (execs sts X.env) (SP X pins (ends X.K O H W)) (XQ X pins σ O H WE) s
structure TB(Ω:Wd) where
 lev:Nat
 chk:Bool->List Str->Nm->List Stmt->Bool
 wp:Gam->Store->DL.Fin->WX->Prop
 sound:∀{X:Cx}{r:Nat}{top:Bool}{N:List Str}{nm:Nm}{sts:List Stmt}{Γ:Gam}{S:Store}{W:DL.Fin}{WE:WX},At Ω X.nox r top N nm->lev≤r->chk top N nm sts=true->wp Γ S W WE->TrS X Γ S sts W WE
def TB.exs(x:XEx Ω):TB Ω where
 lev:=x.lev
 chk top N nm sts:=match sts with | [.Expr e _]=>qx e&&x.chk top N nm e | _=>false
 wp Γ S W WE:=x.wp Γ S (λ _ S1=>W.nx Γ S1) WE
 sound:=by
  intro X r top N nm sts Γ S W WE A hl hc hw
  split at hc
  . obtain⟨h0,h1⟩:=aa hc
    intro pins s σ H O I env ok
    refine wpAny_execs_cons (wpAny_Expr_any (wpAny_mono (x.sound A hl h1 hw pins s σ H O I env ok) (λ v s1 hq=>?_) λ _ _ z=>z) I.quiet (j4 h0))
    obtain⟨y,H1,I1,r1,O1,d,S1,w,st1,ok1,rep1⟩:=hq
    exact wpAny_execs_nil ⟨σ,H1,I1,O1,Γ,S1,w,st1,ok1,env.mono st1⟩
  . exact fE hc
section
variable {X : Cx} {Γ : Gam} {S : Store} {W : DL.Fin} {WE : WX} {e : Expr}
theorem Qn{L T:List Str}{hb:List HB}{i:Nat}{n:Str}{np hp pos:Pos}{body:List Stmt}{b₀:Stmt}{suite:List Stmt}(E:ExF X.mg X.K L T)
 (h:TrS X Γ S body W λ x S1=>x∈L/\match HB.out (qOf x) hb with | some o=>W.rt o.d S1 | none=>W.nx (Γ.set i none) S1)
 (hst:X.stack=X.env::X.outer)(hfr:X.env.frame=some X.env.locals)(hex:X.ex=[])(hN:X.N.Nodup)(hi:X.N[i]? =some n)(hn:X.env.scope.names.lookup n=some .local)(hok:okN n=true)(mi:X.mg "isinstance"=none)(mt:X.mg "int"=none)
 (gi:Gl X "isinstance")(gt:hb.any HB.isPick=true->Gl X "int")(gT:Gl X "TurnError")(hc:HB.chks n hb (b₀::suite)=true)(hT:∀b∈hb,∀y∈b.nms,y∈T/\Gl X y/\(y==("__debug__":Str))=false):
 Rn X Γ S (.Try body [.ExceptHandler (some (.Name "TurnError" np)) (some n) (b₀::suite) hp] [] [] pos) W:=by
 intro pins s σ H O I env st
 refine wpAny_Try_except (wpAny_mono (h pins s σ H O I env st) (λ f s1 hq=>?_) λ ev s2 z=>?_)
 . cases f with
   | next=>exact wpAny_execs_nil hq
   | ret v=>exact hq
   | brk=>exact hq
   | cont=>exact hq
 . obtain⟨H1,s1,E',I1,cx,hE⟩:=z
   obtain⟨a,C,t,po,H',B,rfl,ho,hg,fl,fw,lkp,hq⟩:=cx
   obtain⟨x,O',S',hm,w,st',ok'⟩:=hE C po H' hq
   obtain⟨_,hL,_⟩:=w.ex
   obtain⟨C',k1,k2,atr,⟨tt,k3,k4⟩,k5⟩:=E.cls x hL
   rw[k1]at hm
   cases hm
   obtain⟨rfl,_,hw⟩:=w.no k2
   have inv:∀h',Heap.FlyingW B X.stack a (.ref C) (.ref t) h'->s2.heap.UpToSlots h'->Inv X pins σ H' {s2 with heap:=h'}:=λ h' f u=>by
    have fl':=fl.on u fw.2.2.1
    exact Inv.call' (s':={s2 with heap:=h'}) (ch:=[]) I1 ho (fl'.un f.1) (fl'.hok.kept f.1) hg (λ b z=>nomatch z)
   have hH:H' a=none:=HOk.none fl.hok fw.2.1
   have hiσ:i<σ.length:=by rw[I.len];exact(z0.mp hi).1
   refine caught I1.ok I1 hex (Hu fl fw) hst hfr fw inv fl.hok lkp gT k3 (by decide) k4 hN hi hn λ s6 J=>?_
   have sx:Sx (XE.sup X (.ref a)) n i C (qOf x):=⟨hi,.inl hn,(aY hok).1,(aY hok).2.1,atr,mi,gi⟩
   have run:=HB.run (Y:=XE.sup X (.ref a)) (a:=a) sx (List.getElem?_set_self hiσ) mt hb (b₀::suite) gt hc (λ b hb' y hy=>?_) s6 _ aC J
   . refine wpAny_mono run (λ f s7 z=>?_) λ _ _ z=>z
     obtain⟨H7,I7,sm,ef⟩:=z
     have I7:=Inv.unsup I1.ok I7
     refine HS I7 hN hi hn λ s8 I8=>?_
     have stp:Step O O' H H7:=(st'.trans (Step.fresh hH _)).trans (Step.same sm)
     have sok:StOk X.K O' H7 S':=(ok'.fresh hH _).same sm
     cases eo:HB.out (qOf x) hb with
     | some c=>
       rw[eo]at ef hw
       obtain⟨u,rfl,r⟩:=ef
       exact⟨c.v,_,H7,I8,r,O',c.d,S',hw,stp,sok,by cases c<;>constructor⟩
     | none=>
       rw[eo]at ef hw
       subst ef
       refine⟨_,H7,I8,O',_,S',hw,stp,sok,?_⟩
       have e1:=env.mono stp
       refine⟨by simp[e1.len],λ j d hj=>?_⟩
       by_cases ji:i=j
       . subst ji
         rw[List.getElem?_set_self (by rw[←env.len];exact hiσ)]at hj
         cases hj
       . rw[List.getElem?_set_ne ji]at hj ⊢
         rw[List.getElem?_set_ne ji]
         exact e1.at_ j d hj
   . obtain⟨g1,g2,g3⟩:=hT b hb' y hy
     obtain⟨v,u,g4,g5,g6⟩:=k5 y g1
     exact⟨g2,g3,v,u,g4,g5,g6⟩
end
def JX:Stmt->Option (List Stmt×ExceptHandler)
 | .Try b [h] [] [] _=>some (b,h)
 | _=>none
def K4:ExceptHandler->Option (Expr×Str×List Stmt)
 | .ExceptHandler (some y) (some m) (b::bs) _=>some (y,m,b::bs)
 | _=>none
theorem Mj{st:Stmt}{b:List Stmt}{h:ExceptHandler}(e:JX st=some (b,h)):∃p,st=.Try b [h] [] [] p:=by
 unfold JX at e
 split at e
 . cases e;exact⟨_,rfl⟩
 . cases e
theorem M9{h:ExceptHandler}{y:Expr}{m:Str}{bs:List Stmt}(e:K4 h=some (y,m,bs)):∃c cs p,bs=c::cs/\h=.ExceptHandler (some y) (some m) (c::cs) p:=by
 unfold K4 at e
 split at e
 . cases e;exact⟨_,_,_,rfl,rfl⟩
 . cases e
def HQ(T:List Str)(t:TB Ω)(i:Nat)(n:Str)(hb:List HB)(N:List Str)(nm:Nm)(st:Stmt):Bool:=match JX st with
 | some (b,h)=>match K4 h with
   | some (y,m,suite)=>(nameV y==some ("TurnError":Str))&&((m==n)&&(t.chk true N nm b&&(HB.chks n hb suite&&((nm.lookup n==some .local)&&((N[i]? ==some n)&&(okN n&&(glb nm "isinstance"&&((glb nm "int"|| !hb.any HB.isPick)&&(glb nm "TurnError"&&(hb.all λ b=>b.nms.all λ y=>T.contains y&&(glb nm y&&okN y)))))))))))
   | none=>false
 | none=>false
def BT.tryb{L T:List Str}(E:ExF Ω.mg Ω.K L T)(mi:Ω.mg "isinstance"=none)(mt:Ω.mg "int"=none)(x:TB Ω)(i:Nat)(n:Str)(hb:List HB)(rest:BT Ω):BT Ω where
 lev:=max x.lev rest.lev
 chk N nm sts:=match sts with
  | st::sts=>HQ T x i n hb N nm st&&rest.chk N nm sts
  | _=>false
 wp Γ S W:=x.wp Γ S {W with nx:=λ Γ1 S1=>rest.wp Γ1 S1 W} λ y S1=>y∈L/\match HB.out (qOf y) hb with | some o=>W.rt o.d S1 | none=>rest.wp (Γ.set i none) S1 W
 sound := by
  intro X r N nm sts Γ S W A h1 h2 h3 hl hc hw
  obtain⟨l1,l2⟩:=lv2 hl
  cases sts with
  | nil=>exact fE hc
  | cons st sts=>
    obtain⟨hc,c12⟩:=aa hc
    unfold HQ at hc
    split at hc
    case h_2=>exact fE hc
    rename_i body han e1
    split at hc
    case h_2=>exact fE hc
    rename_i y m suite e2
    obtain⟨c1,hc⟩:=aa hc
    obtain⟨c2,hc⟩:=aa hc
    obtain⟨c3,hc⟩:=aa hc
    obtain⟨c4,hc⟩:=aa hc
    obtain⟨c5,hc⟩:=aa hc
    obtain⟨c6,hc⟩:=aa hc
    obtain⟨c7,hc⟩:=aa hc
    obtain⟨c8,hc⟩:=aa hc
    obtain⟨c9,hc⟩:=aa hc
    obtain⟨c10,c11⟩:=aa hc
    obtain⟨p,rfl⟩:=Mj e1
    obtain⟨b,bs,hp,rfl,rfl⟩:=M9 e2
    obtain⟨np,rfl⟩:=bx (eq_of_beq c1)
    obtain rfl:=eq_of_beq c2
    have A':At Ω X.nox r true N nm:=⟨A.p,A.w,A.k,A.g,A.b,A.room,rfl,A.calm,A.n,A.nd,A.kind,A.look,A.fn,A.cd,A.fr⟩
    have loc:X.env.scope.names.lookup m=some .local:=by
     rcases A.look m _ (eq_of_beq c5)with q | ⟨q,_⟩
     . exact q
     . exact nomatch q
    refine uh (Qn (L:=L) (T:=T) (hb:=hb) (i:=i) (by rw[A.g,A.k];exact E) ?_ h1 h2 h3 (by rw[A.n];exact A.nd) (by rw[A.n];exact eq_of_beq c6) loc c7 (by rw[A.g];exact mi) (by rw[A.g];exact mt) (A.glb c8) (λ h=>A.glb (by rw[h]at c9;simpa using c9)) (A.glb c10) c4 λ b' hb' y hy=>?_)
    . have:=x.sound (X:=X) A' l1 c3 hw
      refine λ pins s σ H O I env st=>wpAny_mono (this pins s σ H O I env st) (λ f s1 q=>?_) λ ev s2 z=>?_
      . cases f with
        | next=>
          obtain⟨σ',H',I',O1,Γ1,S1,w,st1,ok1,env1⟩:=q
          exact⟨σ',H',I',O1,Γ1,S1,rest.sound A h1 h2 h3 l2 c12 w,st1,ok1,env1⟩
        | ret v=>exact q
        | brk=>exact q
        | cont=>exact q
      . obtain⟨H1,s1,E',I1,cx,hE⟩:=z
        refine⟨H1,s1,E',I1,cx,λ c po H' z=>?_⟩
        obtain⟨x',O',S',g1,g,g4,g5⟩:=hE c po H' z
        refine⟨x',O',S',g1,g.imp λ S9 g9=>?_,g4,g5⟩
        obtain⟨g2,g3⟩:=g9
        refine⟨g2,?_⟩
        cases eo:HB.out (qOf x') hb with
        | some o=>rw[eo]at g3;exact g3
        | none=>rw[eo]at g3;exact rest.sound A h1 h2 h3 l2 c12 g3
    . have:=List.all_eq_true.mp (List.all_eq_true.mp c11 b' hb') y hy
      obtain⟨d1,this⟩:=aa this
      obtain⟨d2,d3⟩:=aa this
      exact⟨by simpa using d1,A.glb d2,(aY d3).1⟩
end XE
namespace RF
open PySem PySem.Spec L2 DL
open PyProof.Rows
variable {Ω : Wd}
end RF
namespace RF
open PySem PySem.Spec L2 DL
open PyProof.Rows
variable {Ω : Wd}
end RF
namespace RF
open PySem PySem.Spec L2 DL
open PyProof.Rows
variable {Ω : Wd}
end RF
namespace RF
open PySem PySem.Spec L2 DL
open PyProof.Rows
variable {Ω : Wd}
end RF
namespace RF
open PySem PySem.Spec L2 DL
open PyProof.Rows
mutual
inductive Rsv(n:Nat)(S:Store):D->D->Prop
 | ok{d:D}(h:ao d=true):Rsv n S d d
 | loc{k:Nat}{xs rs:List D}(h:n≤k)(g:S[k]? =some xs)(r:Rsvs n S xs rs):Rsv n S (.loc k) (.lst rs)
 | lst{xs rs:List D}(r:Rsvs n S xs rs):Rsv n S (.lst xs) (.lst rs)
 | tup{xs rs:List D}(r:Rsvs n S xs rs):Rsv n S (.tup xs) (.tup rs)
inductive Rsvs(n:Nat)(S:Store):List D->List D->Prop
 | nil:Rsvs n S [] []
 | cons{x r:D}{xs rs:List D}(h:Rsv n S x r)(t:Rsvs n S xs rs):Rsvs n S (x::xs) (r::rs)
end
mutual
theorem Dh{K:PySem.W.Frag}{O O':Own}{H:Hp}{S:Store}{n:Nat}(sub:∀b,¬O.has b->¬O'.has b)(na:∀j a,n≤j->O.A[j]? =some (a,false)->¬O'.has a)(ok:StOk K O H S):∀{v:V}{d r:D},Rsv n S d r->Rep K O H v d->Rep K O' H v r
 | _,_,_,.ok h,q=>dD sub h q
 | _,_,_,.loc h g r,.loc ha=>by
   obtain⟨ys,hy,q2⟩:=ok.obj _ _ _ ha g
   exact .lst (.inl ⟨na _ _ h ha,.inl hy⟩) (kE sub na ok r q2)
 | _,_,_,.lst r,.lst h q=>.lst (h.imp (λ q=>⟨sub _ q.1,q.2⟩) id) (kE sub na ok r q)
 | _,_,_,.tup r,.tup h q=>.tup ⟨sub _ h.1,h.2⟩ (kE sub na ok r q)
theorem kE{K:PySem.W.Frag}{O O':Own}{H:Hp}{S:Store}{n:Nat}(sub:∀b,¬O.has b->¬O'.has b)(na:∀j a,n≤j->O.A[j]? =some (a,false)->¬O'.has a)(ok:StOk K O H S):∀{vs:List V}{ds rs:List D},Rsvs n S ds rs->Reps K O H vs ds->Reps K O' H vs rs
 | _,_,_,.nil,.nil=>.nil
 | _,_,_,.cons h t,.cons a b=>.cons (Dh sub na ok h a) (kE sub na ok t b)
end
def FrG(n:Nat)(W:WD):WD:=λ d S1=>W d S1∨∃(r:D) (G S':Store),S1=S'++G/\n≤S'.length/\flat S'/\Rsv S'.length S1 d r/\W r S'
theorem QG.frg{K:PySem.W.Frag}{O:Own}{H H':Hp}{W:WD}{v:V}{n:Nat}(hn:O.A.length=n)(q:QG K O H (FrG n W) v H'):QG K O H W v H':=by
 obtain⟨O',d,S1,w,st,ok,r⟩:=q
 rcases w with w | ⟨e,G,S',rfl,hl,hS,hr,w⟩
 . exact⟨O',d,S1,w,st,ok,r⟩
 . obtain⟨st2,ok2,sub,na⟩:=jX st ok (by omega) hS
   exact⟨_,e,S',w,st2,ok2,Dh sub (λ j a h g=>na j a h g) ok hr r⟩
section
variable {Ω : Wd}
def Bl.frg(b:Bl Ω):Bl Ω where
 lev:=b.lev
 chk:=b.chk
 wp Γ S W:=b.wp Γ S {W with rt:=FrG S.length W.rt}
 sound:=by
  intro X r top N nm sts Γ S W A hl hc hw pins s σ H O I env ok
  refine thn (b.sound A hl hc hw pins s σ H O I env ok) λ f s' q=>?_
  cases f with
  | next=>exact q
  | brk=>exact q
  | cont=>exact q
  | ret u=>obtain⟨v,σ',H',I',r,q⟩:=q;exact⟨v,σ',H',I',r,QG.frg ok.len q⟩
end
end RF
namespace XE
open PySem PySem.Spec L2 DL RF
open PyProof.Rows
variable {Ω : Wd}
def _root_.RF.Ex.ofX(x:XEx Ω):Ex Ω where
 lev:=x.lev
 chk:=x.chk
 wp Γ S W:=x.wp Γ S W λ _ _=>False
 sound:=by
  intro X r top N nm e Γ S W A hl hc hw
  have A':At Ω X.nox r top N nm:=⟨A.p,A.w,A.k,A.g,A.b,A.room,rfl,A.calm,A.n,A.nd,A.kind,A.look,A.fn,A.cd,A.fr⟩
  have h:=x.sound (X:=X) A' hl hc hw
  intro pins s σ H O I env st
  refine wpAny_mono (h pins s σ H O I env st) (λ v s1 q=>q) λ ev s2 z=>?_
  obtain⟨H1,s1,E',I1,cx,hE⟩:=z
  obtain⟨a,C,t,po,H',B,rfl,ho,hg,fl,fw,lkp,hq⟩:=cx
  obtain⟨x,O',S',hm,w,st',ok'⟩:=hE C po H' hq
  obtain⟨_,w⟩:=w.ex
  exact(show False from w).elim
end XE
namespace RF
open PySem PySem.Spec L2 DL
open PyProof.Rows
def QZ:Bc where
 x:="str"
 id:="str"
 boot:=by decide+kernel
 wp ds S W:=match ds with
  | [.int i]=>i.natAbs.log2<1920/\W (.str (toString i)) S
  | _=>False
 sound:=by
  intro X ds S W hc hr h
  split at h
  . refine cQ yw λ O H vs st r=>?_
    obtain⟨v,rfl,r'⟩:=dh r
    cases r'
    exact⟨_,rfl,h.1,QG.here h.2 st (.str _)⟩
  . exact h.elim
section
variable {X : Cx} {Γ : Gam} {S : Store} {W : WD}
theorem Rr{o e:Expr}{es:List Expr}{name:Str}{id:String}{apos cpos:Pos}(slot:Slot "str" name id)(hty:typeOf (.builtin id)=pure (.type "method_descriptor"))
 (h:Ev X Γ S o λ x S1=>∃sx,x=.str sx/\EvA X Γ S1 (e::es) λ ds S2=>bG X (.builtin id) (.str sx::ds) S2 W)
 (hbase:attributeBase o name X.env (eval o X.env)=eval o X.env)
 (hfew:((backTo cpos (starEach (e::es) X.env)).all (λ x=>!x.1)&&(backToKw cpos (keywordEach [] X.env)).all (λ x=>x.1.isSome)
  &&decide ((e::es).length+([]:List Keyword).length+(if([]:List Keyword).isEmpty then 0 else 1)<30))=true)
 (hline:(apos.endLine==cpos.line)=true)(hs:starEach (e::es) X.env=(false,eval e X.env)::starEach es X.env)(hplain:(backTo cpos (starEach es X.env)).any (·.1)=false):Ev X Γ S (.Call (.Attribute o name apos) (e::es) [] cpos) W:=by
 intro pins s σ H O I env st
 have hm:MtR X id λ x vs H Q=>∃O sx ds S W',x=.str sx/\Reps X.K O H vs ds/\StOk X.K O H S/\bG X (.builtin id) (.str sx::ds) S W'/\∀v H',QG X.K O H W' v H'->Q v H':=by
  rintro pins s σ H x xs v us Q I r1 r2 ⟨O,sx,ds,S,W',rfl,rp,ok,c,k⟩
  refine thn (c pins s σ H O (.str sx::xs) (v::us) I ok (.cons (.str sx) rp) (.cons r1 r2)) λ u s1 q=>?_
  obtain⟨v',H',I',r',q⟩:=q
  exact⟨v',H',I',r',k v' H' q⟩
 have hA:PA X (e::es) (λ σ H Q=>∃O Γ S W',EnvOk X.K O H σ Γ/\StOk X.K O H S/\EvA X Γ S (e::es) W'/\∀vs H',QA X.K O H W' vs H'->Q vs H'):=by
  rintro pos pins s σ H Q I ⟨O,Γ,S,W',env,st,he,k⟩
  refine thn (he pos pins s σ H O I env st) λ us s1 q=>?_
  obtain⟨vs,H1,I1,r1,q⟩:=q
  exact⟨vs,H1,I1,r1,k vs H1 q⟩
 refine EY (T:="str") PySem.F.plainAttrs_str slot hty hm (h.pe) hA hbase hfew hline hs hplain pins s σ H _ I ⟨O,env,st,λ v H' q=>?_⟩
 obtain⟨O1,x,S1,⟨sx,rfl,he⟩,st1,ok1,rep1⟩:=q
 cases rep1
 refine⟨rfl,O1,Γ,S1,_,env.mono st1,ok1,he,λ vs H2 q2=>?_⟩
 obtain⟨O2,ds,S2,c,st2,ok2,rep2⟩:=q2
 exact⟨O2,sx,ds,S2,W,rfl,rep2,ok2,c,λ v' H3 q3=>q3.pre (st1.trans st2)⟩
theorem JB{x y:Str}(w:W (.bl (Txt.startswith x y)) S):bG X (.builtin "str.startswith") [.str x,.str y] S W:=by
 intro pins s σ H O vs us I st r ru
 cases r with
 | cons r1 r2=>cases r2 with
   | cons r2 r3=>
     cases r3
     cases r1
     cases r2
     cases ru with
     | cons u1 u2=>cases u2 with
       | cons u2 u3=>
         cases u3
         obtain⟨t1,rfl⟩:=u1
         obtain⟨t2,rfl⟩:=u2
         exact SC.startswith ⟨.bl _,H,I,rfl,QG.here w st (.bl _)⟩
theorem uP:∀{xs:List Str}{its:List Value},Vals (xs.map V.str) its->∃l:List (Str×Tok),strValues l=its/\l.map (·.1)=xs
 | [],its,h=>by
   cases h
   exact⟨[],rfl,rfl⟩
 | x ::xs,its,h=>by
   cases h with
   | cons r1 r2=>
     obtain⟨t,rfl⟩:=r1
     obtain⟨l,e1,e2⟩:=uP r2
     exact⟨(x,t)::l,by rw[←e1];rfl,by rw[List.map_cons,e2]⟩
theorem lR:∀(l:List (Str×Tok)),Vals ((l.map (·.1)).map V.str) (strValues l)
 | []=>.nil
 | (x,t)::l=>.cons ⟨t,rfl⟩ (lR l)
theorem uT{K:PySem.W.Frag}{O:Own}{H:Hp}:∀{xs:List Str}{ys:List V},Reps K O H ys (xs.map D.str)->ys=xs.map V.str
 | [],ys,h=>by cases h;rfl
 | x ::xs,ys,h=>by
   cases h with
   | cons r1 r2=>
     cases r1
     rw[uT r2];rfl
theorem iC{K:PySem.W.Frag}{O:Own}{H:Hp}:∀xs:List Str,Reps K O H (xs.map V.str) (xs.map D.str)
 | []=>.nil
 | x::xs=>.cons (.str x) (iC xs)
theorem RC{sep:Str}{d:D}{xs:List Str}(hd:jQ S d=some (xs.map D.str))(hj:JoinOk sep xs=true)(w:W (.str (Txt.join sep xs)) S):bG X (.builtin "str.join") [.str sep,d] S W:=by
 intro pins s σ H O vs us I st r ru
 cases r with
 | cons r1 r2=>cases r2 with
   | cons r2 r3=>
     cases r3
     cases r1
     obtain⟨a,ys,rfl,hs,hq⟩:=wR (pins:=pins) (s:=s) (σ:=σ) (X:=X) st r2 hd
     obtain rfl:=uT hq
     cases ru with
     | cons u1 u2=>cases u2 with
       | cons u2 u3=>
         cases u3
         obtain⟨t1,rfl⟩:=u1
         cases u2
         obtain⟨its,rv,pl,hz⟩:=I.list hs
         obtain⟨l,rfl,e2⟩:=uP rv
         exact SC.join pl.isList e2 hj λ t' k=>⟨.str _,H,I.tok _,⟨_,rfl⟩,QG.here w st (.str _)⟩
theorem Oi {x y:Str}(hy:(y.length==0)=false)(hx:x.length≤1000000)(w:W (.lst ((Txt.split x y).map D.str)) S∨W (.loc S.length) (S++[(Txt.split x y).map D.str])):bG X (.builtin "str.split") [.str x,.str y] S W:=by
 intro pins s σ H O vs us I st r ru
 cases r with
 | cons r1 r2=>cases r2 with
   | cons r2 r3=>
     cases r3
     cases r1
     cases r2
     cases ru with
     | cons u1 u2=>cases u2 with
       | cons u2 u3=>
         cases u3
         obtain⟨t1,rfl⟩:=u1
         obtain⟨t2,rfl⟩:=u2
         have hz:x.length≤sizeLine:=by rw[sizeLine_eq];omega
         have done:∀(l:List (Str×Tok))(tk:Nat),l.map (·.1)=Txt.split x y->l.length≤sizeLine->EP X pins σ (QG X.K O H W) (.ref s.heap.objs.size) {s with toks:=tk,heap:=s.heap.push {cls:=.type "list",data:=.seq (strValues l).toArray}}:=λ l tk e hl=>by
          have hp:=I.hok.fresh (x8 _)
          have I2:=I.laid (a:=s.heap.objs.size) (o:=.lst ((l.map (·.1)).map V.str)) (t':=tk) (h':=s.heap.push {cls:=.type "list",data:=.seq (strValues l).toArray}) (λ b o e=>Heap.get?_push_of_some _ e) (x8 _) ⟨by rw[x5,x5];exact hl,strValues l,0,lR l,Heap.get?_push_size _ rfl⟩
          rw[e]at I2
          refine⟨.ref _,_,I2,rfl,?_⟩
          rcases w with w | w
          . exact fJ w st hp (iC _)
          . exact yq w st hp (iC _)
         have szl:(Txt.split x y).length≤x.length+1:=by
          have:=split_weight x y (by have:=ne_of_beq_false hy;omega)
          omega
         cases h1:(decide (x.length<y.length)||decide (Builtin.Str.strKind x<Builtin.Str.strKind y))with
         | true=>exact call_meets F.slot_str_split (typeIs_str _ _ _) F.entry_str_split (F.args_str_split_2 _ _) (meets_str_split_cannot_occur x y t1 t2 h1) (done [(x,t1)] _ (by unfold Txt.split;rw[if_pos h1];rfl) (by show 1≤sizeLine;decide))
         | false=>
           cases hf:(Builtin.Str.occurrences x y 0 x.length (x.length+1)).isEmpty with
           | true=>exact call_meets F.slot_str_split (typeIs_str _ _ _) F.entry_str_split (F.args_str_split_2 _ _) (meets_str_split_not_found x y t1 t2 h1 hy hf) (done [(x,t1)] _ (by unfold Txt.split;rw[if_neg (by rw[h1];decide),if_pos hf];rfl) (by show 1≤sizeLine;decide))
           | false=>
             have e:Txt.split x y=Builtin.Str.partsBetween x (Builtin.Str.occurrences x y 0 x.length (x.length+1)) y.length:=by unfold Txt.split;rw[if_neg (by rw[h1];decide),if_neg (by rw[hf];decide)]
             have hn:(Builtin.Str.partsBetween x (Builtin.Str.occurrences x y 0 x.length (x.length+1)) y.length).length≤sizeLine:=by rw[←e,sizeLine_eq];omega
             refine call_meets F.slot_str_split (typeIs_str _ _ _) F.entry_str_split (F.args_str_split_2 _ _) (meets_str_split_sep x y t1 t2 h1 hy hf hz hn) ?_
             rw[strsFrom_eq]
             exact done (numbered s.toks _) _ (by rw[numbered_texts,e]) (by rw[←x5 (f:=Prod.fst),numbered_texts];exact hn)
end
def inT(y x:Str):Bool:=!(Builtin.Str.occurrences x y 0 x.length 1).isEmpty
section
variable {X : Cx} {S : Store}
theorem Vf{x y:Str}{W:Bool->Store->Prop}(w:W (inT y x) S):aV X .In (.str y) (.str x) S (asB W):=by
 intro pins s σ H O v w' u u' I st r1 r2 r3 r4
 cases r1
 cases r2
 obtain⟨t1,rfl⟩:=r3
 obtain⟨t2,rfl⟩:=r4
 exact PySem.P.in_str ⟨.bl _,H,I,rfl,QG.here ⟨_,rfl,w⟩ st (.bl _)⟩
end
def Ul:Bc where
 x:="int"
 id:="int"
 boot:=by decide+kernel
 wp ds S W:=match ds with
  | [.str x]=>∃n,intText? x=some n/\x.length≤640/\W (.int n) S
  | _=>False
 sound:=by
  intro X ds S W hc hr h
  split at h
  . rename_i x
    obtain⟨n,h1,h2,w⟩:=h
    intro pins s σ H O vs us I st r ru
    cases r with
    | cons r1 r2=>
      cases r2
      cases r1
      cases ru with
      | cons u1 u2=>
        cases u2
        obtain⟨t1,rfl⟩:=u1
        exact PySem.W.KIN.call_text h1 h2 ⟨.int _,H,I.tok _,⟨_,rfl⟩,QG.here w st (.int _)⟩
  . exact h.elim
structure Ms where
 name:Str
 id:String
 slot:Slot "str" name id
 hty:typeOf (.builtin id)=pure (.type "method_descriptor")
 wp:Str->List D->Store->WD->Prop
 sound:∀{X:Cx}{sx:Str}{ds:List D}{S:Store}{W:WD},wp sx ds S W->bG X (.builtin id) (.str sx::ds) S W
def ie:Ms where
 name:="join"
 id:="str.join"
 slot:=F.slot_str_join
 hty:=F.type_str_join
 wp sx ds S W:=∃d xs,ds=[d]/\jQ S d=some (List.map D.str xs)/\JoinOk sx xs=true/\W (.str (Txt.join sx xs)) S
 sound:=by
  rintro X sx ds S W ⟨d,xs,rfl,h1,h2,w⟩
  exact RC h1 h2 w
def mW:Ms where
 name:="split"
 id:="str.split"
 slot:=F.slot_str_split
 hty:=F.type_str_split
 wp sx ds S W:=∃y,ds=[.str y]/\(y.length==0)=false/\sx.length≤1000000/\(W (.lst ((Txt.split sx y).map D.str)) S∨W (.loc S.length) (S++[(Txt.split sx y).map D.str]))
 sound:=by
  rintro X sx ds S W ⟨y,rfl,h1,h2,w⟩
  exact Oi h1 h2 w
def Jm:Ms where
 name:="startswith"
 id:="str.startswith"
 slot:=F.slot_str_startswith
 hty:=F.type_str_startswith
 wp sx ds S W:=∃y,ds=[.str y]/\W (.bl (Txt.startswith sx y)) S
 sound:=by
  rintro X sx ds S W ⟨y,rfl,w⟩
  exact JB w
def Sg:Expr->Bool
 | .Constant .. =>true
 | _=>false
theorem Mz{x:Expr}{name:Str}{env:Env}(h:(nameE x||Sg x)=true):attributeBase x name env (eval x env)=eval x env:=by
 cases x<;>first | rfl | exact ff h
section
variable {Ω : Wd}
def Ex.ms(m:Ms)(o a:Ex Ω):Ex Ω where
 lev:=max o.lev a.lev
 chk top N nm e:=match e with
  | .Call f es ks q=>ks.isEmpty&&dj es λ y=>anB (wZ f) λ u=>(u.2.1==m.name)&&((nameE u.1||Sg u.1)&&((u.2.2.endLine==q.line)&&(okE y&&(o.chk top N nm u.1&&a.chk top N nm y))))
  | _=>false
 wp Γ S W:=o.wp Γ S λ x S1=>match x with | .str sx=>a.wp Γ S1 λ d S2=>m.wp sx [d] S2 W | _=>False
 sound:=by
  intro X r top N nm e Γ S W A hl hc hw
  obtain⟨l1,l2⟩:=lv2 hl
  cases e with
  | Call f es ks q=>
    obtain⟨g1,h_1⟩:=aa hc
    obtain⟨y,rfl,h_2⟩:=bj h_1
    obtain⟨⟨x,n,p⟩,g2,h_3⟩:=aX h_2
    obtain⟨g3,h_4⟩:=aa h_3
    obtain⟨g4,h_5⟩:=aa h_4
    obtain⟨g5,h_6⟩:=aa h_5
    obtain⟨g6,h_7⟩:=aa h_6
    obtain⟨g7,g8⟩:=aa h_7
    obtain rfl:=zB g2
    have g3:n=m.name:=eq_of_beq g3
    subst g3
    cases ks with
    | cons=>cases g1
    | nil=>
      refine Rr m.slot m.hty ((o.sound A l1 g7 hw).mono λ x S1 q=>?_) (Mz g4) (V4 g6) g5 (aD g6 _ _) rfl
      cases x with
      | str sx=>exact⟨sx,rfl,cF ((a.sound A l2 g8 q).mono λ d S2 q=>gB (m.sound q)) (aD g6 _ _)⟩
      | _=>exact(show False from q).elim
  | _=>exact fE hc
end
variable {x : Str}
section
variable {X : Cx} {Γ : Gam} {S : Store} {W : WD} {a b e : Expr} {pos : Pos}
theorem J8{y:Str}{t:Tok}(hm:X.mg x=some (.str y t))(w:W (.str y) S)(hg:Gl X x)(hd:(x==("__debug__":Str))=false):Ev X Γ S (.Name x pos) W:=
 λ pins s σ H O I _ st=>jP hg hm (v:=.str y) ⟨t,rfl⟩ hd pins s σ H _ I (QG.here w st (.str y))
theorem Td{y:Str}(hz:x.length+y.length≤1000000)(w:W (.str (x++y)) S):cA X .Add (.str x) (.str y) S W:=
 cY Dw λ O H v w' st r1 r2=>by cases r1;cases r2;exact⟨x,y,rfl,rfl,small hz,QG.here w st (.str _)⟩
theorem Vb{i:Int}{c:Nat}(hz:x.length≤1000000)(h:atI x.cps.toList i=some c)(w:W (.str ⟨#[c]⟩) S):IxW X a b (.str x) (.int i) S W:=by
 intro pins s σ H O v w' u u' I st r1 r2 r3 r4 hs
 cases r1
 cases r2
 exact PP a b pins s σ H _ _ u u' _ I r3 r4 ⟨x,i,c,rfl,rfl,small hz,h,QG.here w st (.str _)⟩ hs
theorem U4{lo hi:Option Int}(hz:x.length≤1000000)(w:W (.str (Txt.slice x lo hi)) S):SlW X (.str x) lo hi S W:=by
 intro pins s σ H O v u vl vu sl I st r1 r3 hs pl pu
 cases r1
 obtain⟨t,rfl⟩:=r3
 have hq:∀(t':Tok)(k:Nat),EP X pins σ (QG X.K O H W) (.str (Txt.slice x lo hi) t') {s with toks:=k}:=λ t' k=>⟨.str _,H,I.tok _,⟨_,rfl⟩,QG.here w st (.str _)⟩
 have hl:=Nat.le_trans (Txt.slice_le x lo hi) (small hz)
 refine⟨"str",_,F.slot_str_getitem.lookup,typeIs_str _ _ _,?_⟩
 cases pl<;>cases pu
 . exact wpAny_getItem_str_slice (l:=none) (u:=none) (st:=none) hs rfl (post_val_or_str ⟨hl,hq⟩)
 . exact wpAny_getItem_str_slice (l:=none) (u:=some (_,_)) (st:=none) hs rfl (post_val_or_str ⟨hl,hq⟩)
 . exact wpAny_getItem_str_slice (l:=some (_,_)) (u:=none) (st:=none) hs rfl (post_val_or_str ⟨hl,hq⟩)
 . exact wpAny_getItem_str_slice (l:=some (_,_)) (u:=some (_,_)) (st:=none) hs rfl (post_val_or_str ⟨hl,hq⟩)
def ItS(x:Str):It:=⟨λ i _=>i<x.cps.size,λ i H y H'=>H'=H/\∃c,x.cps[i]? =some c/\y=.str ⟨#[c]⟩,λ i _=>i=x.cps.size⟩
theorem Aa{P:Program}{w:World}{K:PySem.W.Frag}{tg:Expr}{ty:String}{t:Tok}(it:Addr)(hn:["enumerate","zip","dict_itemiterator","dict_reverseitemiterator","odict_iterator","itertools.zip_longest","itertools.pairwise"].contains ty=false)
 (W:∀A:Around,A.handled=none->Walks P w A it [it] [it] x.cps.size (SignAt x) (λ i h=>h.IsStrIter it ty x t i))
 (D:∀(A:Around)(E:Value->Shared->Prop)(s:Shared)(Q:Option Value->Shared->Prop),A.handled=none->s.heap.IsStrIter it ty x t x.cps.size->(∀h',Heap.ExtBut it s.heap h'->Q none {s with heap:=h'})->wpAny (model P w) A (pyNext (.ref it)) Q E s)
 (Z:∀(A:Around)(E:Value->Shared->Prop)(i:Nat)(s:Shared)(Q:Value->Shared->Prop),s.heap.IsStrIter it ty x t i->Q (.ref it) s->wpAny (model P w) A (pyIter (.ref it)) Q E s):
 Turn P w K tg (ItS x) [it] it (λ i h=>h.IsStrIter it ty x t i) where
 mem:=by simp
 obj:=λ i h st b hb=>by
  have e:b=it:=by simpa using hb
  subst e
  obtain⟨o,e,c,d⟩:=st
  exact⟨o,e,λ v z=>by rw[d]at z;cases z⟩
 keep:=λ i h h' st k=>by
  obtain⟨o,e,r⟩:=st
  exact⟨o,k it (by simp) o e,r⟩
 item:=by
  intro X hP hw hK hc i pins s σ H E I hf st hg
  subst hP hw hK
  obtain⟨f0,f1,f2,f3,f4,f5⟩:=hf it (by simp)
  refine(W X.A (I.ok.hd hc)).item i s _ _ hg st λ v h' tk hv st' kk=>?_
  obtain⟨c,u,hc',rfl⟩:=hv
  have I1:Inv X pins σ H {s with heap:=h',toks:=tk}:=I.turned (λ b o hb e=>kk b o (by simpa using hb) e) f0 f1 f3 f4 f5
  obtain⟨o,e1,e2,e3⟩:=id st'
  exact⟨_,rfl,wV (s:={s with heap:=h',toks:=tk}) e1 e2 e3 hn ⟨.str ⟨#[c]⟩,H,I1,⟨u,rfl⟩,⟨rfl,c,hc',rfl⟩,st',λ b hb=>(hf b hb).1⟩⟩
 done:=by
  intro X hP hw hK hc i pins s σ H E I hf st hg
  subst hP hw hK
  have hg:i=x.cps.size:=hg
  subst hg
  obtain⟨f0,f1,f2,f3,f4,f5⟩:=hf it (by simp)
  exact D X.A E s _ (I.ok.hd hc) st λ h' eb=>⟨rfl,I.turned (t':=s.toks) (λ b o hb e=>eb b o hb e) f0 f1 f3 f4 f5⟩
 self:=λ A i s Q E st h=>Z A E i s Q st h
def sgs(x:Str):List D:=x.cps.toList.map λ c=>.str ⟨#[c]⟩
theorem pX{K:PySem.W.Frag}{O:Own}{H:Hp}(x:Str):fD K (ItS x) O H (sgs x):=by
 intro O' H' st _ i
 refine⟨λ d hd=>?_,λ hi=>by rw[hi];show(sgs x).length=x.cps.size;simp[sgs]⟩
 unfold sgs at hd
 rw[x6]at hd
 cases e:x.cps.toList[i]? with
 | none=>rw[e]at hd;cases hd
 | some c=>
   rw[e]at hd
   cases hd
   have hl:=(z0.mp e).1
   refine⟨(by simpa using hl:i<x.cps.size),λ y H'' z=>?_⟩
   obtain⟨rfl,c',hc,rfl⟩:=z
   have:c'=c:=by
    have e':x.cps[i]? =some c:=by simpa using e
    rw[hc]at e'
    exact Option.some.inj e'
   subst this
   exact⟨aR.refl _,.str _⟩
theorem Sw{tg:Expr}{W:List D->Store->Prop}(h:Ev X Γ S e λ d S1=>match d with | .str x=>W (sgs x) S1 | _=>False):ItW X Γ S tg e W:=by
 intro pins s σ H O I env st
 refine thn (h pins s σ H O I env st) λ u s1 hq_=>?_
 obtain⟨v,H1,I1,r1,O1,d,S1,w,st1,ok1,rep⟩:=hq_
 cases rep with
 | str x=>
   obtain⟨t,rfl⟩:=r1
   have fp:∀b∈[s1.heap.objs.size],cW X pins H1 b:=λ b hb=>by
    have e:b=s1.heap.objs.size:=by simpa using hb
    subst e
    exact I1.fpOk (x8 _) (I1.hok.fresh (x8 _))
   cases ha:x.cps.all (· <128)
   . refine wpAny_pyIter_wide ha ?_
     exact⟨s1.heap.objs.size,[s1.heap.objs.size],_,ItS x,H1,rfl,I1.kept (t':=s1.toks) λ b o e=>Heap.get?_push_of_some _ e,Aa (t:=t) _ (by decide) (λ A hA=>Walks.strWide hA _ x t) (λ A E s Q hA st hQ=>wpAny_pyNext_wide_end hA st (by simp) hQ) (λ A E i s Q st hQ=>wpAny_pyIter_striter_wide st hQ),⟨_,Heap.get?_push_size _ rfl,rfl,rfl⟩,fp,O1,_,S1,w,st1,ok1,pX x⟩
   . refine wpAny_pyIter_ascii ha ?_
     exact⟨s1.heap.objs.size,[s1.heap.objs.size],_,ItS x,H1,rfl,I1.kept (t':=s1.toks) λ b o e=>Heap.get?_push_of_some _ e,Aa (t:=t) _ (by decide) (λ A hA=>Walks.strAscii hA _ x t) (λ A E s Q hA st hQ=>wpAny_pyNext_ascii_end hA st (by simp) hQ) (λ A E i s Q st hQ=>wpAny_pyIter_striter_ascii st hQ),⟨_,Heap.get?_push_size _ rfl,rfl,rfl⟩,fp,O1,_,S1,w,st1,ok1,pX x⟩
 | _=>exact w.elim
end
section
variable {Ω : Wd}
def Ex.gstr{x i:Str}(h:∃t,Ω.mg x=some (.str i t)):Ex Ω where
 lev:=0
 chk _ _ nm e:=anB (nameV e) λ y=>(y==x)&&(glb nm x&&okN x)
 wp _ S W:=W (.str i) S
 sound:=by
  intro X r top N nm e Γ S W A _ hc hw
  obtain⟨y,g,h0⟩:=aX hc
  obtain⟨p,rfl⟩:=bx g
  obtain⟨h1,h2⟩:=aa h0
  obtain⟨h2,h3⟩:=aa h2
  have e:y=x:=eq_of_beq h1
  subst e
  obtain⟨t,h⟩:=h
  exact J8 (by rw[A.g];exact h) hw (A.glb h2) (aY h3).1
def Ex.catS(a b:Ex Ω):Ex Ω where
 lev:=max a.lev b.lev
 chk top N nm e:=match e with | .BinOp l o r _=>(o==.Add)&&(a.chk top N nm l&&b.chk top N nm r) | _=>false
 wp Γ S W:=a.wp Γ S λ x S1=>b.wp Γ S1 λ y S2=>∃u v,x=.str u/\y=.str v/\u.length+v.length≤1000000/\W (.str (u++v)) S2
 sound:=by
  intro X r top N nm e Γ S W A hl hc hw
  obtain⟨l1,l2⟩:=lv2 hl
  cases e with
  | BinOp l o r' pos=>
    obtain⟨h1,h2⟩:=aa hc
    obtain⟨h2,h3⟩:=aa h2
    have e:o=.Add:=eq_of_beq h1
    subst e
    refine qZ ((a.sound A l1 h2 hw).mono λ x S1 q=>(b.sound A l2 h3 q).mono λ y S2 q=>?_)
    obtain⟨u,v,rfl,rfl,z,w⟩:=q
    exact Td z w
  | _=>exact fE hc
def Ex.ixS(a b:Ex Ω):Ex Ω where
 lev:=max a.lev b.lev
 chk top N nm e:=match e with | .Subscript l r _=>okE r&&(a.chk top N nm l&&b.chk top N nm r) | _=>false
 wp Γ S W:=a.wp Γ S λ x S1=>b.wp Γ S1 λ y S2=>∃u i c,x=.str u/\y=.int i/\u.length≤1000000/\atI u.cps.toList i=some c/\W (.str ⟨#[c]⟩) S2
 sound:=by
  intro X r top N nm e Γ S W A hl hc hw
  obtain⟨l1,l2⟩:=lv2 hl
  cases e with
  | Subscript l r' pos=>
    obtain⟨h1,h2⟩:=aa hc
    obtain⟨h2,h3⟩:=aa h2
    refine Lb ((a.sound A l1 h2 hw).mono λ x S1 q=>(b.sound A l2 h3 q).mono λ y S2 q=>?_) (pq h1)
    obtain⟨u,i,c,rfl,rfl,z,g,w⟩:=q
    exact Vb z g w
  | _=>exact fE hc
def Hy:Expr->Option (Option Expr×Option Expr×Bool)
 | .Slice x y z _=>some (x,y,z.isNone)
 | _=>none
theorem Ge{e:Expr}{x y:Option Expr}(h:Hy e=some (x,y,true)):∃p,e=.Slice x y none p:=by
 cases e with
 | Slice a b c p=>
   have h:=Option.some.inj h
   have h1:a=x:=congrArg (λ z=>z.1) h
   have h2:b=y:=congrArg (λ z=>z.2.1) h
   have h3:c.isNone=true:=congrArg (λ z=>z.2.2) h
   cases c with
   | none=>subst h1 h2;exact⟨p,rfl⟩
   | some c=>cases h3
 | _=>cases h
def Ex.slS(a:Ex Ω)(lo hi:Po Ω):Ex Ω where
 lev:=max a.lev (max lo.lev hi.lev)
 chk top N nm e:=match e with | .Subscript l s _=>anB (Hy s) λ z=>z.2.2&&(a.chk top N nm l&&(lo.chk top N nm z.1&&hi.chk top N nm z.2.1)) | _=>false
 wp Γ S W:=a.wp Γ S λ x S1=>lo.wp Γ S1 λ l S2=>hi.wp Γ S2 λ h S3=>∃u,x=.str u/\u.length≤1000000/\W (.str (Txt.slice u l h)) S3
 sound:=by
  intro X r top N nm e Γ S W A hl hc hw
  obtain⟨l1,l2⟩:=lv2 hl
  obtain⟨l2,l3⟩:=lv2 l2
  cases e with
  | Subscript l sl pos=>
    obtain⟨⟨x,y,z⟩,g,h0⟩:=aX hc
    obtain⟨hz,h1⟩:=aa h0
    have hz:z=true:=hz
    subst hz
    obtain⟨p,rfl⟩:=Ge g
    obtain⟨h1,h2⟩:=aa h1
    obtain⟨h2,h3⟩:=aa h2
    refine xY ((a.sound A l1 h1 hw).mono λ x S1 q=>PoD.mono (lo.sound A l2 h2 q) λ l S2 q=>PoD.mono (hi.sound A l3 h3 q) λ h S3 q=>?_)
    obtain⟨u,rfl,z,w⟩:=q
    exact U4 z w
  | _=>exact fE hc
def Itb.str(a:Ex Ω):Itb Ω where
 lev:=a.lev
 chk top N nm _ e:=a.chk top N nm e
 wp Γ S W:=a.wp Γ S λ d S1=>match d with | .str x=>W (sgs x) S1 | _=>False
 sound:=by
  intro X r top N nm tg e Γ S W A hl hc hw
  exact Sw (a.sound A hl hc hw)
def Ex.inS(a b:Ex Ω):Ex Ω where
 lev:=max a.lev b.lev
 chk top N nm e:=match e with | .Compare l os rs _=>dj os λ o=>dj rs λ r=>(o==.In)&&(okE r&&(a.chk top N nm l&&b.chk top N nm r)) | _=>false
 wp Γ S W:=a.wp Γ S λ x S1=>b.wp Γ S1 λ y S2=>∃u v,x=.str u/\y=.str v/\W (.bl (inT u v)) S2
 sound:=by
  intro X r top N nm e Γ S W A hl hc hw
  obtain⟨l1,l2⟩:=lv2 hl
  cases e with
  | Compare l os rs pos=>
    obtain⟨o,rfl,hc1⟩:=bj hc
    obtain⟨r',rfl,hc2⟩:=bj hc1
    obtain⟨h1,h2⟩:=aa hc2
    obtain⟨h0,h2⟩:=aa h2
    obtain⟨h2,h3⟩:=aa h2
    have e:o=.In:=eq_of_beq h1
    subst e
    refine Gm ((a.sound A l1 h2 hw).mono λ x S1 q=>(b.sound A l2 h3 q).mono λ y S2 q=>?_) (dB h0)
    obtain⟨u,v,rfl,rfl,w⟩:=q
    exact(Vf (W:=λ c S3=>W (.bl c) S3) w).mono λ d S3 hq=>by obtain⟨c,rfl,w⟩:=hq;exact w
  | _=>exact fE hc
end
end RF
namespace RF
open PySem PySem.Spec L2 DL
open PyProof.Rows
abbrev Jp(items:Array Value)(x:Value):Nat->Option PySem.Fin×Unit->Sem (ForInStep (Option PySem.Fin×Unit)):=λ i __s=>
 match items[i]? with
 | some y=>do
   let __do_lift ←eqBool y x
   if __do_lift=true then do
    let __do_lift ←retInt ↑i
    pure (ForInStep.done (some __do_lift,()))
    else pure (ForInStep.yield (none,()))
 | x=>pure (ForInStep.yield (none,()))
theorem yX{prog:Program}{w:World}{A:Around}{E:Value->Shared->Prop}{s:Shared}{items:Array Value}{x:Value}{e:Value->Bool}{j:Nat}{Q:Option PySem.Fin×Unit->Shared->Prop}(hj:j<items.size)
 (hit:e items[j]=true)(hno:∀m(hm:m<items.size),m<j->e items[m]=false)(he:∀y,y∈items->SeqAt.EqAt A s y x (e y))(h:Q (some (PySem.Fin.done (.ret (.int j s.toks))),()) {s with toks:=s.toks+1}):
 ∀(k i:Nat),i+k=items.size->i≤j->wpAny (model prog w) A (forIn (List.range' i k) (none,()) (Jp items x)) Q E s
 | 0,i,hk,hi=>absurd hj (by omega)
 | k +1,i,hk,hi=>by
   have hlt:i<items.size:=by omega
   rw[List.range'_succ,List.forIn_cons]
   refine wpAny_bind ?_
   have g:items[i]? =some items[i]:=by simp[hlt]
   unfold Jp
   rw[g]
   refine wpAny_bind (he _ (Array.getElem_mem hlt) prog w _ _ ?_)
   by_cases hij:i=j
   . subst hij
     rw[hit]
     wp_walk
     exact h
   . rw[hno i hlt (by omega)]
     exact wpAny_pure (yX hj hit hno he h k (i+1) (by omega) (by omega))
theorem vH(l:Addr)(items:Array Value)(n:Nat)(dd:Option Addr)(sl:Array (Option Value))(x:Value)(e:Value->Bool)(j:Nat)(hj:j<items.size)
 (hit:e items[j]=true)(hno:∀m(hm:m<items.size),m<j->e items[m]=false):
 Meets (Builtin.«tuple.index» ⟨[.ref l,x],[]⟩)
  (λ A R s=>s.heap.get? l=some {cls:=.type "tuple",dict:=dd,data:=.seq items n,slots:=sl}/\(∀y,y∈items->SeqAt.EqAt A.in1 s y x (e y))/\R (.ok (.ret (.int j s.toks))) {s with toks:=s.toks+1}):=by
 intro prog w A R s h
 obtain⟨hp,g,d,tk,os⟩:=s;obtain⟨hl,he,h⟩:=h
 unfold Builtin.«tuple.index»
 simp only[Std.Legacy.Range.forIn_eq_forIn_range',Std.Legacy.Range.size,Nat.sub_zero,Nat.add_sub_cancel,Nat.div_one,Nat.min_self]
 wp_walk using AutoSeq1.wpAny_loadPart' hl
 have em:min items.size items.size-0=items.size:=by omega
 show wpAny (model prog w) A.in1 (forIn (List.range' 0 (min items.size items.size-0)) (none,()) (Jp items x)) _ _ _
 rw[em]
 refine yX hj hit hno he ?_ items.size 0 (by omega) (Nat.zero_le _)
 exact wpAny_pure h
def GT(mg:Str->Option Value)(K:PySem.W.Frag)(x:Str)(ss:List Str):Prop:=∃(a:Addr) (o:Obj) (its:Array Value) (n:Nat),mg x=some (.ref a)/\K.lookup a=some o/\o.cls=.type "tuple"/\o.dict=none/\o.data=.seq its n/\its.size≤sizeLine/\Vals (ss.map V.str) its.toList
def DR:List Str->List Value->Bool
 | [],vs=>vs.isEmpty
 | s::ss,vs=>match vs with
   | .str x _::vs=>(x==s)&&DR ss vs
   | _=>false
theorem zE:∀{ss:List Str}{vs:List Value},DR ss vs=true->Vals (ss.map V.str) vs
 | [],vs,h=>by
   cases vs with
   | nil=>exact .nil
   | cons=>cases h
 | s ::ss,vs,h=>by
   cases vs with
   | nil=>cases h
   | cons v vs=>
     cases v with
     | str x t=>
       obtain⟨h1,h2⟩:=aa h
       obtain rfl:=eq_of_beq h1
       exact .cons ⟨t,rfl⟩ (zE h2)
     | _=>exact(y9 h).elim
def gtO(ss:List Str)(o:Obj):Bool:=(o.cls==.type "tuple")&&(o.dict.isNone&&(match o.data with | .seq its _=>decide (its.size≤1000)&&DR ss its.toList | _=>false))
def gtB(K:PySem.W.Frag)(x:Str)(ss:List Str):Bool:=match PySem.W.nsIn K mainGlobals x with
 | some (some (.ref a))=>anB (K.lookup a) (gtO ss)
 | _=>false
theorem Uw{K:PySem.W.Frag}{h:Heap}{mg:Str->Option Value}{x:Str}{ss:List Str}(X:K.In h)(G:h.Ns mainGlobals mg)(e:gtB K x ss=true):GT mg K x ss:=by
 unfold gtB at e
 split at e
 . rename_i a hn
   obtain⟨o,ho,e⟩:=aX e
   obtain⟨e1,e⟩:=aa e
   obtain⟨e2,e⟩:=aa e
   split at e
   . rename_i its n hd
     obtain⟨e3,e4⟩:=aa e
     exact⟨a,o,its,n,PySem.W.mg_of X G hn,ho,eq_of_beq e1,Option.isNone_iff_eq_none.mp e2,hd,Nat.le_trans (of_decide_eq_true e3) (by decide),zE e4⟩
   . cases e
 . cases e
section
variable {X : Cx} {Γ : Gam} {S : Store} {W : WD} {a b e : Expr} {pos : Pos}
theorem KJ(z:Str)(ss:List Str):inV (.str z) (ss.map V.str)=ss.contains z:=by
 unfold inV
 induction ss with
 | nil=>rfl
 | cons s ss ih=>
   rw[List.map_cons,List.any_cons,ih,List.contains_cons]
   have e:eqV (.str s) (.str z)=(s==z):=rfl
   rw[e]
   congr 1
   cases h:decide (s=z)with
   | true=>have:=of_decide_eq_true h;subst this;rfl
   | false=>have:=of_decide_eq_false h;rw[beq_eq_false_iff_ne.mpr this,beq_eq_false_iff_ne.mpr (Ne.symm this)]
theorem P0{x:Str}{ss:List Str}{p:Pos}{no:Bool}{W:Bool->Store->Prop}(g:GT X.mg X.K x ss)(h:Ev X Γ S a λ d S1=>∃z,d=.str z/\W (if no then !ss.contains z else ss.contains z) S1)(hg:Gl X x)(hd:(x==("__debug__":Str))=false):Ts X Γ S (.Compare a [if no then CmpOp.NotIn else CmpOp.In] [.Name x p] pos) W:=by
 intro pins s σ H O I env st
 obtain⟨t,o,its,n,hm,hk,hc,hd',hdt,hz,hv⟩:=g
 refine wpAny_isTrue_Compare1 (thn (h pins s σ H O I env st) λ u s1 hq_=>?_) (dB rfl)
 obtain⟨v,H1,I1,r1,O1,x,S1,⟨z,rfl,w⟩,st1,ok1,rep1⟩:=hq_
 cases rep1
 refine thn (jP hg hm (v:=.ref t) rfl hd pins s1 σ H1 (λ v H'=>v=.ref t/\H'=H1) I1 ⟨rfl,rfl⟩) λ u' s2 hq=>?_
 obtain⟨v,H2,I2,r2,rfl,rfl⟩:=hq
 have fin:∀(c:Value)(s3:Shared),EP X pins σ (λ v H'=>v=.bl (if no then !inV (.str z) (ss.map V.str)else inV (.str z) (ss.map V.str))/\H'=H2) c s3->wpAny (model X.prog X.w) X.A (truthy c) (TP X pins σ (QT X.K O H W)) X.xe s3:=by
  rintro c s3 ⟨v,H3,I3,r3,rfl,rfl⟩
  cases r3
  refine wpAny_truthy_bool ⟨_,I3,O1,S1,?_,st1,ok1⟩
  rw[KJ];exact w
 have all:(ss.map V.str).all fB=true:=by rw[List.all_eq_true];intro y hy;obtain⟨s',_,rfl⟩:=List.mem_map.mp hy;rfl
 cases no with
 | true=>exact thn (zQ pins s2 σ H2 _ _ u u' _ I2 r1 r2 ⟨t,ss.map V.str,rfl,.inr (.inr ⟨o,its,n,hk,hc,hdt,hz,hv⟩),rfl,all,rfl,rfl⟩) fin
 | false=>exact thn (Ii pins s2 σ H2 _ _ u u' _ I2 r1 r2 ⟨t,ss.map V.str,rfl,.inr (.inr ⟨o,its,n,hk,hc,hdt,hz,hv⟩),rfl,all,rfl,rfl⟩) fin
theorem Gx{t:Addr}{o:Obj}{its:Array Value}{n:Nat}{ss:List Str}(hk:X.K.lookup t=some o)(hc:o.cls=.type "tuple")(hdt:o.data=.seq its n)(hz:its.size≤sizeLine)(hv:Vals (ss.map V.str) its.toList):
 MtR X "tuple.index" (λ x vs H Q=>∃(z:Str) (j:Nat),x=.ref t/\vs=[.str z]/\ss[j]? =some z/\(∀m,m<j->ss[m]?≠some z)/\Q (.int j) H):=by
 intro pins s σ H x vs v us Q I rx rv h
 obtain⟨z,j,rfl,rfl,hj,hn,q⟩:=h
 cases rx
 obtain⟨u,rfl,ru⟩:=rv.one
 obtain⟨its,v1,p1,_⟩:=I.tuple (a:=t) (.inr ⟨o,its,n,hk,hc,hdt,hz,hv⟩)
 obtain⟨⟨cls,dd,data,sl⟩,ho,hc',n',hd'⟩:=id p1
 simp only at hc' hd'
 subst hc' hd'
 have all:(ss.map V.str).all fB=true:=by rw[List.all_eq_true];intro y hy;obtain⟨s',_,rfl⟩:=List.mem_map.mp hy;rfl
 have hlen:its.length=ss.length:=by rw[←v1.length,x5]
 have at_:∀(m:Nat)(hm:m<its.length)(y:Str),ss[m]? =some y->eqU (.str z) its[m]=(y==z):=by
  intro m hm y hy
  obtain⟨w,hw,rw'⟩:=oN v1 (i:=m) (v:=.str y) (by rw[x6,hy];rfl)
  have e:its[m]=w:=by rw[y0 hm]at hw;exact Option.some.inj hw
  rw[e,zm rw' rfl];rfl
 have hjl:j<its.length:=by rw[hlen];exact(z0.mp hj).1
 refine call_meets F.slot_tuple_index ⟨_,ho,rfl⟩ F.entry_tuple_index (F.args_tuple_index_2 _ _) (vH t its.toArray n' dd sl u (eqU (.str z)) j (by simpa using hjl) ?_ ?_) ⟨ho,λ y hy=>eY ru rfl v1 all y (by simpa using hy),.int j,H,I.tok _,⟨_,rfl⟩,q⟩
 . have:=at_ j hjl z hj
   simpa using this
 . intro m hm hlt
   have hml:m<its.length:=by simpa using hm
   obtain⟨y,hy⟩:∃y,ss[m]? =some y:=⟨_,y0 (by omega)⟩
   have:=at_ m hml y hy
   have ne:(y==z)=false:=beq_eq_false_iff_ne.mpr λ e=>hn m hlt (by rw[hy,e])
   rw[ne]at this
   simpa using this
theorem Ie{x:Str}{ss:List Str}{p apos cpos:Pos}(g:GT X.mg X.K x ss)(h:Ev X Γ S e λ d S1=>∃(z:Str) (j:Nat),d=.str z/\ss[j]? =some z/\(∀m,m<j->ss[m]?≠some z)/\W (.int j) S1)(hg:Gl X x)(hd:(x==("__debug__":Str))=false)
 (hs:starEach [e] X.env=[(false,eval e X.env)])(hline:(apos.endLine==cpos.line)=true):Ev X Γ S (.Call (.Attribute (.Name x p) "index" apos) [e] [] cpos) W:=by
 intro pins s σ H O I env st
 obtain⟨t,o,its,n,hm,hk,hc,hd',hdt,hz,hv⟩:=g
 have hA:PA X [e] (λ σ H Q=>∃O Γ S W',EnvOk X.K O H σ Γ/\StOk X.K O H S/\Ev X Γ S e W'/\∀v H',QG X.K O H W' v H'->Q [v] H'):=by
  rintro pos pins s σ H Q I ⟨O,Γ,S,W',env,st,he,k⟩
  rw[hs]
  show wpAny _ _ (spliced ((false,eval e X.env)::backTo pos (starEach [] X.env))) _ _ s
  refine Calls.spliced_cons (thn (he pins s σ H O I env st) λ u s1 hq_=>?_)
  obtain⟨v,H1,I1,r1,q⟩:=hq_
  exact Calls.spliced_nil ⟨[v],H1,I1,.cons r1 .nil,k v H1 q⟩
 refine EY (T:="tuple") PySem.F.plainAttrs_tuple PySem.F.slot_tuple_index PySem.F.type_tuple_index (Gx hk hc hdt hz hv) (jP hg hm (v:=.ref t) rfl hd) hA rfl (by rw[hs];rfl) hline hs rfl pins s σ H _ I ?_
 refine⟨.inr (.inl ⟨rfl,o,hk,hc,hd'⟩),O,Γ,S,_,env,st,h,λ v H' q=>?_⟩
 obtain⟨O1,d,S1,⟨z,j,rfl,h1,h2,w⟩,st1,ok1,rep1⟩:=q
 cases rep1
 exact⟨z,j,rfl,rfl,h1,h2,O1,_,S1,w,st1,ok1,.int _⟩
end
section
variable {Ω : Wd}
def Te.inG{x:Str}{ss:List Str}(g:GT Ω.mg Ω.K x ss)(no:Bool)(a:Ex Ω):Te Ω where
 lev:=a.lev
 chk top N nm e:=match e with | .Compare l os rs _=>dj os λ o=>dj rs λ r=>anB (nameV r) λ y=>(o==(if no then CmpOp.NotIn else CmpOp.In))&&((y==x)&&(glb nm x&&(okN x&&a.chk top N nm l))) | _=>false
 wp Γ S W:=a.wp Γ S λ d S1=>∃z,d=.str z/\W (if no then !ss.contains z else ss.contains z) S1
 sound:=by
  intro X r top N nm e Γ S W A hl hc hw
  cases e with
  | Compare l os rs pos=>
    obtain⟨o,rfl,hc1⟩:=bj hc
    obtain⟨r',rfl,hc2⟩:=bj hc1
    obtain⟨y,q,h0⟩:=aX hc2
    obtain⟨p,rfl⟩:=bx q
    obtain⟨h1,h2⟩:=aa h0
    obtain⟨h2,h3⟩:=aa h2
    obtain⟨h3,h4⟩:=aa h3
    obtain⟨h4,h5⟩:=aa h4
    obtain rfl:=eq_of_beq h2
    obtain rfl:=eq_of_beq h1
    exact P0 (by rw[A.g,A.k];exact g) (a.sound A hl h5 hw) (A.glb h3) (aY h4).1
  | _=>exact fE hc
def Ex.indexG{x:Str}{ss:List Str}(g:GT Ω.mg Ω.K x ss)(a:Ex Ω):Ex Ω where
 lev:=a.lev
 chk top N nm e:=match e with
  | .Call f es ks q=>ks.isEmpty&&dj es λ y=>anB (wZ f) λ u=>anB (nameV u.1) λ z=>(u.2.1==("index":Str))&&((u.2.2.endLine==q.line)&&((z==x)&&(glb nm x&&(okN x&&(okE y&&a.chk top N nm y)))))
  | _=>false
 wp Γ S W:=a.wp Γ S λ d S1=>∃(z:Str) (j:Nat),d=.str z/\ss[j]? =some z/\(∀m,m<j->ss[m]?≠some z)/\W (.int j) S1
 sound:=by
  intro X r top N nm e Γ S W A hl hc hw
  cases e with
  | Call f es ks q=>
    obtain⟨g1,h_1⟩:=aa hc
    obtain⟨y,rfl,h_2⟩:=bj h_1
    obtain⟨⟨f',n,p⟩,g2,h_3⟩:=aX h_2
    obtain⟨z,g3,h_4⟩:=aX h_3
    obtain⟨p',g4⟩:=bx g3
    have g4:f'=.Name z p':=g4
    subst g4
    obtain rfl:=zB g2
    obtain⟨k1,h2⟩:=aa h_4
    obtain⟨k2,h3⟩:=aa h2
    obtain⟨k3,h4⟩:=aa h3
    obtain⟨k4,h5⟩:=aa h4
    obtain⟨k5,h6⟩:=aa h5
    obtain⟨k6,k7⟩:=aa h6
    have k1:n="index":=eq_of_beq k1
    subst k1
    obtain rfl:=eq_of_beq k3
    cases ks with
    | cons=>cases g1
    | nil=>exact Ie (by rw[A.g,A.k];exact g) (a.sound A hl k7 hw) (A.glb k4) (aY k5).1 (aD k6 [] _) k2
  | _=>exact fE hc
end
section
variable {Ω : Wd}
def Te.tval(a:Ex Ω):Te Ω where
 lev:=a.lev
 chk top N nm e:=Ep e&&a.chk top N nm e
 wp Γ S W:=a.wp Γ S λ d S1=>∃ds,d=.tup ds/\ds.length≤1000000/\W (!ds.isEmpty) S1
 sound :=by
  intro X r top N nm e Γ S W A hl hc hw
  obtain⟨h1,h2⟩:=aa hc
  intro pins s σ H O I env st
  refine isTrue_plain (thn (a.sound A hl h2 hw pins s σ H O I env st) λ u s3 hq_=>?_) (zO h1 _ _)
  obtain⟨z,H3,I3,r3,O3,d,S3,⟨ds,rfl,hz,wc⟩,st3,ok3,rep3⟩:=hq_
  cases rep3 with
  | @tup p xs _ g1 q1=>
    cases r3
    obtain⟨its,rv,pl,hzz⟩:=I3.tuple g1.sq
    have l1:=rv.length
    have l2:=q1.length
    refine truthy_tuple pl (by simp only[w9];omega) ⟨H3,I3.tok _,O3,S3,?_,st3,ok3⟩
    rw[Fo rv]
    have e:xs.isEmpty=ds.isEmpty:=by
     cases xs with
     | nil=>cases ds with
       | nil=>rfl
       | cons _ _=>simp at l2
     | cons _ _=>cases ds with
       | nil=>simp at l2
       | cons _ _=>rfl
    rw[e]
    exact wc
end
section
variable {a b : Str} {S : Store} {W : Bool -> Store -> Prop}
theorem cL(w:W (a==b) S):aQ .Eq (.str a) (.str b) S W:=by unfold aQ;exact⟨⟨rfl,rfl,Nat.zero_le _⟩,w⟩
theorem Dy(w:W (!(a==b)) S):aQ .NotEq (.str a) (.str b) S W:=by unfold aQ;exact .inl ⟨⟨rfl,rfl,Nat.zero_le _⟩,w⟩
end
def mkS(l:List Nat):Str:=⟨l.toArray⟩
theorem gD(x:Str):mkS x.cps.toList=x:=by cases x;simp[mkS]
theorem aU(l:List Nat):(mkS l).cps.toList=l:=by simp[mkS]
theorem jw(l:List Nat):(mkS l).length=l.length:=by simp[mkS,Str.length]
theorem jJ(x y:Str):(x++y).cps.toList=x.cps.toList++y.cps.toList:=by simp[Str.cps_append]
theorem len_app(x y:Str):(x++y).length=x.length+y.length:=Str.length_append x y
theorem bJ(x:Str):x.length=x.cps.toList.length:=by simp[Str.length]
theorem m7{x y:Str}(h:x.cps.toList=y.cps.toList):x=y:=by rw[←gD x,←gD y,h]
def jn(c:Nat):List (List Nat)->List Nat
 | []=>[]
 | [x]=>x
 | x::y::r=>x++c::jn c (y::r)
theorem jK{c:Nat}(xs:List Str):(Txt.join (mkS [c]) xs).cps.toList=jn c (xs.map λ x=>x.cps.toList):=by
 show(Builtin.Str.glued (mkS [c]) xs).cps.toList=_
 rw[StrLaws.glued_eq_join]
 induction xs with
 | nil=>rfl
 | cons x r ih=>
   cases r with
   | nil=>rfl
   | cons y r=>
     show(x++mkS [c]++Str.join (mkS [c]) (y::r)).cps.toList=x.cps.toList++c::jn c _
     rw[jJ,jJ,ih,aU,List.append_assoc]
     rfl
theorem Pu{c:Nat}:∀{xs ys:List (List Nat)},xs≠[]->ys≠[]->(∀x∈xs,c∉x)->(∀y∈ys,c∉y)->jn c xs=jn c ys->xs=ys:=by
 have cut:∀(a b r s:List Nat),c∉a->c∉b->a++c::r=b++c::s->a=b/\r=s:=by
  intro a
  induction a with
  | nil=>
    intro b r s _ hb e
    cases b with
    | nil=>exact⟨rfl,by simpa using e⟩
    | cons z b=>
      have e1:c=z:=by simpa using(List.cons.inj e).1
      exact absurd (by rw[e1];exact v3) hb
  | cons z a ih=>
    intro b r s ha hb e
    cases b with
    | nil=>
      have e1:z=c:=by simpa using(List.cons.inj e).1
      exact absurd (by rw[e1];exact v3) ha
    | cons z' b=>
      obtain⟨e1,e2⟩:=List.cons.inj e
      obtain⟨i1,i2⟩:=ih b r s (λ h=>ha (x9 _ h)) (λ h=>hb (x9 _ h)) e2
      exact⟨by rw[e1,i1],i2⟩
 intro xs
 induction xs with
 | nil=>intro ys h;exact absurd rfl h
 | cons x r ih=>
   intro ys _ hy hx hyc e
   cases ys with
   | nil=>exact absurd rfl hy
   | cons y s=>
     have cx:=hx x v3
     have cy:=hyc y v3
     cases r with
     | nil=>
       cases s with
       | nil=>exact congrArg (λ z=>[z]) e
       | cons y' s=>
         have e:x=y++c::jn c (y'::s):=e
         exact absurd (by rw[e];simp) cx
     | cons x' r=>
       cases s with
       | nil=>
         have e:x++c::jn c (x'::r)=y:=e
         exact absurd (by rw[←e];simp) cy
       | cons y' s=>
         obtain⟨e1,e2⟩:=cut x y _ _ cx cy e
         rw[e1,ih (by simp) (by simp) (λ z hz=>hx z (x9 _ hz)) (λ z hz=>hyc z (x9 _ hz)) e2]
theorem gw{c:Nat}{xs:List Str}(h0:xs≠[])(h:∀x∈xs,c∉x.cps.toList):Txt.split (Txt.join (mkS [c]) xs) (mkS [c])=xs:=by
 have e1:=StrLaws.join_split (Txt.join (mkS [c]) xs) (mkS [c])
 have e2:=StrLaws.split_free (Txt.join (mkS [c]) xs) c
 have e3:Txt.join (mkS [c]) (Txt.split (Txt.join (mkS [c]) xs) (mkS [c]))=Txt.join (mkS [c]) xs:=by
  show Builtin.Str.glued _ _=_
  rw[StrLaws.glued_eq_join];exact e1
 have e4:=congrArg (λ z:Str=>z.cps.toList) e3
 simp only[jK]at e4
 have n:Txt.split (Txt.join (mkS [c]) xs) (mkS [c])≠[]:=λ z=>by
  have:=split_pos (Txt.join (mkS [c]) xs) (mkS [c])
  rw[z]at this
  simp at this
 have e5:=Pu (by simpa using n) (by simpa using h0) (λ x hx=>by obtain⟨s,hs,rfl⟩:=List.mem_map.mp hx;exact e2 s hs) (λ x hx=>by obtain⟨s,hs,rfl⟩:=List.mem_map.mp hx;exact h s hs) e4
 have inj:∀(a b:List Str),(a.map λ x=>x.cps.toList)=(b.map λ x=>x.cps.toList)->a=b:=by
  intro a
  induction a with
  | nil=>intro b e;cases b with
    | nil=>rfl
    | cons _ _=>cases e
  | cons x a ih=>intro b e;cases b with
    | nil=>cases e
    | cons y b=>
      obtain⟨e1,e2⟩:=List.cons.inj e
      rw[m7 e1,ih b e2]
 exact inj _ _ e5
abbrev nS(n:Int):Str:=Str.ofString (toString n)
def dg(m:Nat):List Nat:=(Nat.toDigits 10 m).map Char.toNat
def sg(n:Int):List Nat:=if n<0 then 45::dg n.natAbs else dg n.natAbs
theorem dJ(n:Int):(nS n).cps.toList=sg n:=by
 rw[signs_ofString]
 cases n with
 | ofNat m=>
   show(Nat.repr m).toList.map Char.toNat=_
   rw[Nat.toList_repr];rfl
 | negSucc m=>
   show(("-":String)++Nat.repr (m+1)).toList.map Char.toNat=_
   rw[String.toList_append,List.map_append,Nat.toList_repr]
   have e1:(Int.negSucc m).natAbs=m+1:=rfl
   have e2:List.map Char.toNat ("-":String).toList=[45]:=by decide+kernel
   unfold sg dg
   rw[if_pos (by omega),e1,e2];rfl
theorem ir{m:Nat}(h:m<10):dg m=[48+m]:=by
 unfold dg
 rw[Nat.toDigits_of_lt_base h]
 have:∀d:Nat,d<10->(Nat.digitChar d).toNat=48+d:=by decide
 show[(Nat.digitChar m).toNat]=_
 rw[this m h]
theorem tQ{m:Nat}(h:10≤m):dg m=dg (m/10)++[48+m % 10]:=by
 have hm:m % 10<10:=Nat.mod_lt m (by decide)
 have t:Nat.toDigits 10 (m/10)++Nat.toDigits 10 (m % 10)=Nat.toDigits 10 (10*(m/10)+m % 10):=Nat.toDigits_append_toDigits (by decide) (by omega) hm
 rw[Nat.div_add_mod]at t
 have e:=ir hm
 unfold dg at e ⊢
 rw[←t,List.map_append,e]
theorem ik(m:Nat):∀c∈dg m,48≤c/\c≤57:=by
 induction m using Nat.strongRecOn with
 | _ m ih=>
   by_cases h:m<10
   . rw[ir h]
     intro c hc
     rw[List.mem_singleton.mp hc];omega
   . rw[tQ (by omega)]
     intro c hc
     rcases List.mem_append.mp hc with hc | hc
     . exact ih (m/10) (by omega) c hc
     . rw[List.mem_singleton.mp hc];omega
theorem BV(m:Nat):∃c r,dg m=c::r/\(m≠0->c≠48)/\(m=0->c=48/\r=[]):=by
 induction m using Nat.strongRecOn with
 | _ m ih=>
   by_cases h:m<10
   . rw[ir h]
     exact⟨_,_,rfl,λ z=>by omega,λ z=>by subst z;exact⟨rfl,rfl⟩⟩
   . obtain⟨c,r,e,h1,_⟩:=ih (m/10) (by omega)
     rw[tQ (by omega),e]
     exact⟨c,_,rfl,λ _=>h1 (by omega),λ z=>by omega⟩
theorem Q8:∀(k:Nat){m:Nat},m<10 ^ (k+1)->(dg m).length≤k+1:=by
 intro k
 induction k with
 | zero=>intro m h;rw[ir (by simpa using h)];simp
 | succ k ih=>
   intro m h
   by_cases h1:m<10
   . rw[ir h1];simp
   . rw[tQ (by omega),List.length_append]
     have e:10 ^ (k+1+1)=10*10 ^ (k+1):=by rw[Nat.pow_succ,Nat.mul_comm]
     have:=ih (m:=m/10) (by omega)
     simp only[List.length_cons,List.length_nil];omega
theorem Io(m:Nat):NumText.digitsVal (dg m)=m:=PySem.W.KIN.val_back m
theorem Ou(n:Int):∀c∈sg n,c=45∨(48≤c/\c≤57):=by
 intro c hc
 unfold sg at hc
 split at hc
 . rcases List.mem_cons.mp hc with rfl | hc
   . exact .inl rfl
   . exact .inr (ik _ c hc)
 . exact .inr (ik _ c hc)
theorem R8{n:Int}{k:Nat}(h:n.natAbs<10 ^ (k+1)):(sg n).length≤k+2:=by
 have:=Q8 k h
 unfold sg
 split<;>simp<;>omega
theorem Jz{n:Int}(h:(sg n).length≤600):intText? (nS n)=some n:=by
 have hl:(nS n).length≤4300:=by rw[bJ,dJ];omega
 obtain⟨c,r,e,_⟩:=BV n.natAbs
 by_cases hn:n<0
 . have e1:(nS n).cps.toList=45::dg n.natAbs:=by rw[dJ];unfold sg;rw[if_pos hn]
   rw[intText_neg e1 (ik _) (by rw[e];simp) hl,Io]
   congr 1;omega
 . have e1:(nS n).cps.toList=dg n.natAbs:=by rw[dJ];unfold sg;rw[if_neg hn]
   rw[intText_digits (by rw[e1];exact ik _) (by rw[e1,e];simp) hl,e1,Io]
   congr 1;omega
def dgB(c:Nat):Bool:=decide (48≤c)&&decide (c≤57)
def woS(l:List Nat):List Nat:=if l.head? =some 45 then l.drop 1 else l
def iV(l:List Nat):Bool:=!(woS l).isEmpty&&((woS l).all dgB&&(!((woS l).head? ==some 48)||l==[48]))
theorem Jb(n:Int):iV (sg n)=true:=by
 obtain⟨c,r,e,h1,h2⟩:=BV n.natAbs
 have hd:=ik n.natAbs
 have all:(dg n.natAbs).all dgB=true:=by
  rw[List.all_eq_true]
  intro x hx
  have:=hd x hx
  unfold dgB
  rw[decide_eq_true this.1,decide_eq_true this.2];rfl
 have e2:woS (sg n)=dg n.natAbs:=by
  unfold sg
  split
  . rfl
  . unfold woS
    rw[if_neg]
    rw[e]at hd ⊢
    have:=hd c v3
    simp;omega
 unfold iV
 rw[e2,all,e]
 by_cases hz:n.natAbs=0
 . obtain⟨rfl,rfl⟩:=h2 hz
   have:sg n=[48]:=by unfold sg;rw[if_neg (by omega),e]
   rw[this];rfl
 . have:=h1 hz
   have:(some c==some 48)=false:=by simpa using this
   simp[this]
theorem Mh(x:Str)(c:Nat):Txt.startswith x (mkS [c])=decide (x.cps.toList.head? =some c):=by
 show(decide (0+(mkS [c]).length≤x.length)&&Builtin.Str.subAt x (mkS [c]) 0)=_
 rw[StrLaws.subAt_eq,jw,aU,bJ,List.drop_zero]
 generalize x.cps.toList=l
 cases l with
 | nil=>rfl
 | cons a l=>
   simp only[List.length_cons,List.length_nil,List.head?_cons,List.take_succ_cons,List.take_zero]
   rw[decide_eq_true (by omega:0+(0+1)≤l.length+1),Bool.true_and]
   by_cases h:a=c
   . subst h
     rw[show([a]==[a])=true by simp]
     exact(decide_eq_true rfl).symm
   . rw[show([a]==[c])=false by simpa using h]
     exact(decide_eq_false (by simpa using h)).symm
theorem Dr(x:Str)(h:1≤x.length):Txt.slice x (some 1) none=mkS (x.cps.toList.drop 1):=by
 have hs:Builtin.Str.strSliceIndices (some 1) none 1 x.length=Builtin.Str.strSliceIndices (some ((1:Nat):Int)) (some ((x.length:Nat):Int)) 1 x.length:=by
  have h2:¬((x.length:Int)<0):=by omega
  have e2:max (0:Int) (min (x.length:Int) (x.length:Int))=x.length:=by omega
  simp[Builtin.Str.strSliceIndices,sliceRange,h2,e2]
 unfold Txt.slice
 rw[hs,StrLaws.sliced_plain x h (x8 _),StrLaws.strSliceIndices_plain h (x8 _)]
 have:((List.range (x.length-1)).map λ k=>1+k).length≠x.length:=by simp;omega
 rw[if_neg (by simpa using this)]
 have hl:=bJ x
 show mkS _=mkS _
 congr 1
 exact List.take_of_length_le (by rw[List.length_drop];omega)
theorem KR(x:Str){k:Nat}(h:x.length≤k):Txt.slice x none (some (k:Int))=x:=by
 have hs:Builtin.Str.strSliceIndices none (some (k:Int)) 1 x.length=Builtin.Str.strSliceIndices (some ((0:Nat):Int)) (some ((x.length:Nat):Int)) 1 x.length:=by
  have h1:¬((k:Int)<0):=by omega
  have h2:¬((x.length:Int)<0):=by omega
  have e1:max (0:Int) (min (k:Int) (x.length:Int))=x.length:=by omega
  have e2:max (0:Int) (min (x.length:Int) (x.length:Int))=x.length:=by omega
  have e3:min (k:Int) (x.length:Int)=x.length:=by omega
  have e4:max (0:Int) (min 0 (x.length:Int))=0:=by omega
  simp[Builtin.Str.strSliceIndices,h1,h2,e1,e2,e3,e4]
 unfold Txt.slice
 rw[hs,StrLaws.strSliceIndices_plain (Nat.zero_le _) (x8 _)]
 rw[if_pos (by simp)]
end RF
namespace XE
open PySem PySem.Spec L2 DL RF
open PyProof.Rows
def Lg(base:Heap)(l:List Env)(e:Addr)(cls a0:Value)(h:Heap):Prop:=base.StaysIn h/\base.get? e=none/\h.FunFrames base l/\∃fl,h.TracedAtW base e cls a0 fl
section
variable {M : Model} {A : Around} {E : Value -> Shared -> Prop} {s : Shared}
theorem Ht{base:Heap}{env:Env}{outer:List Env}{L e:Addr}{cls a0:Value}{Q:Unit->Shared->Prop}(fr:A.frames=some (env::outer))(hf:env.frame=some L)(x:Lg base (env::outer) e cls a0 s.heap)
 (k:∀h',Heap.FlyingW base outer e cls a0 h'->(∀b o,s.heap.get? b=some o->(∀vs,o.data≠.fields vs)->∃sl,h'.get? b=some {o with slots:=sl})->Q () {s with heap:=h'}):wpAny M A (leaving env (.ref e)) Q E s:=by
 obtain⟨x1,x2,x3,fl,x4⟩:=x
 by_cases hl:fl=rawInt L
 . subst hl
   unfold leaving
   refine wpAny_bind (wpAny_noteFrame_againW hf x4 ?_)
   refine wpAny_landsW ⟨x1,x2,x3,x4⟩ λ h' hfl up=>?_
   obtain⟨k1,k2,⟨_,_,k3⟩,k4⟩:=hfl
   exact k h' ⟨k1,k2,k3,k4⟩ up
 . obtain⟨oe,vs,T,oT,ts,he,⟨rfl,g0⟩,hd,g1,gn,gne,hT,gd,g3⟩:=x4
   have nr:∀b o,s.heap.get? b=some o->(∀vs,o.data≠.fields vs)->b≠T:=λ b o hb z q=>by
    subst q
    rw[hT]at hb
    cases hb
    exact z ts gd
   have ot:∀b,b≠T->(s.heap.update T (Obj.mapFields (·.setIfInBounds 3 Value.none))).get? b=s.heap.get? b:=λ b hb=>Heap.get?_update_other _ _ λ q=>hb q.symm
   unfold leaving noteFrame
   rw[hf]
   refine wpAny_bind (wpAny_bind (wpAny_field he hd g1 ?_))
   rw[if_pos (by rfl)]
   refine wpAny_bind (wpAny_field hT gd g3 ?_)
   rw[if_neg (by simpa using hl)]
   refine wpAny_bind (wpAny_setField hT gd (Array.getElem?_eq_some_iff.mp g3).1 ?_)
   refine wpAny_newEntryW fr (x3.of_keeps λ b o hb z=>⟨o,(ot b (nr b o hb z)).trans hb,rfl⟩) hf ((ot e gne.symm).trans he) (λ b o hb=>(ot b λ q=>by subst q;rw[gn]at hb;cases hb).trans (x1 b o hb)) x2 hd (Array.getElem?_eq_some_iff.mp g1).1 g0 λ h' hL=>?_
   obtain⟨k1,⟨_,_,k2⟩,k3,k4⟩:=hL
   exact k h' ⟨k1,x2,k2,k3⟩ λ b o hb z=>k4 b o ((ot b (nr b o hb z)).trans hb) z
end
section
variable {X : Cx} {pins : Pins} {σ : L2.St} {H1 : Hp} {s1 : Shared} {O : Own} {H : Hp} {WE : WX}
theorem Dk(I:Inv X pins σ H1 s1)(hst:X.stack=X.env::X.outer)(hfr:X.env.frame=some X.env.locals)(hex:X.ex=[]){a C t:Addr}{po:Option Addr}{H':Hp}{B:Heap}{Z:List Addr}{s2:Shared}{h3:Heap}
 (hZ:∀b∈Z,X.s₀.heap.objs.size≤b/\H' b=none)(ho:s2.os=s1.os)(hg:AllBare s2.gens)(fl:Fl X.prog X.w X.stack H1 s1.heap H' B s2.heap)(hv:Lg (PySem.W.hideAll B Z) X.stack a (.ref C) (.ref t) h3)
 (up:∀b o,s2.heap.get? b=some o->b∈frs X.stack->∃sl,h3.get? b=some {o with slots:=sl})(lk:∀dx,po=some dx->∃o,h3.get? a=some o/\o.dict=some dx)(hE:QX X.mg X.K O H WE (.ref C) po H'):XL X O H WE (.ref a) {s2 with heap:=h3}:=by
 have fs:frs X.stack=X.env.locals::frs X.outer:=by rw[hst];exact eV X.outer X.env hfr
 unfold XL
 rw[hst]at hv
 refine wpAny_mono ((gm X.env (.ref a)).any (Ht (Q:=λ _ s'=>∃h',s'={s2 with heap:=h'}/\Heap.FlyingW (PySem.W.hideAll B Z) X.outer a (.ref C) (.ref t) h'/\∀b o,h3.get? b=some o->(∀vs,o.data≠.fields vs)->∃sl,h'.get? b=some {o with slots:=sl}) (E:=λ _ _=>False) (I.ok.frames.trans (by rw[hst])) hfr hv λ h' x1 x2=>⟨h',rfl,x1,x2⟩)) (λ _ s' z=>?_) λ _ _ z=>z.1
 obtain⟨⟨h',rfl,x1,x2⟩,dk⟩:=z
 have ne:∀b o,X.s₀.heap.get? b=some o->b≠X.env.locals:=λ b o q z=>absurd (Nat.lt_of_lt_of_le (Heap.lt_size q) (z▸I.ok.above)) (Nat.lt_irrefl _)
 have nz:∀b o,X.s₀.heap.get? b=some o->b∉Z:=λ b o q z=>absurd (Nat.lt_of_lt_of_le (Heap.lt_size q) (hZ b z).1) (Nat.lt_irrefl _)
 have nin:∀b o,X.s₀.heap.get? b=some o->b∉frs X.outer->b∉frs X.stack:=λ b o q hb z=>by
  rw[fs]at z
  rcases List.mem_cons.mp z with z | z
  . exact ne b o q z
  . exact hb z
 have nx:∀b:Addr,b∉X.ex:=λ b z=>by rw[hex]at z;cases z
 refine⟨λ c q H2=>c=.ref C/\q=po/\H2=H',⟨a,C,t,po,H',_,rfl,ho.trans I.os,hg,⟨λ b u e=>?_,λ b o q n hb=>?_,λ b o q hb=>?_,λ b o q hb=>?_,λ b o q n=>?_,λ b xs q=>fl.tups b xs (I.base.tups b xs q),λ b o u q=>fl.frzs b o u (I.base.frzs b o u q),λ b ps q=>?_⟩,x1,λ dx e=>?_,rfl,rfl,rfl⟩,?_⟩
 . refine(fl.hok b u e).stay (λ c v hc r=>?_) (λ _ r=>r) (λ _ _ r=>r)
   refine PySem.W.hideAll_get _ r λ z=>?_
   have n:=(hZ c z).2
   rcases hc with rfl | hc
   . rw[e]at n;cases n
   . rw[hc]at n;cases n
 . exact PySem.W.hideAll_get _ (fl.keep b o (I.base.keep b o q n hb (nx b)) (I.base.free b o q n (nx b)) (nin b o q hb)) (nz b o q)
 . obtain⟨o',e⟩:=I.base.there b o q (nx b)
   obtain⟨o2,e2⟩:=fl.there b o' e (nin b o q hb)
   exact⟨o2,PySem.W.hideAll_get _ e2 (nz b o q)⟩
 . obtain⟨sl,e⟩:=I.base.slot b o q (I.ok.frf b hb) hb (nx b)
   have hb':b∈frs X.stack:=by rw[fs];exact x9 _ hb
   obtain⟨sl2,e2⟩:=fl.slot b _ e hb'
   obtain⟨sl3,e3⟩:=up b _ e2 hb'
   have hb2:b∈(X.env::X.outer).filterMap (·.frame):=by rw[←hst];exact hb'
   obtain⟨_,o',e',d⟩:=hv.2.2.1.mem hb2
   rw[e3]at e'
   cases e'
   obtain⟨sl4,e4⟩:=x2 b _ e3 d
   exact⟨sl4,e4⟩
 . obtain⟨o',e⟩:=I.base.there b o q (nx b)
   exact fl.free b o' e (I.base.free b o q n (nx b))
 . obtain⟨m1,e1⟩:=I.base.tbls b ps q
   obtain⟨m2,e2⟩:=fl.tbls b _ e1
   exact⟨m1++m2,by rw[e2,Array.append_assoc]⟩
 . obtain⟨o,e1,e2⟩:=lk dx e
   obtain⟨o',e3,e4⟩:=dk a o e1
   exact⟨o',e3,e4.trans e2⟩
 . rintro c q H2 ⟨e,rfl,rfl⟩
   cases e
   exact hE
theorem Vh(I:Inv X pins σ H1 s1)(hst:X.stack=X.env::X.outer)(hfr:X.env.frame=some X.env.locals)(hex:X.ex=[]){E':XK}{e:Value}{s2:Shared}(h:CXE X.prog X.w X.stack H1 s1 E' e s2)(hE:∀c po H',E' (.ref c) po H'->QX X.mg X.K O H WE (.ref c) po H'):XL X O H WE e s2:=by
 obtain⟨a,C,t,po,H',B,rfl,ho,hg,fl,fw,lk,hq⟩:=h
 obtain⟨f1,f2,f3,f4⟩:=fw
 exact Dk (Z:=[]) I hst hfr hex (λ b hb=>nomatch hb) ho hg fl ⟨f1,f2,f3,_,f4⟩ (λ b o e _=>⟨o.slots,e⟩) lk (hE C po H' hq)
theorem Oe(I:Inv X pins σ H1 s1)(hst:X.stack=X.env::X.outer)(hfr:X.env.frame=some X.env.locals)(hex:X.ex=[]){a C:Addr}{vs:List Value}{s2:Shared}(ho:s2.os=s1.os)(hg:s2.gens=s1.gens)(hx:Heap.MadeExcOf s1.heap s2.heap a (.ref C) vs)(hE:QX X.mg X.K O H WE (.ref C) none H1):XL X O H WE (.ref a) s2:=by
 have hin:∀env∈X.env::X.outer,∀b,env.frame=some b->b∈frs X.stack:=λ env he b hb=>by rw[hst];exact List.mem_filterMap.mpr ⟨env,he,hb⟩
 unfold XL
 refine wpAny_leaves_madeW (base:=PySem.W.hideAll s1.heap (frs X.stack)) (h:=s1.heap) (outer:=X.outer) (I.ok.frames.trans (by rw[hst])) hfr (λ b o q=>PySem.W.of_hideAll _ q) (PySem.W.funFrames_hide (by have:=I.stack;rw[hst]at this;exact this) hin) hx λ h' t x1 x2 x3 x4=>?_
 refine⟨λ c q H2=>c=.ref C/\q=none/\H2=H1,⟨a,C,t,none,H1,_,rfl,ho.trans I.os,by show AllBare s2.gens;rw[hg];exact I.bare,?_,x1,(λ _ z=>nomatch z),rfl,rfl,rfl⟩,?_⟩
 . refine K6 I hst hfr hex λ b o q hb=>?_
   obtain⟨_,o',e',d⟩:=I.funs.mem hb
   rw[q]at e'
   cases e'
   exact x4 b o (hx.keeps b o q) d
 . rintro c q H2 ⟨e,rfl,rfl⟩
   cases e
   exact hE
theorem R3(I:Inv X pins σ H1 s1)(hst:X.stack=X.env::X.outer)(hfr:X.env.frame=some X.env.locals)(hex:X.ex=[]){a C t dx:Addr}(ha:H1 a=some (.ext (ExO a C t (some dx))))(new:X.s₀.heap.get? a=none)(hE:QX X.mg X.K O H WE (.ref C) (some dx) (off H1 a)):XL X O H WE (.ref a) s1:=by
 unfold XL
 have fs:frs X.stack=X.env.locals::frs X.outer:=by rw[hst];exact eV X.outer X.env hfr
 have he:ExO a C t (some dx) s1.heap:=(I.hok a _ ha).1
 have hin:∀env∈X.env::X.outer,∀b,env.frame=some b->b∈a::frs X.stack:=λ env he b hb=>x9 _ (by rw[hst];exact List.mem_filterMap.mpr ⟨env,he,hb⟩)
 have hen:(PySem.W.hideAll s1.heap (a::frs X.stack)).get? a=none:=PySem.W.hideAll_none _ (v3 ..)
 have lv:=wpAny_leaving_firstW (M:=model X.prog X.w) (A:=X.A) (E:=λ _ _=>False) (Q:=λ _ s'=>∃h',s'={s1 with heap:=h'}/\Heap.LeftW (PySem.W.hideAll s1.heap (a::frs X.stack)) (X.env::X.outer) a (.ref C) (.ref t) s1.heap h')
  (base:=PySem.W.hideAll s1.heap (a::frs X.stack)) (I.ok.frames.trans (by rw[hst])) (PySem.W.funFrames_hide (by have:=I.stack;rw[hst]at this;exact this) hin) hfr he (λ b o q=>PySem.W.of_hideAll _ q) hen rfl rfl rfl λ h' hL=>⟨h',rfl,hL⟩
 refine wpAny_mono ((gm X.env (.ref a)).any lv) (λ _ s' z=>?_) λ _ _ z=>z.1
 obtain⟨⟨h',rfl,k1,⟨_,_,k2⟩,k3,k4⟩,dk⟩:=z
 have ne:∀b o,X.s₀.heap.get? b=some o->b≠X.env.locals:=λ b o q z=>absurd (Nat.lt_of_lt_of_le (Heap.lt_size q) (z▸I.ok.above)) (Nat.lt_irrefl _)
 have na:∀b o,X.s₀.heap.get? b=some o->b≠a:=λ b o q z=>by rw[z,new]at q;cases q
 have nin:∀b o,X.s₀.heap.get? b=some o->b∉frs X.outer->b∉a::frs X.stack:=λ b o q hb z=>by
  rcases List.mem_cons.mp z with z | z
  . exact na b o q z
  . rw[fs]at z
    rcases List.mem_cons.mp z with z | z
    . exact ne b o q z
    . exact hb z
 have nx:∀b:Addr,b∉X.ex:=λ b z=>by rw[hex]at z;cases z
 have up:∀b u,H1 b=some u->(∀φ,u≠.ext φ)->off H1 a b=some u:=λ b u q n=>by
  rw[off_ne λ z=>?_];exact q
  rw[z,ha]at q
  exact n _ (Option.some.inj q).symm
 refine⟨λ c q H2=>c=.ref C/\q=some dx/\H2=off H1 a,⟨a,C,t,some dx,off H1 a,_,rfl,I.os,I.bare,⟨λ b o e=>?_,λ b o q n hb=>?_,λ b o q hb=>?_,λ b o q hb=>?_,λ b o q n=>?_,λ b xs q=>?_,λ b o u q=>?_,λ b ps q=>?_⟩,⟨k1,hen,k2,k3⟩,λ d e=>?_,rfl,rfl,rfl⟩,?_⟩
 . obtain⟨n,e⟩:=FT e
   refine(I.hok b o e).stay (λ c u hc r=>?_) (λ c r=>up c _ r λ _ z=>nomatch z) (λ c xs r=>up c _ r λ _ z=>nomatch z)
   refine PySem.W.hideAll_get _ r λ z=>?_
   rcases List.mem_cons.mp z with z | z
   . rcases hc with rfl | hc
     . exact n z
     . rw[z,ha]at hc;cases hc
   . have n':=I.stkFree c z
     rcases hc with rfl | hc
     . rw[e]at n';cases n'
     . rw[hc]at n';cases n'
 . exact PySem.W.hideAll_get _ (I.base.keep b o q n hb (nx b)) (nin b o q hb)
 . obtain⟨o',e⟩:=I.base.there b o q (nx b)
   exact⟨o',PySem.W.hideAll_get _ e (nin b o q hb)⟩
 . obtain⟨sl,e⟩:=I.base.slot b o q (I.ok.frf b hb) hb (nx b)
   obtain⟨_,o',e',d⟩:=I.funs.mem hb
   rw[e]at e'
   cases e'
   obtain⟨sl2,e2⟩:=k4 b _ e d
   exact⟨sl2,e2⟩
 . rw[off_ne (na b o q)];exact I.base.free b o q n (nx b)
 . exact up b _ (I.base.tups b xs q) λ _ z=>nomatch z
 . exact up b _ (I.base.frzs b o u q) λ _ z=>nomatch z
 . obtain⟨m,e⟩:=I.base.tbls b ps q
   exact⟨m,up b _ e λ _ z=>nomatch z⟩
 . obtain⟨o',e1,e2⟩:=dk a _ he
   cases e
   exact⟨o',e1,e2⟩
 . rintro c q H2 ⟨e,rfl,rfl⟩
   cases e
   exact hE
theorem XR.xl(hst:X.stack=X.env::X.outer)(hfr:X.env.frame=some X.env.locals)(hex:X.ex=[]){e:Value}{s2:Shared}(z:XR X O H WE e s2):XL X O H WE e s2:=by
 rcases z with⟨pins,σ,H1,s1,a,C,vs,rfl,I1,h3,h4,h5,h6⟩ | ⟨pins,σ,H2,s1,E',I1,h2,h3⟩ | ⟨pins,σ,H2,a,C,t,dx,rfl,I1,h3,h4,h5⟩ | z
 . exact Oe I1 hst hfr hex h3 h4 h5 h6
 . exact Vh I1 hst hfr hex h2 h3
 . exact R3 I1 hst hfr hex h3 (h4 hex) h5
 . exact z
end
def EvR(X:Cx)(Γ:Gam)(S:Store)(e:Expr)(W:WD)(WE:WX):Prop:=
 ∀ (pins:Pins)(s:Shared)(σ:L2.St)(H:Hp)(O:Own),Inv X pins σ H s->EnvOk X.K O H σ Γ->StOk X.K O H S->
   wpAny (model X.prog X.w) X.A (eval e X.env) (EP X pins σ (QG X.K O H W)) (XR X O H WE) s
def su(X:Cx)(Γ:Gam)(S:Store)(es:List Expr)(W:List D->Store->Prop)(WE:WX):Prop:=
 ∀ (pos:Pos)(pins:Pins)(s:Shared)(σ:L2.St)(H:Hp)(O:Own),Inv X pins σ H s->EnvOk X.K O H σ Γ->StOk X.K O H S->
   wpAny (model X.prog X.w) X.A (spliced (backTo pos (starEach es X.env))) (AP X pins σ (QA X.K O H W)) (XR X O H WE) s
section
variable {X : Cx} {Γ : Gam} {S : Store} {W : WD} {WE : WX} {a b e : Expr} {es : List Expr} {sts : List Stmt} {F : DL.Fin} {pos : Pos}
theorem Fp{pins:Pins}{σ:L2.St}{Q:VK}{u:Value}{s:Shared}(h:EP X.nox pins σ Q u s):EP X pins σ Q u s:=by
 obtain⟨v,H',I,r,q⟩:=h
 exact⟨v,H',I.unwish,r,q⟩
theorem Tq(h:Ev X.nox Γ S e W):EvR X Γ S e W WE:=λ pins s σ H O I env st=>
 wpAny_mono (h pins s σ H O (I.wish _) env st) (λ _ _ q=>Fp q) λ _ _ z=>z.elim
theorem Vl(h:EvX X Γ S e W WE):EvR X Γ S e W WE:=λ pins s σ H O I env st=>
 wpAny_mono (h pins s σ H O I env st) (λ _ _ q=>q) λ _ _ z=>z.xr
theorem EvR.mono{W':WD}(h:EvR X Γ S e W WE)(k:∀d S',W d S'->W' d S'):EvR X Γ S e W' WE:=λ pins s σ H O I env st=>
 thn (h pins s σ H O I env st) λ _ _ hq_=>by obtain⟨v,H',I',r,O',d,S',w,q⟩:=hq_;exact⟨v,H',I',r,O',d,S',k d S' w,q⟩
theorem O9{op:Operator}(h:EvR X Γ S a (λ x S1=>EvR X Γ S1 b (λ y S2=>cA X.nox op x y S2 W) WE) WE):EvR X Γ S (.BinOp a op b pos) W WE:=by
 intro pins s σ H O I env st
 refine wpAny_BinOp (thn (h pins s σ H O I env st) λ u s1 hq_=>?_)
 obtain⟨v,H1,I1,r1,O1,x,S1,hb,st1,ok1,rep1⟩:=hq_
 refine wpAny_mono (hb pins s1 σ H1 O1 I1 (env.mono st1) ok1) (λ u' s2 hq_=>?_) λ _ _ z=>z.pre st1
 obtain⟨w,H2,I2,r2,O2,y,S2,hw,st2,ok2,rep2⟩:=hq_
 exact wpAny_mono (hw pins s2 σ H2 O2 v w u u' (I2.wish _) ok2 (rep1.mono st2) rep2 r1 r2) (λ _ _ q=>cM (st1.trans st2) (Fp q)) λ _ _ z=>z.elim
theorem yD{W:List D->Store->Prop}(w:W [] S):su X Γ S [] W WE:=λ _ pins s σ H O I _ st=>Calls.spliced_nil ⟨[],H,I,.nil,O,[],S,w,Step.refl O H,st,.nil⟩
theorem uZ{W:List D->Store->Prop}(h:EvR X Γ S e (λ d S1=>su X Γ S1 es (λ ds S2=>W (d::ds) S2) WE) WE)(hs:starEach (e::es) X.env=(false,eval e X.env)::starEach es X.env):su X Γ S (e::es) W WE:=by
 intro pos pins s σ H O I env st
 rw[hs]
 show wpAny _ _ (spliced ((false,eval e X.env)::backTo pos (starEach es X.env))) _ _ s
 refine Calls.spliced_cons (thn (h pins s σ H O I env st) λ u s1 hq_=>?_)
 obtain⟨v,H1,I1,r1,O1,x,S1,hb,st1,ok1,rep1⟩:=hq_
 exact wpAny_mono (hb pos pins s1 σ H1 O1 I1 (env.mono st1) ok1) (λ us s2 hq_=>by obtain⟨xs,H2,I2,r2,O2,ds,S2,w,st2,ok2,rep2⟩:=hq_;exact⟨v::xs,H2,I2,.cons r1 r2,O2,x::ds,S2,w,st1.trans st2,ok2,.cons (rep1.mono st2) rep2⟩) λ _ _ z=>z.pre st1
theorem Ol{x1}(h:su X Γ S es (λ ds S1=>ds.length≤1000000/\W (.tup ds) S1) WE):EvR X Γ S (.Tuple es x1 pos) W WE:=by
 intro pins s σ H O I env st
 refine wpAny_Tuple_spliced (thn (h pos pins s σ H O I env st) λ us s1 hq_=>?_)
 obtain⟨xs,H1,I1,r,O1,ds,S1,⟨z,w⟩,st1,ok1,rep⟩:=hq_
 refine⟨by rw[←r.length,rep.length];exact small z,?_⟩
 have hf:H1 s1.heap.objs.size=none:=I1.hok.fresh (x8 _)
 refine⟨.ref s1.heap.objs.size,upd H1 s1.heap.objs.size (.tup xs),I1.laid (t':=s1.toks) (λ b u e=>Heap.get?_push_of_some _ e) (x8 _) ?_,rfl,(gM w ok1 hf rep).pre st1⟩
 exact⟨by rw[rep.length];exact small z,us,r,⟨_,Heap.get?_push_size _ rfl,rfl,_,rfl⟩⟩
theorem Nt{x:Str}{p:Pos}{T:String}(h:su X Γ S (e::es) (λ ds S1=>bG X.nox (.type T) ds S1 W) WE)(hm:X.mg x=none)(hv:bootBuiltins x=some (.type T))(hg:Gl X x)(hn:x≠"__name__")(hdb:(x==("__debug__":Str))=false)
 (he:starEach (e::es) X.env=(false,eval e X.env)::starEach es X.env)(hpl:(backTo pos (starEach es X.env)).any (·.1)=false):EvR X Γ S (.Call (.Name x p) (e::es) [] pos) W WE:=by
 intro pins s σ H O I env st
 refine wpAny_Call_Name_kw (cZ I hg hm hv ?_ hn hdb)
 refine PyProof.Rows.callWith_type1 (thn (h pos pins s σ H O I env st) λ us s1 hq_=>?_) he hpl
 obtain⟨vs,H1,I1,r1,O1,ds,S1,w,st1,ok1,rep⟩:=hq_
 exact wpAny_mono (w pins s1 σ H1 O1 vs us (I1.wish _) ok1 rep r1) (λ _ _ q=>cM st1 (Fp q)) λ _ _ z=>z.elim
theorem Qf(h:EvR X Γ S e F.rt WE):aK X Γ S (.Return (some e) pos::sts) F WE:=by
 intro pins s σ H O I env ok
 refine wpAny_execs_cons (wpAny_Return_some (thn (h pins s σ H O I env ok) λ v s1 hq=>?_))
 obtain⟨x,H1,I1,r1,q1⟩:=hq
 exact⟨x,σ,H1,I1,r1,q1⟩
theorem QC(i:Nat){x:Str}{pos':Pos}(h:EvR X Γ S e (λ d S1=>aK X (Γ.set i (some d)) S1 sts F WE) WE)(hN:X.N.Nodup)(hi:X.N[i]? =some x)(hx:Loc X.env.scope x)
 (hs:swapsWith e (some (.Name x pos')) pos.line X.env=pure false)(hf:X.fn x=true∨X.env.scope.names.lookup x=some .local):aK X Γ S (.Assign [.Name x pos'] e pos::sts) F WE:=by
 intro pins s σ H O I env ok
 refine wpAny_execs_cons (wpAny_Assign_Name (thn (h pins s σ H O I env ok) λ v s1 hq=>?_) hs)
 obtain⟨y,H1,I1,r1,O1,d,S1,w,st1,ok1,rep1⟩:=hq
 refine gV I1 hN hi hx r1 (λ s2 I2=>?_) hf
 exact wpAny_mono (w pins s2 _ H1 O1 I2 ((env.mono st1).set rep1 i) ok1) (λ _ _ q=>cD st1 q) λ _ _ z=>z.pre st1
theorem J7{o i:Expr}{tpos:Pos}(h:EvR X Γ S e (λ d S1=>Ev X.nox Γ S1 o λ x S2=>Ev X.nox Γ S2 i λ y S3=>∃k n ds j,x=.loc k/\y=.int n/\S3[k]? =some ds/\L2.ixN ds.length n=some j/\aK X Γ (S3.set k (ds.set j d)) sts F WE) WE)
 (ha:∀v,assign (.Subscript o i tpos) X.env v=(do
  let p ←holding [v] (eval o X.env)
  let q ←holding [v,p] (eval i X.env)
  standAt tpos
  holding [v,p,q] (setItem p q v)
  release [v,p,q] []))(hs:swapsWithSole [.Subscript o i tpos] e pos.line X.env=pure false)(hw:swappedStores [.Subscript o i tpos] e X.env=pure none)
 (h1:(assignEach [.Subscript o i tpos] X.env).map (·.2)=[assign (.Subscript o i tpos) X.env]):aK X Γ S (.Assign [.Subscript o i tpos] e pos::sts) F WE:=by
 intro pins s σ H O I env ok
 refine wpAny_execs_cons (wpAny_Assign_stores (thn (h pins s σ H O I env ok) λ u s1 hq_=>?_) hs hw)
 obtain⟨v,H1,I1,r1,O1,d,S1,w1,st1,ok1,rep1⟩:=hq_
 rw[h1]
 show wpAny _ _ (assign (.Subscript o i tpos) X.env u) _ _ _
 rw[ha]
 refine wpAny_bind (wpAny_holding (wpAny_mono (w1 pins s1 σ H1 O1 (I1.wish _) (env.mono st1) ok1) (λ ov s2 hq_=>?_) λ _ _ z=>z.elim))
 obtain⟨x,H2,I2,r2,O2,dx,S2,w2,st2,ok2,rep2⟩:=hq_
 refine wpAny_bind (wpAny_holding (wpAny_mono (w2 pins s2 σ H2 O2 I2 ((env.mono st1).mono st2) ok2) (λ iv s3 hq_=>?_) λ _ _ z=>z.elim))
 obtain⟨y,H3,I3,r3,O3,dy,S3,⟨k,n,ds,j,ex,ey,hk,hj,w⟩,st3,ok3,rep3⟩:=hq_
 subst ex
 subst ey
 have rx:=rep2.mono st3
 cases rx with
 | @loc p _ hp=>
   cases rep3
   obtain⟨xs,hx,q⟩:=ok3.obj k p ds hp hk
   have rd:=(rep1.mono st2).mono st3
   refine wpAny_bind (wpAny_standAt (wpAny_bind (wpAny_holding (wpAny_mono (set_list (X:=X.nox) pins s3 σ H3 _ _ v ov iv u (λ H'=>H'=upd H3 p (.lst (xs.set j v))) I3 r2 r3 r1 ⟨p,xs,n,j,rfl,rfl,hx,by rw[q.length];exact hj,rfl⟩) (λ _ s4 hq_=>?_) λ _ _ z=>z.elim))))
   obtain⟨H4,I4,e4⟩:=hq_
   subst e4
   have stA:=((st1.trans st2).trans st3).trans (Step.put (d9 hp) (.lst (xs.set j v)))
   refine wpAny_release ?_
   exact wpAny_mono (w pins s4 σ _ O3 I4.unwish (((((env.mono st1).mono st2).mono st3)).mono (Step.put (d9 hp) _)) (ok3.put hp (q.set rd j))) (λ _ _ q=>cD stA q) λ _ _ z=>z.pre stA
theorem TQ{tg iter:Expr}{body:List Stmt}(hst:X.stack=X.env::X.outer)(hfr:X.env.frame=some X.env.locals)(hex:X.ex=[])(h:ItW X.nox Γ S tg iter λ ds S1=>∃Pv:Nat->Gam->Store->Prop,Pv 0 Γ S1/\
 (∀i d Γ' S',ds[i]? =some d->Pv i Γ' S'->BdW X.nox tg d Γ' S' λ Γ2 S2=>aK X Γ2 S2 body {F with nx:=Pv (i+1),ct:=Pv (i+1),bk:=λ Γ' S'=>aK X Γ' S' sts F WE} WE)/\(∀Γ' S',Pv ds.length Γ' S'->aK X Γ' S' sts F WE))
 (hc:X.calm=true)(hs:∀x,foldedSetIterable iter X.env x=pure x):aK X Γ S (.For tg iter body [] pos::sts) F WE:=by
 intro pins s σ H O I env ok
 let Y:Cx:=X.wish (XL X O H WE)
 let NX:Gam->Store->Prop:=λ Γ' S'=>aK X Γ' S' sts F WE
 let WI:List D->Store->Prop:=λ ds S1=>∃Pv:Nat->Gam->Store->Prop,Pv 0 Γ S1/\
     (∀i d Γ' S',ds[i]? =some d->Pv i Γ' S'->BdW X.nox tg d Γ' S' λ Γ2 S2=>aK X Γ2 S2 body {F with nx:=Pv (i+1),ct:=Pv (i+1),bk:=NX} WE)/\(∀Γ' S',Pv ds.length Γ' S'->NX Γ' S')
 have hI:PI Y tg iter (λ σ H R=>∃O,EnvOk X.K O H σ Γ/\StOk X.K O H S/\∀J H',QI X.K O H WI J H'->R J H'):=λ pins s σ H R I hh=>by
  obtain⟨O,env,st,k⟩:=hh
  refine wpAny_mono (h pins s σ H O (I.unwish.wish _) env st) (λ _ _ q=>wpAny_mono q (λ _ _ q2=>?_) λ _ _ z=>z.elim) λ _ _ z=>z.elim
  obtain⟨it,fp,tn,J,H',e1,e2,e3,e4,e5,e6⟩:=q2
  exact⟨it,fp,tn,J,H',e1,e2.unwish.wish _,e3,e4,e5,k J H' e6⟩
 have hG:PG Y tg (λ v σ H Q=>∃O d Γ S W',EnvOk X.K O H σ Γ/\StOk X.K O H S/\Rep X.K O H v d/\BdW X.nox tg d Γ S W'/\∀σ' H',QN X.K O H W' σ' H'->Q σ' H'):=λ pins s σ H v u Q I ru hh=>by
  obtain⟨O,d,Γ,S,W',env,st,r,b,k⟩:=hh
  refine wpAny_mono (b pins s σ H O v u (I.unwish.wish _) env st r ru) (λ _ _ q2=>?_) λ _ _ z=>z.elim
  obtain⟨σ',H',I',q⟩:=q2
  exact⟨σ',H',I'.unwish.wish _,k σ' H' q⟩
 have hB:PSs Y body (λ D σ H'=>∃O' Γ S W',EnvOk X.K O' H' σ Γ/\StOk X.K O' H' S/\Step O O' H H'/\aK X Γ S body W' WE/\(∀σ' H2,QN X.K O' H' W'.nx σ' H2->D.nx σ' H2)/\(∀v H2,QG X.K O' H' W'.rt v H2->D.rt v H2)/\(∀σ' H2,QN X.K O' H' W'.bk σ' H2->D.bk σ' H2)/\∀σ' H2,QN X.K O' H' W'.ct σ' H2->D.ct σ' H2):=
  λ pins s σ H' D I hh=>by
   obtain⟨O',Γ,S,W',env,st,stp,b,k1,k2,k3,k4⟩:=hh
   refine wpAny_mono (b pins s σ H' O' I.unwish env st) (λ f s' q=>?_) λ e s2 z=>(z.pre stp).xl hst hfr hex
   cases f with
   | next=>obtain⟨σ',H',I',q⟩:=q;exact⟨σ',H',I'.wish _,k1 σ' H' q⟩
   | brk=>obtain⟨σ',H',I',q⟩:=q;exact⟨σ',H',I'.wish _,k3 σ' H' q⟩
   | cont=>obtain⟨σ',H',I',q⟩:=q;exact⟨σ',H',I'.wish _,k4 σ' H' q⟩
   | ret u=>obtain⟨v,σ',H',I',r,q⟩:=q;exact⟨v,σ',H',I'.wish _,r,k2 v H' q⟩
 have hp:PassesOwn (model Y.prog Y.w) Y.A Y.env Y.xe:=by
  show PassesOwn (model X.prog X.w) X.A X.env (λ e s2=>XL X O H WE e s2)
  unfold XL
  exact PassesOwn.leaving (Q₁:=λ e s3=>∃E',CXE X.prog X.w X.outer X.H₀ X.s₀ E' e s3/\∀c po H',E' (.ref c) po H'->QX X.mg X.K O H WE (.ref c) po H')
 refine wpAny_execs_cons (wpAny_mono (zx (X:=Y) hp hc hI hG hB hs pins s σ H (ends X.K O H {F with nx:=NX}) (I.wish _) ⟨O,env,ok,λ J H1 q=>?_⟩) (λ f s1 q=>?_) λ e s2 z=>.inr (.inr (.inr z)))
 . obtain⟨O1,ds,S1,⟨Pv,p0,pt,pe⟩,st1,ok1,yl⟩:=q
   refine⟨λ i m σ' H'=>m=ds.length-i/\i≤ds.length/\∃O' Γ' S',Pv i Γ' S'/\Step O1 O' H1 H'/\StOk X.K O' H' S'/\EnvOk X.K O' H' σ' Γ',⟨ds.length,by simp,Nat.zero_le _,O1,Γ,S1,p0,Step.refl _ _,ok1,env.mono st1⟩,?_⟩
   rintro i m σ2 H2 ⟨rfl,hi,O2,Γ2,S2,p2,st2,ok2,env2⟩
   obtain⟨y1,y2⟩:=yl O2 H2 st2.conv (λ a ha=>ok2.tracked ha) i
   by_cases hlt:i<ds.length
   . obtain⟨go,yy⟩:=y1 ds[i] (y0 hlt)
     refine .inr ⟨go,λ σ' H'=>i+1≤ds.length/\∃O' Γ' S',Pv (i+1) Γ' S'/\Step O1 O' H1 H'/\StOk X.K O' H' S'/\EnvOk X.K O' H' σ' Γ',λ σ' H' q=>⟨ds.length-(i+1),by omega,rfl,q.1,q.2⟩,λ x H3 y=>?_⟩
     obtain⟨sm,rx⟩:=yy x H3 y
     have st3:=Step.same (O:=O2) sm
     refine⟨O2,ds[i],Γ2,S2,_,env2.mono st3,ok2.same sm,rx,pt i ds[i] Γ2 S2 (y0 hlt) p2,λ σ4 H4 q4=>?_⟩
     obtain⟨O4,Γ4,S4,w4,st4,ok4,env4⟩:=q4
     have stA:=(st2.trans st3).trans st4
     refine⟨O4,Γ4,S4,_,env4,ok4,st1.trans stA,w4,?_,?_,?_,?_⟩
     . rintro σ5 H5 ⟨O5,Γ5,S5,w5,st5,ok5,env5⟩
       exact⟨hlt,O5,Γ5,S5,w5,stA.trans st5,ok5,env5⟩
     . exact λ v H' q=>QG.pre (st1.trans stA) q
     . exact λ σ' H' q=>QN.pre (st1.trans stA) q
     . rintro σ5 H5 ⟨O5,Γ5,S5,w5,st5,ok5,env5⟩
       exact⟨hlt,O5,Γ5,S5,w5,stA.trans st5,ok5,env5⟩
   . have e:i=ds.length:=by omega
     subst e
     exact .inl ⟨y2 rfl,O2,Γ2,S2,pe Γ2 S2 p2,st1.trans st2,ok2,env2⟩
 . cases f with
   | next=>
     obtain⟨σ',H',I',O1,Γ1,S1,w,st1,ok1,env1⟩:=q
     exact wpAny_mono (w pins s1 σ' H' O1 I'.unwish env1 ok1) (λ _ _ q=>cD st1 q) λ _ _ z=>z.pre st1
   | ret v=>exact q.unwish
   | brk=>exact q.unwish
   | cont=>exact q.unwish
end
end XE
set_option maxHeartbeats 4000000
namespace XE
open PySem PySem.Spec L2 DL RF
open PyProof.Rows
abbrev Ga(X:Cx)(sc:Scope)(N':List Str)(cap:List (Option Nat))(Γ:Gam)(elt tg:Expr)(ifs:List Expr)(W:WD)(WE:WX):List D->(Store->Prop)->Store->Prop:=λ ds C0 S1=>
 ds.length≤1000000/\∃Pv:Nat->List D->Store->Prop,Pv 0 [] S1/\(∀i acc S',Pv i acc S'->C0 S')/\
  (∀i d acc S',ds[i]? =some d->Pv i acc S'->∀(C:Addr)(s:Shared)(H:Hp)(ex:List Addr)(cl:List (Str×Addr)),BdW (bz X sc N' C s H ex cl) tg d (capt cap Γ) S' λ Γ2 S2=>Sub (capt cap Γ) Γ2/\
   TsA (bz X sc N' C s H ex cl) Γ2 S2 ifs λ ok S3=>(ok=true->EvX (bz X sc N' C s H ex cl) Γ2 S3 elt (λ y S4=>Pv (i+1) (acc++[y]) S4) WE)/\(ok=false->Pv (i+1) acc S3))/\
  ∀acc S',Pv ds.length acc S'->W (.lst acc) S'∨W (.loc S'.length) (S'++[acc])
theorem Ed {X :Cx}{WE:WX}{Γ:Gam}{S:Store}{elt tg iter:Expr}{ifs:List Expr}{sc:Scope}{cpos:Pos}{N':List Str}{cap:List (Option Nat)}{W:WD}{E:Value->Shared->Prop}{pins:Pins}{s:Shared}{σ:L2.St}{H:Hp}{O:Own}
 {RR:Value->Addr->Result->Shared->Prop}
 (hx:X.xe=λ _ _=>False)(hc:X.calm=true)(hkind:sc.kind=.function)(hcell:jT sc.names=true)(hfree:∀y∈sc.names,y.2=.free->X.env.kindOf y.1=some .cell∨X.env.kindOf y.1=some .free)
 (hcap:aJ X.N X.env.scope.names N' sc.names cap N'=true)(h:ItC X Γ S tg iter (Ga X sc N' cap Γ elt tg ifs W WE))(I:Inv X pins σ H s)(env:EnvOk X.K O H σ Γ)(st:StOk X.K O H S)
 (ferr:∀(ev:Value)(s8 s1:Shared)(H1:Hp)(E':XK)(D0 C:Addr)(m:Str->Option Value)(env':Env),Inv X pins σ H1 s1->s1.heap.Ns C m->H1 C=none->X.s₀.heap.objs.size≤C->C∉frs X.stack->env'.frame=X.env.frame->CXE X.prog X.w X.stack H1 s1 E' ev s8->(∀c po H',E' (.ref c) po H'->QX X.mg X.K O H WE (.ref c) po H')->notedBy (model X.prog X.w) X.A env' (λ x s9=>RR (.ref D0) C (.error x) s9) ev s8)
 (fin:∀(s':Shared)(Hc:Hp)(D0 C:Addr)(m:Str->Option Value),Inv X pins σ Hc s'->s'.heap.Ns C m->cW X pins Hc C->D0≠C->QG X.K O H W (.ref D0) Hc->RR (.ref D0) C (.ok .next) s'):
 wpAny (model X.prog X.w) X.A (eval iter X.env) (λ x s₁=>wpAny (model X.prog X.w) X.A (pyIter x) (λ it s₂=>wpAny (model X.prog X.w) X.A (newList []) (λ acc s₃=>
  wpAny (model X.prog X.w) X.A (newFunctionEnv sc X.env.globals (closes X.env sc.names []) [] X.env.qual none .none (some X.env)) (λ cenv s₄=>
   codeAny (model X.prog X.w) X.A (.compStart (.ListComp elt [⟨tg,iter,ifs,0⟩] sc cpos) 0 it acc {cenv with scope:=relabel sc X.env}) (RR acc cenv.locals) s₄) E s₃) E s₂) E s₁) E s:=by
 refine thn (gQ hx (h pins s σ H O I env st)) λ xv s1 h1=>thn (gQ hx h1) λ itv s2 h2=>?_
 obtain⟨it,fp,tn,J,H2,e,I2,T,st2,f2,O2,ds,C0,S2,⟨hz,Pv,p0,pC,pt,pe⟩,stp,ok2,yl⟩:=h2
 subst e
 refine wpAny_newObj_type (BL ?_)
 dsimp only
 have hD0:H2 s2.heap.objs.size=none:=I2.hok.fresh (x8 _)
 have hsz:(s2.heap.push {cls:=.type "list",dict:=none,data:=.seq ([]:List Value).toArray}).objs.size=s2.heap.objs.size+1:=Heap.size_push ..
 rw[hsz]
 have ns0:=Heap.Ns.new (s2.heap.push {cls:=.type "list",dict:=none,data:=.seq ([]:List Value).toArray}) (.type "dict")
 rw[hsz]at ns0
 obtain⟨cl,hcleq⟩:∃cl,cellsFrom (s2.heap.objs.size+1+1) sc.names (closes X.env sc.names [])=cl:=⟨_,rfl⟩
 obtain⟨h₁,hh1⟩:∃h₁,pushCells ((s2.heap.push {cls:=.type "list",dict:=none,data:=.seq ([]:List Value).toArray}).push {cls:=.type "dict",data:=.dict #[]}) sc.names=h₁:=⟨_,rfl⟩
 have hns₁:h₁.Ns (s2.heap.objs.size+1) (λ _=>none):=by rw[←hh1];exact ns0.keeps (pushCells_keeps _ _)
 have kp0:∀b u,(s2.heap.push {cls:=.type "list",dict:=none,data:=.seq ([]:List Value).toArray}).get? b=some u->h₁.get? b=some u:=λ b u e=>by rw[←hh1];exact pushCells_keeps _ _ b u (Heap.get?_push_of_some _ e)
 have kp:∀b u,s2.heap.get? b=some u->h₁.get? b=some u:=λ b u e=>kp0 b u (Heap.get?_push_of_some _ e)
 have hD1:h₁.get? s2.heap.objs.size=some {cls:=.type "list",data:=.seq #[] 0}:=kp0 _ _ (Heap.get?_push_size _ rfl)
 have hf:∀y∈sc.names,y.2=.free->∃c,X.env.cells.lookup y.1=some c:=λ y hy e=>I.ok.has y.1 (hfree y hy e)
 have hcl :CelsB X sc cl (s2.heap.objs.size+2) h₁:=by
  have look:∀{x c},(closes X.env sc.names []).lookup x=some c->X.env.cells.lookup x=some c:=λ{x c} h=>jo sc.names [] hf (λ c h=>by simp at h) h
  have cpy:∀x c,sc.names.lookup x=some .free->X.env.cells.lookup x=some c->(closes X.env sc.names []).lookup x=some c:=λ x c d hc=>by
   obtain⟨c2,h2⟩:=bV (env:=X.env) sc.names [] (.inr d)
   have e:=look h2
   rw[hc]at e
   cases e
   exact h2
  unfold jT at hcell
  split at hcell
  . rename_i hfl
    have e1:=(ph hfl (s2.heap.objs.size+1+1) (closes X.env sc.names []) s2.heap).1
    rw[hcleq]at e1
    have no:∀x,sc.names.lookup x≠some .cell:=λ x z=>by
     have:(x,NameKind.cell)∈sc.names.filter (λ y=>y.2==.cell):=List.mem_filter.mpr ⟨PySem.mem_of_lookup z,rfl⟩
     rw[hfl]at this
     cases this
    rw[e1]
    exact⟨λ x c h=>.inl (look h),λ x hx=>hx.elim (λ z=>absurd z (no x)) λ z=>bV sc.names [] (.inr z),cpy,λ x c z=>absurd z (no x)⟩
  . rename_i y hfl
    have hy:sc.names.lookup y.1=some .cell:=eq_of_beq hcell
    obtain⟨e1,_⟩:=iZ hfl (s2.heap.objs.size+1+1) (closes X.env sc.names []) s2.heap
    rw[hcleq]at e1
    have e2:=(iZ hfl 0 [] ((s2.heap.push {cls:=.type "list",dict:=none,data:=.seq ([]:List Value).toArray}).push {cls:=.type "dict",data:=.dict #[]})).2
    rw[hh1]at e2
    have e3:((s2.heap.push {cls:=.type "list",dict:=none,data:=.seq ([]:List Value).toArray}).push {cls:=.type "dict",data:=.dict #[]}).objs.size=s2.heap.objs.size+2:=by rw[Heap.size_push,hsz]
    have cel:h₁.IsCell (s2.heap.objs.size+2) none:=by
     rw[e2,←e3]
     exact⟨_,Heap.get?_push_size _ rfl,rfl⟩
    have only:∀x,sc.names.lookup x=some .cell->x=y.1:=λ x z=>by
     have:(x,NameKind.cell)∈sc.names.filter (λ y=>y.2==.cell):=List.mem_filter.mpr ⟨PySem.mem_of_lookup z,rfl⟩
     rw[hfl]at this
     have:=List.mem_singleton.mp this
     rw[←this]
    have lt0:∀{x c},(closes X.env sc.names []).lookup x=some c->c<s2.heap.objs.size:=λ{x c} h=>by
     obtain⟨v,q⟩:=I2.cell x c (look h)
     exact q.lt
    have lk2:∀x,cl.lookup x=if x=y.1 then some (s2.heap.objs.size+1+1)else(closes X.env sc.names []).lookup x:=λ x=>by
     rw[e1,List.lookup_cons]
     by_cases z:x=y.1
     . subst z;simp
     . rw[if_neg z,beq_eq_false_iff_ne.mpr z]
    refine⟨λ x c h=>?_,λ x hx=>?_,λ x c d hc=>?_,λ x c z h=>?_⟩
    . rw [lk2]at h
      by_cases z:x=y.1
      . rw[if_pos z]at h
        cases h
        refine .inr ⟨rfl,by rw[z];exact hy,cel,λ u hu=>?_⟩
        rw[lk2]at hu
        by_cases z2:u=y.1
        . rw[z2,z]
        . rw[if_neg z2]at hu
          exact(Nat.lt_irrefl _ (Nat.lt_of_le_of_lt (Nat.le_add_right _ 2) (lt0 hu))).elim
      . rw[if_neg z]at h
        exact .inl (look h)
    . rw[lk2]
      by_cases z:x=y.1
      . exact⟨_,if_pos z⟩
      . rw[if_neg z]
        exact hx.elim (λ q=>absurd (only x q) z) λ q=>bV sc.names [] (.inr q)
    . rw[lk2,if_neg (λ z=>by rw[z,hy]at d;cases d)]
      exact cpy x c d hc
    . rw[lk2,if_pos (only x z)]at h
      cases h
      exact x8 _
  . cases hcell
 rw[hcleq,hh1]
 have hob:∀b∈fp,∃o,s2.heap.get? b=some o:=λ b hb=>let ⟨o,e,_⟩:=T.obj _ _ st2 b hb;⟨o,e⟩
 have I4:=Bs (t:=s2.toks) (h1:=h₁) I2 f2 hob hkind hcl hfree hcap kp hD1 ⟨_,hns₁⟩
 generalize hX':bz X sc N' (s2.heap.objs.size+1) s2 H2 fp cl=X' at I4
 have pt':=λ i d acc S' a b=>pt i d acc S' a b (s2.heap.objs.size+1) s2 H2 fp cl
 rw[hX']at pt'
 have eP:X'.prog=X.prog:=by rw[←hX'];rfl
 have ew:X'.w=X.w:=by rw[←hX'];rfl
 have eK:X'.K=X.K:=by rw[←hX'];rfl
 have eA:X'.A=X.A:=by rw[←hX'];rfl
 have ec:X'.calm=true:=by rw[←hX'];exact hc
 have ex':X'.xe=λ _ _=>False:=by rw[←hX'];exact hx
 have eenv:X'.env=compEnvC sc cl (s2.heap.objs.size+1) X.env:=by rw[←hX'];rfl
 have eex:X'.ex=fp:=by rw[←hX'];rfl
 have estk:X'.stack=X.stack:=by rw[←hX'];rfl
 have emg:X'.mg=X.mg:=by rw[←hX'];rfl
 have eout:X'.outer=X.stack:=by rw[←hX'];rfl
 have es0:X'.s₀=s2:=by rw[←hX'];rfl
 have eH0:X'.H₀=H2:=by rw[←hX'];rfl
 have epn:X'.pn=[]:=by rw[←hX'];rfl
 have stat:∀{H':Hp},(∀b∈fp,H' b=none)->∀b∈fp,cW X' [] H' b:=λ hn b hb=>by
  refine⟨hn b hb,(I4.ok.exf b (by rw[eex];exact hb)).1,I4.ok.exfs b (by rw[eex];exact hb),.inl (by rw[eex];exact hb),(I4.ok.exf b (by rw[eex];exact hb)).2,λ p hp=>?_⟩
  rw[epn]at hp
  exact absurd hp (by simp)
 have loop : ∀s₃:Shared,s₃={s2 with heap:=h₁}->
  codeAny (model X.prog X.w) X.A (.compLoop (.ListComp elt [⟨tg,iter,ifs,0⟩] sc cpos) 0 (.ref it) (.ref s2.heap.objs.size) (compEnvC sc cl (s2.heap.objs.size+1) X.env))
   (RR (.ref s2.heap.objs.size) (s2.heap.objs.size+1)) s₃:=by
  intro s₃ es
  rw[←eenv]
  refine codeAny_loop rfl (λ n s'=>∃i acc xs Hc Ac Sc σc,n=ds.length-i/\i≤ds.length/\Inv X' [] σc Hc s'/\tn i s'.heap/\(∀b∈fp,Hc b=none)/\Pv i acc Sc/\Hc s2.heap.objs.size=some (.lst xs)/\xs.length≤i/\
   Reps X.K ⟨Ac,s2.heap.objs.size::O2.B⟩ Hc xs acc/\Step O2 ⟨Ac,O2.B⟩ H2 Hc/\StOk X.K ⟨Ac,s2.heap.objs.size::O2.B⟩ Hc Sc/\EnvOk X.K ⟨Ac,s2.heap.objs.size::O2.B⟩ Hc σc (capt cap Γ)) ?_ ds.length ?_
  . rintro n s' ⟨i,acc,xs,Hc,Ac,Sc,σc,rfl,hi,Ic,stc,frc,pc,hxs,hxl,rc,sc',okc,envc⟩
    show wpAny _ _ ((compTurn (.ListComp elt [⟨tg,iter,ifs,0⟩] sc cpos) 0 (.ref it) (.ref s2.heap.objs.size) X'.env).onRaise (λ x=>do noteFrame x X'.env;theTreesLotGoes x)) _ _ s'
    refine wpAny_noted ?_
    rw[compTurn_list]
    refine wpAny_bind (wpAny_standAt (wpAny_bind ?_))
    have cv:Conv O2 ⟨Ac,s2.heap.objs.size::O2.B⟩ H2 Hc:=by
     refine⟨λ a u n t=>?_,sc'.conv.lc⟩
     obtain⟨x1,x2⟩:=sc'.conv.tr a u n t
     refine⟨λ z=>?_,x2⟩
     rcases z with z | z
     . exact x1 (.inl z)
     . rcases List.mem_cons.mp z with z | z
       . subst z;rw[hD0]at t;cases t
       . exact x1 (.inr z)
    obtain⟨y1,y2⟩:=yl _ _ _ cv okc (pC _ _ _ pc) i
    by_cases hlt:i<ds.length
    . obtain ⟨go,yy⟩:=y1 ds[i] (y0 hlt)
      have it1:=T.item X' eP ew eK ec i [] s' σc Hc (λ _ _=>False) Ic (stat frc) stc go
      rw[eA]at it1
      refine wpAny_mono it1 (λ r s3 hq_=>?_) λ _ _ z=>z.elim
      obtain⟨u,hr,h3⟩:=hq_
      subst hr
      refine wpAny_bind (wpAny_mono h3 (λ _ s5 hq_=>?_) λ _ _ z=>z.elim)
      obtain⟨x,H5,I5,r5,y5,st5,fr5⟩:=hq_
      obtain⟨sm,rx⟩:=yy x H5 y5
      have I5':=I5.pinned (stat fr5) (T.obj _ _ st5)
      have st35:=Step.same (O:=⟨Ac,s2.heap.objs.size::O2.B⟩) sm
      have bd:=pt' i ds[i] acc Sc (y0 hlt) pc _ s5 σc H5 ⟨Ac,s2.heap.objs.size::O2.B⟩ x u I5' (by rw[eK];exact envc.mono st35) (by rw[eK];exact okc.same sm) (by rw[eK];exact rx) r5
      rw[eP,ew,eA]at bd
      refine wpAny_bind (wpAny_mono (gQ (E':=λ _ _=>False) ex' bd) (λ _ s6 hq_=>?_) λ _ _ z=>z.elim)
      obtain⟨σ6,H6,I6,O6,Γ6,S6,⟨sub6,w6⟩,st6,ok6,env6⟩:=hq_
      have tst:=Df w6 I6 env6 ok6
      rw[eP,ew,eA]at tst
      refine wpAny_bind (wpAny_mono (gQ (E':=λ _ _=>False) ex' tst) (λ ok s7 hq_=>?_) λ _ _ z=>z.elim)
      obtain⟨H7,I7,O7,S7,w7,st7,ok7⟩:=hq_
      have st57:Step ⟨Ac,s2.heap.objs.size::O2.B⟩ O7 Hc H7:=st35.trans (st6.trans st7)
      have eB7:O7.B=s2.heap.objs.size::O2.B:=st57.hid
      have next:∀(s9:Shared)(H8:Hp)(O8:Own)(S8:Store)(ys:List V)(acc':List D),Step ⟨Ac,s2.heap.objs.size::O2.B⟩ O8 Hc H8->
       StOk X.K O8 H8 S8->EnvOk X.K O8 H8 σ6 (capt cap Γ)->Pv (i+1) acc' S8->Inv X' ([]++jN fp s5.heap) σ6 (upd H8 s2.heap.objs.size (.lst ys)) s9->Reps X.K O8 H8 ys acc'->ys.length≤i+1->
       ∃ m,m<ds.length-i/\∃i acc xs Hc Ac Sc σc,m=ds.length-i/\i≤ds.length/\Inv X' [] σc Hc s9/\tn i s9.heap/\(∀b∈fp,Hc b=none)/\Pv i acc Sc/\Hc s2.heap.objs.size=some (.lst xs)/\xs.length≤i/\
         Reps X.K ⟨Ac,s2.heap.objs.size::O2.B⟩ Hc xs acc/\Step O2 ⟨Ac,O2.B⟩ H2 Hc/\StOk X.K ⟨Ac,s2.heap.objs.size::O2.B⟩ Hc Sc/\EnvOk X.K ⟨Ac,s2.heap.objs.size::O2.B⟩ Hc σc (capt cap Γ):=by
       intro s9 H8 O8 S8 ys acc' st8 ok8 env8 p8 I8 r8 hl8
       have eB:O8.B=s2.heap.objs.size::O2.B:=st8.hid
       obtain⟨A8,B8⟩:=O8
       have eB':B8=s2.heap.objs.size::O2.B:=eB
       subst eB'
       have mem:s2.heap.objs.size∈(⟨A8,s2.heap.objs.size::O2.B⟩:Own).B:=v3
       refine⟨ds.length-(i+1),by omega,i+1,acc',ys,_,A8,S8,σ6,rfl,hlt,I8.unpinned,T.keep _ _ _ st5 λ b hb o e=>(I8.pin (b,o) (List.mem_append_right _ (List.mem_append_right _ (cP hb e)))).1,λ b hb=>?_,p8,aC,hl8,
        r8.conv (Conv.updHid mem _),sc'.inner st8 hD0 _,ok8.updHid mem _,env8.conv (Conv.updHid mem _)⟩
       obtain⟨o,e,d⟩:=T.obj _ _ st5 b hb
       exact(I8.pin (b,o) (List.mem_append_right _ (List.mem_append_right _ (cP hb e)))).2.1
      rw[eK]at ok7 env6 ok6
      have hid:∀{O':Own}{H':Hp}{S':Store},Step ⟨Ac,s2.heap.objs.size::O2.B⟩ O' Hc H'->H' s2.heap.objs.size=some (.lst xs):=λ st'=>
       st'.kept _ _ (λ z=>okc.apart _ z v3) hxs
      cases ok with
      | false=>
        refine wpAny_pure ⟨rfl,?_⟩
        have hx7:=hid (S':=S7) st57
        have eq7:upd H7 s2.heap.objs.size (.lst xs)=H7:=by
         funext b
         by_cases hb:b=s2.heap.objs.size
         . subst hb;rw[aC];exact hx7.symm
         . exact aj hb
        exact next s7 H7 O7 S7 xs acc st57 ok7 ((env6.mono st7).sub sub6) (w7.2 rfl) (by rw[eq7];exact I7) (rc.mono st57) (Nat.le_succ_of_le hxl)
      | true =>
        have el:=w7.1 rfl _ s7 σ6 H7 O7 I7 (by rw[eK];exact env6.mono st7) (by rw[eK];exact ok7)
        rw[eP,ew,eA]at el
        refine wpAny_bind (wpAny_bind (wpAny_mono el (λ xe s8 hq_=>?_) λ ev s8 z=>?_))
        rotate_left
        . obtain⟨H1,s1,E',I1',cx,hE⟩:=z
          have un:Un (frs X.stack) fp H2 H1 s2.heap s1.heap:=by
           have:=I1'.base
           rw[eex,eH0,es0]at this
           show Un (frs X.stack) fp H2 H1 s2.heap s1.heap
           rw[←eout]
           exact this
          have os:s1.os=s2.os:=by
           have:=I1'.os
           rw[es0]at this
           exact this
          have hok1:HOk X.prog X.w H1 s1.heap:=by
           have:=I1'.hok
           rw[eP,ew]at this
           exact this
          have IX:Inv X pins σ H1 s1:=I2.call' os un hok1 I1'.bare (λ b hb=>⟨(f2 b hb).2.2.2.1,(f2 b hb).2.1,(f2 b hb).2.2.2.2.1,(f2 b hb).2.2.2.2.2⟩)
          obtain⟨m,hm,_⟩:=I1'.loc
          refine ferr ev s8 s1 H1 E' _ _ m X'.env IX (by rw[eenv]at hm;exact hm) (by have:=I1'.free;rw[eenv]at this;exact this) (Nat.le_succ_of_le I2.sz) (λ z=>?_) (by rw[eenv];rfl) (by rw[eP,ew,estk]at cx;exact cx) λ c po H' q=>?_
          . obtain⟨_,o,ho,_⟩:=I2.stack.mem z
            exact absurd (Heap.lt_size ho) (Nat.not_lt.mpr (Nat.le_succ _))
          . obtain⟨nm,O',S',h1,h2,h3,h4⟩:=hE c po H' q
            rw[emg]at h1
            rw[eK]at h2 h4
            have stA:=st57.trans h3
            have eB:O'.B=s2.heap.objs.size::O2.B:=stA.hid
            obtain⟨A9,B9⟩:=O'
            have eB':B9=s2.heap.objs.size::O2.B:=eB
            subst eB'
            have hx9:=hid (S':=S') stA
            have equ:upd H' s2.heap.objs.size (.lst xs)=H':=by
             funext b
             by_cases hb:b=s2.heap.objs.size
             . subst hb;rw[aC];exact hx9.symm
             . exact aj hb
            have stI:=sc'.inner stA hD0 (.lst xs)
            rw[equ]at stI
            refine⟨nm,⟨A9,O2.B⟩,S',h1,?_,stp.trans stI,h4.unhide⟩
            cases po with
            | none=>exact h2
            | some dx=>
              obtain⟨p1,f,d,v,p2,p3,p4⟩:=h2
              exact⟨p1,f,d,v,p2,p3,p4.conv Conv.unhide⟩
        obtain⟨v8,H8,I8,r8,O8,y,S8,w8,st8,ok8,rep8⟩:=hq_
        rw[eK]at ok8 rep8
        have st58:=st57.trans st8
        have hx8:=hid (S':=S8) st58
        have ap:=mF (X:=X') _ s8 σ6 H8 (.ref s2.heap.objs.size) [v8] (.ref s2.heap.objs.size) [xe] (λ v H'=>H'=upd H8 s2.heap.objs.size (.lst (xs++[v8]))) I8 rfl (.cons r8 .nil)
         ⟨s2.heap.objs.size,xs,v8,rfl,rfl,hx8,Nat.lt_of_le_of_lt (Nat.le_trans hxl (Nat.le_trans hi hz)) (by decide),rfl⟩
        rw[eP,ew,eA]at ap
        refine wpAny_bind (wpAny_mono (gQ (E':=λ _ _=>False) ex' ap) (λ _ s9 hq_=>wpAny_pure (wpAny_pure ⟨rfl,?_⟩)) λ _ _ z=>z.elim)
        obtain⟨_,H9,I9,_,e9⟩:=hq_
        subst e9
        exact next s9 H8 O8 S8 (xs++[v8]) (acc++[y]) st58 ok8 (((env6.mono st7).mono st8).sub sub6) w8 I9 ((rc.mono st58).append (.cons rep8 .nil)) (by rw[List.length_append,List.length_singleton];omega)
    . have e:i=ds.length:=by omega
      subst e
      have dn:=T.done X' eP ew eK ec ds.length [] s' σc Hc (λ _ _=>False) Ic (stat frc) stc (y2 rfl)
      rw[eA]at dn
      refine wpAny_mono dn (λ r s3 hq_=>?_) λ _ _ z=>z.elim
      obtain⟨hr,I3⟩:=hq_
      subst hr
      refine wpAny_pure ?_
      obtain⟨m,hm,_⟩:=I3.loc
      have un:Un (frs X.stack) fp H2 Hc s2.heap s3.heap:=by
       have:=I3.base
       rw[eex,eH0,es0]at this
       show Un (frs X.stack) fp H2 Hc s2.heap s3.heap
       rw[←eout]
       exact this
      have os:s3.os=s2.os:=by
       have:=I3.os
       rw[es0]at this
       exact this
      have hok3:HOk X.prog X.w Hc s3.heap:=by
       have:=I3.hok
       rw[eP,ew]at this
       exact this
      have IX:Inv X pins σ Hc s3:=I2.call' os un hok3 I3.bare (λ b hb=>⟨(f2 b hb).2.2.2.1,(f2 b hb).2.1,(f2 b hb).2.2.2.2.1,(f2 b hb).2.2.2.2.2⟩)
      have hCn:Hc (s2.heap.objs.size+1)=none:=by
       have:=I3.free
       rw[eenv]at this
       exact this
      refine fin s3 Hc _ _ m IX (by rw[eenv]at hm;exact hm) (I2.fpOk (Nat.le_succ _) hCn) (Nat.ne_of_lt (Nat.lt_succ_self _)) ?_
      rcases pe acc Sc pc with w | w
      . refine⟨⟨Ac,O2.B⟩,.lst acc,Sc,w,stp.trans sc',okc.unhide,.lst (.inl ⟨λ z=>?_,.inl hxs⟩) (rc.conv Conv.unhide)⟩
        rcases z with z | z
        . exact okc.apart _ z v3
        . exact ok2.hidden _ z hD0
      . refine⟨⟨Ac++[(s2.heap.objs.size,false)],O2.B⟩,.loc Sc.length,Sc++[acc],w,stp.trans (sc'.adopt hD0),okc.adopt (λ z=>ok2.hidden _ z hD0) hxs rc,.loc ?_⟩
        have el:Ac.length=Sc.length:=okc.len
        show(Ac++[(s2.heap.objs.size,false)])[Sc.length]? =some _
        rw[←el];simp
  . refine⟨0,[],[],upd H2 s2.heap.objs.size (.lst []),O2.A,S2,capt cap σ,rfl,Nat.zero_le _,by rw[es];exact I4,by rw[es];exact T.keep 0 s2.heap h₁ st2 λ b hb o e=>kp b o e,λ b hb=>?_,p0,aC,x8 0,.nil,Step.fresh hD0 _,ok2.hide hD0 _,((env.mono stp).capt cap).conv (Conv.hide hD0 _)⟩
    obtain⟨o,e⟩:=hob b hb
    rw[aj (Nat.ne_of_lt (Heap.lt_size e))]
    exact(f2 b hb).1
 exact codeAny_compStart_list (loop _ rfl) (T.self _ 0 _ _ _ (T.keep 0 s2.heap h₁ st2 λ b hb o e=>kp b o e) (loop _ rfl))
theorem Gb{base base' h h3:Heap}:∀{l:List Env},h.FunFrames base l->(∀L∈frs l,base'.get? L=none/\∀o,h.get? L=some o->(∀vs,o.data≠.fields vs)->h3.get? L=some o)->h3.FunFrames base' l
 | [],_,_=>trivial
 | env::l,⟨hk,⟨L,o,hf,hn,ho,hd⟩,hr⟩,k=>by
   have m:L∈frs (env::l):=List.mem_filterMap.mpr ⟨env,v3,hf⟩
   obtain⟨k1,k2⟩:=k L m
   refine⟨hk,⟨L,o,hf,k1,k2 o ho hd,hd⟩,Gb hr λ L' h'=>k L' ?_⟩
   obtain⟨e,he,hf'⟩:=List.mem_filterMap.mp h'
   exact List.mem_filterMap.mpr ⟨e,x9 _ he,hf'⟩
section
variable {X : Cx} {Γ : Gam} {S : Store} {elt tg iter : Expr} {ifs : List Expr} {sc : Scope} {pos : Pos}
theorem KN(N':List Str)(cap:List (Option Nat)){W:WD}{WE:WX}(hst:X.stack=X.env::X.outer)(hfr:X.env.frame=some X.env.locals)(hex:X.ex=[])(h:ItC X.nox Γ S tg iter (Ga X.nox sc N' cap Γ elt tg ifs W WE))(hc:X.calm=true)(hkind:sc.kind=.function)
 (hcell:jT sc.names=true)(hfo:freeOk X.env.scope.names sc.names=true)(hnames:∀y∈sc.names,y.2=.local->sc.names.lookup y.1=some .local)(hcap:aJ X.N X.env.scope.names N' sc.names cap N'=true)(hs:∀x,foldedSetIterable iter X.env x=pure x):
 EvR X Γ S (.ListComp elt [⟨tg,iter,ifs,0⟩] sc pos) W WE:=by
 intro pins s σ H O I env st
 have hfree:∀y∈sc.names,y.2=.free->X.env.kindOf y.1=some .cell∨X.env.kindOf y.1=some .free:=iR hfo
 have hf:∀y∈sc.names,y.2=.free->∃c,X.env.cells.lookup y.1=some c:=λ y hy e=>I.ok.has y.1 (hfree y hy e)
 rw[eval_ListComp]
 refine wpAny_comprehension_free (use:=none) (g:=⟨tg,iter,ifs,0⟩) (gs:=[]) rfl hs (fY hf) hkind hnames ?_
 refine Ed (X:=X.nox) (WE:=WE) (RR:=λ acc C=>compPost (model X.prog X.w) X.A (XR X O H WE) none (EP X pins σ (QG X.K O H W)) acc C) rfl hc hkind hcell hfree hcap h (I.wish _) env st ?_ ?_
 . intro ev s8 s1 H1 E' D0 C m env' I1 hm hC hsz hCf hfe cx hE
   have I1:Inv X pins σ H1 s1:=I1.unwish
   obtain⟨a,cl,t,po,H',B,rfl,ho,hg,fl,fw,lk,hq⟩:=cx
   have hn:noteFrame (.ref a) env'=noteFrame (.ref a) X.env:=by unfold noteFrame PySem.frameOf;rw[hfe]
   show wpAny _ _ (noteFrame (.ref a) env') _ _ s8
   rw[hn]
   have hst':X.nox.stack=X.env::X.outer:=hst
   have fw':=fw
   rw[hst']at fw'
   refine wpAny_mono ((tW (.ref a) X.env).any (wpAny_looks_onW (E:=λ _ _=>False) (Q:=λ _ s9=>∃h9,s9={s8 with heap:=h9}/\Heap.HeldW B (X.env::X.outer) a (.ref cl) (.ref t) X.env.locals h9/\s8.heap.UpToSlots h9) (I1.ok.frames.trans (by rw[hst])) hfr fw' λ h' x1 x2=>⟨h',rfl,x1,x2⟩)) (λ _ s9 z=>?_) λ _ _ z=>z.1.elim
   obtain⟨⟨h9,rfl,⟨k1,k2,k3,k4⟩,up9⟩,dk⟩:=z
   obtain⟨oC,es,ep,gC,rC⟩:=id hm
   have hCf':C∉frs X.stack:=hCf
   have bC:B.get? C=some oC:=fl.keep C oC gC hC hCf
   have cC:h9.get? C=some oC:=k1 C oC bC
   refine⟨m,⟨oC,es,ep,cC,rC⟩,λ h' sb cenv _=>?_⟩
   obtain⟨oe,vs,T,oT,ts,he,⟨hcls,g0⟩,hd,g1,gn,gne,hT,gd,g3⟩:=k4
   have naC:a≠C:=λ q=>by rw[q,bC]at k2;cases k2
   have nTC:T≠C:=λ q=>by rw[q,bC]at gn;cases gn
   have at_:∀b,b≠C->h'.get? b=h9.get? b:=λ b hb=>sb.2 b hb
   have hsz3:3<ts.size:=(Array.getElem?_eq_some_iff.mp g3).1
   unfold PySem.passOn
   refine wpAny_bind (wpAny_field ((at_ a naC).trans he) hd g1 ?_)
   rw[if_neg (show ¬((Value.ref T==Value.none)=true) by simp)]
   first | refine wpAny_bind (wpAny_pure ?_) | skip
   refine wpAny_bind ?_
   unfold setFlight
   refine wpAny_bind (wpAny_field ((at_ a naC).trans he) hd g1 ?_)
   rw[if_pos (show(Value.ref T !=Value.none)=true by simp)]
   refine wpAny_setField ((at_ T nTC).trans hT) gd hsz3 ?_
   refine wpAny_throw (.inr (.inr (.inr ?_)))
   have ot:∀b,b≠T->(h'.update T (Obj.mapFields (·.setIfInBounds 3 (cenv.frame.elim .none λ f=>rawInt f)))).get? b=h'.get? b:=λ b hb=>Heap.get?_update_other _ _ λ q=>hb q.symm
   have fld:∀b o,h9.get? b=some o->(∀vs,o.data≠.fields vs)->b≠T:=λ b o hb z q=>by
    subst q
    rw[hT]at hb
    cases hb
    exact z ts gd
   have hid:∀b o,(PySem.W.hideAll B [C]).get? b=some o->b≠C/\B.get? b=some o:=λ b o q=>⟨λ z=>(by rw[z,PySem.W.hideAll_none _ (List.mem_singleton.mpr rfl)]at q;cases q),PySem.W.of_hideAll _ q⟩
   have hno:∀b,B.get? b=none->(PySem.W.hideAll B [C]).get? b=none:=λ b q=>by
    cases e:(PySem.W.hideAll B [C]).get? b with
    | none=>rfl
    | some o=>rw[(hid b o e).2]at q;cases q
   refine Dk (Z:=[C]) (s2:=s8) I1 hst hfr hex (λ b hb=>by rw[List.mem_singleton.mp hb];exact⟨hsz,fl.free C oC gC hC⟩) ho hg fl ⟨λ b o q=>?_,hno a k2,?_,_,oe,vs,T,_,_,(ot a gne.symm).trans ((at_ a naC).trans he),⟨hcls,g0⟩,hd,g1,hno T gn,gne,Heap.get?_update_self _ ((at_ T nTC).trans hT) (Obj.isFreed_of_fields (Obj.data_mapFields gd _)),Obj.data_mapFields gd _,by simp[hsz3];rfl⟩ (λ b o e hb=>?_) (λ dx e=>?_) (hE cl po H' hq)
   . obtain⟨q1,q2⟩:=hid b o q
     exact(ot b λ z=>by rw[z,gn]at q2;cases q2).trans ((at_ b q1).trans (k1 b o q2))
   . rw[hst]
     refine Gb k3 λ L hL=>⟨?_,λ o ho' z=>?_⟩
     . obtain⟨n,_⟩:=k3.mem hL
       exact hno L n
     . exact(ot L (fld L o ho' z)).trans ((at_ L λ q=>hCf' (by rw[hst,←q];exact hL)).trans ho')
   . obtain⟨_,o',e',d⟩:=fw.2.2.1.mem hb
     rw[e]at e'
     cases e'
     obtain⟨sl,e9⟩:=up9 b o e d
     exact⟨sl,(ot b (fld b _ e9 d)).trans ((at_ b λ q=>hCf' (by rw[←q];exact hb)).trans e9)⟩
   . obtain⟨o,e1,e2⟩:=lk dx e
     obtain⟨o',e3,e4⟩:=dk a o e1
     exact⟨o',(ot a gne.symm).trans ((at_ a naC).trans e3),e4.trans e2⟩
 . intro s' Hc D0 C m I' hm fp ne q
   refine⟨m,hm,λ h' sb=>⟨.ref D0,Hc,?_,rfl,q⟩⟩
   obtain⟨f0,f1,f2,f3,f4,f5⟩:=fp
   exact(I'.turned (t':=s'.toks) (λ b o hb e=>(sb.2 b hb).trans e) f0 f1 f3 f4 f5).unwish
end
end XE
set_option maxHeartbeats 1000000
namespace XE
open PySem PySem.Spec L2 DL RF
open PyProof.Rows
variable {Ω : Wd}
structure RX(Ω:Wd) where
 lev:Nat
 chk:Bool->List Str->Nm->Expr->Bool
 wp:Gam->Store->WD->WX->Prop
 sound:∀{X:Cx}{r:Nat}{top:Bool}{N:List Str}{nm:Nm}{e:Expr}{Γ:Gam}{S:Store}{W:WD}{WE:WX},At Ω X.nox r top N nm->lev≤r->chk top N nm e=true->wp Γ S W WE->EvR X Γ S e W WE
def RX.of(a:Ex Ω):RX Ω where
 lev:=a.lev
 chk:=a.chk
 wp Γ S W _:=a.wp Γ S W
 sound:=by
  intro X r top N nm e Γ S W WE A hl hc hw
  exact Tq (a.sound A hl hc hw)
def RX.x(a:XEx Ω):RX Ω where
 lev:=a.lev
 chk:=a.chk
 wp:=a.wp
 sound:=by
  intro X r top N nm e Γ S W WE A hl hc hw
  exact Vl (a.sound A hl hc hw)
def RX.bin(op:Operator)(a b:RX Ω):RX Ω where
 lev:=max a.lev b.lev
 chk top N nm e:=match e with | .BinOp l o r _=>(o==op)&&(a.chk top N nm l&&b.chk top N nm r) | _=>false
 wp Γ S W WE:=a.wp Γ S (λ x S1=>b.wp Γ S1 (λ y S2=>Em op x y S2 W) WE) WE
 sound:=by
  intro X r top N nm e Γ S W WE A hl hc hw
  obtain⟨l1,l2⟩:=lv2 hl
  cases e with
  | BinOp l o r' pos=>
    obtain⟨h1,h2⟩:=aa hc
    obtain⟨h2,h3⟩:=aa h2
    have e:o=op:=eq_of_beq h1
    subst e
    exact O9 ((a.sound A l1 h2 hw).mono λ x S1 q=>(b.sound A l2 h3 q).mono λ y S2 q=>yH q)
  | _=>exact fE hc
structure RA(Ω:Wd) where
 lev:Nat
 chk:Bool->List Str->Nm->List Expr->Bool
 wp:Gam->Store->(List D->Store->Prop)->WX->Prop
 plain:∀{top:Bool}{N:List Str}{nm:Nm}{es:List Expr},chk top N nm es=true->es.all okE=true
 sound:∀{X:Cx}{r:Nat}{top:Bool}{N:List Str}{nm:Nm}{es:List Expr}{Γ:Gam}{S:Store}{W:List D->Store->Prop}{WE:WX},At Ω X.nox r top N nm->lev≤r->chk top N nm es=true->wp Γ S W WE->su X Γ S es W WE
def RA.nil:RA Ω where
 lev:=0
 chk _ _ _ es:=es.isEmpty
 wp _ S W _:=W [] S
 plain:=by
  intro top N nm es hc
  cases es with
  | nil=>rfl
  | cons=>cases hc
 sound:=by
  intro X r top N nm es Γ S W WE A _ hc hw
  cases es with
  | nil=>exact yD hw
  | cons=>cases hc
def RA.cons(a:RX Ω)(k:RA Ω):RA Ω where
 lev:=max a.lev k.lev
 chk top N nm es:=match es with | e::es=>okE e&&(a.chk top N nm e&&k.chk top N nm es) | []=>false
 wp Γ S W WE:=a.wp Γ S (λ d S1=>k.wp Γ S1 (λ ds S2=>W (d::ds) S2) WE) WE
 plain:=by
  intro top N nm es hc
  cases es with
  | nil=>cases hc
  | cons e es=>
    obtain⟨h1,h2⟩:=aa hc
    obtain⟨h2,h3⟩:=aa h2
    rw[List.all_cons,h1,k.plain h3];rfl
 sound:=by
  intro X r top N nm es Γ S W WE A hl hc hw
  obtain⟨l1,l2⟩:=lv2 hl
  cases es with
  | nil=>cases hc
  | cons e es=>
    obtain⟨h1,h2⟩:=aa hc
    obtain⟨h2,h3⟩:=aa h2
    exact uZ ((a.sound A l1 h2 hw).mono λ d S1 q=>k.sound A l2 h3 q) (aD h1 _ _)
def RX.tup(as:RA Ω):RX Ω where
 lev:=as.lev
 chk top N nm e:=match e with | .Tuple es _ _=>as.chk top N nm es | _=>false
 wp Γ S W WE:=as.wp Γ S (λ ds S1=>ds.length≤1000000/\W (.tup ds) S1) WE
 sound:=by
  intro X r top N nm e Γ S W WE A hl hc hw
  cases e with
  | Tuple es k pos=>exact Ol (as.sound A hl hc hw)
  | _=>exact fE hc
def RX.typ(b:Bc)(hm:Ω.mg b.x=none)(a:RX Ω):RX Ω where
 lev:=a.lev
 chk top N nm e:=fj e λ y es=>dj es λ x=>(y==b.x)&&(glb nm b.x&&(okN b.x&&(okE x&&a.chk top N nm x)))
 wp Γ S W WE:=a.wp Γ S (λ d S1=>b.wp [d] S1 W) WE
 sound:=by
  intro X r top N nm e Γ S W WE A hl hc hw
  obtain⟨y,p,es,pos,rfl,h0⟩:=b7 hc
  obtain⟨x,rfl,h1⟩:=bj h0
  obtain⟨h1,h2⟩:=aa h1
  obtain⟨h2,h3⟩:=aa h2
  obtain⟨h3,h4⟩:=aa h3
  obtain⟨h4,h5⟩:=aa h4
  have e:y=b.x:=eq_of_beq h1
  subst e
  refine Nt (uZ ((a.sound A hl h5 hw).mono λ d S1 q=>yD (b.sound A.calm (A.room.mono (Nat.zero_le _)) q)) (aD h4 _ _)) (by rw[show X.mg=Ω.mg from A.g];exact hm) b.boot (A.glb h2) (aY h3).2.2 (aY h3).1 (aD h4 _ _) rfl
@[irreducible] noncomputable def CompX(cap:List (Option Nat))(Γ:Gam)(elt:XEx Ω)(tg:Tg)(W:WD)(WE:WX)(ds:List D)(S1:Store):Prop:=
  ds.length≤1000000/\∃Pv:Nat->List D->Store->Prop,Pv 0 [] S1/\
   (∀i d acc S',ds[i]? =some d->Pv i acc S'->tg.wp d (capt cap Γ) λ Γ2=>elt.wp Γ2 S' (λ y S4=>Pv (i+1) (acc++[y]) S4) WE)/\
   ∀acc S',Pv ds.length acc S'->W (.lst acc) S'
def Rc(N':List Str)(cap:List (Option Nat))(elt:XEx Ω)(tg:Tg)(it:Itb Ω)(top:Bool)(N:List Str)(nm:Nm)(e:Expr):Bool:=match e with
 | .ListComp x gs sc _=>dj gs λ g=>(g.is_async==0)&&(g.ifs.isEmpty&&((sc.kind==.function)&&(jT sc.names&&(freeOk nm sc.names&&((sc.names.all λ y=>!(y.2==.local)||(sc.names.lookup y.1==some .local))&&(aJ N nm N' sc.names cap N'&&
  (okE g.iter&&((tg.slots.all λ j=>cap[j]? ==some none)&&(decide N'.Nodup&&(it.chk top N nm g.target g.iter&&(tg.chk false N' sc.names g.target&&(elt.chk false N' sc.names x&&top))))))))))))
 | _=>false
def RX.comp(N':List Str)(cap:List (Option Nat))(elt:XEx Ω)(tg:Tg)(it:Itb Ω):RX Ω where
 lev:=max elt.lev it.lev
 chk top N nm e:=Rc N' cap elt tg it top N nm e
 wp Γ S W WE:=it.wp Γ S λ ds S1=>CompX cap Γ elt tg W WE ds S1
 sound :=by
  intro X r top N nm e Γ S W WE A hl hc hw
  obtain⟨l1,l2⟩:=lv2 hl
  cases e with
  | ListComp x gs sc pos=>
    obtain⟨⟨t,i,cs,as⟩,rfl,hc⟩:=bj hc
    obtain⟨g1,hc⟩:=aa hc
    obtain⟨g2,hc⟩:=aa hc
    obtain⟨h1,hc⟩:=aa hc
    obtain⟨h2,hc⟩:=aa hc
    obtain⟨h3,hc⟩:=aa hc
    obtain⟨h4,hc⟩:=aa hc
    obtain⟨h5,hc⟩:=aa hc
    obtain⟨h6,hc⟩:=aa hc
    obtain⟨h7,hc⟩:=aa hc
    obtain⟨h8,hc⟩:=aa hc
    obtain⟨h9,hc⟩:=aa hc
    obtain⟨h10,hc⟩:=aa hc
    obtain⟨h11,ht⟩:=aa hc
    have g1:as=0:=eq_of_beq g1
    subst g1
    have g2:cs=[]:=by cases cs with | nil=>rfl | cons=>cases g2
    subst g2
    have hk:sc.kind=.function:=eq_of_beq h1
    have nd:N'.Nodup:=of_decide_eq_true h8
    obtain⟨f1,f2,f3⟩:=A.fr ht
    refine KN N' cap f1 f2 f3 (ItW.toC (ItW.mono (it.sound A l2 h9 hw) λ ds S1 q=>?_)) A.calm hk h2 (lK A h3) (λ y hy e=>?_) (ig A h5) (gA h6 _)
    . unfold CompX at q
      obtain⟨hz,Pv,p0,pt,pe⟩:=q
      refine⟨hz,Pv,p0,λ _ _ _ _=>trivial,λ i d acc S' hd hp C s H ex cl=>?_,λ acc S' q=>.inl (pe acc S' q)⟩
      have B:=FW A (C:=C) (s:=s) (H:=H) (ex:=ex) (cl:=cl) hk nd
      have sl:∀j∈tg.slots,(capt cap Γ)[j]? =some none:=λ j hj=>uQ (by
       have:=List.all_eq_true.mp h7 j hj
       exact eq_of_beq this)
      have base:=pt i d acc S' hd hp
      have go:∀Γ2,elt.wp Γ2 S' (λ y S4=>Pv (i+1) (acc++[y]) S4) WE->TsA (bz X.nox sc N' C s H ex cl) Γ2 S' [] λ ok S3=>(ok=true->EvX (bz X.nox sc N' C s H ex cl) Γ2 S3 x (λ y S4=>Pv (i+1) (acc++[y]) S4) WE)/\(ok=false->Pv (i+1) acc S3):=by
       intro Γ2 q
       exact⟨λ _=>elt.sound (X:=bz X.nox sc N' C s H ex cl) B l1 h11 q,λ z=>by cases z⟩
      refine Tg.sound B (W:=λ Γ2 S2=>Sub (capt cap Γ) Γ2/\TsA (bz X.nox sc N' C s H ex cl) Γ2 S2 [] λ ok S3=>(ok=true->EvX (bz X.nox sc N' C s H ex cl) Γ2 S3 x (λ y S4=>Pv (i+1) (acc++[y]) S4) WE)/\(ok=false->Pv (i+1) acc S3)) h10 ?_
      cases tg with
      | nm j=>exact⟨(Sub.refl _).set j _ (sl j (by simp[Tg.slots])),go _ base⟩
      | tup is=>
        cases d with
        | tup es=>exact⟨base.1,Sub.setAll (Sub.refl _) sl,go _ base.2⟩
        | _=>exact base.elim
    . have:=List.all_eq_true.mp h4 y hy
      simpa[e]using this
  | _=>exact fE hc
theorem cmx_enc{cap:List (Option Nat)}{Γ:Gam}{elt:XEx Ω}{tg:Tg}{W:WD}{WE:WX}{S1:Store}{α:Type}{xs:List α}{enc:α->D}(f:α->D)(g:α->Bool)(n:Str)(hz:xs.length≤1000000)
 (h:∀(i:Nat)(x:α),xs[i]? =some x->∀(Q:WD)(QE:WX),(g x=true->Q (f x) S1)->(g x=false->QE n S1)->tg.wp (enc x) (capt cap Γ) λ Γ2=>elt.wp Γ2 S1 Q QE)
 (w:xs.all g=true->W (.lst (xs.map f)) S1)(we:xs.all g=false->WE n S1):CompX cap Γ elt tg W WE (xs.map enc) S1:=by
 unfold CompX
 refine⟨by rw[x5];exact hz,λ i acc S'=>acc=(xs.take i).map f/\S'=S1/\(xs.take i).all g=true,⟨rfl,rfl,rfl⟩,?_,?_⟩
 . rintro i d acc S' hd ⟨rfl,rfl,ha⟩
   obtain⟨x,hx,rfl⟩:=mX hd
   refine h i x hx _ _ (λ hg=>⟨?_,rfl,?_⟩) λ hg=>we ?_
   . rw[bN hx,List.map_append];rfl
   . rw[bN hx,List.all_append,ha]
     show(true&&(g x&&true))=true
     rw[hg];rfl
   . cases e:xs.all g with
     | false=>rfl
     | true=>rw[List.all_eq_true.mp e x (y8 hx)]at hg;cases hg
 . rintro acc S' ⟨rfl,rfl,ha⟩
   rw[x5,List.take_length]at ha ⊢
   exact w ha
def BX.rret(a:RX Ω):BX Ω where
 lev:=a.lev
 chk top N nm sts:=match sts with | .Return (some e) _::_=>a.chk top N nm e | _=>false
 wp Γ S W WE:=a.wp Γ S W.rt WE
 sound:=by
  intro X r top N nm sts Γ S W WE A hl hc hw
  split at hc
  . exact Qf (a.sound A hl hc hw)
  . exact fE hc
def BX.rset(i:Nat)(a:RX Ω)(rest:BX Ω):BX Ω where
 lev:=max a.lev rest.lev
 chk top N nm sts:=match sts with | []=>false | st::sts=>setB st λ m e=>(N[i]? ==some m)&&(lcl top nm m&&(noC e&&(a.chk top N nm e&&rest.chk top N nm sts)))
 wp Γ S W WE:=a.wp Γ S (λ d S1=>rest.wp (Γ.set i (some d)) S1 W WE) WE
 sound:=by
  intro X r top N nm sts Γ S W WE A hl hc hw
  obtain⟨q1,q2⟩:=lv2 hl
  cases sts with
  | nil=>exact fE hc
  | cons st sts=>
    obtain⟨m,mp,e,sp,rfl,hc_1⟩:=sV hc
    obtain⟨h1,hc⟩:=aa hc_1
    obtain⟨h2,hc⟩:=aa hc
    obtain⟨h3,hc⟩:=aa hc
    obtain⟨h4,h5⟩:=aa hc
    obtain⟨l1,l2⟩:=A.lcl h2
    exact QC i ((a.sound A q1 h4 hw).mono λ d S1 q=>rest.sound A q2 h5 q) (by rw[show X.N=N from A.n];exact A.nd) (by rw[show X.N=N from A.n];exact eq_of_beq h1) l1 (kO h3 _ _ _) l2
def BX.rsetIx(o i:Ex Ω)(a:RX Ω)(rest:BX Ω):BX Ω where
 lev:=max (max a.lev rest.lev) (max o.lev i.lev)
 chk top N nm sts:=match sts with | .Assign [.Subscript x y _] e _::sts=>noC e&&(okE y&&(a.chk top N nm e&&(o.chk top N nm x&&(i.chk top N nm y&&rest.chk top N nm sts)))) | _=>false
 wp Γ S W WE:=a.wp Γ S (λ d S1=>o.wp Γ S1 λ x S2=>i.wp Γ S2 λ y S3=>∃k n ds j,x=.loc k/\y=.int n/\S3[k]? =some ds/\L2.ixN ds.length n=some j/\rest.wp Γ (S3.set k (ds.set j d)) W WE) WE
 sound:=by
  intro X r top N nm sts Γ S W WE A hl hc hw
  obtain⟨l1,l2⟩:=lv2 hl
  obtain⟨l1,l4⟩:=lv2 l1
  obtain⟨l2,l3⟩:=lv2 l2
  split at hc
  . rename_i x y p e spos sts
    obtain⟨h1,hc⟩:=aa hc
    obtain⟨h2,hc⟩:=aa hc
    obtain⟨h3,hc⟩:=aa hc
    obtain⟨h4,hc⟩:=aa hc
    obtain⟨h5,h6⟩:=aa hc
    refine J7 ((a.sound A l1 h3 hw).mono λ d S1 q=>(o.sound A l2 h4 q).mono λ x S2 q=>(i.sound A l3 h5 q).mono λ y S3 q=>?_) ?_ (lV h1 _ _ _) rfl rfl
    . obtain⟨k,n,ds,j,g1,g2,g3,g4,g5⟩:=q
      exact⟨k,n,ds,j,g1,g2,g3,g4,rest.sound A l4 h6 g5⟩
    . intro v
      cases y<;>first | rfl | exact(y9 h2).elim
  . exact fE hc
@[irreducible] noncomputable def Eu(Γ:Gam)(tg:Tg)(body rest:BX Ω)(W:DL.Fin)(WE:WX)(ds:List D)(S1:Store):Prop:=
  ∃Pv:Nat->Gam->Store->Prop,Pv 0 Γ S1/\(∀i d Γ' S',ds[i]? =some d->Pv i Γ' S'->tg.wp d Γ' λ Γ2=>body.wp Γ2 S' {W with nx:=Pv (i+1),ct:=Pv (i+1),bk:=λ Γ' S'=>rest.wp Γ' S' W WE} WE)/\(∀Γ' S',Pv ds.length Γ' S'->rest.wp Γ' S' W WE)
theorem forX_by{Γ:Gam}{tg:Tg}{body rest:BX Ω}{W:DL.Fin}{WE:WX}{ds:List D}{S1:Store}(h:∃Pv:Nat->Gam->Store->Prop,Pv 0 Γ S1/\(∀i d Γ' S',ds[i]? =some d->Pv i Γ' S'->tg.wp d Γ' λ Γ2=>body.wp Γ2 S' {W with nx:=Pv (i+1),ct:=Pv (i+1),bk:=λ Γ' S'=>rest.wp Γ' S' W WE} WE)/\(∀Γ' S',Pv ds.length Γ' S'->rest.wp Γ' S' W WE)):Eu Γ tg body rest W WE ds S1:=by unfold Eu;exact h
def BX.rfor(tg:Tg)(it:Itb Ω)(body rest:BX Ω):BX Ω where
 lev:=max it.lev (max body.lev rest.lev)
 chk top N nm sts:=match sts with | .For t i b [] _::sts=>okE i&&(tg.chk top N nm t&&(it.chk top N nm t i&&(body.chk top N nm b&&(rest.chk top N nm sts&&top)))) | _=>false
 wp Γ S W WE:=it.wp Γ S λ ds S1=>Eu Γ tg body rest W WE ds S1
 sound:=by
  intro X r top N nm sts Γ S W WE A hl hc hw
  obtain⟨l1,l2⟩:=lv2 hl
  obtain⟨l2,l3⟩:=lv2 l2
  split at hc
  . rename_i t i b p sts
    obtain⟨h1,hc⟩:=aa hc
    obtain⟨h2,hc⟩:=aa hc
    obtain⟨h3,hc⟩:=aa hc
    obtain⟨h4,hc⟩:=aa hc
    obtain⟨h5,ht⟩:=aa hc
    obtain⟨f1,f2,f3⟩:=A.fr ht
    refine TQ f1 f2 f3 (ItW.mono (it.sound A l1 h3 hw) λ ds S1 q=>?_) A.calm (gA h1 _)
    unfold Eu at q
    obtain⟨Pv,p0,pt,pe⟩:=q
    refine⟨Pv,p0,λ i d Γ' S' hd hp=>Tg.sound A h2 (Tg.mono (pt i d Γ' S' hd hp) λ Γ2 q=>?_),λ Γ' S' hp=>rest.sound A l3 h5 (pe Γ' S' hp)⟩
    intro pins s σ H O I env ok
    refine wpAny_mono (body.sound A l2 h4 q pins s σ H O I env ok) (λ f s1 q=>?_) λ _ _ z=>z
    cases f with
    | next=>exact q
    | ret v=>exact q
    | brk=>
      obtain⟨σ',H',I',O1,Γ1,S1,w,st1,ok1,env1⟩:=q
      exact⟨σ',H',I',O1,Γ1,S1,rest.sound A l3 h5 w,st1,ok1,env1⟩
    | cont=>exact q
  . exact fE hc
def BX.rse{x:Str}(ex:Exc Ω x):BX Ω where
 lev:=0
 chk top N nm sts:=match sts with
  | []=>false
  | st::_=>anB (rsV st) λ u=>u.2&&anB u.1 λ v=>fj v λ y es=>dj es λ m=>DY m&&((y==x)&&(glb nm x&&okN x))
 wp Γ S W WE:=WE x S
 sound:=by
  intro X r top N nm sts Γ S W WE A hl hc hw
  cases sts with
  | nil=>exact fE hc
  | cons st sts=>
    obtain⟨⟨v,vb⟩,g4,hc_4⟩:=aX hc
    obtain⟨g5,hc_5⟩:=aa hc_4
    obtain⟨v',g6,hc_6⟩:=aX hc_5
    obtain⟨y,np,es,cp,rfl,hc_7⟩:=b7 hc_6
    obtain⟨m,rfl,hc_8⟩:=bj hc_7
    obtain⟨g7,hc_9⟩:=aa hc_8
    obtain⟨m',j,cp0,rfl⟩:=Cw g7
    have g5:vb=true:=g5
    have g6:v=some (.Call (.Name y np) [.Constant (.str m') j cp0] [] cp):=g6
    subst g5 g6
    obtain⟨rp,rfl⟩:=FZ g4
    obtain⟨h1,hc⟩:=aa hc_9
    obtain⟨h2,h3⟩:=aa hc
    have e:y=x:=eq_of_beq h1
    subst e
    obtain⟨C,hm,hx,_⟩:=ex
    intro pins s σ H O I env ok
    exact wpAny_execs_cons (wpAny_mono (BP (Q:=λ _ _=>False) (C:=C) (by rw[show X.mg=Ω.mg from A.g];exact hm) (by rw[show X.K=Ω.K from A.k];exact hx) A.calm (cF (yc (gB ⟨rfl,hw⟩)) rfl) (A.glb h2) (aY h3).1 rfl I env ok) (λ _ _ z=>z.elim) λ _ _ z=>z)
def Kc(L:List Str)(n:Nat)(WE:WX):WX:=λ nm S1=>WE nm S1∨(nm∈L/\∃J S',S1=S'++J/\n≤S'.length/\flat S'/\WE nm S')
theorem QX.drp{L T:List Str}{mg:Str->Option Value}{K:PySem.W.Frag}{O:Own}{H H':Hp}{WE:WX}{c:Value}{po:Option Addr}{n:Nat}(E:ExF mg K L T)(hn:O.A.length=n)(q:QX mg K O H (Kc L n WE) c po H'):QX mg K O H WE c po H':=by
 obtain⟨nm,O',S',h1,h2,h3,h4⟩:=q
 cases po with
 | none=>
   obtain⟨w,hx⟩:=h2
   rcases w with w | ⟨_,J,S0,rfl,hl,hS,w⟩
   . exact⟨nm,O',S',h1,⟨w,hx⟩,h3,h4⟩
   . obtain⟨st2,ok2,_,_⟩:=jX h3 h4 (by omega) hS
     exact⟨nm,_,S0,h1,⟨w,hx⟩,st2,ok2⟩
 | some dx=>
   obtain⟨hx,f,d,v,w,h5⟩:=h2
   rcases w with w | ⟨hm,_⟩
   . exact⟨nm,O',S',h1,⟨hx,f,d,v,w,h5⟩,h3,h4⟩
   . obtain⟨C,g1,g2,_⟩:=E.cls nm hm
     rw[h1]at g1
     rw[hx C (Option.some.inj g1)]at g2
     cases g2
theorem XR.drp{X:Cx}{L T:List Str}{O:Own}{H:Hp}{WE:WX}{e:Value}{s2:Shared}{n:Nat}(E:ExF X.mg X.K L T)(hn:O.A.length=n)(h:XR X O H (Kc L n WE) e s2):XR X O H WE e s2:=by
 rcases h with⟨pins,σ,H2,s1,a,C,vs,h1,h2,h3,h4,h5,h6⟩ | ⟨pins,σ,H2,s1,E',h1,h2,h3⟩ | ⟨pins,σ,H2,a,C,t,dx,h1,h2,h3,h4,h5⟩ | h
 . exact .inl ⟨pins,σ,H2,s1,a,C,vs,h1,h2,h3,h4,h5,h6.drp E hn⟩
 . exact .inr (.inl ⟨pins,σ,H2,s1,E',h1,h2,λ c po H' z=>(h3 c po H' z).drp E hn⟩)
 . exact .inr (.inr (.inl ⟨pins,σ,H2,a,C,t,dx,h1,h2,h3,h4,h5.drp E hn⟩))
 . refine .inr (.inr (.inr (wpAny_mono h (λ _ s3 z=>?_) λ _ _ z=>z)))
   obtain⟨E',h1,h2⟩:=z
   exact⟨E',h1,λ c po H' q=>(h2 c po H' q).drp E hn⟩
def BX.drp{L T:List Str}(E:ExF Ω.mg Ω.K L T)(b:BX Ω):BX Ω where
 lev:=b.lev
 chk:=b.chk
 wp Γ S W WE:=b.wp Γ S {W with rt:=Drp S.length W.rt} (Kc L S.length WE)
 sound:=by
  intro X r top N nm sts Γ S W WE A hl hc hw pins s σ H O I env ok
  have E':ExF X.mg X.K L T:=by rw[show X.mg=Ω.mg from A.g,show X.K=Ω.K from A.k];exact E
  refine wpAny_mono (b.sound A hl hc hw pins s σ H O I env ok) (λ f s' q=>?_) λ _ _ z=>z.drp E' ok.len
  cases f with
  | next=>exact q
  | brk=>exact q
  | cont=>exact q
  | ret u=>obtain⟨v,σ',H',I',r,q⟩:=q;exact⟨v,σ',H',I',r,QG.drp ok.len q⟩
end XE
set_option maxHeartbeats 4000000
namespace K53
open PySem L2 DL RF XE
variable {Ω : Wd} {f : Addr} {fd : FuncData}
def top(i:Nat):Stmt:=PySem.Challenge.pw_nestturn_k53_texts_refused.main.body.getD i (.Pass ⟨0,0,0,0⟩)
structure Bi(mg:Str->Option Value)(K:PySem.W.Frag):Prop where
 ENOUGH_SIGNS_:∃t,mg "ENOUGH_SIGNS"=some (.int 99 t)
 FIGURES_:∃t,mg "FIGURES"=some (.str "0123456789" t)
 LETTERS_:GT mg K "LETTERS" ["a","b","c"]
 MOST_STEPS_:∃t,mg "MOST_STEPS"=some (.int 60 t)
 abs_:mg "abs"=none
 all_:mg "all"=none
 bool_:mg "bool"=none
 enumerate_:mg "enumerate"=none
 int_:mg "int"=none
 isinstance_:mg "isinstance"=none
 len_:mg "len"=none
 list_:mg "list"=none
 range_:mg "range"=none
 str_:mg "str"=none
 sum_:mg "sum"=none
 tuple_:mg "tuple"=none
 zip_:mg "zip"=none
abbrev XL:List Str:=["NoProgram","NoText","TooMany"]
abbrev XT:List Str:=["NoOrder","NoPlan","NoProgram","NoRow","NoText","NoTurn","Tied","TooMany","ValueError"]
section
variable {Ω : Wd}
abbrev gP:Stmt:=top 11
abbrev yC:List Str:=["thing"]
abbrev yZ:List Str:=["thing"]
def xX(B:Bi Ω.mg Ω.K):Bl Ω:=
 Bl.cons (Sm.ret (Ex.and (Bo.cons (Ex.isi B.isinstance_ (Ex.var 0) .int B.int_) (Bo.one (Ex.not (Ex.isi B.isinstance_ (Ex.var 0) .bool B.bool_)))))) Bl.nil
abbrev d8:Stmt:=top 12
abbrev pZ:List Str:=["thing","least","most"]
abbrev qM:List Str:=["thing","least","most"]
def rn(B:Bi Ω.mg Ω.K):Bl Ω:=
 Bl.cons (Sm.ret (Ex.and (Bo.cons (Ex.isi B.isinstance_ (Ex.var 0) .tuple B.tuple_) (Bo.one (Ex.ch2 (Ex.var 1) .LtE (Ex.blt cV B.len_ (Ar.cons (Ex.var 0) Ar.nil)) .LtE (Ex.var 2)))))) Bl.nil
abbrev jk:Stmt:=top 13
abbrev Ai:List Str:=["thing","d"]
abbrev Be:List Str:=["thing","d"]
def Az(B:Bi Ω.mg Ω.K){Fq32:Ct}(Cq32:Cal Ω "is_whole" 1 1 Fq32){Fq31:Ct}(Cq31:Cal Ω "is_tuple_of" 1 3 Fq31):Bl Ω:=
 Bl.cons (Sm.ret (Ex.and (Bo.cons (Ex.call Cq31 (Ar.cons (Ex.var 0) (Ar.cons (Ex.bin .Add (Ex.var 1) (Ex.int 1)) (Ar.cons (Ex.bin .Add (Ex.var 1) (Ex.int 1)) Ar.nil)))) (Bo.one (Ex.blt fU B.all_ (Ar.cons (Ex.comp ["number"] [none] (Ex.call Cq32 (Ar.cons (Ex.var 0) Ar.nil)) (Tg.nm 0) (Itb.seq (Ex.var 0)) Cd.no) Ar.nil)))))) Bl.nil
abbrev gK:Stmt:=top 14
abbrev yG:List Str:=["form","counts"]
abbrev zY:List Str:=["form","counts"]
def xx(B:Bi Ω.mg Ω.K):Bl Ω:=
 Bl.cons (Sm.ret (Ex.bin .Add (Ex.ix (Ex.var 0) (Ex.int 0)) (Ex.blt Eh B.sum_ (Ar.cons (Ex.comp ["number","count"] [none,none] (Ex.bin .Mult (Ex.var 0) (Ex.var 1)) (Tg.tup [0,1]) (Itb.zip B.zip_ (Ex.sl (Ex.var 0) (Po.so (Ex.int 1)) Po.no) (Ex.var 1)) Cd.no) Ar.nil)))) Bl.nil
abbrev gJ:Stmt:=top 15
abbrev yO:List Str:=["thing","d"]
abbrev xH:List Str:=["thing","d"]
def ue(B:Bi Ω.mg Ω.K){Fq20:Ct}(Cq20:Cal Ω "is_form" 2 2 Fq20):Bl Ω:=
 Bl.cons (Sm.ret (Ex.and (Bo.cons (Ex.ch2 (Ex.neg (Ex.int 9)) .LtE (Ex.ix (Ex.var 0) (Ex.int 0)) .LtE (Ex.int 9)) (Bo.one (Ex.blt fU B.all_ (Ar.cons (Ex.comp ["number"] [none] (Ex.ch2 (Ex.neg (Ex.int 2)) .LtE (Ex.var 0) .LtE (Ex.int 2)) (Tg.nm 0) (Itb.seq (Ex.sl (Ex.var 0) (Po.so (Ex.int 1)) Po.no)) Cd.no) Ar.nil)))))) Bl.nil
def zU(B:Bi Ω.mg Ω.K){Fq20:Ct}(Cq20:Cal Ω "is_form" 2 2 Fq20):Bl Ω:=
 Bl.cons (Sm.ite (Te.not (Te.val (Ex.call Cq20 (Ar.cons (Ex.var 0) (Ar.cons (Ex.var 1) Ar.nil))))) (Bl.cons (Sm.ret (Ex.bl false)) Bl.nil) Bl.nil) (ue B Cq20)
abbrev jc:Stmt:=top 16
abbrev Aw:List Str:=["thing","d"]
abbrev Am:List Str:=["thing","d"]
def Bh{Fq31:Ct}(Cq31:Cal Ω "is_tuple_of" 1 3 Fq31){Fq18:Ct}(Cq18:Cal Ω "is_bound" 3 2 Fq18):Bl Ω:=
 Bl.cons (Sm.ret (Ex.and (Bo.cons (Ex.call Cq31 (Ar.cons (Ex.var 0) (Ar.cons (Ex.int 2) (Ar.cons (Ex.int 2) Ar.nil)))) (Bo.cons (Ex.call Cq18 (Ar.cons (Ex.ix (Ex.var 0) (Ex.int 0)) (Ar.cons (Ex.var 1) Ar.nil))) (Bo.one (Ex.call Cq18 (Ar.cons (Ex.ix (Ex.var 0) (Ex.int 1)) (Ar.cons (Ex.var 1) Ar.nil)))))))) Bl.nil
abbrev iB:Stmt:=top 17
abbrev xF:List Str:=["thing"]
abbrev xQ:List Str:=["thing"]
def zj(B:Bi Ω.mg Ω.K){Fq31:Ct}(Cq31:Cal Ω "is_tuple_of" 1 3 Fq31){Fq21:Ct}(Cq21:Cal Ω "is_loop" 4 2 Fq21):Bl Ω:=
 Bl.cons (Sm.ret (Ex.and (Bo.cons (Ex.call Cq31 (Ar.cons (Ex.var 0) (Ar.cons (Ex.int 1) (Ar.cons (Ex.int 3) Ar.nil)))) (Bo.one (Ex.blt fU B.all_ (Ar.cons (Ex.comp ["k","loop"] [none,none] (Ex.call Cq21 (Ar.cons (Ex.var 1) (Ar.cons (Ex.var 0) Ar.nil))) (Tg.tup [0,1]) (Itb.enm B.enumerate_ (Ex.var 0)) Cd.no) Ar.nil)))))) Bl.nil
abbrev cz:Stmt:=top 18
abbrev lE:List Str:=["ahead","low","high","longer","counts","count"]
abbrev lF:List Str:=["ahead","low","high"]
section
variable (B : Bi Ω.mg Ω.K) {Fq13 : Ct} (Cq13 : Cal Ω "comes_to" 1 2 Fq13)
def jA(B:Bi Ω.mg Ω.K){Fq13:Ct}(Cq13:Cal Ω "comes_to" 1 2 Fq13):Bl Ω:=
 Bl.cons (Sm.ret (Ex.var 3)) Bl.nil
def jM:Bl Ω:=
 Bl.cons (Sm.forL (Tg.nm 4) (Ex.var 0) (Bl.cons (Sm.for (Tg.nm 5) (Itb.rng2 B.range_ (Ex.call Cq13 (Ar.cons (Ex.var 1) (Ar.cons (Ex.var 4) Ar.nil))) (Ex.call Cq13 (Ar.cons (Ex.var 2) (Ar.cons (Ex.var 4) Ar.nil)))) (Bl.cons (Sm.expr (Ex.m_append (Ex.var 3) (Ex.bin .Add (Ex.var 4) (Ex.tup (Ar.cons (Ex.var 5) Ar.nil))))) Bl.nil)) Bl.nil)) (jA B Cq13)
def lr:Bl Ω:=
 Bl.cons (Sm.set 3 (Ex.own Ar.nil)) (jM B Cq13)
end
abbrev fM:Stmt:=top 19
abbrev vI:List Str:=["loops","told","low","high"]
abbrev wC:List Str:=["loops"]
section
variable {Fq43 : Ct} (Cq43 : Cal Ω "with_next_count" 2 3 Fq43)
def qI{Fq43:Ct}(Cq43:Cal Ω "with_next_count" 2 3 Fq43):Bl Ω:=
 Bl.cons (Sm.ret (Ex.var 1)) Bl.nil
def qR:Bl Ω:=
 Bl.cons (Sm.forL (Tg.tup [2,3]) (Ex.var 0) (Bl.cons (Sm.set 1 (Ex.call Cq43 (Ar.cons (Ex.var 1) (Ar.cons (Ex.var 2) (Ar.cons (Ex.var 3) Ar.nil))))) Bl.nil)) (qI Cq43)
def vC:Bl Ω:=
 Bl.cons (Sm.set 1 (Ex.lst (Ar.cons (Ex.tup Ar.nil) Ar.nil))) (qR Cq43)
end
abbrev cu:Stmt:=top 22
abbrev lw:List Str:=["number"]
abbrev lD:List Str:=["number"]
def lg(B:Bi Ω.mg Ω.K):Bl Ω:=
 Bl.cons (Sm.ret (Ex.cmp .Lt (Ex.blt VN B.abs_ (Ar.cons (Ex.var 0) Ar.nil)) (Ex.bin .Pow (Ex.int 10) (Ex.int 30)))) Bl.nil
abbrev fV:Stmt:=top 23
abbrev wL:List Str:=["thing"]
abbrev wM:List Str:=["thing"]
def wQ(B:Bi Ω.mg Ω.K){Fq32:Ct}(Cq32:Cal Ω "is_whole" 1 1 Fq32){Fq31:Ct}(Cq31:Cal Ω "is_tuple_of" 1 3 Fq31):Bl Ω:=
 Bl.cons (Sm.ret (Ex.and (Bo.cons (Ex.call Cq31 (Ar.cons (Ex.var 0) (Ar.cons (Ex.int 1) (Ar.cons (Ex.int 3) Ar.nil)))) (Bo.one (Ex.blt fU B.all_ (Ar.cons (Ex.comp ["width"] [none] (Ex.and (Bo.cons (Ex.call Cq32 (Ar.cons (Ex.var 0) Ar.nil)) (Bo.one (Ex.ch2 (Ex.int 1) .LtE (Ex.var 0) .LtE (Ex.int 2))))) (Tg.nm 0) (Itb.seq (Ex.var 0)) Cd.no) Ar.nil)))))) Bl.nil
abbrev cU:Stmt:=top 24
abbrev nG:List Str:=["thing","d"]
abbrev nJ:List Str:=["thing","d"]
def nP(B:Bi Ω.mg Ω.K){Fq20:Ct}(Cq20:Cal Ω "is_form" 2 2 Fq20):Bl Ω:=
 Bl.cons (Sm.ret (Ex.and (Bo.cons (Ex.call Cq20 (Ar.cons (Ex.var 0) (Ar.cons (Ex.var 1) Ar.nil))) (Bo.one (Ex.blt fU B.all_ (Ar.cons (Ex.comp ["number"] [none] (Ex.ch2 (Ex.neg (Ex.int 99)) .LtE (Ex.var 0) .LtE (Ex.int 99)) (Tg.nm 0) (Itb.seq (Ex.var 0)) Cd.no) Ar.nil)))))) Bl.nil
abbrev iz:Stmt:=top 25
abbrev zJ:List Str:=["thing","d"]
abbrev zA:List Str:=["thing","d"]
def zV(B:Bi Ω.mg Ω.K){Fq20:Ct}(Cq20:Cal Ω "is_form" 2 2 Fq20){Fq17:Ct}(Cq17:Cal Ω "has_few_figures" 1 1 Fq17):Bl Ω:=
 Bl.cons (Sm.ret (Ex.and (Bo.cons (Ex.call Cq20 (Ar.cons (Ex.var 0) (Ar.cons (Ex.var 1) Ar.nil))) (Bo.one (Ex.blt fU B.all_ (Ar.cons (Ex.comp ["number"] [none] (Ex.call Cq17 (Ar.cons (Ex.var 0) Ar.nil)) (Tg.nm 0) (Itb.seq (Ex.var 0)) Cd.no) Ar.nil)))))) Bl.nil
abbrev bH:Stmt:=top 26
abbrev iG:List Str:=["table","place","widths","d"]
abbrev iJ:List Str:=["table","place","widths","d"]
def gk(B:Bi Ω.mg Ω.K){Fq32:Ct}(Cq32:Cal Ω "is_whole" 1 1 Fq32){Fq31:Ct}(Cq31:Cal Ω "is_tuple_of" 1 3 Fq31){Fq26:Ct}(Cq26:Cal Ω "is_place_form" 3 2 Fq26):Bl Ω:=
 Bl.cons (Sm.ret (Ex.and (Bo.cons (Ex.call Cq31 (Ar.cons (Ex.var 1) (Ar.cons (Ex.ix (Ex.var 2) (Ex.var 0)) (Ar.cons (Ex.ix (Ex.var 2) (Ex.var 0)) Ar.nil)))) (Bo.one (Ex.blt fU B.all_ (Ar.cons (Ex.comp ["form","d"] [none,some 3] (Ex.call Cq26 (Ar.cons (Ex.var 0) (Ar.cons (Ex.var 1) Ar.nil))) (Tg.nm 0) (Itb.seq (Ex.var 1)) Cd.no) Ar.nil)))))) Bl.nil
def iI(B:Bi Ω.mg Ω.K){Fq32:Ct}(Cq32:Cal Ω "is_whole" 1 1 Fq32){Fq31:Ct}(Cq31:Cal Ω "is_tuple_of" 1 3 Fq31){Fq26:Ct}(Cq26:Cal Ω "is_place_form" 3 2 Fq26):Bl Ω:=
 Bl.cons (Sm.ite (Te.or (Bt.cons (Te.not (Te.val (Ex.call Cq32 (Ar.cons (Ex.var 0) Ar.nil)))) (Bt.one (Te.not (Te.ch2 (Ex.int 0) .LtE (Ex.var 0) .Lt (Ex.blt cV B.len_ (Ar.cons (Ex.var 2) Ar.nil))))))) (Bl.cons (Sm.ret (Ex.bl false)) Bl.nil) Bl.nil) (gk B Cq32 Cq31 Cq26)
abbrev jr:Stmt:=top 27
abbrev Bq:List Str:=["thing","widths","d"]
abbrev An:List Str:=["thing","widths","d"]
section
variable {Fq32 : Ct} (Cq32 : Cal Ω "is_whole" 1 1 Fq32) {Fq31 : Ct} (Cq31 : Cal Ω "is_tuple_of" 1 3 Fq31) {Fq17 : Ct} (Cq17 : Cal Ω "has_few_figures" 1 1 Fq17) {Fq30 : Ct} (Cq30 : Cal Ω "is_table_with_place" 4 4 Fq30)
def wA{Fq32:Ct}(Cq32:Cal Ω "is_whole" 1 1 Fq32){Fq31:Ct}(Cq31:Cal Ω "is_tuple_of" 1 3 Fq31){Fq17:Ct}(Cq17:Cal Ω "has_few_figures" 1 1 Fq17){Fq30:Ct}(Cq30:Cal Ω "is_table_with_place" 4 4 Fq30):Bl Ω:=
 Bl.cons (Sm.ret (Ex.call Cq30 (Ar.cons (Ex.ix (Ex.var 0) (Ex.int 1)) (Ar.cons (Ex.ix (Ex.var 0) (Ex.int 2)) (Ar.cons (Ex.var 1) (Ar.cons (Ex.var 2) Ar.nil)))))) Bl.nil
def vW:Bl Ω:=
 Bl.cons (Sm.ite (Te.or (Bt.cons (Te.not (Te.val (Ex.call Cq32 (Ar.cons (Ex.ix (Ex.var 0) (Ex.int 0)) Ar.nil)))) (Bt.one (Te.not (Te.val (Ex.call Cq17 (Ar.cons (Ex.ix (Ex.var 0) (Ex.int 0)) Ar.nil))))))) (Bl.cons (Sm.ret (Ex.bl false)) Bl.nil) Bl.nil) (wA Cq32 Cq31 Cq17 Cq30)
def Ba:Bl Ω:=
 Bl.cons (Sm.ite (Te.not (Te.val (Ex.call Cq31 (Ar.cons (Ex.var 0) (Ar.cons (Ex.int 3) (Ar.cons (Ex.int 3) Ar.nil)))))) (Bl.cons (Sm.ret (Ex.bl false)) Bl.nil) Bl.nil) (vW Cq32 Cq31 Cq17 Cq30)
end
abbrev gW:Stmt:=top 28
abbrev zL:List Str:=["thing","widths","d"]
abbrev zK:List Str:=["thing","widths","d"]
def yF(B:Bi Ω.mg Ω.K){Fq31:Ct}(Cq31:Cal Ω "is_tuple_of" 1 3 Fq31){Fq27:Ct}(Cq27:Cal Ω "is_read" 5 3 Fq27):Bl Ω:=
 Bl.cons (Sm.ret (Ex.and (Bo.cons (Ex.call Cq31 (Ar.cons (Ex.var 0) (Ar.cons (Ex.int 0) (Ar.cons (Ex.int 3) Ar.nil)))) (Bo.one (Ex.blt fU B.all_ (Ar.cons (Ex.comp ["read","widths","d"] [none,some 1,some 2] (Ex.call Cq27 (Ar.cons (Ex.var 0) (Ar.cons (Ex.var 1) (Ar.cons (Ex.var 2) Ar.nil)))) (Tg.nm 0) (Itb.seq (Ex.var 0)) Cd.no) Ar.nil)))))) Bl.nil
abbrev jh:Stmt:=top 29
abbrev Ad:List Str:=["thing","widths","d"]
abbrev Bb:List Str:=["thing","widths","d"]
section
variable {Fq31 : Ct} (Cq31 : Cal Ω "is_tuple_of" 1 3 Fq31) {Fq29 : Ct} (Cq29 : Cal Ω "is_start" 3 2 Fq29) {Fq30 : Ct} (Cq30 : Cal Ω "is_table_with_place" 4 4 Fq30) {Fq28 : Ct} (Cq28 : Cal Ω "is_reads" 6 3 Fq28)
def v9{Fq31:Ct}(Cq31:Cal Ω "is_tuple_of" 1 3 Fq31){Fq29:Ct}(Cq29:Cal Ω "is_start" 3 2 Fq29){Fq30:Ct}(Cq30:Cal Ω "is_table_with_place" 4 4 Fq30){Fq28:Ct}(Cq28:Cal Ω "is_reads" 6 3 Fq28):Bl Ω:=
 Bl.cons (Sm.ret (Ex.and (Bo.cons (Ex.call Cq29 (Ar.cons (Ex.ix (Ex.var 0) (Ex.int 2)) (Ar.cons (Ex.var 2) Ar.nil))) (Bo.one (Ex.call Cq28 (Ar.cons (Ex.ix (Ex.var 0) (Ex.int 3)) (Ar.cons (Ex.var 1) (Ar.cons (Ex.var 2) Ar.nil)))))))) Bl.nil
def vG:Bl Ω:=
 Bl.cons (Sm.ite (Te.not (Te.val (Ex.call Cq30 (Ar.cons (Ex.ix (Ex.var 0) (Ex.int 0)) (Ar.cons (Ex.ix (Ex.var 0) (Ex.int 1)) (Ar.cons (Ex.var 1) (Ar.cons (Ex.var 2) Ar.nil))))))) (Bl.cons (Sm.ret (Ex.bl false)) Bl.nil) Bl.nil) (v9 Cq31 Cq29 Cq30 Cq28)
def Bg:Bl Ω:=
 Bl.cons (Sm.ite (Te.not (Te.val (Ex.call Cq31 (Ar.cons (Ex.var 0) (Ar.cons (Ex.int 4) (Ar.cons (Ex.int 4) Ar.nil)))))) (Bl.cons (Sm.ret (Ex.bl false)) Bl.nil) Bl.nil) (vG Cq31 Cq29 Cq30 Cq28)
end
abbrev jt:Stmt:=top 30
abbrev Aq:List Str:=["thing","widths","d"]
abbrev Bd:List Str:=["thing","widths"]
section
variable (B : Bi Ω.mg Ω.K) {Fq31 : Ct} (Cq31 : Cal Ω "is_tuple_of" 1 3 Fq31) {Fq22 : Ct} (Cq22 : Cal Ω "is_loops" 5 1 Fq22) {Fq19 : Ct} (Cq19 : Cal Ω "is_deed" 7 3 Fq19)
def vN(B:Bi Ω.mg Ω.K){Fq31:Ct}(Cq31:Cal Ω "is_tuple_of" 1 3 Fq31){Fq22:Ct}(Cq22:Cal Ω "is_loops" 5 1 Fq22){Fq19:Ct}(Cq19:Cal Ω "is_deed" 7 3 Fq19):Bl Ω:=
 Bl.cons (Sm.ret (Ex.and (Bo.cons (Ex.call Cq31 (Ar.cons (Ex.ix (Ex.var 0) (Ex.int 1)) (Ar.cons (Ex.int 1) (Ar.cons (Ex.int 4) Ar.nil)))) (Bo.one (Ex.blt fU B.all_ (Ar.cons (Ex.comp ["deed","widths","d"] [none,some 1,some 2] (Ex.call Cq19 (Ar.cons (Ex.var 0) (Ar.cons (Ex.var 1) (Ar.cons (Ex.var 2) Ar.nil)))) (Tg.nm 0) (Itb.seq (Ex.ix (Ex.var 0) (Ex.int 1))) Cd.no) Ar.nil)))))) Bl.nil
def v5:Bl Ω:=
 Bl.cons (Sm.set 2 (Ex.blt cV B.len_ (Ar.cons (Ex.ix (Ex.var 0) (Ex.int 0)) Ar.nil))) (vN B Cq31 Cq22 Cq19)
def Bk:Bl Ω:=
 Bl.cons (Sm.ite (Te.or (Bt.cons (Te.not (Te.val (Ex.call Cq31 (Ar.cons (Ex.var 0) (Ar.cons (Ex.int 2) (Ar.cons (Ex.int 2) Ar.nil)))))) (Bt.one (Te.not (Te.val (Ex.call Cq22 (Ar.cons (Ex.ix (Ex.var 0) (Ex.int 0)) Ar.nil))))))) (Bl.cons (Sm.ret (Ex.bl false)) Bl.nil) Bl.nil) (v5 B Cq31 Cq22 Cq19)
end
abbrev gU:Stmt:=top 31
abbrev yU:List Str:=["thing","widths"]
abbrev yS:List Str:=["thing","widths"]
def zg(B:Bi Ω.mg Ω.K){Fq31:Ct}(Cq31:Cal Ω "is_tuple_of" 1 3 Fq31){Fq23:Ct}(Cq23:Cal Ω "is_nest" 8 2 Fq23):Bl Ω:=
 Bl.cons (Sm.ret (Ex.and (Bo.cons (Ex.call Cq31 (Ar.cons (Ex.var 0) (Ar.cons (Ex.int 1) (Ar.cons (Ex.int 3) Ar.nil)))) (Bo.one (Ex.blt fU B.all_ (Ar.cons (Ex.comp ["nest","widths"] [none,some 1] (Ex.call Cq23 (Ar.cons (Ex.var 0) (Ar.cons (Ex.var 1) Ar.nil))) (Tg.nm 0) (Itb.seq (Ex.var 0)) Cd.no) Ar.nil)))))) Bl.nil
abbrev cB:Stmt:=top 32
abbrev lu:List Str:=["nests"]
abbrev lz:List Str:=["nests"]
def lC(B:Bi Ω.mg Ω.K){Fq14:Ct}(Cq14:Cal Ω "counts_of" 3 1 Fq14):Bl Ω:=
 Bl.cons (Sm.ret (Ex.blt Eh B.sum_ (Ar.cons (Ex.comp ["loops","deeds"] [none,none] (Ex.bin .Mult (Ex.blt cV B.len_ (Ar.cons (Ex.call Cq14 (Ar.cons (Ex.var 0) Ar.nil)) Ar.nil)) (Ex.blt cV B.len_ (Ar.cons (Ex.var 1) Ar.nil))) (Tg.tup [0,1]) (Itb.seq (Ex.var 0)) Cd.no) Ar.nil))) Bl.nil
abbrev eU:Stmt:=top 33
abbrev um:List Str:=["widths","nests"]
abbrev sX:List Str:=["widths","nests"]
section
variable (B : Bi Ω.mg Ω.K) (E : ExF Ω.mg Ω.K XL XT) {Fq33 : Ct} (Cq33 : Cal Ω "is_widths" 2 1 Fq33) {Fq24 : Ct} (Cq24 : Cal Ω "is_nests" 9 2 Fq24) {Fq36 : Ct} (Cq36 : Cal Ω "number_of_steps" 4 1 Fq36)
def pG(B:Bi Ω.mg Ω.K)(E:ExF Ω.mg Ω.K XL XT){Fq33:Ct}(Cq33:Cal Ω "is_widths" 2 1 Fq33){Fq24:Ct}(Cq24:Cal Ω "is_nests" 9 2 Fq24){Fq36:Ct}(Cq36:Cal Ω "number_of_steps" 4 1 Fq36):BX Ω:=
 (BX.cons (Sm.ret (Ex.tup (Ar.cons (Ex.var 0) (Ar.cons (Ex.var 1) Ar.nil)))) (BX.of Bl.nil))
def pB:BX Ω:=
 (BX.ifr (E.exc (x:="TooMany") (by decide)) (Te.cmp .Gt (Ex.call Cq36 (Ar.cons (Ex.var 1) Ar.nil)) (Ex.gint B.MOST_STEPS_)) (pG B E Cq33 Cq24 Cq36))
def oA:BX Ω:=
 (BX.ifr (E.exc (x:="NoProgram") (by decide)) (Te.not (Te.val (Ex.call Cq24 (Ar.cons (Ex.var 1) (Ar.cons (Ex.var 0) Ar.nil))))) (pB B E Cq33 Cq24 Cq36))
def tu:BX Ω:=
 (BX.ifr (E.exc (x:="NoProgram") (by decide)) (Te.not (Te.val (Ex.call Cq33 (Ar.cons (Ex.var 0) Ar.nil)))) (oA B E Cq33 Cq24 Cq36))
end
abbrev dm:Stmt:=top 38
abbrev oU:List Str:=["word"]
abbrev oF:List Str:=["word"]
def pg:Bl Ω:=
 Bl.cons (Sm.ret (Ex.ifE (Te.val (Ex.ms Jm (Ex.var 0) (Ex.str "-"))) (Ex.slS (Ex.var 0) (Po.so (Ex.int 1)) Po.no) (Ex.var 0))) Bl.nil
abbrev fZ:Stmt:=top 39
abbrev wu:List Str:=["word","figures"]
abbrev v4:List Str:=["word"]
section
variable (B : Bi Ω.mg Ω.K) {Fq45 : Ct} (Cq45 : Cal Ω "without_sign" 1 1 Fq45)
def qD(B:Bi Ω.mg Ω.K){Fq45:Ct}(Cq45:Cal Ω "without_sign" 1 1 Fq45):Bl Ω:=
 Bl.cons (Sm.ret (Ex.or (Bo.cons (Ex.cmp .NotEq (Ex.ixS (Ex.var 1) (Ex.int 0)) (Ex.str "0")) (Bo.one (Ex.cmp .Eq (Ex.var 0) (Ex.str "0")))))) Bl.nil
def qJ:Bl Ω:=
 Bl.cons (Sm.ite (Te.or (Bt.cons (Te.cmp .Eq (Ex.var 1) (Ex.str "")) (Bt.one (Te.not (Te.val (Ex.blt fU B.all_ (Ar.cons (Ex.comp ["sign"] [none] (Ex.inS (Ex.var 0) (Ex.gstr B.FIGURES_)) (Tg.nm 0) (Itb.str (Ex.var 1)) Cd.no) Ar.nil))))))) (Bl.cons (Sm.ret (Ex.bl false)) Bl.nil) Bl.nil) (qD B Cq45)
def vD:Bl Ω:=
 Bl.cons (Sm.set 1 (Ex.call Cq45 (Ar.cons (Ex.var 0) Ar.nil))) (qJ B Cq45)
end
abbrev d7:Stmt:=top 40
abbrev qK:List Str:=["word"]
abbrev qb:List Str:=["word"]
def nH(B:Bi Ω.mg Ω.K)(E:ExF Ω.mg Ω.K XL XT){Fq25:Ct}(Cq25:Cal Ω "is_number" 2 1 Fq25):BX Ω:=
 (BX.cons (Sm.ret (Ex.typ Ul B.int_ (Ar.cons (Ex.slS (Ex.var 0) Po.no (Po.so (Ex.gint B.ENOUGH_SIGNS_))) Ar.nil))) (BX.of Bl.nil))
def qi(B:Bi Ω.mg Ω.K)(E:ExF Ω.mg Ω.K XL XT){Fq25:Ct}(Cq25:Cal Ω "is_number" 2 1 Fq25):BX Ω:=
 (BX.ifr (E.exc (x:="NoText") (by decide)) (Te.not (Te.val (Ex.call Cq25 (Ar.cons (Ex.var 0) Ar.nil)))) (nH B E Cq25))
abbrev fW:Stmt:=top 41
abbrev wy:List Str:=["word"]
abbrev wN:List Str:=["word"]
def v6(B:Bi Ω.mg Ω.K)(E:ExF Ω.mg Ω.K XL XT){Fq37:XCt}(Cq37:az Ω "number_read" 3 1 Fq37):BX Ω:=
 (BX.rret (RX.typ ql B.tuple_ (RX.comp ["part"] [none] (XEx.call Cq37 (Ar.cons (Ex.var 0) Ar.nil)) (Tg.nm 0) (Itb.seq (Ex.ms mW (Ex.var 0) (Ex.str ","))))))
abbrev fO:Stmt:=top 42
abbrev vV:List Str:=["word","parts"]
abbrev vJ:List Str:=["word"]
section
variable (B : Bi Ω.mg Ω.K) (E : ExF Ω.mg Ω.K XL XT) {Fq16 : XCt} (Cq16 : az Ω "form_read" 4 1 Fq16)
def qW(B:Bi Ω.mg Ω.K)(E:ExF Ω.mg Ω.K XL XT){Fq16:XCt}(Cq16:az Ω "form_read" 4 1 Fq16):BX Ω:=
 (BX.rret (RX.tup (RA.cons (RX.of (Ex.indexG B.LETTERS_ (Ex.ix (Ex.var 1) (Ex.int 0)))) (RA.cons (RX.typ ql B.tuple_ (RX.comp ["part"] [none] (XEx.call Cq16 (Ar.cons (Ex.var 0) Ar.nil)) (Tg.nm 0) (Itb.seq (Ex.sl (Ex.var 1) (Po.so (Ex.int 1)) Po.no)))) RA.nil))))
def qN:BX Ω:=
 (BX.ifr (E.exc (x:="NoText") (by decide)) (Te.inG B.LETTERS_ true (Ex.ix (Ex.var 1) (Ex.int 0))) (qW B E Cq16))
def wB:BX Ω:=
 (BX.cons (Sm.set 1 (Ex.ms mW (Ex.var 0) (Ex.str "@"))) (qN B E Cq16))
end
abbrev bO:Stmt:=top 43
abbrev jj:List Str:=["words","between"]
abbrev jf:List Str:=["words","between"]
def jq(B:Bi Ω.mg Ω.K)(E:ExF Ω.mg Ω.K XL XT):BX Ω:=
 (BX.ifr (E.exc (x:="NoText") (by decide)) (Te.or (Bt.cons (Te.cmp .NotEq (Ex.blt cV B.len_ (Ar.cons (Ex.var 0) Ar.nil)) (Ex.int 4)) (Bt.one (Te.cmp .NotEq (Ex.ix (Ex.var 0) (Ex.int 2)) (Ex.var 1))))) (BX.of Bl.nil))
abbrev fQ:Stmt:=top 44
abbrev vQ:List Str:=["words"]
abbrev vz:List Str:=["words"]
def pM(E:ExF Ω.mg Ω.K XL XT){Fq16:XCt}(Cq16:az Ω "form_read" 4 1 Fq16){Fq40:XCt}(Cq40:az Ω "refuse_other_words" 1 2 Fq40):BX Ω:=
 (BX.rret (RX.tup (RA.cons (RX.x (XEx.call Cq16 (Ar.cons (Ex.ix (Ex.var 0) (Ex.int 1)) Ar.nil))) (RA.cons (RX.x (XEx.call Cq16 (Ar.cons (Ex.ix (Ex.var 0) (Ex.int 3)) Ar.nil))) RA.nil))))
def wJ(E:ExF Ω.mg Ω.K XL XT){Fq16:XCt}(Cq16:az Ω "form_read" 4 1 Fq16){Fq40:XCt}(Cq40:az Ω "refuse_other_words" 1 2 Fq40):BX Ω:=
 (BX.exs (XEx.call Cq40 (Ar.cons (Ex.var 0) (Ar.cons (Ex.str "to") Ar.nil))) (pM E Cq16 Cq40))
abbrev fX:Stmt:=top 45
abbrev vR:List Str:=["words"]
abbrev vB:List Str:=["words"]
def rJ(E:ExF Ω.mg Ω.K XL XT){Fq16:XCt}(Cq16:az Ω "form_read" 4 1 Fq16){Fq12:XCt}(Cq12:az Ω "cell_read" 5 1 Fq12){Fq40:XCt}(Cq40:az Ω "refuse_other_words" 1 2 Fq40):BX Ω:=
 (BX.rret (RX.bin .Add (RX.x (XEx.call Cq12 (Ar.cons (Ex.ix (Ex.var 0) (Ex.int 1)) Ar.nil))) (RX.tup (RA.cons (RX.x (XEx.call Cq16 (Ar.cons (Ex.ix (Ex.var 0) (Ex.int 3)) Ar.nil))) (RA.cons (RX.of (Ex.tup Ar.nil)) RA.nil)))))
def wH(E:ExF Ω.mg Ω.K XL XT){Fq16:XCt}(Cq16:az Ω "form_read" 4 1 Fq16){Fq12:XCt}(Cq12:az Ω "cell_read" 5 1 Fq12){Fq40:XCt}(Cq40:az Ω "refuse_other_words" 1 2 Fq40):BX Ω:=
 (BX.exs (XEx.call Cq40 (Ar.cons (Ex.var 0) (Ar.cons (Ex.str "be") Ar.nil))) (rJ E Cq16 Cq12 Cq40))
abbrev fP:Stmt:=top 46
abbrev vp:List Str:=["deed","words","told"]
abbrev vA:List Str:=["deed","words"]
section
variable (E : ExF Ω.mg Ω.K XL XT) {Fq37 : XCt} (Cq37 : az Ω "number_read" 3 1 Fq37) {Fq12 : XCt} (Cq12 : az Ω "cell_read" 5 1 Fq12) {Fq40 : XCt} (Cq40 : az Ω "refuse_other_words" 1 2 Fq40)
def qp(E:ExF Ω.mg Ω.K XL XT){Fq37:XCt}(Cq37:az Ω "number_read" 3 1 Fq37){Fq12:XCt}(Cq12:az Ω "cell_read" 5 1 Fq12){Fq40:XCt}(Cq40:az Ω "refuse_other_words" 1 2 Fq40):BX Ω:=
 (BX.cons (Sm.ret (Ex.bin .Add (Ex.sl (Ex.var 0) Po.no (Po.so (Ex.int 3))) (Ex.tup (Ar.cons (Ex.bin .Add (Ex.ix (Ex.var 0) (Ex.int 3)) (Ex.tup (Ar.cons (Ex.var 2) Ar.nil))) Ar.nil)))) (BX.of Bl.nil))
def pY:BX Ω:=
 (BX.rset 2 (RX.bin .Add (RX.tup (RA.cons (RX.x (XEx.call Cq37 (Ar.cons (Ex.ix (Ex.var 1) (Ex.int 1)) Ar.nil))) RA.nil)) (RX.x (XEx.call Cq12 (Ar.cons (Ex.ix (Ex.var 1) (Ex.int 3)) Ar.nil)))) (qp E Cq37 Cq12 Cq40))
def wj:BX Ω:=
 (BX.exs (XEx.call Cq40 (Ar.cons (Ex.var 1) (Ar.cons (Ex.str "of") Ar.nil))) (pY E Cq37 Cq12 Cq40))
end
abbrev f9:Stmt:=top 47
abbrev wK:List Str:=["nest","words","loops","deeds"]
abbrev vK:List Str:=["nest","words"]
section
variable (E : ExF Ω.mg Ω.K XL XT) {Fq34 : XCt} (Cq34 : az Ω "loop_read" 5 1 Fq34) {Fq15 : XCt} (Cq15 : az Ω "deed_read" 6 1 Fq15) {Fq44 : XCt} (Cq44 : az Ω "with_read" 6 2 Fq44)
def qz(E:ExF Ω.mg Ω.K XL XT){Fq34:XCt}(Cq34:az Ω "loop_read" 5 1 Fq34){Fq15:XCt}(Cq15:az Ω "deed_read" 6 1 Fq15){Fq44:XCt}(Cq44:az Ω "with_read" 6 2 Fq44):BX Ω:=
 (BX.rse (E.exc (x:="NoText") (by decide)))
def qu:BX Ω:=
 (BX.ite (Te.and (Bt.cons (Te.cmp .Eq (Ex.ix (Ex.var 1) (Ex.int 0)) (Ex.str "and")) (Bt.one (Te.tval (Ex.var 3))))) (BX.rret (RX.tup (RA.cons (RX.of (Ex.var 2)) (RA.cons (RX.bin .Add (RX.of (Ex.sl (Ex.var 3) Po.no (Po.so (Ex.neg (Ex.int 1))))) (RX.tup (RA.cons (RX.x (XEx.call Cq44 (Ar.cons (Ex.ix (Ex.var 3) (Ex.neg (Ex.int 1))) (Ar.cons (Ex.var 1) Ar.nil)))) RA.nil))) RA.nil)))) BX.nil (qz E Cq34 Cq15 Cq44))
def pN:BX Ω:=
 (BX.ite (Te.cmp .Eq (Ex.ix (Ex.var 1) (Ex.int 0)) (Ex.str "set")) (BX.rret (RX.tup (RA.cons (RX.of (Ex.var 2)) (RA.cons (RX.bin .Add (RX.of (Ex.var 3)) (RX.tup (RA.cons (RX.x (XEx.call Cq15 (Ar.cons (Ex.var 1) Ar.nil))) RA.nil))) RA.nil)))) BX.nil (qu E Cq34 Cq15 Cq44))
def qC:BX Ω:=
 (BX.ite (Te.and (Bt.cons (Te.cmp .Eq (Ex.ix (Ex.var 1) (Ex.int 0)) (Ex.str "loop")) (Bt.one (Te.not (Te.tval (Ex.var 3)))))) (BX.rret (RX.tup (RA.cons (RX.bin .Add (RX.of (Ex.var 2)) (RX.tup (RA.cons (RX.x (XEx.call Cq34 (Ar.cons (Ex.var 1) Ar.nil))) RA.nil))) (RA.cons (RX.of (Ex.var 3)) RA.nil)))) BX.nil (pN E Cq34 Cq15 Cq44))
def rB:BX Ω:=
 (BX.cons (Sm.set 3 (Ex.ix (Ex.var 0) (Ex.int 1))) (qC E Cq34 Cq15 Cq44))
def wO:BX Ω:=
 (BX.cons (Sm.set 2 (Ex.ix (Ex.var 0) (Ex.int 0))) (rB E Cq34 Cq15 Cq44))
end
abbrev eQ:Stmt:=top 48
abbrev ug:List Str:=["lines","nests","words"]
abbrev tU:List Str:=["lines"]
section
variable (B : Bi Ω.mg Ω.K) (E : ExF Ω.mg Ω.K XL XT) {Fq42 : XCt} (Cq42 : az Ω "with_line" 7 2 Fq42)
def oZ(B:Bi Ω.mg Ω.K)(E:ExF Ω.mg Ω.K XL XT){Fq42:XCt}(Cq42:az Ω "with_line" 7 2 Fq42):BX Ω:=
 (BX.cons (Sm.ret (Ex.typ ql B.tuple_ (Ar.cons (Ex.var 1) Ar.nil))) (BX.of Bl.nil))
def n6:BX Ω:=
 (BX.rfor (Tg.nm 2) (Itb.seq (Ex.var 0)) (BX.ite (Te.cmp .Eq (Ex.var 2) (Ex.lst (Ar.cons (Ex.str "nest") Ar.nil))) (BX.cons (Sm.expr (Ex.m_append (Ex.var 1) (Ex.tup (Ar.cons (Ex.tup Ar.nil) (Ar.cons (Ex.tup Ar.nil) Ar.nil))))) BX.nil) (BX.ite (Te.lval (Ex.var 1)) (BX.rsetIx (Ex.var 1) (Ex.neg (Ex.int 1)) (RX.x (XEx.call Cq42 (Ar.cons (Ex.ix (Ex.var 1) (Ex.neg (Ex.int 1))) (Ar.cons (Ex.var 2) Ar.nil)))) BX.nil) (BX.rse (E.exc (x:="NoText") (by decide))) BX.nil) BX.nil) (oZ B E Cq42))
def uM:BX Ω:=
 (BX.cons (Sm.set 1 (Ex.own Ar.nil)) (n6 B E Cq42))
end
abbrev dU:Stmt:=top 49
abbrev pP:List Str:=["words"]
abbrev qt:List Str:=["words"]
def nF(B:Bi Ω.mg Ω.K)(E:ExF Ω.mg Ω.K XL XT){Fq37:XCt}(Cq37:az Ω "number_read" 3 1 Fq37):BX Ω:=
 (BX.rret (RX.typ ql B.tuple_ (RX.comp ["word"] [none] (XEx.call Cq37 (Ar.cons (Ex.var 0) Ar.nil)) (Tg.nm 0) (Itb.seq (Ex.sl (Ex.var 0) (Po.so (Ex.int 1)) Po.no)))))
def qH(B:Bi Ω.mg Ω.K)(E:ExF Ω.mg Ω.K XL XT){Fq37:XCt}(Cq37:az Ω "number_read" 3 1 Fq37):BX Ω:=
 (BX.ifr (E.exc (x:="NoText") (by decide)) (Te.cmp .NotEq (Ex.ix (Ex.var 0) (Ex.int 0)) (Ex.str "tables")) (nF B E Cq37))
abbrev oh:Stmt:=top 50
abbrev Kp:List Str:=["text","lines","widths","nests"]
abbrev JW:List Str:=["text"]
section
variable (B : Bi Ω.mg Ω.K) (E : ExF Ω.mg Ω.K XL XT) {Fq38 : XCt} (Cq38 : az Ω "program_of" 10 2 Fq38) {Fq35 : XCt} (Cq35 : az Ω "nests_read" 8 1 Fq35) {Fq41 : XCt} (Cq41 : az Ω "widths_read" 4 1 Fq41)
def Ec(B:Bi Ω.mg Ω.K)(E:ExF Ω.mg Ω.K XL XT){Fq38:XCt}(Cq38:az Ω "program_of" 10 2 Fq38){Fq35:XCt}(Cq35:az Ω "nests_read" 8 1 Fq35){Fq41:XCt}(Cq41:az Ω "widths_read" 4 1 Fq41):BX Ω:=
 (BX.retx (XEx.call Cq38 (Ar.cons (Ex.var 2) (Ar.cons (Ex.var 3) Ar.nil))) (BX.of Bl.nil))
def Fe:BX Ω:=
 (BX.setx 3 (XEx.call Cq35 (Ar.cons (Ex.sl (Ex.var 1) (Po.so (Ex.int 1)) Po.no) Ar.nil)) (Ec B E Cq38 Cq35 Cq41))
def Du:BX Ω:=
 (BX.setx 2 (XEx.call Cq41 (Ar.cons (Ex.ix (Ex.var 1) (Ex.int 0)) Ar.nil)) (Fe B E Cq38 Cq35 Cq41))
def Ea:BX Ω:=
 (BX.cons (Sm.setC 1 ["line"] [none] (Ex.ms mW (Ex.var 0) (Ex.str " ")) (Tg.nm 0) (Itb.seq (Ex.ms mW (Ex.var 0) (Ex.str "\n"))) Cd.no) (Du B E Cq38 Cq35 Cq41))
def Ja:BX Ω:=
 (BX.ifr (E.exc (x:="NoText") (by decide)) (Te.not (Te.val (Ex.isiS B.isinstance_ (Ex.var 0) B.str_))) (Ea B E Cq38 Cq35 Cq41))
end
abbrev jm:Stmt:=top 52
abbrev Av:List Str:=["_law_script","_law_k"]
abbrev Ag:List Str:=["_law_script","_law_k"]
def vP(B:Bi Ω.mg Ω.K):Bl Ω:=
 Bl.cons (Sm.ret (Ex.int 0)) Bl.nil
def Ae(B:Bi Ω.mg Ω.K):Bl Ω:=
 Bl.cons (Sm.ite (Te.cmp .Lt (Ex.var 1) (Ex.blt cV B.len_ (Ar.cons (Ex.var 0) Ar.nil))) (Bl.cons (Sm.ret (Ex.ix (Ex.var 0) (Ex.var 1))) Bl.nil) Bl.nil) (vP B)
abbrev uG:Stmt:=top 53
abbrev Nk:List Str:=["_law_script","_law_seed"]
abbrev MF:List Str:=["_law_script"]
def Ir(B:Bi Ω.mg Ω.K){Fq4:Ct}(Cq4:Cal Ω "_law_cell_at" 1 2 Fq4):Bl Ω:=
 Bl.cons (Sm.ret (Ex.own (Ar.cons (Ex.var 0) (Ar.cons (Ex.int 1) (Ar.cons (Ex.call Cq4 (Ar.cons (Ex.var 0) (Ar.cons (Ex.int 1) Ar.nil))) (Ar.cons (Ex.int 0) (Ar.cons (Ex.bin .Mod (Ex.call Cq4 (Ar.cons (Ex.var 0) (Ar.cons (Ex.int 0) Ar.nil))) (Ex.int 2)) (Ar.cons (Ex.var 1) Ar.nil)))))))) Bl.nil
def Ng(B:Bi Ω.mg Ω.K){Fq4:Ct}(Cq4:Cal Ω "_law_cell_at" 1 2 Fq4):Bl Ω:=
 Bl.cons (Sm.set 1 (Ex.bin .Mod (Ex.blt Eh B.sum_ (Ar.cons (Ex.comp ["_law_k","_law_cell"] [none,none] (Ex.bin .Mult (Ex.bin .Add (Ex.bin .Mod (Ex.var 1) (Ex.int 2147483629)) (Ex.int 1)) (Ex.bin .Add (Ex.bin .Mult (Ex.var 0) (Ex.var 0)) (Ex.int 7))) (Tg.tup [0,1]) (Itb.enm B.enumerate_ (Ex.sl (Ex.var 0) Po.no (Po.so (Ex.int 63)))) Cd.no) Ar.nil)) (Ex.int 2147483647))) (Ir B Cq4)
abbrev o9:Stmt:=top 54
abbrev Kd:List Str:=["_law_pen_here","_law_most","_law_found"]
abbrev JC:List Str:=["_law_pen_here","_law_most"]
section
variable {Fq4 : Ct} (Cq4 : Cal Ω "_law_cell_at" 1 2 Fq4)
def vL{Fq4:Ct}(Cq4:Cal Ω "_law_cell_at" 1 2 Fq4):Bl Ω:=
 Bl.cons (Sm.ret (Ex.bin .Mod (Ex.fdiv (Ex.bin .Mod (Ex.bin .Mult (Ex.ix (Ex.var 0) (Ex.int 5)) (Ex.int 1181783497276652981)) (Ex.int 2305843009213693951)) (Ex.int 64)) (Ex.var 1))) Bl.nil
def Aj:Bl Ω:=
 Bl.cons (Sm.setIx (Ex.var 0) (Ex.int 5) (Ex.bin .Mod (Ex.bin .Add (Ex.bin .Mult (Ex.ix (Ex.var 0) (Ex.int 5)) (Ex.int 48271)) (Ex.int 12345)) (Ex.int 2147483647))) (vL Cq4)
def wz{Fq4:Ct}(Cq4:Cal Ω "_law_cell_at" 1 2 Fq4):Bl Ω:=
 Bl.cons (Sm.setIx (Ex.var 0) (Ex.int 3) (Ex.int 0)) Bl.nil
def wF:Bl Ω:=
 Bl.cons (Sm.setIx (Ex.var 0) (Ex.int 2) (Ex.call Cq4 (Ar.cons (Ex.ix (Ex.var 0) (Ex.int 0)) (Ar.cons (Ex.ix (Ex.var 0) (Ex.int 1)) Ar.nil)))) (wz Cq4)
def Al:Bl Ω:=
 Bl.cons (Sm.setIx (Ex.var 0) (Ex.int 1) (Ex.bin .Add (Ex.ix (Ex.var 0) (Ex.int 1)) (Ex.int 1))) (wF Cq4)
def Ey{Fq4:Ct}(Cq4:Cal Ω "_law_cell_at" 1 2 Fq4):Bl Ω:=
 Bl.cons (Sm.ret (Ex.var 2)) Bl.nil
def Ej:Bl Ω:=
 Bl.cons (Sm.setIx (Ex.var 0) (Ex.int 2) (Ex.fdiv (Ex.ix (Ex.var 0) (Ex.int 2)) (Ex.var 1))) (Ey Cq4)
def En:Bl Ω:=
 Bl.cons (Sm.set 2 (Ex.bin .Mod (Ex.ix (Ex.var 0) (Ex.int 2)) (Ex.var 1))) (Ej Cq4)
def pQ:Bl Ω:=
 Bl.cons (Sm.setIx (Ex.var 0) (Ex.int 3) (Ex.bin .Add (Ex.ix (Ex.var 0) (Ex.int 3)) (Ex.int 1))) (En Cq4)
def Dv:Bl Ω:=
 Bl.cons (Sm.ite (Te.cmp .Eq (Ex.ix (Ex.var 0) (Ex.int 3)) (Ex.int 50)) (Al Cq4) Bl.nil) (pQ Cq4)
def Kf:Bl Ω:=
 Bl.cons (Sm.ite (Te.cmp .Eq (Ex.ix (Ex.var 0) (Ex.int 4)) (Ex.int 1)) (Aj Cq4) Bl.nil) (Dv Cq4)
end
abbrev pF:Stmt:=top 55
abbrev KY:List Str:=["_law_pen_here","_law_d"]
abbrev J3:List Str:=["_law_pen_here","_law_d"]
def JQ(B:Bi Ω.mg Ω.K){Fq11:Ct}(Cq11:Cal Ω "_law_take" 2 2 Fq11):Bl Ω:=
 Bl.cons (Sm.ret (Ex.ms ie (Ex.str ",") (Ex.comp ["_law_k","_law_pen_here"] [none,some 0] (Ex.typ QZ B.str_ (Ar.cons (Ex.bin .Sub (Ex.call Cq11 (Ar.cons (Ex.var 1) (Ar.cons (Ex.int 7) Ar.nil))) (Ex.int 3)) Ar.nil)) (Tg.nm 0) (Itb.rng1 B.range_ (Ex.bin .Add (Ex.var 1) (Ex.int 1))) Cd.no))) Bl.nil
abbrev lY:Stmt:=top 56
abbrev Gp:List Str:=["_law_pen_here","_law_lines_here","_law_nests","_law_deeds","_law_n","_law_d","_law_k","_law_s","_law_cell"]
abbrev Gz:List Str:=["_law_pen_here"]
section
variable (B : Bi Ω.mg Ω.K) {Fq11 : Ct} (Cq11 : Cal Ω "_law_take" 2 2 Fq11) {Fq5 : Ct} (Cq5 : Cal Ω "_law_form" 3 2 Fq5)
def ut(B:Bi Ω.mg Ω.K){Fq11:Ct}(Cq11:Cal Ω "_law_take" 2 2 Fq11){Fq5:Ct}(Cq5:Cal Ω "_law_form" 3 2 Fq5):Bl Ω:=
 Bl.cons (Sm.expr (Ex.m_append (Ex.var 1) (Ex.catS (Ex.catS (Ex.catS (Ex.str "and ") (Ex.typ QZ B.str_ (Ar.cons (Ex.bin .Sub (Ex.call Cq11 (Ar.cons (Ex.var 0) (Ar.cons (Ex.int 99) Ar.nil))) (Ex.int 49)) Ar.nil))) (Ex.str " of ")) (Ex.var 8)))) Bl.nil
def lW:Bl Ω:=
 Bl.cons (Sm.set 8 (Ex.catS (Ex.catS (Ex.ixS (Ex.str "ab") (Ex.call Cq11 (Ar.cons (Ex.var 0) (Ar.cons (Ex.int 2) Ar.nil)))) (Ex.str "@")) (Ex.call Cq5 (Ar.cons (Ex.var 0) (Ar.cons (Ex.var 5) Ar.nil))))) (ut B Cq11 Cq5)
def uI(B:Bi Ω.mg Ω.K){Fq11:Ct}(Cq11:Cal Ω "_law_take" 2 2 Fq11){Fq5:Ct}(Cq5:Cal Ω "_law_form" 3 2 Fq5):Bl Ω:=
 Bl.cons (Sm.for (Tg.nm 6) (Itb.rng1 B.range_ (Ex.call Cq11 (Ar.cons (Ex.var 0) (Ar.cons (Ex.int 3) Ar.nil)))) (lW B Cq11 Cq5)) Bl.nil
def lJ:Bl Ω:=
 Bl.cons (Sm.expr (Ex.m_append (Ex.var 1) (Ex.catS (Ex.catS (Ex.catS (Ex.catS (Ex.catS (Ex.str "set ") (Ex.ixS (Ex.str "ab") (Ex.call Cq11 (Ar.cons (Ex.var 0) (Ar.cons (Ex.int 2) Ar.nil))))) (Ex.str "@")) (Ex.call Cq5 (Ar.cons (Ex.var 0) (Ar.cons (Ex.var 5) Ar.nil)))) (Ex.str " be ")) (Ex.call Cq5 (Ar.cons (Ex.var 0) (Ar.cons (Ex.var 5) Ar.nil)))))) (uI B Cq11 Cq5)
def rZ(B:Bi Ω.mg Ω.K){Fq11:Ct}(Cq11:Cal Ω "_law_take" 2 2 Fq11){Fq5:Ct}(Cq5:Cal Ω "_law_form" 3 2 Fq5):Bl Ω:=
 Bl.cons (Sm.for (Tg.nm 7) (Itb.rng1 B.range_ (Ex.bin .Add (Ex.int 1) (Ex.call Cq11 (Ar.cons (Ex.var 0) (Ar.cons (Ex.int 3) Ar.nil))))) (lJ B Cq11 Cq5)) Bl.nil
def tB:Bl Ω:=
 Bl.cons (Sm.expr (Ex.m_append (Ex.var 3) (Ex.blt cV B.len_ (Ar.cons (Ex.var 1) Ar.nil)))) (rZ B Cq11 Cq5)
def sJ:Bl Ω:=
 Bl.cons (Sm.for (Tg.nm 6) (Itb.rng1 B.range_ (Ex.var 5)) (Bl.cons (Sm.expr (Ex.m_append (Ex.var 1) (Ex.catS (Ex.catS (Ex.catS (Ex.str "loop ") (Ex.ms ie (Ex.str ",") (Ex.binL false .Mult (Ex.lst (Ar.cons (Ex.str "0") Ar.nil)) (Ex.bin .Add (Ex.var 6) (Ex.int 1))))) (Ex.str " to ")) (Ex.ms ie (Ex.str ",") (Ex.binL false .Add (Ex.lst (Ar.cons (Ex.str "2") Ar.nil)) (Ex.binL false .Mult (Ex.lst (Ar.cons (Ex.str "0") Ar.nil)) (Ex.var 6))))))) Bl.nil)) (tB B Cq11 Cq5)
def t6:Bl Ω:=
 Bl.cons (Sm.set 5 (Ex.bin .Add (Ex.int 1) (Ex.call Cq11 (Ar.cons (Ex.var 0) (Ar.cons (Ex.int 2) Ar.nil))))) (sJ B Cq11 Cq5)
def tV:Bl Ω:=
 Bl.cons (Sm.expr (Ex.m_append (Ex.var 1) (Ex.str "nest"))) (t6 B Cq11 Cq5)
def lU:Bl Ω:=
 Bl.cons (Sm.expr (Ex.m_append (Ex.var 2) (Ex.blt cV B.len_ (Ar.cons (Ex.var 1) Ar.nil)))) (tV B Cq11 Cq5)
def Ax(B:Bi Ω.mg Ω.K){Fq11:Ct}(Cq11:Cal Ω "_law_take" 2 2 Fq11){Fq5:Ct}(Cq5:Cal Ω "_law_form" 3 2 Fq5):Bl Ω:=
 Bl.cons (Sm.ret (Ex.tup (Ar.cons (Ex.var 1) (Ar.cons (Ex.var 2) (Ar.cons (Ex.var 3) Ar.nil))))) Bl.nil
def Ah:Bl Ω:=
 Bl.cons (Sm.for (Tg.nm 4) (Itb.rng1 B.range_ (Ex.bin .Add (Ex.int 1) (Ex.call Cq11 (Ar.cons (Ex.var 0) (Ar.cons (Ex.int 3) Ar.nil))))) (lU B Cq11 Cq5)) (Ax B Cq11 Cq5)
def Af:Bl Ω:=
 Bl.cons (Sm.set 3 (Ex.own Ar.nil)) (Ah B Cq11 Cq5)
def Ak:Bl Ω:=
 Bl.cons (Sm.set 2 (Ex.own Ar.nil)) (Af B Cq11 Cq5)
def Gd:Bl Ω:=
 Bl.cons (Sm.set 1 (Ex.own (Ar.cons (Ex.str "tables 1 1") Ar.nil))) (Ak B Cq11 Cq5)
end
abbrev eZ:Stmt:=top 57
abbrev uC:List Str:=["_law_pen_here","_law_some"]
abbrev uL:List Str:=["_law_pen_here"]
def oG{Fq11:Ct}(Cq11:Cal Ω "_law_take" 2 2 Fq11):Bl Ω:=
 Bl.cons (Sm.ret (Ex.ix (Ex.var 1) (Ex.call Cq11 (Ar.cons (Ex.var 0) (Ar.cons (Ex.int 16) Ar.nil))))) Bl.nil
def sH{Fq11:Ct}(Cq11:Cal Ω "_law_take" 2 2 Fq11):Bl Ω:=
 Bl.cons (Sm.set 1 (Ex.lst (Ar.cons (Ex.str "01") (Ar.cons (Ex.str "-0") (Ar.cons (Ex.str "+1") (Ar.cons (Ex.str "") (Ar.cons (Ex.str "00") (Ar.cons (Ex.str "1.0") (Ar.cons (Ex.str "x") (Ar.cons (Ex.str "--1") (Ar.cons (Ex.str "1_0") (Ar.cons (Ex.str "-") (Ar.cons (Ex.str "-01") (Ar.cons (Ex.str "1e3") (Ar.cons (Ex.str "1-") (Ar.cons (Ex.str "0x1") (Ar.cons (Ex.str "one") (Ar.cons (Ex.str "- 1") Ar.nil)))))))))))))))))) (oG Cq11)
abbrev il:Stmt:=top 58
abbrev xM:List Str:=["_law_pen_here","_law_some"]
abbrev xq:List Str:=["_law_pen_here"]
def uK{Fq11:Ct}(Cq11:Cal Ω "_law_take" 2 2 Fq11):Bl Ω:=
 Bl.cons (Sm.ret (Ex.ix (Ex.var 1) (Ex.call Cq11 (Ar.cons (Ex.var 0) (Ar.cons (Ex.int 14) Ar.nil))))) Bl.nil
def zP{Fq11:Ct}(Cq11:Cal Ω "_law_take" 2 2 Fq11):Bl Ω:=
 Bl.cons (Sm.set 1 (Ex.lst (Ar.cons (Ex.str "d@0") (Ar.cons (Ex.str "A@0") (Ar.cons (Ex.str "aa@0") (Ar.cons (Ex.str "@0") (Ar.cons (Ex.str "a@") (Ar.cons (Ex.str "a@0,") (Ar.cons (Ex.str "a@,0") (Ar.cons (Ex.str "a@@0") (Ar.cons (Ex.str "0@0") (Ar.cons (Ex.str "a@0@") (Ar.cons (Ex.str "a@1.5") (Ar.cons (Ex.str "a@+0") (Ar.cons (Ex.str "a@0,-0") (Ar.cons (Ex.str "z@1") Ar.nil)))))))))))))))) (uK Cq11)
abbrev gj:Stmt:=top 59
abbrev vM:List Str:=["_law_pen_here","_law_number"]
abbrev vO:List Str:=["_law_pen_here","_law_number"]
def wD{Fq11:Ct}(Cq11:Cal Ω "_law_take" 2 2 Fq11):Bl Ω:=
 Bl.cons (Sm.ret (Ex.ix (Ex.lst (Ar.cons (Ex.catS (Ex.str "tables ") (Ex.var 1)) (Ar.cons (Ex.str "table 1") (Ar.cons (Ex.str "Tables 1") (Ar.cons (Ex.str "") (Ar.cons (Ex.str " tables 1") (Ar.cons (Ex.str "tables 1 ") (Ar.cons (Ex.str "tables  1") Ar.nil)))))))) (Ex.call Cq11 (Ar.cons (Ex.var 0) (Ar.cons (Ex.int 7) Ar.nil))))) Bl.nil
abbrev gO:Stmt:=top 60
abbrev z8:List Str:=["_law_pen_here","_law_way","_law_number","_law_cell","_law_some"]
abbrev zR:List Str:=["_law_pen_here"]
section
variable (B : Bi Ω.mg Ω.K) {Fq11 : Ct} (Cq11 : Cal Ω "_law_take" 2 2 Fq11) {Fq3 : Ct} (Cq3 : Cal Ω "_law_bad_number" 3 1 Fq3) {Fq0 : Ct} (Cq0 : Cal Ω "_law_bad_cell" 3 1 Fq0) {Fq1 : Ct} (Cq1 : Cal Ω "_law_bad_first" 3 2 Fq1)
def qj(B:Bi Ω.mg Ω.K){Fq11:Ct}(Cq11:Cal Ω "_law_take" 2 2 Fq11){Fq3:Ct}(Cq3:Cal Ω "_law_bad_number" 3 1 Fq3){Fq0:Ct}(Cq0:Cal Ω "_law_bad_cell" 3 1 Fq0){Fq1:Ct}(Cq1:Cal Ω "_law_bad_first" 3 2 Fq1):Bl Ω:=
 Bl.cons (Sm.ret (Ex.ix (Ex.var 4) (Ex.call Cq11 (Ar.cons (Ex.var 0) (Ar.cons (Ex.blt cV B.len_ (Ar.cons (Ex.var 4) Ar.nil)) Ar.nil))))) Bl.nil
def rE:Bl Ω:=
 Bl.cons (Sm.ite (Te.cmp .Eq (Ex.var 1) (Ex.int 7)) (Bl.cons (Sm.set 4 (Ex.lst (Ar.cons (Ex.str "and 1 from a@0") (Ar.cons (Ex.str "and 1 of") (Ar.cons (Ex.str "and of a@0") (Ar.cons (Ex.str "and 1 of a@0 b@0") (Ar.cons (Ex.str "and a@0 of 1") Ar.nil))))))) Bl.nil) Bl.nil) (qj B Cq11 Cq3 Cq0 Cq1)
def rY:Bl Ω:=
 Bl.cons (Sm.ite (Te.cmp .Eq (Ex.var 1) (Ex.int 6)) (Bl.cons (Sm.set 4 (Ex.lst (Ar.cons (Ex.str "set a@0 is 0") (Ar.cons (Ex.str "set a@0 be") (Ar.cons (Ex.str "set be 0") (Ar.cons (Ex.str "set a@0 be 0 0") (Ar.cons (Ex.str "set a@0 = 0") (Ar.cons (Ex.str "let a@0 be 0") Ar.nil)))))))) Bl.nil) Bl.nil) (rE B Cq11 Cq3 Cq0 Cq1)
def rN:Bl Ω:=
 Bl.cons (Sm.ite (Te.cmp .Eq (Ex.var 1) (Ex.int 5)) (Bl.cons (Sm.set 4 (Ex.lst (Ar.cons (Ex.catS (Ex.str "and 1 of ") (Ex.var 3)) (Ar.cons (Ex.str "and 1,1 of a@0") (Ar.cons (Ex.str "and  1 of a@0") (Ar.cons (Ex.str "And 1 of a@0") (Ar.cons (Ex.str "or 1 of a@0") Ar.nil))))))) Bl.nil) Bl.nil) (rY B Cq11 Cq3 Cq0 Cq1)
def sE:Bl Ω:=
 Bl.cons (Sm.ite (Te.cmp .Eq (Ex.var 1) (Ex.int 4)) (Bl.cons (Sm.set 4 (Ex.lst (Ar.cons (Ex.catS (Ex.catS (Ex.str "set ") (Ex.var 3)) (Ex.str " be 0")) (Ar.cons (Ex.catS (Ex.str "set a@0 be ") (Ex.var 2)) (Ar.cons (Ex.catS (Ex.catS (Ex.str "and ") (Ex.var 2)) (Ex.str " of a@0")) Ar.nil))))) Bl.nil) Bl.nil) (rN B Cq11 Cq3 Cq0 Cq1)
def tR:Bl Ω:=
 Bl.cons (Sm.ite (Te.cmp .Eq (Ex.var 1) (Ex.int 3)) (Bl.cons (Sm.set 4 (Ex.lst (Ar.cons (Ex.str "loop 0 until 1") (Ar.cons (Ex.str "loop 0 to") (Ar.cons (Ex.str "loop 0 to 1 2") (Ar.cons (Ex.str "loop 0 1") (Ar.cons (Ex.str "loop") (Ar.cons (Ex.str "loop  0 to 1") Ar.nil)))))))) Bl.nil) Bl.nil) (sE B Cq11 Cq3 Cq0 Cq1)
def uD:Bl Ω:=
 Bl.cons (Sm.ite (Te.cmp .Eq (Ex.var 1) (Ex.int 2)) (Bl.cons (Sm.set 4 (Ex.lst (Ar.cons (Ex.catS (Ex.catS (Ex.str "loop ") (Ex.var 2)) (Ex.str " to 1")) (Ar.cons (Ex.catS (Ex.str "loop 0 to ") (Ex.var 2)) (Ar.cons (Ex.catS (Ex.catS (Ex.str "loop 0,") (Ex.var 2)) (Ex.str " to 1")) Ar.nil))))) Bl.nil) Bl.nil) (tR B Cq11 Cq3 Cq0 Cq1)
def uJ:Bl Ω:=
 Bl.cons (Sm.ite (Te.cmp .Eq (Ex.var 1) (Ex.int 1)) (Bl.cons (Sm.set 4 (Ex.lst (Ar.cons (Ex.str "Nest") (Ar.cons (Ex.str "nest 1") (Ar.cons (Ex.str "nest ") (Ar.cons (Ex.str " nest") (Ar.cons (Ex.str "") (Ar.cons (Ex.str "nests") (Ar.cons (Ex.str "end") Ar.nil))))))))) Bl.nil) Bl.nil) (uD B Cq11 Cq3 Cq0 Cq1)
def uF:Bl Ω:=
 Bl.cons (Sm.set 4 (Ex.lst (Ar.cons (Ex.call Cq1 (Ar.cons (Ex.var 0) (Ar.cons (Ex.var 2) Ar.nil))) (Ar.cons (Ex.str "tables 1 x") (Ar.cons (Ex.str "tables 2,1") Ar.nil))))) (uJ B Cq11 Cq3 Cq0 Cq1)
def sU:Bl Ω:=
 Bl.cons (Sm.set 3 (Ex.call Cq0 (Ar.cons (Ex.var 0) Ar.nil))) (uF B Cq11 Cq3 Cq0 Cq1)
def tD:Bl Ω:=
 Bl.cons (Sm.set 2 (Ex.call Cq3 (Ar.cons (Ex.var 0) Ar.nil))) (sU B Cq11 Cq3 Cq0 Cq1)
def zp:Bl Ω:=
 Bl.cons (Sm.set 1 (Ex.call Cq11 (Ar.cons (Ex.var 0) (Ar.cons (Ex.int 8) Ar.nil)))) (tD B Cq11 Cq3 Cq0 Cq1)
end
abbrev dG:Stmt:=top 61
abbrev oH:List Str:=["_law_pen_here","_law_lines_here","_law_nests","_law_deeds","_law_n","_law_way","_law_end","_law_at"]
abbrev oX:List Str:=["_law_pen_here","_law_lines_here","_law_nests","_law_deeds"]
section
variable (B : Bi Ω.mg Ω.K) {Fq11 : Ct} (Cq11 : Cal Ω "_law_take" 2 2 Fq11)
def ju(B:Bi Ω.mg Ω.K){Fq11:Ct}(Cq11:Cal Ω "_law_take" 2 2 Fq11):Bl Ω:=
 Bl.cons (Sm.ret (Ex.bin .Add (Ex.bin .Add (Ex.sl (Ex.var 1) Po.no (Po.so (Ex.var 7))) (Ex.lst (Ar.cons (Ex.str "loop 0 to 1") Ar.nil))) (Ex.sl (Ex.var 1) (Po.so (Ex.var 7)) Po.no))) Bl.nil
def jE:Bl Ω:=
 Bl.cons (Sm.set 7 (Ex.ix (Ex.lst (Ar.cons (Ex.bin .Add (Ex.bin .Add (Ex.ix (Ex.var 3) (Ex.var 4)) (Ex.int 1)) (Ex.call Cq11 (Ar.cons (Ex.var 0) (Ar.cons (Ex.bin .Sub (Ex.var 6) (Ex.ix (Ex.var 3) (Ex.var 4))) Ar.nil)))) (Ar.cons (Ex.int 1) (Ar.cons (Ex.int 0) Ar.nil)))) (Ex.var 5))) (ju B Cq11)
def lA:Bl Ω:=
 Bl.cons (Sm.set 6 (Ex.ix (Ex.bin .Add (Ex.var 2) (Ex.lst (Ar.cons (Ex.blt cV B.len_ (Ar.cons (Ex.var 1) Ar.nil)) Ar.nil))) (Ex.bin .Add (Ex.var 4) (Ex.int 1)))) (jE B Cq11)
def jx(B:Bi Ω.mg Ω.K){Fq11:Ct}(Cq11:Cal Ω "_law_take" 2 2 Fq11):Bl Ω:=
 Bl.cons (Sm.ret (Ex.bin .Add (Ex.bin .Add (Ex.sl (Ex.var 1) Po.no (Po.so (Ex.var 7))) (Ex.lst (Ar.cons (Ex.str "and 1 of a@0") Ar.nil))) (Ex.sl (Ex.var 1) (Po.so (Ex.var 7)) Po.no))) Bl.nil
def lB:Bl Ω:=
 Bl.cons (Sm.set 7 (Ex.bin .Add (Ex.bin .Add (Ex.ix (Ex.var 2) (Ex.var 4)) (Ex.int 1)) (Ex.call Cq11 (Ar.cons (Ex.var 0) (Ar.cons (Ex.bin .Sub (Ex.ix (Ex.var 3) (Ex.var 4)) (Ex.ix (Ex.var 2) (Ex.var 4))) Ar.nil))))) (jx B Cq11)
def mQ(B:Bi Ω.mg Ω.K){Fq11:Ct}(Cq11:Cal Ω "_law_take" 2 2 Fq11):Bl Ω:=
 Bl.cons (Sm.ret (Ex.ix (Ex.lst (Ar.cons (Ex.sl (Ex.var 1) (Po.so (Ex.int 1)) Po.no) (Ar.cons (Ex.bin .Add (Ex.sl (Ex.var 1) Po.no (Po.so (Ex.int 1))) (Ex.var 1)) (Ar.cons (Ex.bin .Add (Ex.var 1) (Ex.lst (Ar.cons (Ex.str "") Ar.nil))) (Ar.cons (Ex.binL false .Add (Ex.lst (Ar.cons (Ex.str "") Ar.nil)) (Ex.var 1)) Ar.nil))))) (Ex.bin .Sub (Ex.var 5) (Ex.int 4)))) Bl.nil
def mO:Bl Ω:=
 Bl.cons (Sm.ite (Te.cmp .Eq (Ex.var 5) (Ex.int 3)) (lB B Cq11) Bl.nil) (mQ B Cq11)
def mH:Bl Ω:=
 Bl.cons (Sm.ite (Te.cmp .Lt (Ex.var 5) (Ex.int 3)) (lA B Cq11) Bl.nil) (mO B Cq11)
def lZ:Bl Ω:=
 Bl.cons (Sm.set 5 (Ex.call Cq11 (Ar.cons (Ex.var 0) (Ar.cons (Ex.int 8) Ar.nil)))) (mH B Cq11)
def nY:Bl Ω:=
 Bl.cons (Sm.set 4 (Ex.call Cq11 (Ar.cons (Ex.var 0) (Ar.cons (Ex.blt cV B.len_ (Ar.cons (Ex.var 2) Ar.nil)) Ar.nil)))) (lZ B Cq11)
end
abbrev kj:Stmt:=top 62
abbrev Ew:List Str:=["_law_pen_here","_law_lines_here","_law_nests","_law_deeds","_law_way","_law_at","_law_line"]
abbrev Fd:List Str:=["_law_pen_here","_law_lines_here","_law_nests","_law_deeds"]
section
variable (B : Bi Ω.mg Ω.K) {Fq11 : Ct} (Cq11 : Cal Ω "_law_take" 2 2 Fq11) {Fq2 : Ct} (Cq2 : Cal Ω "_law_bad_line" 4 1 Fq2) {Fq7 : Ct} (Cq7 : Cal Ω "_law_out_of_place" 3 4 Fq7)
def rF(B:Bi Ω.mg Ω.K){Fq11:Ct}(Cq11:Cal Ω "_law_take" 2 2 Fq11){Fq2:Ct}(Cq2:Cal Ω "_law_bad_line" 4 1 Fq2){Fq7:Ct}(Cq7:Cal Ω "_law_out_of_place" 3 4 Fq7):Bl Ω:=
 Bl.cons (Sm.ret (Ex.ms ie (Ex.str "\n") (Ex.bin .Add (Ex.bin .Add (Ex.sl (Ex.var 1) Po.no (Po.so (Ex.var 5))) (Ex.lst (Ar.cons (Ex.var 6) Ar.nil))) (Ex.sl (Ex.var 1) (Po.so (Ex.var 5)) Po.no)))) Bl.nil
def vX:Bl Ω:=
 Bl.cons (Sm.set 5 (Ex.bin .Add (Ex.int 1) (Ex.call Cq11 (Ar.cons (Ex.var 0) (Ar.cons (Ex.blt cV B.len_ (Ar.cons (Ex.var 1) Ar.nil)) Ar.nil))))) (rF B Cq11 Cq2 Cq7)
def xK(B:Bi Ω.mg Ω.K){Fq11:Ct}(Cq11:Cal Ω "_law_take" 2 2 Fq11){Fq2:Ct}(Cq2:Cal Ω "_law_bad_line" 4 1 Fq2){Fq7:Ct}(Cq7:Cal Ω "_law_out_of_place" 3 4 Fq7):Bl Ω:=
 Bl.cons (Sm.ret (Ex.ms ie (Ex.str "\n") (Ex.bin .Add (Ex.bin .Add (Ex.sl (Ex.var 1) Po.no (Po.so (Ex.var 5))) (Ex.lst (Ar.cons (Ex.var 6) Ar.nil))) (Ex.sl (Ex.var 1) (Po.so (Ex.bin .Add (Ex.var 5) (Ex.int 1))) Po.no)))) Bl.nil
def zX:Bl Ω:=
 Bl.cons (Sm.ite (Te.and (Bt.cons (Te.cmp .Eq (Ex.var 5) (Ex.int 0)) (Bt.one (Te.cmp .NotEq (Ex.slS (Ex.var 6) Po.no (Po.so (Ex.int 6))) (Ex.str "tables"))))) (vX B Cq11 Cq2 Cq7) Bl.nil) (xK B Cq11 Cq2 Cq7)
def yo:Bl Ω:=
 Bl.cons (Sm.set 6 (Ex.call Cq2 (Ar.cons (Ex.var 0) Ar.nil))) (zX B Cq11 Cq2 Cq7)
def ym:Bl Ω:=
 Bl.cons (Sm.set 5 (Ex.call Cq11 (Ar.cons (Ex.var 0) (Ar.cons (Ex.blt cV B.len_ (Ar.cons (Ex.var 1) Ar.nil)) Ar.nil)))) (yo B Cq11 Cq2 Cq7)
def xW:Bl Ω:=
 Bl.cons (Sm.ite (Te.cmp .Eq (Ex.var 4) (Ex.int 1)) (Bl.cons (Sm.ret (Ex.ms ie (Ex.str "\n") (Ex.call Cq7 (Ar.cons (Ex.var 0) (Ar.cons (Ex.var 1) (Ar.cons (Ex.var 2) (Ar.cons (Ex.var 3) Ar.nil))))))) Bl.nil) Bl.nil) (ym B Cq11 Cq2 Cq7)
def yf:Bl Ω:=
 Bl.cons (Sm.ite (Te.cmp .Eq (Ex.var 4) (Ex.int 0)) (Bl.cons (Sm.ret (Ex.ix (Ex.lst (Ar.cons Ex.non (Ar.cons (Ex.int 3) (Ar.cons (Ex.typ Ud B.list_ (Ar.cons (Ex.var 1) Ar.nil)) (Ar.cons (Ex.bl true) (Ar.cons (Ex.tup Ar.nil) (Ar.cons (Ex.str "tables 1\n") Ar.nil))))))) (Ex.call Cq11 (Ar.cons (Ex.var 0) (Ar.cons (Ex.int 6) Ar.nil))))) Bl.nil) Bl.nil) (xW B Cq11 Cq2 Cq7)
def Dm:Bl Ω:=
 Bl.cons (Sm.set 4 (Ex.call Cq11 (Ar.cons (Ex.var 0) (Ar.cons (Ex.int 5) Ar.nil)))) (yf B Cq11 Cq2 Cq7)
end
abbrev jd:Stmt:=top 63
abbrev Ay:List Str:=["_law_thing","e"]
abbrev Bj:List Str:=["_law_thing"]
def ww(B:Bi Ω.mg Ω.K)(E:ExF Ω.mg Ω.K XL XT){Fq39:XCt}(Cq39:az Ω "read" 11 1 Fq39):BT Ω:=
 (BT.cons (Sm.ret (Ex.bl false)) (BT.of Bl.nil))
def Ao(B:Bi Ω.mg Ω.K)(E:ExF Ω.mg Ω.K XL XT){Fq39:XCt}(Cq39:az Ω "read" 11 1 Fq39):BT Ω:=
 (BT.tryb E B.isinstance_ B.int_ (TB.exs (XEx.call Cq39 (Ar.cons (Ex.var 0) Ar.nil))) 1 "e" [HB.ifr (HT.any ["NoOrder","NoPlan","NoProgram","NoRow","NoTurn","Tied","TooMany"]) (Oc.bl false),HB.both "NoText" "ValueError"] (ww B E Cq39))
abbrev kJ:Stmt:=top 64
abbrev Ub:List Str:=["_law_script","_law_pen_here","_law_lines_here","_law_nests","_law_deeds","_law_text","_law_first","_law_turn"]
abbrev K8:List Str:=["_law_script"]
section
variable (B : Bi Ω.mg Ω.K) {Fq39 : XCt} (Cq39 : az Ω "read" 11 1 Fq39) {Fq8 : Ct} (Cq8 : Cal Ω "_law_pen" 2 1 Fq8) {Fq6 : Ct} (Cq6 : Cal Ω "_law_lines" 4 1 Fq6) {Fq10 : Ct} (Cq10 : Cal Ω "_law_spoilt" 5 4 Fq10) {Fq9 : Ct} (Cq9 : Cal Ω "_law_refused" 12 1 Fq9)
def Mr(B:Bi Ω.mg Ω.K){Fq39:XCt}(Cq39:az Ω "read" 11 1 Fq39){Fq8:Ct}(Cq8:Cal Ω "_law_pen" 2 1 Fq8){Fq6:Ct}(Cq6:Cal Ω "_law_lines" 4 1 Fq6){Fq10:Ct}(Cq10:Cal Ω "_law_spoilt" 5 4 Fq10){Fq9:Ct}(Cq9:Cal Ω "_law_refused" 12 1 Fq9):Bl Ω:=
 Bl.cons (Sm.ret (Ex.and (Bo.cons (Ex.cmp .Eq (Ex.ofX (XEx.call Cq39 (Ar.cons (Ex.var 5) Ar.nil))) (Ex.var 6)) (Bo.one (Ex.cmp .Eq (Ex.blt cV B.len_ (Ar.cons (Ex.ix (Ex.var 6) (Ex.int 1)) Ar.nil)) (Ex.blt cV B.len_ (Ar.cons (Ex.var 3) Ar.nil))))))) Bl.nil
def Ml:Bl Ω:=
 Bl.cons (Sm.for (Tg.nm 7) (Itb.rng1 B.range_ (Ex.int 12)) (Bl.cons (Sm.ite (Te.not (Te.val (Ex.call Cq9 (Ar.cons (Ex.call Cq10 (Ar.cons (Ex.var 1) (Ar.cons (Ex.var 2) (Ar.cons (Ex.var 3) (Ar.cons (Ex.var 4) Ar.nil))))) Ar.nil)))) (Bl.cons (Sm.ret (Ex.bl false)) Bl.nil) Bl.nil) Bl.nil)) (Mr B Cq39 Cq8 Cq6 Cq10 Cq9)
def My:Bl Ω:=
 Bl.cons (Sm.set 6 (Ex.ofX (XEx.call Cq39 (Ar.cons (Ex.var 5) Ar.nil)))) (Ml B Cq39 Cq8 Cq6 Cq10 Cq9)
def Nf:Bl Ω:=
 Bl.cons (Sm.set 5 (Ex.ms ie (Ex.str "\n") (Ex.var 2))) (My B Cq39 Cq8 Cq6 Cq10 Cq9)
def Nr:Bl Ω:=
 Bl.cons (Sm.unpack [2,3,4] (Ex.call Cq6 (Ar.cons (Ex.var 1) Ar.nil))) (Nf B Cq39 Cq8 Cq6 Cq10 Cq9)
def Uv:Bl Ω:=
 Bl.cons (Sm.set 1 (Ex.call Cq8 (Ar.cons (Ex.var 0) Ar.nil))) (Nr B Cq39 Cq8 Cq6 Cq10 Cq9)
end
end
end K53
local macro_rules | `(tactic| walk_at "n") => `(tactic| ((conv => whnf); repeat (with_reducible first | apply RF.cLt | apply RF.cLe | apply RF.cGt | apply RF.cGe | apply RF.cEqI | apply RF.cNeI | apply RF.cEqB | apply RF.cNeB | apply RF.cIsN | apply RF.cIsB | apply RF.cIsNotB | apply RF.cIsNot); (conv => whnf)))
local macro_rules | `(tactic| walk_at "at") => `(tactic| first | (with_reducible assumption) | exact DL.set_get (by first | (with_reducible assumption) | exact DL.set_get (by with_reducible assumption)))
local macro_rules | `(tactic| walk_at "o") => `(tactic| first | omega | decide | (simp; done) | (simp; omega))
local macro_rules | `(tactic| walk_at "a1") => `(tactic| first
 | refine RF.wM1 (by first | exact .inl ⟨by walk_at "o", by walk_at "o"⟩ | exact .inr ⟨by walk_at "o", by walk_at "o"⟩) ?_
 | refine RF.wM2 ⟨by decide, by decide, by decide⟩ ?_
 | refine RF.wM3 ⟨by omega, by omega⟩ ?_
 | refine RF.wM4 (by omega) ?_
 | ((fail_if_success (with_reducible show (_ /\ ∃ _ : Nat -> List DL.D -> DL.Store -> Prop, _))); refine RF.wM5 (by walk_at "o") ?_)
 | refine RF.wM6 (by walk_at "o") ?_
 | (refine' RF.wM7 ?h1 ?h2 ?h3; (case h1 => walk_at "at"); (case h2 => exact rfl); (try rw [List.set_set]))
 | (refine' RF.wM8 ?h1 ?h2 ?h3; (case h1 => walk_at "at"); (case h2 => exact rfl))
 | refine RF.wM9 rfl ?_)
local macro_rules | `(tactic| walk_at "a") => `(tactic| (walk_at "n"; repeat (walk_at "a1"; walk_at "n")))
local macro_rules | `(tactic| walk_at "b") => `(tactic| (walk_at "n"; repeat ((first | walk_at "a1" | apply RF.bT | apply RF.bF | apply RF.dT | apply RF.dF); walk_at "n")))
namespace K53
open PySem L2 DL RF XE
variable {cs ws : List Int} {i k n d t c j : Nat} {S : Store} {W : WD} {a : Int} {b h : Str}
variable {Ω : Wd} {f : Addr} {fd : FuncData}
def whole:D->Bool
 | .int _=>true
 | _=>false
def aW(x:D)(a b:Int):Bool:=match x with
 | .tup ds=>decide (a≤(ds.length:Int))&&decide ((ds.length:Int)≤b)
 | _=>false
def cg(x:D)(d:Int):Bool:=match x with
 | .tup ds=>decide ((ds.length:Int)=d+1)&&ds.all whole
 | _=>false
def jG:Ct:=λ ds S W=>∃x,ds=[x]/\W (.bl (whole x)) S
def dX:Ct:=λ ds S W=>∃x a b,ds=[x,.int a,.int b]/\W (.bl (aW x a b)) S
def qy:Ct:=λ ds S W=>∃x d,ds=[x,.int d]/\d≤1000/\W (.bl (cg x d)) S
def comesTo(f:Int)(fs cs:List Int):Int:=f+(List.zipWith (λ a b=>a*b) fs cs).sum
def CN:Ct:=λ ds S W=>∃f fs cs,ds=[.tup (.int f::fs.map .int),.tup (cs.map .int)]/\fs.length≤1000/\(∀c∈cs,-(2 ^ 64)<c/\c<2 ^ 64)/\W (.int (comesTo f fs cs)) S
theorem HJ(ds:List D):(ds.map whole).all id=ds.all whole:=by rw[List.all_map];rfl
theorem M5{fs:List Int}{d:D}(h:(List.zipWith (λ x y=>D.tup [x,y]) (fs.map D.int) (cs.map D.int))[i]? =some d):∃a b,fs[i]? =some a/\cs[i]? =some b/\d=.tup [.int a,.int b]:=by
 rw[List.getElem?_zipWith,x6,x6]at h
 cases e1:fs[i]? with
 | none=>rw[e1]at h;cases h
 | some a=>
   cases e2:cs[i]? with
   | none=>rw[e1,e2]at h;cases h
   | some b=>rw[e1,e2]at h;cases h;exact⟨a,b,rfl,rfl,rfl⟩
theorem wI(F:Fun Ω.K "is_whole" "is_whole" gP f fd)(N0:Ω.cd=none)(B:Bi Ω.mg Ω.K):Ok Ω 1 f fd yZ jG:=by
 refine aG N0 (N:=yC) F (xX B) (by kernel_rfl!) ?_
 rintro ds S W ⟨x,rfl,hw⟩ hl
 walk_at "n"
 refine⟨λ c=>?_,λ c=>?_⟩
 . walk_at "n"
   have e:(!isD .bool x)=whole x:=by cases x<;>first | rfl | exact ff c | exact tf c
   rw[e];exact hw
 . have e:whole x=false:=by cases x<;>first | rfl | exact ff c | exact tf c
   rw[e]at hw;exact hw
theorem pJ(F:Fun Ω.K "is_tuple_of" "is_tuple_of" d8 f fd)(N0:Ω.cd=none)(B:Bi Ω.mg Ω.K):Ok Ω 1 f fd qM dX:=by
 refine aG N0 (N:=pZ) F (rn B) (by kernel_rfl!) ?_
 rintro ds S W ⟨x,a,b,rfl,hw⟩ hl
 walk_at "n"
 cases x with
 | tup ds=>
   refine⟨λ _=>?_,λ c=>tf c⟩
   walk_at "n"
   refine⟨λ c1=>?_,λ c1=>?_⟩
   . have e:aW (.tup ds) a b=false:=by show(decide _&&decide _)=false;rw[c1];rfl
     rw[e]at hw;exact hw
   . walk_at "n"
     have e:aW (.tup ds) a b=decide ((ds.length:Int)≤b):=by show(decide _&&decide _)=_;rw[c1];rfl
     rw[e]at hw;exact hw
 | _=>exact⟨λ c=>ff c,λ _=>hw⟩
theorem yu(F:Fun Ω.K "is_form" "is_form" jk f fd)(N0:Ω.cd=none)(B:Bi Ω.mg Ω.K)(Cq32:Cal Ω "is_whole" 1 1 jG)(Cq31:Cal Ω "is_tuple_of" 1 3 dX):Ok Ω 2 f fd Be qy:=by
 refine aG N0 (N:=Ai) F (Az B Cq32 Cq31) (by kernel_rfl!) ?_
 rintro ds S W ⟨x,d,rfl,hd,hw⟩ hl
 walk_at "n"
 refine⟨rfl,_,_,_,rfl,?_⟩
 refine⟨λ c=>?_,λ c=>?_⟩
 . cases x with
   | tup ds=>
     have hlen:(ds.length:Int)=d+1:=by
      have c':(decide (d+1≤(ds.length:Int))&&decide ((ds.length:Int)≤d+1))=true:=c
      rw[Bool.and_eq_true,decide_eq_true_eq,decide_eq_true_eq]at c'
      omega
     walk_at "n"
     refine gF ⟨by omega,λ i acc S'=>acc=(ds.take i).map (λ d=>.bl (whole d))/\S'=S,⟨rfl,rfl⟩,?_,?_⟩
     . rintro i e acc S' he ⟨rfl,rfl⟩
       walk_at "n"
       refine⟨λ _=>⟨rfl,_,rfl,?_,rfl⟩,λ z=>tf z⟩
       rw[bN he,List.map_append];rfl
     . rintro acc S' ⟨rfl,rfl⟩
       rw[List.take_length]
       refine⟨ds.map whole,by rw[List.map_map];rfl,?_⟩
       have e2:cg (.tup ds) d=(ds.map whole).all id:=by
        show(decide _&&_)=_
        rw[decide_eq_true hlen,HJ];rfl
       rw[e2]at hw;exact hw
   | _=>exact ff c
 . have e:cg x d=false:=by
    cases x with
    | tup ds=>
      have c':(decide (d+1≤(ds.length:Int))&&decide ((ds.length:Int)≤d+1))=false:=c
      show(decide _&&_)=false
      rw[Bool.and_eq_false_iff,decide_eq_false_iff_not,decide_eq_false_iff_not]at c'
      rw[decide_eq_false (by omega)];rfl
    | _=>rfl
   rw[e]at hw;exact hw
theorem vZ(F:Fun Ω.K "comes_to" "comes_to" gK f fd)(N0:Ω.cd=none)(B:Bi Ω.mg Ω.K):Ok Ω 1 f fd zY CN:=by
 refine aG N0 (N:=yG) F (xx B) (by kernel_rfl!) ?_
 rintro ds S W ⟨g,fs,cs,rfl,hfs,hcs,hw⟩ hl
 walk_at "n"
 refine⟨_,yK _ _,?_⟩
 walk_at "n"
 rw[gR]
 refine gF ⟨by rw[List.length_zipWith,x5];omega,λ i acc S'=>acc=((List.zipWith (λ a b=>a*b) fs cs).take i).map D.int/\S'=S,⟨rfl,rfl⟩,?_,?_⟩
 . rintro i e acc S' he ⟨rfl,rfl⟩
   obtain⟨a,b,h1,h2,rfl⟩:=M5 he
   walk_at "n"
   refine⟨rfl,λ _=>⟨.inr (hcs b (y8 h2)),?_,rfl⟩,λ z=>tf z⟩
   have e3:(List.zipWith (λ a b=>a*b) fs cs)[i]? =some (a*b):=by rw[List.getElem?_zipWith,h1,h2]
   rw[bN e3,List.map_append];rfl
 . rintro acc S' ⟨rfl,rfl⟩
   have e:(List.zipWith (λ x y=>D.tup [x,y]) (fs.map D.int) (cs.map D.int)).length=(List.zipWith (λ a b=>a*b) fs cs).length:=by simp
   rw[e,List.take_length]
   exact⟨_,rfl,hw⟩
def small:D->Bool
 | .int n=>decide (-2≤n)&&decide (n≤2)
 | _=>false
def T3:List D->Bool
 | .int a::fs=>decide (-9≤a)&&(decide (a≤9)&&fs.all small)
 | _=>false
def bK(x:D)(d:Int):Bool:=cg x d&&T3 (match x with | .tup ds=>ds | _=>[])
def iu(x:D)(d:Int):Bool:=match x with
 | .tup [a,b]=>bK a d&&bK b d
 | _=>false
def eH(x:D):Bool:=match x with
 | .tup ds=>(decide (1≤(ds.length:Int))&&decide ((ds.length:Int)≤3))&&(ds.mapIdx λ i d=>iu d i).all id
 | _=>false
def Ck:Ct:=λ ds S W=>∃x d,ds=[x,.int d]/\0≤d/\d≤1000/\W (.bl (bK x d)) S
def Gj:Ct:=λ ds S W=>∃x d,ds=[x,.int d]/\0≤d/\d≤1000/\W (.bl (iu x d)) S
def CZ:Ct:=λ ds S W=>∃x,ds=[x]/\W (.bl (eH x)) S
theorem ints_of:∀{ds:List D},ds.all whole=true->∃ns:List Int,ds=ns.map .int
 | [],_=>⟨[],rfl⟩
 | d::ds,h=>by
   rw[List.all_cons]at h
   obtain⟨h1,h2⟩:=aa h
   obtain⟨ns,rfl⟩:=ints_of h2
   cases d with
   | int i=>exact⟨i::ns,rfl⟩
   | _=>exact ff h1
theorem je{x:D}{d:Int}(h:cg x d=true)(hd:0≤d):∃a fs,x=.tup (.int a::List.map .int fs)/\(fs.length:Int)=d:=by
 cases x with
 | tup ds=>
   obtain⟨h1,h2⟩:=aa h
   have h1:=of_decide_eq_true h1
   cases ds with
   | nil=>simp at h1;omega
   | cons e es=>
     rw[List.all_cons]at h2
     obtain⟨h2,h3⟩:=aa h2
     have h4:=ints_of h3
     obtain⟨ns,rfl⟩:=h4
     cases e with
     | int a=>exact⟨a,ns,rfl,by simp at h1;omega⟩
     | _=>exact ff h2
 | _=>exact ff h
theorem zb(p:D->Bool)(ds:List D):(ds.map p).all id=ds.all p:=by rw[List.all_map];rfl
theorem wg (F:Fun Ω.K "is_bound" "is_bound" gJ f fd)(N0:Ω.cd=none)(B:Bi Ω.mg Ω.K)(Cq20:Cal Ω "is_form" 2 2 qy):Ok Ω 3 f fd xH Ck:=by
 refine aG N0 (N:=yO) F (zU B Cq20) (by kernel_rfl!) ?_
 rintro ds S W ⟨x,d,rfl,hd0,hd,hw⟩ hl
 walk_at "a"
 refine⟨rfl,_,_,rfl,hd,?_⟩
 walk_at "a"
 cases h:cg x d with
 | false=>
   have e:bK x d=false:=by unfold bK;rw[h];rfl
   rw[e]at hw
   exact⟨λ _=>hw,λ z=>tf z⟩
 | true=>
   refine⟨λ z=>ff z,λ _=>?_⟩
   obtain⟨a,fs,rfl,hf⟩:=je h hd0
   have e:bK (.tup (.int a::fs.map .int)) d=(decide (-9≤a)&&(decide (a≤9)&&(fs.map D.int).all small)):=by unfold bK;rw[h];rfl
   rw[e]at hw
   walk_at "a"
   refine⟨_,yK _ _,?_⟩
   walk_at "a"
   refine⟨λ h1=>?_,λ h1=>?_⟩
   . have h1:decide (-9≤a)=false:=h1
     rw[h1]at hw
     exact⟨λ z=>ff z,λ _=>hw⟩
   have h1:decide (-9≤a)=true:=h1
   rw[h1,Bool.true_and]at hw
   walk_at "a"
   refine⟨λ h2=>?_,λ h2=>?_⟩
   . rw [h2,Bool.true_and]at hw
     walk_at "a"
     rw[gR]
     refine dY (λ d=>.bl (small d)) (by simp;omega) ?_ ?_
     . intro i e he Q hq
       rw[x6]at he
       cases e1:fs[i]? with
       | none=>rw[e1]at he;cases he
       | some n=>
         rw[e1]at he
         cases he
         walk_at "a"
         refine⟨λ h3=>?_,λ h3=>?_⟩
         . have h3:decide (-2≤n)=false:=h3
           have e:small (.int n)=false:=by show(decide _&&_)=false;rw[h3];rfl
           rw[e]at hq
           exact hq
         . have h3:decide (-2≤n)=true:=h3
           walk_at "a"
           have e:small (.int n)=decide (n≤2):=by show(decide _&&_)=_;rw[h3];rfl
           rw[e]at hq
           exact hq
     . refine⟨(fs.map D.int).map small,by simp only[List.map_map];rfl,?_⟩
       rw[zb];exact hw
   . rw[h2]at hw
     exact hw
theorem xG(F:Fun Ω.K "is_loop" "is_loop" jc f fd)(N0:Ω.cd=none)(Cq31:Cal Ω "is_tuple_of" 1 3 dX)(Cq18:Cal Ω "is_bound" 3 2 Ck):Ok Ω 4 f fd Am Gj:=by
 refine aG N0 (N:=Aw) F (Bh Cq31 Cq18) (by kernel_rfl!) ?_
 rintro ds S W ⟨x,d,rfl,hd0,hd,hw⟩ hl
 walk_at "a"
 refine⟨rfl,_,_,_,rfl,?_⟩
 walk_at "a"
 cases x with
 | tup ds=>
   match ds,hw with
   | [a,b],hw=>
     refine⟨λ _=>?_,λ z=>tf z⟩
     walk_at "a"
     refine⟨rfl,_,_,rfl,hd0,hd,?_⟩
     have e:iu (.tup [a,b]) d=(bK a d&&bK b d):=rfl
     rw[e]at hw
     refine⟨λ h=>?_,λ h=>?_⟩
     . rw[h,Bool.true_and]at hw
       walk_at "a"
       exact⟨rfl,_,_,rfl,hd0,hd,hw⟩
     . rw[h]at hw;exact hw
   | [],hw=>exact⟨λ z=>ff z,λ _=>hw⟩
   | [_],hw=>exact⟨λ z=>ff z,λ _=>hw⟩
   | _::_::_::es,hw=>
     refine⟨λ z=>?_,λ _=>hw⟩
     obtain⟨_,z⟩:=aa z
     have z:=of_decide_eq_true z
     simp at z;omega
 | _=>exact⟨λ z=>ff z,λ _=>hw⟩
theorem wG(F:Fun Ω.K "is_loops" "is_loops" iB f fd)(N0:Ω.cd=none)(B:Bi Ω.mg Ω.K)(Cq31:Cal Ω "is_tuple_of" 1 3 dX)(Cq21:Cal Ω "is_loop" 4 2 Gj):Ok Ω 5 f fd xQ CZ:=by
 refine aG N0 (N:=xF) F (zj B Cq31 Cq21) (by kernel_rfl!) ?_
 rintro ds S W ⟨x,rfl,hw⟩ hl
 walk_at "a"
 refine⟨rfl,_,_,_,rfl,?_⟩
 walk_at "a"
 cases x with
 | tup ds=>
   have e:eH (.tup ds)=((decide (1≤(ds.length:Int))&&decide ((ds.length:Int)≤3))&&(ds.mapIdx λ i d=>iu d i).all id):=rfl
   rw[e]at hw
   refine⟨λ h=>?_,λ h=>?_⟩
   . have h:(decide (1≤(ds.length:Int))&&decide ((ds.length:Int)≤3))=true:=h
     rw[h,Bool.true_and]at hw
     have hlen:=of_decide_eq_true (aa h).2
     walk_at "a"
     refine dY (λ p=>match p with | .tup [.int i,d]=>.bl (iu d i) | _=>.non) (by simp;omega) ?_ ?_
     . intro i e he Q hq
       rw[List.getElem?_mapIdx]at he
       cases e1:ds[i]? with
       | none=>rw[e1]at he;cases he
       | some d0=>
         rw[e1]at he
         cases he
         have hi:i<ds.length:=(z0.mp e1).1
         walk_at "a"
         refine⟨rfl,?_⟩
         walk_at "a"
         exact⟨rfl,_,_,rfl,by omega,by omega,hq⟩
     . refine⟨ds.mapIdx λ i d=>iu d i,?_,hw⟩
       apply List.ext_getElem?
       intro i
       simp only[x6,List.getElem?_mapIdx]
       cases ds[i]?<;>rfl
   . have h:(decide (1≤(ds.length:Int))&&decide ((ds.length:Int)≤3))=false:=h
     rw[h]at hw
     exact hw
 | _=>exact⟨λ z=>ff z,λ _=>hw⟩
def yj:Ct:=λ ds S W=>∃ns k,ds=[.lst (List.map .int ns),.int k]/\0≤k/\∀v,W (.int v) S
def La:Ct:=λ ds S W=>∃ns,ds=[.lst (List.map .int ns)]/\ns.length≤63/\∀a c n m z,0≤a->W (.loc S.length) (S++[gZ ns a c n m z])
def cX:Ct:=λ ds S W=>∃k m,ds=[.loc k,.int m]/\Pen S k/\0<m/\m<1000000000000000000000000000000000000000000000000000000000000/\∀v S',0≤v->v<m->Upd S k S'->Pen S' k->W (.int v) S'
theorem aA{m:Int}(hp:Pen S k)(h0:0<m)(h1:m<1000000000000000000000000000000000000000000000000000000000000)(w:∀v S',0≤v->v<m->Upd S k S'->Pen S' k->W (.int v) S'):([D.loc k,.int m].length=2/\cX [.loc k,.int m] S W):=⟨rfl,k,m,rfl,hp,h0,h1,w⟩
theorem yJ(F:Fun Ω.K "_law_cell_at" "_law_cell_at" jm f fd)(N0:Ω.cd=none)(B:Bi Ω.mg Ω.K):Ok Ω 1 f fd Ag yj:=by
 refine aG N0 (N:=Av) F (Ae B) (by kernel_rfl!) ?_
 rintro ds S W ⟨ns,k,rfl,hk,hw⟩ hl
 walk_at "n"
 refine⟨λ c=>?_,λ c=>?_⟩
 . walk_at "n"
   have c':=of_decide_eq_true c
   obtain⟨x,h1,h2⟩:=yQ hk c'
   rw[x6]at h2
   cases e:ns[k.toNat]? with
   | none=>rw[e]at h2;cases h2
   | some v=>
     rw[e]at h2
     cases h2
     exact⟨_,h1,hw v⟩
 . exact hw 0
theorem K3(F:Fun Ω.K "_law_pen" "_law_pen" uG f fd)(N0:Ω.cd=none)(B:Bi Ω.mg Ω.K)(Cq4:Cal Ω "_law_cell_at" 1 2 yj):Ok Ω 2 f fd MF La:=by
 refine aG N0 (N:=Nk) F (Ng B Cq4) (by kernel_rfl!) ?_
 rintro ds S W ⟨ns,rfl,hn,hw⟩ hl
 walk_at "n"
 have hc:(cutD (ns.map D.int) none (some 63)).length≤63:=Nat.le_trans (uf _ _ _) (by rw[x5];exact hn)
 refine gF ⟨by rw[List.length_mapIdx];omega,λ i acc S'=>(∃ms:List Int,acc=ms.map D.int)/\S'=S,⟨⟨[],rfl⟩,rfl⟩,?_,?_⟩
 . rintro i e acc S' he ⟨⟨ms,rfl⟩,rfl⟩
   rw[List.getElem?_mapIdx]at he
   cases e1:(cutD (ns.map D.int) none (some 63))[i]? with
   | none=>rw[e1]at he;cases he
   | some d0=>
     rw[e1]at he
     cases he
     have hi:i<63:=Nat.lt_of_lt_of_le (z0.mp e1).1 hc
     obtain⟨v,_,rfl⟩:=List.mem_map.mp (Oo (y8 e1))
     have hkk:(0:Int)≤(i:Int)*i/\(i:Int)*i≤63*63:=⟨Int.mul_nonneg (by omega) (by omega),Int.mul_le_mul (by omega) (by omega) (by omega) (by omega)⟩
     refine⟨rfl,λ _=>⟨by decide,.inl ⟨by omega,by omega⟩,.inr ⟨by omega,by omega⟩,⟨ms++[_],by rw[List.map_append];rfl⟩,rfl⟩,λ z=>tf z⟩
 . rintro acc S' ⟨⟨ms,rfl⟩,rfl⟩
   refine⟨_,rfl,by decide,?_⟩
   walk_at "n"
   refine⟨rfl,ns,1,rfl,by decide,λ c=>?_⟩
   walk_at "n"
   refine⟨rfl,ns,0,rfl,by decide,λ m=>?_⟩
   walk_at "n"
   refine⟨by decide,by show 6≤1000000;decide,?_⟩
   exact hw 1 c 0 (m % 2) _ (by decide)
theorem Ik(F:Fun Ω.K "_law_take" "_law_take" o9 f fd)(N0:Ω.cd=none)(Cq4:Cal Ω "_law_cell_at" 1 2 yj):Ok Ω 2 f fd JC cX:=by
 refine aG N0 (N:=Kd) F (Kf Cq4) (by kernel_rfl!) ?_
 rintro ds S W ⟨k,m,rfl,⟨ns,a,c,n,y,z,hk,ha⟩,h0,h1,hw⟩ hl
 have k2:∀l:List D,(S.set k l)[k]? =some l:=λ l=>set_get hk
 have fin:∀a c n z v,0≤a->W (.int (v % m)) (S.set k (gZ ns a c n y z)):=λ a c n z v ha=>
  hw _ _ (Int.emod_nonneg _ (by omega)) (Int.emod_lt_of_pos _ h0) ⟨ns,a,c,n,y,z,rfl,ha⟩ ⟨ns,a,c,n,y,z,k2 _,ha⟩
 have rest:∀a c n,0≤a->(pQ Cq4).wp [some (.loc k),some (.int m),none] (S.set k (gZ ns a c n y z)) {nx:=λ _ S1=>W .non S1,rt:=W}:=by
  intro a c n ha
  walk_at "n"
  refine⟨_,_,k2 _,rfl,?_⟩
  walk_at "n"
  refine⟨_,_,k2 _,rfl,?_⟩
  rw[List.set_set]
  walk_at "n"
  refine⟨_,_,k2 _,rfl,h0,?_⟩
  walk_at "n"
  refine⟨_,_,k2 _,rfl,⟨h0,by omega⟩,_,_,k2 _,rfl,?_⟩
  rw[List.set_set]
  walk_at "n"
  exact fin a _ _ z c ha
 have hself:S.set k (gZ ns a c n y z)=S:=by
  obtain⟨hl',e⟩:=z0.mp hk
  rw[←e,List.set_getElem_self]
 walk_at "n"
 refine⟨_,_,hk,rfl,?_⟩
 walk_at "n"
 refine⟨λ q=>?_,λ q=>?_⟩
 . walk_at "n"
   refine⟨_,_,hk,rfl,.inr ⟨by decide,by decide⟩,by decide,_,_,hk,rfl,_,_,k2 _,rfl,.inr ⟨by decide,by decide⟩,by decide,⟨by decide,by decide⟩,h0,?_⟩
   exact fin a c n _ _ ha
 . walk_at "n"
   refine⟨_,_,hk,rfl,?_⟩
   walk_at "n"
   refine⟨λ q=>?_,λ q=>?_⟩
   . walk_at "n"
     refine⟨_,_,hk,rfl,_,_,hk,rfl,?_⟩
     walk_at "n"
     refine⟨_,_,k2 _,rfl,_,_,k2 _,rfl,rfl,ns,a+1,rfl,by omega,λ v=>?_⟩
     walk_at "n"
     refine⟨_,_,k2 _,rfl,?_⟩
     rw[List.set_set]
     walk_at "n"
     refine⟨_,_,k2 _,rfl,?_⟩
     rw[List.set_set]
     exact rest (a+1) v 0 (by omega)
   . have:=rest a c n ha
     rw[hself]at this
     exact this
abbrev Fm:=Int×List Int
abbrev Lp:=Fm×Fm
def dF(f:Fm):D:=.tup (.int f.1::f.2.map .int)
def dC(cs:List Int):D:=.tup (cs.map .int)
def dL(l:Lp):D:=.tup [dF l.1,dF l.2]
def atC(f:Fm)(cs:List Int):Int:=comesTo f.1 f.2 cs
def upI(a:Int)(n:Nat):List Int:=(List.range n).map λ(k:Nat)=>a+(k:Int)
def bZ(lo hi:Fm)(cs:List Int):List (List Int):=(upI (atC lo cs) (atC hi cs-atC lo cs).toNat).map λ c=>cs++[c]
def aM(lo hi:Fm)(ahead:List (List Int)):List (List Int):=ahead.flatMap (bZ lo hi)
def cnt(ls:List Lp):List (List Int):=ls.foldl (λ acc l=>aM l.1 l.2 acc) [[]]
def Sm6(ns:List Int):Prop:=ns.length≤10/\∀n∈ns,-1000000≤n/\n≤1000000
def SmF(f:Fm):Prop:= -1000000≤f.1/\f.1≤1000000/\Sm6 f.2
theorem uU:∀(fs cs:List Int),(∀n∈fs,-1000000≤n/\n≤1000000)->(∀n∈cs,-1000000≤n/\n≤1000000)-> -(1000000000000*(cs.length:Int))≤(List.zipWith (λ a b=>a*b) fs cs).sum/\(List.zipWith (λ a b=>a*b) fs cs).sum≤1000000000000*(cs.length:Int)
 | [],cs,_,_=>by simp;omega
 | f::fs,[],_,_=>by simp
 | f::fs,c::cs,h1,h2=>by
   have ih:=uU fs cs (λ n hn=>h1 n (x9 _ hn)) (λ n hn=>h2 n (x9 _ hn))
   have hf:=h1 f v3
   have hc:=h2 c v3
   have hp:(f*c).natAbs≤1000000*1000000:=by rw[Int.natAbs_mul];exact Nat.mul_le_mul (by omega) (by omega)
   simp only[List.zipWith_cons_cons,List.sum_cons,List.length_cons]
   omega
theorem uR{f:Fm}(hf:SmF f)(hc:Sm6 cs): -(2 ^ 62)≤atC f cs/\atC f cs<2 ^ 62:=by
 have:=uU f.2 cs hf.2.2.2 hc.2
 have h1:=hf.1
 have h2:=hf.2.1
 have h3:=hc.1
 unfold atC comesTo
 omega
theorem Ov(a:Int)(n:Nat):(upI a n).length=n:=by simp[upI]
theorem Ow(h:i<n):(upI a n)[i]? =some (a+i):=by simp[upI,h]
theorem iQ(lo hi:Fm)(cs:List Int):(bZ lo hi cs).length=(atC hi cs-atC lo cs).toNat:=by simp[bZ,Ov]
theorem lH{lo hi:Fm}{ahead:List (List Int)}(h:ahead[i]? =some cs):aM lo hi (ahead.take (i+1))=aM lo hi (ahead.take i)++bZ lo hi cs:=by
 unfold aM
 rw[bN h,List.flatMap_append];simp
theorem KC{lo hi:Fm}{ahead:List (List Int)}(h:ahead[i]? =some cs):(aM lo hi (ahead.take i)).length+(bZ lo hi cs).length≤(aM lo hi ahead).length:=by
 have e:aM lo hi ahead=aM lo hi (ahead.take (i+1))++aM lo hi (ahead.drop (i+1)):=by
  unfold aM
  rw[←List.flatMap_append,List.take_append_drop]
 rw[e,lH h,List.length_append,List.length_append];omega
theorem Ig(xs:List (List Int)):aq (xs.map dC)=true:=by
 induction xs with
 | nil=>rfl
 | cons x xs ih=>
   simp only[List.map_cons,aq,ih,Bool.and_true]
   show aq (x.map D.int)=true
   induction x with
   | nil=>rfl
   | cons y ys ih=>simp only[List.map_cons,aq,ih,Bool.and_true];rfl
def xj:Ct:=λ ds S W=>∃ahead lo hi,ds=[.lst (List.map dC ahead),dF lo,dF hi]/\SmF lo/\SmF hi/\(∀cs∈ahead,Sm6 cs)/\ahead.length≤1000000/\(aM lo hi ahead).length≤1000000/\flat S/\hand W ((aM lo hi ahead).map dC) S
theorem kI(F:Fun Ω.K "with_next_count" "with_next_count" cz f fd)(N0:Ω.cd=none)(B:Bi Ω.mg Ω.K)(Cq13:Cal Ω "comes_to" 1 2 CN):Ok Ω 2 f fd lF xj:=by
 refine aG N0 (N:=lE) F (Bl.frz (lr B Cq13)) (by kernel_rfl!) ?_
 rintro ds S W ⟨ahead,lo,hi,rfl,hlo,hhi,hah,hz0,hz,hS,hw⟩ hl
 walk_at "b"
 refine dR ⟨λ i Γ' S'=>(∃o4 o5,Γ'=[some (.lst (ahead.map dC)),some (dF lo),some (dF hi),some (.loc S.length),o4,o5])/\S'=S++[(aM lo hi (ahead.take i)).map dC],⟨⟨_,_,rfl⟩,rfl⟩,?_,?_⟩
 . rintro i e Γ' S' he ⟨⟨o4,o5,rfl⟩,rfl⟩
   rw[x6]at he
   cases e1:ahead[i]? with
   | none=>rw[e1]at he;cases he
   | some cs=>
     rw[e1]at he
     cases he
     have hcs:=hah cs (y8 e1)
     have b1:=uR hlo hcs
     have b2:=uR hhi hcs
     have h64:∀c∈cs,-(2 ^ 64)<c/\c<2 ^ 64:=λ c hc=>by have:=hcs.2 c hc;omega
     walk_at "b"
     refine⟨rfl,lo.1,lo.2,cs,rfl,by have:=hlo.2.2.1;omega,h64,?_⟩
     walk_at "b"
     refine⟨rfl,hi.1,hi.2,cs,rfl,by have:=hhi.2.2.1;omega,h64,?_⟩
     walk_at "b"
     refine⟨⟨b1.1,b1.2,b2.1,b2.2⟩,dR ⟨λ j Γ' S'=>(∃o5,Γ'=[some (.lst (ahead.map dC)),some (dF lo),some (dF hi),some (.loc S.length),some (dC cs),o5])/\S'=S++[(aM lo hi (ahead.take i)++(bZ lo hi cs).take j).map dC],⟨⟨_,rfl⟩,by simp⟩,?_,?_⟩⟩
     . rintro j e Γ' S' he ⟨⟨o5,rfl⟩,rfl⟩
       obtain⟨hj,rfl⟩:=oY he
       have hj':j<(bZ lo hi cs).length:=by rw[iQ];exact hj
       have lf:=KC (lo:=lo) (hi:=hi) e1
       walk_at "b"
       refine⟨by simp;have:=hcs.1;omega,_,b8 _ _,by simp;omega,?_⟩
       refine⟨⟨_,rfl⟩,?_⟩
       rw[oM]
       have e3:(bZ lo hi cs)[j]? =some (cs++[atC lo cs+(j:Int)]):=by
        unfold bZ
        rw[x6,Ow (by rw[iQ]at hj';exact hj')];rfl
       have e4:dC (cs++[atC lo cs+(j:Int)])=D.tup (cs.map D.int++[D.int (comesTo lo.1 lo.2 cs+(j:Int))]):=by
        unfold dC;rw[List.map_append];rfl
       rw[bN e3,←List.append_assoc,List.map_append (l₂:=[_]),List.map_singleton,e4]
     . rintro Γ' S' ⟨⟨o5,rfl⟩,rfl⟩
       refine⟨⟨_,_,rfl⟩,?_⟩
       have e5:(bZ lo hi cs).take (DL.upTo (comesTo lo.1 lo.2 cs) (comesTo hi.1 hi.2 cs-comesTo lo.1 lo.2 cs).toNat).length=bZ lo hi cs:=by
        rw[aN];exact List.take_of_length_le (by rw[iQ];exact x8 _)
       rw[e5,lH e1]
 . rintro Γ' S' ⟨⟨o4,o5,rfl⟩,rfl⟩
   rw[x5,List.take_length]
   exact Jj hw (Ig _) hS
def Fits(ls:List Lp):Prop:=(∀l∈ls,SmF l.1/\SmF l.2)/\∀i,i≤ls.length->(cnt (ls.take i)).length≤1000000/\∀cs∈cnt (ls.take i),Sm6 cs
def xJ:Ct:=λ ds S W=>∃ls,ds=[.tup (List.map dL ls)]/\1≤ls.length/\Fits ls/\flat S/\hand W ((cnt ls).map dC) S
theorem oR{ls:List Lp}{l:Lp}(h:ls[i]? =some l):cnt (ls.take (i+1))=aM l.1 l.2 (cnt (ls.take i)):=by
 unfold cnt
 rw[bN h,List.foldl_append];rfl
theorem t7(F:Fun Ω.K "counts_of" "counts_of" fM f fd)(N0:Ω.cd=none)(Cq43:Cal Ω "with_next_count" 2 3 xj):Ok Ω 3 f fd wC xJ:=by
 refine aG N0 (N:=vI) F (Bl.frz (vC Cq43)) (by kernel_rfl!) ?_
 rintro ds S W ⟨ls,rfl,hn,hf,hS,hw⟩ hl
 walk_at "b"
 have turn:∀(i:Nat)(e:D),(ls.map dL)[i]? =some e->∃l,ls[i]? =some l/\e=dL l:=λ i e he=>by
  rw[x6]at he
  cases e1:ls[i]? with
  | none=>rw[e1]at he;cases he
  | some l=>rw[e1]at he;cases he;exact⟨l,rfl,rfl⟩
 have step:∀(i:Nat)(l:Lp)(W:WD),ls[i]? =some l->hand W ((cnt (ls.take (i+1))).map dC) S->xj [.lst ((cnt (ls.take i)).map dC),dF l.1,dF l.2] S W:=λ i l W h w=>by
  have hi:=(z0.mp h).1
  obtain⟨a,b⟩:=hf.1 l (y8 h)
  obtain⟨c,d⟩:=hf.2 i (by omega)
  obtain⟨c',d'⟩:=hf.2 (i+1) (by omega)
  rw[oR h]at c' w
  exact⟨_,_,_,rfl,a,b,d,c,c',hS,w⟩
 rcases hw with hw | hw
 . refine dR ⟨λ i Γ' S'=>(∃o2 o3,Γ'=[some (.tup (ls.map dL)),some (.lst ((cnt (ls.take i)).map dC)),o2,o3])/\S'=S,⟨⟨_,_,rfl⟩,rfl⟩,?_,?_⟩
   . rintro i e Γ' S' he ⟨⟨o2,o3,rfl⟩,rfl⟩
     obtain⟨l,hl',rfl⟩:=turn i e he
     walk_at "b"
     refine⟨rfl,?_⟩
     walk_at "n"
     exact⟨rfl,step i l _ hl' (.inl ⟨⟨_,_,rfl⟩,rfl⟩)⟩
   . rintro Γ' S' ⟨⟨o2,o3,rfl⟩,rfl⟩
     rw[x5,List.take_length]
     exact .inl hw
 . refine dR ⟨λ i Γ' S'=>(i<ls.length/\(∃o2 o3,Γ'=[some (.tup (ls.map dL)),some (.lst ((cnt (ls.take i)).map dC)),o2,o3])/\S'=S)∨(i=ls.length/\(∃o2 o3,Γ'=[some (.tup (ls.map dL)),some (.loc S.length),o2,o3])/\S'=S++[(cnt ls).map dC]),.inl ⟨by omega,⟨_,_,rfl⟩,rfl⟩,?_,?_⟩
   . rintro i e Γ' S' he q
     obtain⟨l,hl',rfl⟩:=turn i e he
     have hi:=(z0.mp hl').1
     rcases q with⟨_,⟨o2,o3,rfl⟩,rfl⟩ | ⟨q,_⟩
     . walk_at "b"
       refine⟨rfl,?_⟩
       walk_at "n"
       by_cases hlast:i+1=ls.length
       . refine⟨rfl,step i l _ hl' (.inr (.inr ⟨hlast,⟨_,_,rfl⟩,?_⟩))⟩
         rw[hlast,List.take_length]
       . exact⟨rfl,step i l _ hl' (.inl (.inl ⟨by omega,⟨_,_,rfl⟩,rfl⟩))⟩
     . omega
   . rintro Γ' S' q
     rw[x5]at q
     rcases q with⟨q,_⟩ | ⟨_,⟨o2,o3,rfl⟩,rfl⟩
     . omega
     . exact .inl hw
def BdF(f:Fm)(k:Nat):Prop:=f.2.length=k/\ -9≤f.1/\f.1≤9/\∀n∈f.2,-2≤n/\n≤2
theorem Dn{g m:Int}(hg: -2≤g/\g≤2)(ha: -m≤a/\a≤m): -(2*m)≤g*a/\g*a≤2*m:=by
 have:g= -2∨g= -1∨g=0∨g=1∨g=2:=by omega
 rcases this with rfl | rfl | rfl | rfl | rfl<;>omega
def bnd:Nat->Int
 | 0=>0
 | 1=>9
 | 2=>27
 | _=>117
def Cs(i:Nat)(cs:List Int):Prop:=cs.length=i/\∀c∈cs,-(bnd i)≤c/\c≤bnd i
theorem pO{f:Fm}(hi:i≤2)(hf:BdF f i)(hc:Cs i cs): -(bnd (i+1))≤atC f cs/\atC f cs≤bnd (i+1):=by
 obtain⟨a,fs⟩:=f
 obtain⟨h1,h2,h3,h4⟩:=hf
 obtain⟨c1,c2⟩:=hc
 dsimp only at h1 h2 h3 h4
 unfold atC comesTo
 have:i=0∨i=1∨i=2:=by omega
 rcases this with rfl | rfl | rfl
 . match fs,cs,h1,c1 with
   | [],[],_,_=>simp[bnd];omega
 . match fs,cs,h1,c1 with
   | [g],[x],_,_=>
     have:=Dn (h4 g (by simp)) (c2 x (by simp))
     simp[bnd]at this ⊢;omega
 . match fs,cs,h1,c1 with
   | [g,g'],[x,x'],_,_=>
     have t1:=Dn (h4 g (by simp)) (c2 x (by simp))
     have t2:=Dn (h4 g' (by simp)) (c2 x' (by simp))
     simp[bnd]at t1 t2 ⊢;omega
theorem Qp:bnd i≤bnd (i+1):=by
 match i with
 | 0=>decide
 | 1=>decide
 | 2=>decide
 | i+3=>exact Int.le_refl _
theorem R5(i:Nat):bnd i≤117:=by
 match i with
 | 0=>decide
 | 1=>decide
 | 2=>decide
 | i+3=>exact Int.le_refl _
theorem Ny{lo hi:Fm}{ds:List Int}(hi2:i≤2)(hlo:BdF lo i)(hhi:BdF hi i)(hc:Cs i cs)(h:ds∈bZ lo hi cs):Cs (i+1) ds:=by
 unfold bZ at h
 obtain⟨c,hc',rfl⟩:=List.mem_map.mp h
 unfold upI at hc'
 obtain⟨k,hk,rfl⟩:=List.mem_map.mp hc'
 have hk:=List.mem_range.mp hk
 have b1:=pO hi2 hlo hc
 have b2:=pO hi2 hhi hc
 refine⟨by simp[hc.1],λ c h=>?_⟩
 rcases List.mem_append.mp h with h | h
 . have:=hc.2 c h
   have:=Qp (i:=i)
   omega
 . have:c=atC lo cs+(k:Int):=by simpa using h
   omega
def Lps(ls:List Lp):Prop:=1≤ls.length/\ls.length≤3/\∀(i:Nat)(l:Lp),ls[i]? =some l->BdF l.1 i/\BdF l.2 i
theorem zG{ls:List Lp}(h:Lps ls):∀i,i≤ls.length->∀cs∈cnt (ls.take i),Cs i cs
 | 0,_,cs,hc=>by
   have:cs=[]:=by simpa[cnt]using hc
   subst this
   exact⟨rfl,λ c hc=>by simp at hc⟩
 | i+1,hi,cs,hc=>by
   have hl:=y0 (l:=ls) (i:=i) (by omega)
   rw[oR hl]at hc
   obtain⟨ds,hd,hc⟩:=List.mem_flatMap.mp hc
   have:=h.2.2 i _ hl
   have h3:=h.2.1
   exact Ny (by omega) this.1 this.2 (zG h i (by omega) ds hd) hc
def Ft:Nat->Nat
 | 0=>1
 | 1=>18
 | 2=>972
 | _=>227448
theorem xV{lo hi:Fm}{m:Nat}:∀{ahead:List (List Int)},(∀cs∈ahead,(bZ lo hi cs).length≤m)->(aM lo hi ahead).length≤ahead.length*m
 | [],_=>by simp[aM]
 | a::as,h=>by
   have ih:=xV (ahead:=as) λ cs hc=>h cs (x9 _ hc)
   have:=h a v3
   unfold aM at ih ⊢
   rw[List.flatMap_cons,List.length_append,List.length_cons,Nat.succ_mul]
   omega
theorem CJ{ls:List Lp}(h:Lps ls):∀i,i≤ls.length->(cnt (ls.take i)).length≤Ft i
 | 0,_=>by simp[cnt,Ft]
 | i+1,hi=>by
   have hl:=y0 (l:=ls) (i:=i) (by omega)
   have ih:=CJ h i (by omega)
   have h3:=h.2.1
   have hb:=h.2.2 i _ hl
   rw[oR hl]
   have hm:∀cs∈cnt (ls.take i),(bZ ls[i].1 ls[i].2 cs).length≤(2*bnd (i+1)).toNat:=λ cs hc=>by
    have c:=zG h i (by omega) cs hc
    have b1:=pO (by omega) hb.1 c
    have b2:=pO (by omega) hb.2 c
    rw[iQ];omega
   have:=xV hm
   have:i=0∨i=1∨i=2:=by omega
   rcases this with rfl | rfl | rfl<;>simp[bnd,Ft]at* <;>omega
theorem Lps.fits{ls:List Lp}(h:Lps ls):Fits ls:=by
 refine⟨λ l hl=>?_,λ i hi=>⟨?_,λ cs hc=>?_⟩⟩
 . obtain⟨i,hi⟩:=List.getElem?_of_mem hl
   have hl':=(z0.mp hi).1
   have h3:=h.2.1
   obtain⟨⟨a1,a2,a3,a4⟩,b1,b2,b3,b4⟩:=h.2.2 i l hi
   exact⟨⟨by omega,by omega,by omega,λ n hn=>by have:=a4 n hn;omega⟩,by omega,by omega,by omega,λ n hn=>by have:=b4 n hn;omega⟩
 . have:=CJ h i hi
   have h3:=h.2.1
   have:i=0∨i=1∨i=2∨i=3:=by omega
   rcases this with rfl | rfl | rfl | rfl<;>simp only[Ft]at* <;>omega
 . have c:=zG h i hi cs hc
   have h3:=h.2.1
   exact⟨by have:=c.1;omega,λ n hn=>by have:=c.2 n hn;have:=R5 i;omega⟩
def j8(a b:Int):D->Bool
 | .int n=>decide (a≤n)&&decide (n≤b)
 | _=>false
def pA(n:Int):Bool:=decide ((if n<0 then-n else n)<10 ^ Int.toNat 30)
def uv:D->Bool
 | .int n=>pA n
 | _=>false
def parts:D->List D
 | .tup ds=>ds
 | _=>[]
def cI(x:D):Bool:=aW x 1 3&&(parts x).all (j8 1 2)
def isPlace(d:Int)(x:D):Bool:=cg x d&&(parts x).all (j8 (-99) 99)
def isStart(x:D)(d:Int):Bool:=cg x d&&(parts x).all uv
def jb(t p:D)(ws:List Int)(d:Int):Bool:=match t with
 | .int n=>(decide (0≤n)&&decide (n<(ws.length:Int)))&&(aW p (ws.getD n.toNat 0) (ws.getD n.toNat 0)&&(parts p).all (isPlace d))
 | _=>false
def jF(ws:List Int)(d:Int)(x:D):Bool:=match x with
 | .tup [f,t,p]=>uv f&&jb t p ws d
 | _=>false
def mU(x:D)(ws:List Int)(d:Int):Bool:=aW x 0 3&&(parts x).all (jF ws d)
def eF(ws:List Int)(d:Int)(x:D):Bool:=match x with
 | .tup [t,p,s,r]=>jb t p ws d&&(isStart s d&&mU r ws d)
 | _=>false
def iy(ws:List Int)(x:D):Bool:=match x with
 | .tup [l,ds]=>eH l&&(aW ds 1 4&&(parts ds).all (eF ws ((parts l).length:Int)))
 | _=>false
def eG(x:D)(ws:List Int):Bool:=aW x 1 3&&(parts x).all (iy ws)
def Es:Ct:=λ ds S W=>∃n,ds=[.int n]/\W (.bl (pA n)) S
def xU:Ct:=λ ds S W=>∃x,ds=[x]/\W (.bl (cI x)) S
def zH:Ct:=λ ds S W=>∃x d,ds=[x,.int d]/\0≤d/\d≤1000/\W (.bl (isPlace d x)) S
def CP:Ct:=λ ds S W=>∃x d,ds=[x,.int d]/\0≤d/\d≤1000/\W (.bl (isStart x d)) S
def Ws(ws:List Int):Prop:=ws.length≤3/\∀w∈ws,1≤w/\w≤2
def Kz:Ct:=λ ds S W=>∃t p ws d,ds=[t,p,.tup (List.map .int ws),.int d]/\Ws ws/\0≤d/\d≤1000/\W (.bl (jb t p ws d)) S
def Ha:Ct:=λ ds S W=>∃x ws d,ds=[x,.tup (List.map .int ws),.int d]/\Ws ws/\0≤d/\d≤1000/\W (.bl (jF ws d x)) S
def Dj:Ct:=λ ds S W=>∃x ws d,ds=[x,.tup (List.map .int ws),.int d]/\Ws ws/\0≤d/\d≤1000/\W (.bl (mU x ws d)) S
def G9:Ct:=λ ds S W=>∃x ws d,ds=[x,.tup (List.map .int ws),.int d]/\Ws ws/\0≤d/\d≤1000/\W (.bl (eF ws d x)) S
def Gn:Ct:=λ ds S W=>∃x ws,ds=[x,.tup (List.map .int ws)]/\Ws ws/\W (.bl (iy ws x)) S
def Dg:Ct:=λ ds S W=>∃x ws,ds=[x,.tup (List.map .int ws)]/\Ws ws/\W (.bl (eG x ws)) S
theorem cG{ds:List D}{p:D->Bool}(w:W (.bl (ds.all p)) S):fU.wp [.lst (ds.map λ d=>.bl (p d))] S W:=
 ⟨ds.map p,by rw[List.map_map];rfl,by rw[zb];exact w⟩
theorem uY{ds:List D}{b:Int}(h:aW (.tup ds) a b=true):a≤(ds.length:Int)/\(ds.length:Int)≤b:=by
 obtain⟨h1,h2⟩:=aa h
 exact⟨of_decide_eq_true h1,of_decide_eq_true h2⟩
theorem bU{x:D}{b:Int}(h:aW x a b=true):∃ds,x=.tup ds/\a≤(ds.length:Int)/\(ds.length:Int)≤b:=by
 cases x with
 | tup ds=>exact⟨ds,rfl,uY h⟩
 | _=>exact ff h
theorem nj{b n:Int}{Q:WD}(hq:Q (.bl (j8 a b (.int n))) S):(decide (a≤n)=false->Q (.bl false) S)/\(decide (a≤n)=true->Q (.bl (decide (n≤b))) S):=by
 have e:j8 a b (.int n)=(decide (a≤n)&&decide (n≤b)):=rfl
 rw[e]at hq
 exact⟨λ h=>by rw[h]at hq;exact hq,λ h=>by rw[h]at hq;exact hq⟩
theorem jR(F:Fun Ω.K "has_few_figures" "has_few_figures" cu f fd)(N0:Ω.cd=none)(B:Bi Ω.mg Ω.K):Ok Ω 1 f fd lD Es:=by
 refine aG N0 (N:=lw) F (lg B) (by kernel_rfl!) ?_
 rintro ds S W ⟨n,rfl,hw⟩ hl
 walk_at "b"
 exact hw
theorem sS(F:Fun Ω.K "is_widths" "is_widths" fV f fd)(N0:Ω.cd=none)(B:Bi Ω.mg Ω.K)(Cq32:Cal Ω "is_whole" 1 1 jG)(Cq31:Cal Ω "is_tuple_of" 1 3 dX):Ok Ω 2 f fd wM xU:=by
 refine aG N0 (N:=wL) F (wQ B Cq32 Cq31) (by kernel_rfl!) ?_
 rintro ds S W ⟨x,rfl,hw⟩ hl
 walk_at "b"
 refine⟨rfl,_,_,_,rfl,?_⟩
 walk_at "b"
 unfold cI at hw
 refine⟨λ h=>?_,λ h=>by rw[h]at hw;exact hw⟩
 rw[h]at hw
 obtain⟨ds,rfl,l1,l2⟩:=bU h
 walk_at "b"
 refine dY (λ d=>.bl (j8 1 2 d)) (by omega) ?_ (cG hw)
 intro i e he Q hq
 walk_at "b"
 refine⟨rfl,_,rfl,?_⟩
 cases e with
 | int n=>
   walk_at "b"
   refine⟨(nj hq).1,λ h=>?_⟩
   walk_at "b"
   exact(nj hq).2 h
 | _=>walk_at "b";exact hq
theorem lO(F:Fun Ω.K "is_place_form" "is_place_form" cU f fd)(N0:Ω.cd=none)(B:Bi Ω.mg Ω.K)(Cq20:Cal Ω "is_form" 2 2 qy):Ok Ω 3 f fd nJ zH:=by
 refine aG N0 (N:=nG) F (nP B Cq20) (by kernel_rfl!) ?_
 rintro ds S W ⟨x,d,rfl,hd0,hd,hw⟩ hl
 walk_at "b"
 refine⟨rfl,_,_,rfl,hd,?_⟩
 walk_at "b"
 unfold isPlace at hw
 refine⟨λ h=>?_,λ h=>by rw[h]at hw;exact hw⟩
 rw[h]at hw
 obtain⟨a,fs,rfl,hf⟩:=je h hd0
 walk_at "b"
 refine dY (λ d=>.bl (j8 (-99) 99 d)) (by simp;omega) ?_ (cG hw)
 intro i e he Q hq
 have:∃n,e=.int n:=by
  have:=y8 he
  rcases List.mem_cons.mp this with rfl | h
  . exact⟨_,rfl⟩
  . obtain⟨n,_,rfl⟩:=List.mem_map.mp h
    exact⟨n,rfl⟩
 obtain⟨n,rfl⟩:=this
 walk_at "b"
 refine⟨(nj hq).1,λ h=>?_⟩
 walk_at "b"
 exact(nj hq).2 h
theorem vy(F:Fun Ω.K "is_start" "is_start" iz f fd)(N0:Ω.cd=none)(B:Bi Ω.mg Ω.K)(Cq20:Cal Ω "is_form" 2 2 qy)(Cq17:Cal Ω "has_few_figures" 1 1 Es):Ok Ω 3 f fd zA CP:=by
 refine aG N0 (N:=zJ) F (zV B Cq20 Cq17) (by kernel_rfl!) ?_
 rintro ds S W ⟨x,d,rfl,hd0,hd,hw⟩ hl
 walk_at "b"
 refine⟨rfl,_,_,rfl,hd,?_⟩
 walk_at "b"
 unfold isStart at hw
 refine⟨λ h=>?_,λ h=>by rw[h]at hw;exact hw⟩
 rw[h]at hw
 obtain⟨a,fs,rfl,hf⟩:=je h hd0
 walk_at "b"
 refine dY (λ d=>.bl (uv d)) (by simp;omega) ?_ (cG hw)
 intro i e he Q hq
 have:∃n,e=.int n:=by
  have:=y8 he
  rcases List.mem_cons.mp this with rfl | h
  . exact⟨_,rfl⟩
  . obtain⟨n,_,rfl⟩:=List.mem_map.mp h
    exact⟨n,rfl⟩
 obtain⟨n,rfl⟩:=this
 walk_at "b"
 exact⟨rfl,_,rfl,hq⟩
theorem iw(F:Fun Ω.K "is_table_with_place" "is_table_with_place" bH f fd)(N0:Ω.cd=none)(B:Bi Ω.mg Ω.K)(Cq32:Cal Ω "is_whole" 1 1 jG)(Cq31:Cal Ω "is_tuple_of" 1 3 dX)(Cq26:Cal Ω "is_place_form" 3 2 zH):Ok Ω 4 f fd iJ Kz:=by
 refine aG N0 (N:=iG) F (iI B Cq32 Cq31 Cq26) (by kernel_rfl!) ?_
 rintro ds S W ⟨t,p,ws,d,rfl,hws,hd0,hd,hw⟩ hl
 walk_at "b"
 refine⟨rfl,_,rfl,?_⟩
 cases t with
 | int n=>
   have e:jb (.int n) p ws d=((decide (0≤n)&&decide (n<(ws.length:Int)))&&(aW p (ws.getD n.toNat 0) (ws.getD n.toNat 0)&&(parts p).all (isPlace d))):=rfl
   rw[e]at hw
   have hl3:((ws.map D.int).length:Int)=(ws.length:Int):=by rw[x5]
   walk_at "b"
   refine⟨λ h=>?_,λ h=>?_⟩
   . rw[h]at hw
     walk_at "b"
     exact hw
   rw[h,Bool.true_and]at hw
   walk_at "b"
   rw[hl3]
   refine⟨λ h2=>?_,λ h2=>?_⟩
   . have h2:decide (n<(ws.length:Int))=false:=nt h2
     rw[h2]at hw
     walk_at "b"
     exact hw
   have h2:decide (n<(ws.length:Int))=true:=by
    cases q:decide (n<(ws.length:Int))with
    | true=>rfl
    | false=>rw[q]at h2;exact tf h2
   rw[h2,Bool.true_and]at hw
   have h0:=of_decide_eq_true h
   have h1:=of_decide_eq_true h2
   have hk:n.toNat<ws.length:=by omega
   have ew:ws.getD n.toNat 0=ws[n.toNat]:=by simp[List.getD,hk]
   have at1:atI (ws.map D.int) n=some (.int (ws.getD n.toNat 0)):=by
    have:=au (xs:=ws.map D.int) (j:=n.toNat) (v:=.int ws[n.toNat]) (by rw[x6,y0 hk];rfl)
    rw[Int.toNat_of_nonneg h0]at this
    rw[ew];exact this
   have hw12:=hws.2 _ (List.getElem_mem hk)
   rw[←ew]at hw12
   generalize ws.getD n.toNat 0=w at at1 hw hw12
   walk_at "b"
   refine⟨_,at1,?_⟩
   walk_at "b"
   refine⟨_,at1,?_⟩
   walk_at "b"
   refine⟨rfl,_,_,_,rfl,?_⟩
   walk_at "b"
   refine⟨λ h3=>?_,λ h3=>by rw[h3]at hw;exact hw⟩
   rw[h3]at hw
   obtain⟨ds,rfl,l1,l2⟩:=bU h3
   walk_at "b"
   refine dY (λ x=>.bl (isPlace d x)) (by omega) ?_ (cG hw)
   intro i e he Q hq
   walk_at "b"
   exact⟨rfl,_,_,rfl,hd0,hd,hq⟩
 | _=>walk_at "b";exact hw
theorem xO(F:Fun Ω.K "is_read" "is_read" jr f fd)(N0:Ω.cd=none)(Cq32:Cal Ω "is_whole" 1 1 jG)(Cq31:Cal Ω "is_tuple_of" 1 3 dX)(Cq17:Cal Ω "has_few_figures" 1 1 Es)(Cq30:Cal Ω "is_table_with_place" 4 4 Kz):Ok Ω 5 f fd An Ha:=by
 refine aG N0 (N:=Bq) F (Ba Cq32 Cq31 Cq17 Cq30) (by kernel_rfl!) ?_
 rintro ds S W ⟨x,ws,d,rfl,hws,hd0,hd,hw⟩ hl
 walk_at "b"
 refine⟨rfl,_,_,_,rfl,?_⟩
 cases h:aW x 3 3 with
 | false=>
   have e:jF ws d x=false:=by
    cases x with
    | tup ds=>
      match ds,h with
      | [a,b,c],h=>exact tf h
      | [],_=>rfl
      | [_],_=>rfl
      | [_,_],_=>rfl
      | _::_::_::_::_,_=>rfl
    | _=>rfl
   rw[e]at hw
   walk_at "b"
   exact hw
 | true=>
   obtain⟨ds,rfl,l1,l2⟩:=bU h
   match ds,l1,l2,hw with
   | [f, t,p],_,_,hw=>
     walk_at "b"
     refine⟨rfl,_,rfl,?_⟩
     have e:jF ws d (.tup [f,t,p])=(uv f&&jb t p ws d):=rfl
     rw[e]at hw
     cases f with
     | int n=>
       walk_at "b"
       refine⟨rfl,_,rfl,?_⟩
       have e:uv (.int n)=pA n:=rfl
       rw[e]at hw
       cases h2:pA n with
       | true=>
         rw[h2]at hw
         walk_at "b"
         exact⟨rfl,_,_,_,_,rfl,hws,hd0,hd,hw⟩
       | false=>
         rw[h2]at hw
         walk_at "b"
         exact hw
     | _=>walk_at "b";exact hw
   | [],l1,_,_=>simp at l1
   | [_],l1,_,_=>simp at l1
   | [_,_],l1,_,_=>simp at l1
   | _::_::_::_::es,_,l2,_=>simp at l2;omega
theorem wk(F:Fun Ω.K "is_reads" "is_reads" gW f fd)(N0:Ω.cd=none)(B:Bi Ω.mg Ω.K)(Cq31:Cal Ω "is_tuple_of" 1 3 dX)(Cq27:Cal Ω "is_read" 5 3 Ha):Ok Ω 6 f fd zK Dj:=by
 refine aG N0 (N:=zL) F (yF B Cq31 Cq27) (by kernel_rfl!) ?_
 rintro ds S W ⟨x,ws,d,rfl,hws,hd0,hd,hw⟩ hl
 walk_at "b"
 refine⟨rfl,_,_,_,rfl,?_⟩
 walk_at "b"
 unfold mU at hw
 refine⟨λ h=>?_,λ h=>by rw[h]at hw;exact hw⟩
 rw[h]at hw
 obtain⟨ds,rfl,l1,l2⟩:=bU h
 walk_at "b"
 refine dY (λ x=>.bl (jF ws d x)) (by omega) ?_ (cG hw)
 intro i e he Q hq
 walk_at "b"
 exact⟨rfl,_,_,_,rfl,hws,hd0,hd,hq⟩
theorem xZ(F:Fun Ω.K "is_deed" "is_deed" jh f fd)(N0:Ω.cd=none)(Cq31:Cal Ω "is_tuple_of" 1 3 dX)(Cq29:Cal Ω "is_start" 3 2 CP)(Cq30:Cal Ω "is_table_with_place" 4 4 Kz)(Cq28:Cal Ω "is_reads" 6 3 Dj):Ok Ω 7 f fd Bb G9:=by
 refine aG N0 (N:=Ad) F (Bg Cq31 Cq29 Cq30 Cq28) (by kernel_rfl!) ?_
 rintro ds S W ⟨x,ws,d,rfl,hws,hd0,hd,hw⟩ hl
 walk_at "b"
 refine⟨rfl,_,_,_,rfl,?_⟩
 cases h:aW x 4 4 with
 | false=>
   have e:eF ws d x=false:=by
    cases x with
    | tup ds=>
      match ds,h with
      | [a,b,c,d],h=>exact tf h
      | [],_=>rfl
      | [_],_=>rfl
      | [_,_],_=>rfl
      | [_,_,_],_=>rfl
      | _::_::_::_::_::_,_=>rfl
    | _=>rfl
   rw[e]at hw
   walk_at "b"
   exact hw
 | true=>
   obtain⟨ds,rfl,l1,l2⟩:=bU h
   match ds,l1,l2,hw with
   | [t, p,s,r],_,_,hw=>
     have e:eF ws d (.tup [t,p,s,r])=(jb t p ws d&&(isStart s d&&mU r ws d)):=rfl
     rw[e]at hw
     walk_at "b"
     refine⟨rfl,_,_,_,_,rfl,hws,hd0,hd,?_⟩
     cases h2:jb t p ws d with
     | false=>
       rw[h2]at hw
       walk_at "b"
       exact hw
     | true=>
       rw[h2,Bool.true_and]at hw
       walk_at "b"
       refine⟨rfl,_,_,rfl,hd0,hd,?_⟩
       cases h3:isStart s d with
       | false=>
         rw[h3]at hw
         walk_at "b"
         exact hw
       | true=>
         rw[h3,Bool.true_and]at hw
         walk_at "b"
         exact⟨rfl,_,_,_,rfl,hws,hd0,hd,hw⟩
   | [],l1,_,_=>simp at l1
   | [_],l1,_,_=>simp at l1
   | [_,_],l1,_,_=>simp at l1
   | [_,_,_],l1,_,_=>simp at l1
   | _::_::_::_::_::es,_,l2,_=>simp at l2;omega
theorem z6(F:Fun Ω.K "is_nest" "is_nest" jt f fd)(N0:Ω.cd=none)(B:Bi Ω.mg Ω.K)(Cq31:Cal Ω "is_tuple_of" 1 3 dX)(Cq22:Cal Ω "is_loops" 5 1 CZ)(Cq19:Cal Ω "is_deed" 7 3 G9):Ok Ω 8 f fd Bd Gn:=by
 refine aG N0 (N:=Aq) F (Bk B Cq31 Cq22 Cq19) (by kernel_rfl!) ?_
 rintro ds S W ⟨x,ws,rfl,hws,hw⟩ hl
 walk_at "b"
 refine⟨rfl,_,_,_,rfl,?_⟩
 cases h:aW x 2 2 with
 | false=>
   have e:iy ws x=false:=by
    cases x with
    | tup ds=>
      match ds,h with
      | [a,b],h=>exact tf h
      | [],_=>rfl
      | [_],_=>rfl
      | _::_::_::_,_=>rfl
    | _=>rfl
   rw[e]at hw
   walk_at "b"
   exact hw
 | true=>
   obtain⟨ds,rfl,l1,l2⟩:=bU h
   match ds,l1,l2,hw with
   | [l, dd],_,_,hw=>
     have e:iy ws (.tup [l,dd])=(eH l&&(aW dd 1 4&&(parts dd).all (eF ws ((parts l).length:Int)))):=rfl
     rw[e]at hw
     walk_at "b"
     refine⟨rfl,_,rfl,?_⟩
     cases h2:eH l with
     | false=>
       rw[h2]at hw
       walk_at "b"
       exact hw
     | true=>
       rw[h2,Bool.true_and]at hw
       cases l with
       | tup ls=>
         have hlen:(ls.length:Int)≤3:=of_decide_eq_true (aa (aa h2).1).2
         have hw:W (.bl (aW dd 1 4&&(parts dd).all (eF ws (ls.length:Int)))) S:=hw
         walk_at "b"
         refine⟨rfl,_,_,_,rfl,?_⟩
         walk_at "b"
         refine⟨λ h3=>?_,λ h3=>by rw[h3]at hw;exact hw⟩
         rw[h3]at hw
         obtain⟨es,rfl,l1,l2⟩:=bU h3
         walk_at "b"
         refine dY (λ x=>.bl (eF ws (ls.length:Int) x)) (by omega) ?_ (cG hw)
         intro i e he Q hq
         walk_at "b"
         exact⟨rfl,_,_,_,rfl,hws,by omega,by omega,hq⟩
       | _=>exact ff h2
   | [],l1,_,_=>simp at l1
   | [_],l1,_,_=>simp at l1
   | _::_::_::es,_,l2,_=>simp at l2;omega
theorem vU(F:Fun Ω.K "is_nests" "is_nests" gU f fd)(N0:Ω.cd=none)(B:Bi Ω.mg Ω.K)(Cq31:Cal Ω "is_tuple_of" 1 3 dX)(Cq23:Cal Ω "is_nest" 8 2 Gn):Ok Ω 9 f fd yS Dg:=by
 refine aG N0 (N:=yU) F (zg B Cq31 Cq23) (by kernel_rfl!) ?_
 rintro ds S W ⟨x,ws,rfl,hws,hw⟩ hl
 walk_at "b"
 refine⟨rfl,_,_,_,rfl,?_⟩
 walk_at "b"
 unfold eG at hw
 refine⟨λ h=>?_,λ h=>by rw[h]at hw;exact hw⟩
 rw[h]at hw
 obtain⟨ds,rfl,l1,l2⟩:=bU h
 walk_at "b"
 refine dY (λ x=>.bl (iy ws x)) (by omega) ?_ (cG hw)
 intro i e he Q hq
 walk_at "b"
 exact⟨rfl,_,_,rfl,hws,hq⟩
structure Rd where
 fac:Int
 tab:Nat
 pl:List Fm
structure Dd where
 tab:Nat
 pl:List Fm
 st:Fm
 rds:List Rd
structure Ns where
 lps:List Lp
 dds:List Dd
structure Pg where
 ws:List Int
 nss:List Ns
def dP(pl:List Fm):D:=.tup (pl.map dF)
def dRd(r:Rd):D:=.tup [.int r.fac,.int r.tab,dP r.pl]
def dDd(x:Dd):D:=.tup [.int x.tab,dP x.pl,dF x.st,.tup (x.rds.map dRd)]
def dNs(n:Ns):D:=.tup [.tup (n.lps.map dL),.tup (n.dds.map dDd)]
def dWs(ws:List Int):D:=.tup (ws.map .int)
def dPg(p:Pg):D:=.tup [dWs p.ws,.tup (p.nss.map dNs)]
def many(nss:List Ns):Int:=(nss.map λ n=>((cnt n.lps).length:Int)*(n.dds.length:Int)).sum
def Ka(n:Ns):Prop:=1≤n.lps.length/\Fits n.lps/\n.dds.length≤1000
def Gh:Ct:=λ ds S W=>∃nss,ds=[.tup (List.map dNs nss)]/\nss.length≤1000/\(∀n∈nss,Ka n)/\flat S/\W (.int (many nss)) S
theorem Ih(h:cI (dWs ws)=true):Ws ws:=by
 obtain⟨h1,h2⟩:=aa h
 have:=uY h1
 refine⟨by simp at this;omega,λ w hw=>?_⟩
 have h3:=List.all_eq_true.mp h2 (.int w) (List.mem_map.mpr ⟨w,hw,rfl⟩)
 obtain⟨a,b⟩:=aa h3
 exact⟨of_decide_eq_true a,of_decide_eq_true b⟩
theorem kY(F:Fun Ω.K "number_of_steps" "number_of_steps" cB f fd)(N0:Ω.cd=none)(B:Bi Ω.mg Ω.K)(Cq14:Cal Ω "counts_of" 3 1 xJ):Ok Ω 4 f fd lz Gh:=by
 refine aG N0 (N:=lu) F (lC B Cq14) (by kernel_rfl!) ?_
 rintro ds S W ⟨nss,rfl,hz,hok,hS,hw⟩ hl
 walk_at "b"
 refine zc (λ n=>.int (((cnt n.lps).length:Int)*(n.dds.length:Int))) (by omega) ?_ ?_
 . intro i n hn Q hq
   obtain⟨h1,h2,h3⟩:=hok n (y8 hn)
   have h4:=(h2.2 n.lps.length (x8 _)).1
   rw[List.take_length]at h4
   walk_at "b"
   refine⟨rfl,?_⟩
   walk_at "b"
   refine⟨rfl,_,rfl,h1,h2,hS,.inl ?_⟩
   have e1:(((cnt n.lps).map dC).length:Int)=((cnt n.lps).length:Int):=by rw[x5]
   have e2:((n.dds.map dDd).length:Int)=(n.dds.length:Int):=by rw[x5]
   walk_at "n"
   rw[e1,e2]
   exact⟨.inl ⟨by omega,by omega⟩,hq⟩
 . exact⟨nss.map λ(n:Ns)=>((cnt n.lps).length:Int)*(n.dds.length:Int),by rw[List.map_map];rfl,hw⟩
theorem _root_.DL.Pen.lt(p:Pen S k):k<S.length:=by
 obtain⟨ns,a,c,n,m,z,h,_⟩:=p
 exact(z0.mp h).1
theorem _root_.DL.Pen.app(J:Store)(p:Pen S k):Pen (S++J) k:=by
 have hl:=p.lt
 obtain⟨ns,a,c,n,m,z,h,ha⟩:=p
 exact⟨ns,a,c,n,m,z,by rw[List.getElem?_append_left hl];exact h,ha⟩
theorem _root_.DL.Upd.split{T:Store}{J:Store}(p:Pen S k)(u:Upd (S++J) k T):∃S',T=S'++J/\Upd S k S'/\Pen S' k:=by
 have hl:=p.lt
 obtain⟨ns,a,c,n,m,z,rfl,hn⟩:=u
 have u:Upd S k (S.set k (gZ ns a c n m z)):=⟨ns,a,c,n,m,z,rfl,hn⟩
 exact⟨S.set k (gZ ns a c n m z),by rw[List.set_append_left k _ hl],u,u.pen p⟩
theorem Hr{α:Type}{f:α->D}{P:α->Prop}:∀{ys:List D},(∀(i:Nat)(y:D),ys[i]? =some y->∃a,y=f a/\P a)->∃as:List α,ys=as.map f/\∀a∈as,P a
 | [],_=>⟨[],rfl,by simp⟩
 | y::ys,h=>by
   obtain⟨a,rfl,ha⟩:=h 0 y rfl
   obtain⟨as,rfl,has⟩:=Hr (ys:=ys) λ i y h'=>h (i+1) y (by simpa using h')
   exact⟨a::as,rfl,by
    intro b hb
    rcases List.mem_cons.mp hb with rfl | hb
    . exact ha
    . exact has b hb⟩
theorem iT(ns:List Int):aq (ns.map D.int)=true:=by
 induction ns with
 | nil=>rfl
 | cons y ys ih=>simp only[List.map_cons,aq,ih,Bool.and_true];rfl
theorem oO(f:Fm):ao (dF f)=true:=iT (f.1::f.2)
theorem aP{α:Type}{f:α->D}(h:∀a,ao (f a)=true):∀l:List α,aq (l.map f)=true
 | []=>rfl
 | a::l=>by simp only[List.map_cons,aq,h,aP h l,Bool.and_true]
theorem Jv(l:Lp):ao (dL l)=true:=by
 show aq [dF l.1,dF l.2]=true
 simp only[aq,oO,Bool.and_true]
theorem Hq(ls:List Lp):ao (.tup (ls.map dL))=true:=aP Jv ls
theorem yz(pl:List Fm):ao (dP pl)=true:=aP oO pl
theorem Iv(r:Rd):ao (dRd r)=true:=by
 show aq [D.int _,D.int _,dP r.pl]=true
 simp only[aq,yz,Bool.and_true];rfl
theorem IV(x:Dd):ao (dDd x)=true:=by
 show aq [D.int _,dP x.pl,dF x.st,.tup (x.rds.map dRd)]=true
 have:ao (.tup (x.rds.map dRd))=true:=aP Iv x.rds
 simp only[aq,yz,oO,this,Bool.and_true];rfl
theorem GQ(n:Ns):ao (dNs n)=true:=by
 show aq [.tup (n.lps.map dL),.tup (n.dds.map dDd)]=true
 have h2:ao (.tup (n.dds.map dDd))=true:=aP IV _
 simp only[aq,Hq,h2,Bool.and_true]
theorem uV(p:Pg):ao (dPg p)=true:=by
 show aq [dWs p.ws,.tup (p.nss.map dNs)]=true
 have h1:ao (dWs p.ws)=true:=iT _
 have h2:ao (.tup (p.nss.map dNs))=true:=aP GQ _
 simp only[aq,h1,h2,Bool.and_true]
theorem _root_.DL.Upd.flat{S':Store}(u:Upd S k S')(h:flat S):RF.flat S':=by
 obtain⟨ns,a,c,n,m,z,rfl,_⟩:=u
 intro l hl
 rcases List.mem_or_eq_of_mem_set hl with hl | rfl
 . exact h l hl
 . have:aq [D.lst (ns.map .int),.int a,.int c,.int n,.int m,.int z]=true:=by
    have e:ao (D.lst (ns.map .int))=true:=iT ns
    simp only[aq,e,Bool.and_true];rfl
   exact this
theorem m6{d:D}{Γ:Gam}{W:Gam->Prop}(h:W (Γ.set i (some d))):(Tg.nm i).wp d Γ W:=h
def WsA(ws:List Int):Prop:=1≤ws.length/\ws.length≤3/\∀w∈ws,1≤w/\w≤2
theorem all_map{α:Type}{enc:α->D}{q:D->Bool}{l:List α}(h:∀a∈l,q (enc a)=true):(l.map enc).all q=true:=by
 rw[List.all_eq_true]
 intro x hx
 obtain⟨a,ha,rfl⟩:=List.mem_map.mp hx
 exact h a ha
theorem fH{α:Type}{enc:α->D}{l:List α}{b:Int}(h1:a≤(l.length:Int))(h2:(l.length:Int)≤b):aW (.tup (l.map enc)) a b=true:=by
 show(decide _&&decide _)=true
 rw[x5,decide_eq_true h1,decide_eq_true h2];rfl
theorem uH{f:Fm}(h:f.2.length=d):cg (dF f) (d:Int)=true:=by
 show(decide _&&((f.1::f.2).map D.int).all whole)=true
 rw[decide_eq_true (by simp;omega),all_map (λ _ _=>rfl)];rfl
theorem Gs{b n:Int}(h1:a≤n)(h2:n≤b):j8 a b (.int n)=true:=by
 show(decide _&&decide _)=true
 rw[decide_eq_true h1,decide_eq_true h2];rfl
def FmV(d:Nat)(f:Fm):Prop:=f.2.length=d/\(-99≤f.1/\f.1≤99)/\∀n∈f.2,-99≤n/\n≤99
def TpV(ws:List Int)(d t:Nat)(pl:List Fm):Prop:=∃w,ws[t]? =some w/\(pl.length:Int)=w/\∀f∈pl,FmV d f
def FmS(d:Nat)(f:Fm):Prop:=f.2.length=d/\(-1000000000000000000000000000000<f.1/\f.1<1000000000000000000000000000000)/\∀n∈f.2,-1000000000000000000000000000000<n/\n<1000000000000000000000000000000
def RdV(ws:List Int)(d:Nat)(r:Rd):Prop:=(-1000000000000000000000000000000<r.fac/\r.fac<1000000000000000000000000000000)/\TpV ws d r.tab r.pl
def DdV(ws:List Int)(d:Nat)(x:Dd):Prop:=TpV ws d x.tab x.pl/\FmS d x.st/\x.rds.length≤3/\∀r∈x.rds,RdV ws d r
def NsV(ws:List Int)(n:Ns):Prop:=Lps n.lps/\1≤n.dds.length/\n.dds.length≤4/\∀x∈n.dds,DdV ws n.lps.length x
def PgV(p:Pg):Prop:=WsA p.ws/\1≤p.nss.length/\p.nss.length≤3/\(∀n∈p.nss,NsV p.ws n)/\many p.nss≤60
theorem Uc:(10:Int) ^ (30:Int).toNat=1000000000000000000000000000000:=by decide
theorem HH{n:Int}(h1: -1000000000000000000000000000000<n)(h2:n<1000000000000000000000000000000):pA n=true:=by
 unfold pA
 rw[Uc]
 exact decide_eq_true (by split<;>omega)
theorem xn{f:Fm}(h:FmV d f):∀n∈f.1::f.2,-99≤n/\n≤99:=λ n hn=>by
 rcases List.mem_cons.mp hn with rfl | hn
 . exact h.2.1
 . exact h.2.2 n hn
theorem Ko{f:Fm}(h:FmV d f):isPlace (d:Int) (dF f)=true:=by
 show(cg (dF f) (d:Int)&&((f.1::f.2).map D.int).all (j8 (-99) 99))=true
 rw[uH h.1,all_map λ n hn=>Gs (xn h n hn).1 (xn h n hn).2];rfl
theorem JP{f:Fm}(h:FmS d f):isStart (dF f) (d:Int)=true:=by
 have hb:∀n∈f.1::f.2,-1000000000000000000000000000000<n/\n<1000000000000000000000000000000:=λ n hn=>by
  rcases List.mem_cons.mp hn with rfl | hn
  . exact h.2.1
  . exact h.2.2 n hn
 show(cg (dF f) (d:Int)&&((f.1::f.2).map D.int).all uv)=true
 rw[uH h.1,all_map λ n hn=>HH (hb n hn).1 (hb n hn).2];rfl
theorem Li{pl:List Fm}(h:TpV ws d t pl):jb (.int t) (dP pl) ws (d:Int)=true:=by
 obtain⟨w,hw,hl,hf⟩:=h
 have ht:=(z0.mp hw).1
 have e:ws.getD ((t:Int)).toNat 0=w:=by simp[List.getD,hw]
 show((decide _&&decide _)&&(aW (.tup (pl.map dF)) (ws.getD ((t:Int)).toNat 0) (ws.getD ((t:Int)).toNat 0)&&(pl.map dF).all (isPlace d)))=true
 rw[e,decide_eq_true (p:=(0:Int)≤t) (by omega),decide_eq_true (p:=(t:Int)<ws.length) (by omega),fH (by omega) (by omega),all_map λ f hf'=>Ko (hf f hf')];rfl
theorem Oa{x:Dd}(h:DdV ws d x):eF ws (d:Int) (dDd x)=true:=by
 obtain⟨h1,h2,h3,h4⟩:=h
 show(jb (.int x.tab) (dP x.pl) ws d&&(isStart (dF x.st) d&&(aW (.tup (x.rds.map dRd)) 0 3&&(x.rds.map dRd).all (jF ws d))))=true
 rw[Li h1,JP h2,fH (by omega) (by omega),all_map λ r hr=>?_]
 . rfl
 . obtain⟨a,c⟩:=h4 r hr
   show(pA r.fac&&jb (.int r.tab) (dP r.pl) ws d)=true
   rw[HH (by omega) (by omega),Li c];rfl
theorem Ab{f:Fm}(h:BdF f i):bK (dF f) (i:Int)=true:=by
 obtain⟨h1,h2,h3,h4⟩:=h
 show(cg (dF f) (i:Int)&&(decide _&&(decide _&&(f.2.map D.int).all small)))=true
 rw[uH h1,decide_eq_true h2,decide_eq_true h3,all_map λ n hn=>?_]
 . rfl
 . have:=h4 n hn
   show(decide _&&decide _)=true
   rw[decide_eq_true this.1,decide_eq_true this.2];rfl
theorem Ji{ls:List Lp}(h:Lps ls):eH (.tup (ls.map dL))=true:=by
 obtain⟨h1,h2,h3⟩:=h
 show((decide _&&decide _)&&((ls.map dL).mapIdx λ i d=>iu d i).all id)=true
 rw[x5,decide_eq_true (by omega),decide_eq_true (by omega),List.all_eq_true.mpr λ b hb=>?_]
 . rfl
 . obtain⟨i,hi⟩:=List.getElem?_of_mem hb
   rw[List.getElem?_mapIdx,x6]at hi
   cases e:ls[i]? with
   | none=>rw[e]at hi;cases hi
   | some l=>
     rw[e]at hi
     cases hi
     show(bK (dF l.1) i&&bK (dF l.2) i)=true
     rw[Ab (h3 i l e).1,Ab (h3 i l e).2];rfl
theorem Mw{n:Ns}(h:NsV ws n):iy ws (dNs n)=true:=by
 obtain⟨h1,h2,h3,h5⟩:=h
 show(eH (.tup (n.lps.map dL))&&(aW (.tup (n.dds.map dDd)) 1 4&&(n.dds.map dDd).all (eF ws ((n.lps.map dL).length:Int))))=true
 rw[Ji h1,fH (by omega) (by omega),x5,all_map λ x hx=>Oa (h5 x hx)];rfl
theorem NsV.ok{n:Ns}(h:NsV ws n):Ka n:=⟨h.1.1,h.1.fits,by have:=h.2.2.1;omega⟩
theorem G3(h:WsA ws):cI (dWs ws)=true:=by
 obtain⟨w1,w2,w3⟩:=h
 show(aW (.tup (ws.map D.int)) 1 3&&(ws.map D.int).all (j8 1 2))=true
 rw[fH (by omega) (by omega),all_map λ w hw=>Gs (w3 w hw).1 (w3 w hw).2];rfl
theorem KZ{p:Pg}(h:PgV p):eG (.tup (p.nss.map dNs)) p.ws=true:=by
 obtain⟨_,n1,n2,n3,n4⟩:=h
 show(aW (.tup (p.nss.map dNs)) 1 3&&(p.nss.map dNs).all (iy p.ws))=true
 rw[fH (by omega) (by omega),all_map λ n hn=>Mw (n3 n hn)];rfl
def uo:XCt:=λ ds S W WE=>∃x y,ds=[x,y]/\flat S/\(cI x=false->WE "NoProgram" S)/\(cI x=true->∃ws,x=dWs ws/\(eG y ws=false->WE "NoProgram" S)/\(eG y ws=true->∃nss,y=.tup (List.map dNs nss)/\nss.length≤1000/\(∀n∈nss,Ka n)/\(60<many nss->WE "TooMany" S)/\(many nss≤60->W (.tup [x,y]) S)))
theorem qg(F:Fun Ω.K "program_of" "program_of" eU f fd)(N0:Ω.cd=none)(B:Bi Ω.mg Ω.K)(E:ExF Ω.mg Ω.K XL XT)(Cq33:Cal Ω "is_widths" 2 1 xU)(Cq24:Cal Ω "is_nests" 9 2 Dg)(Cq36:Cal Ω "number_of_steps" 4 1 Gh):OkX Ω 10 f fd sX uo:=by
 refine di N0 (N:=um) F (tu B E Cq33 Cq24 Cq36) (by kernel_rfl!) ?_
 rintro ds S W WE ⟨x,y,rfl,hS,h1,h2⟩ hl
 walk_at "b"
 refine⟨rfl,_,rfl,?_⟩
 cases hx:cI x with
 | false=>
   walk_at "b"
   exact h1 hx
 | true=>
   obtain⟨ws,rfl,h3,h4⟩:=h2 hx
   have hws:=Ih hx
   walk_at "b"
   refine⟨rfl,_,_,rfl,hws,?_⟩
   cases hy:eG y ws with
   | false=>
     walk_at "b"
     exact h3 hy
   | true=>
     obtain⟨nss,rfl,hz,hok,h5,h6⟩:=h4 hy
     walk_at "b"
     refine⟨rfl,_,rfl,hz,hok,hS,?_⟩
     walk_at "b"
     by_cases h60:60<many nss
     . rw[decide_eq_true h60]
       walk_at "b"
       exact h5 h60
     . rw[decide_eq_false h60]
       walk_at "b"
       exact h6 (by omega)
theorem s44:Str.ofString ","=mkS [44]:=by decide+kernel
theorem s64:Str.ofString "@"=mkS [64]:=by decide+kernel
theorem s32:Str.ofString " "=mkS [32]:=by decide+kernel
theorem s10:Str.ofString "\n"=mkS [10]:=by decide+kernel
theorem s45:Str.ofString "-"=mkS [45]:=by decide+kernel
theorem s00:Str.ofString ""=mkS []:=by decide+kernel
def j0(n:Int):Prop:=n.natAbs<10 ^ 30
def FmB(f:Fm):Prop:=f.2.length≤3/\∀n∈f.1::f.2,j0 n
def PlB(pl:List Fm):Prop:=pl.length≤2/\∀f∈pl,FmB f
def RdB(r:Rd):Prop:=j0 r.fac/\r.tab<3/\PlB r.pl
def DdB(x:Dd):Prop:=x.tab<3/\PlB x.pl/\FmB x.st/\x.rds.length≤3/\∀r∈x.rds,RdB r
def LpB(l:Lp):Prop:=FmB l.1/\FmB l.2
def NsB(n:Ns):Prop:=n.lps.length≤3/\(∀l∈n.lps,LpB l)/\n.dds.length≤4/\∀x∈n.dds,DdB x
def PgB(p:Pg):Prop:=(p.ws.length≤3/\∀w∈p.ws,j0 w)/\p.nss.length≤3/\∀n∈p.nss,NsB n
def fS(f:Fm):Str:=Txt.join "," ((f.1::f.2).map nS)
def lt3:List Str:=["a","b","c"]
def ltS(t:Nat):Str:=mkS [97+t]
def cS(t:Nat)(pl:List Fm):Str:=Txt.join "@" (ltS t::pl.map fS)
inductive Ln where
 | nest | loop(l:Lp) | deed(x:Dd) | rd(r:Rd)
def Ln.w:Ln->List Str
 | .nest=>["nest"]
 | .loop l=>["loop",fS l.1,"to",fS l.2]
 | .deed x=>["set",cS x.tab x.pl,"be",fS x.st]
 | .rd r=>["and",nS r.fac,"of",cS r.tab r.pl]
def liS(ws:List Str):Str:=Txt.join " " ws
abbrev dLn(l:Ln):D:=.str (liS l.w)
def bD(x:Dd):List Ln:=.deed x::x.rds.map .rd
def aH(n:Ns):List Ln:=.nest::(n.lps.map .loop++n.dds.flatMap bD)
def lns(nss:List Ns):List Ln:=nss.flatMap aH
theorem mK{sep:Str}{xs:List Str}{B:Nat}(hB:∀x∈xs,x.length≤B)(hn:xs.length≤n):(Txt.join sep xs).length≤n*(B+sep.length):=by
 show(Builtin.Str.glued sep xs).length≤_
 rw[StrLaws.glued_eq_join]
 have h1:=StrLaws.join_length_le sep xs
 have h2:=StrLaws.sumLen_le xs hB
 have h3:xs.length*(B+sep.length)≤n*(B+sep.length):=Nat.mul_le_mul_right _ hn
 rw[Nat.mul_add]at h3
 omega
theorem Dt{sep:Str}{xs:List Str}{B:Nat}(hB:∀x∈xs,x.length≤B)(hn:xs.length≤n)(h:n*(B+sep.length)≤16000000):JoinOk sep xs=true:=by
 have h3:xs.length*(B+sep.length)≤n*(B+sep.length):=Nat.mul_le_mul_right _ hn
 rw[Nat.mul_add]at h3
 unfold JoinOk
 have:=StrLaws.joinFits (sep:=sep) hB (by omega)
 rw[this];rfl
theorem qG{n:Int}(h:j0 n):(nS n).length≤31:=by
 rw[bJ,dJ];exact R8 (k:=29) h
theorem GJ{n:Int}(h:j0 n):n.natAbs.log2<1920:=by
 by_cases hz:n.natAbs=0
 . rw[hz];decide
 . exact(Nat.log2_lt hz).mpr (Nat.lt_of_lt_of_le (Nat.lt_trans h (by decide:(10:Nat) ^ 30<2 ^ 100)) (Nat.pow_le_pow_right (by decide) (by decide)))
theorem yP{f:Fm}(h:FmB f):∀x∈(f.1::f.2).map nS,x.length≤31:=λ x hx=>by
 obtain⟨n,hn,rfl⟩:=List.mem_map.mp hx
 exact qG (h.2 n hn)
theorem Dc{f:Fm}(h:FmB f):((f.1::f.2).map nS).length≤4:=by
 rw[x5,List.length_cons];have:=h.1;omega
theorem fK{f:Fm}(h:FmB f):(fS f).length≤128:=mK (yP h) (Dc h)
theorem JT{pl:List Fm}(h:PlB pl):∀x∈ltS t::pl.map fS,x.length≤128:=λ x hx=>by
 rcases List.mem_cons.mp hx with rfl | hx
 . unfold ltS;rw[jw];show 1≤128;decide
 . obtain⟨f,hf,rfl⟩:=List.mem_map.mp hx
   exact fK (h.2 f hf)
theorem Od{pl:List Fm}(h:PlB pl):(ltS t::pl.map fS).length≤3:=by
 rw[List.length_cons,x5];have:=h.1;omega
theorem yR{pl:List Fm}(h:PlB pl):(cS t pl).length≤387:=mK (JT h) (Od h)
def LnB:Ln->Prop
 | .nest=>True
 | .loop l=>LpB l
 | .deed x=>DdB x
 | .rd r=>RdB r
theorem le4{a c d:Str}{B:Nat}(ha:a.length≤B)(hb:b.length≤B)(hc:c.length≤B)(hd:d.length≤B):∀x∈[a,b,c,d],x.length≤B:=λ x hx=>by
 simp only[List.mem_cons,List.not_mem_nil,or_false]at hx
 rcases hx with rfl | rfl | rfl | rfl<;>assumption
theorem CK{l:Ln}(h:LnB l):(∀x∈l.w,x.length≤387)/\l.w.length≤4:=by
 cases l with
 | nest=>exact⟨λ x hx=>by rw[List.mem_singleton.mp hx];decide+kernel,by decide⟩
 | loop l=>exact⟨le4 (by decide+kernel) (Nat.le_trans (fK h.1) (by decide)) (by decide+kernel) (Nat.le_trans (fK h.2) (by decide)),x8 _⟩
 | deed x=>exact⟨le4 (by decide+kernel) (yR h.2.1) (by decide+kernel) (Nat.le_trans (fK h.2.2.1) (by decide)),x8 _⟩
 | rd r=>exact⟨le4 (by decide+kernel) (Nat.le_trans (qG h.1) (by decide)) (by decide+kernel) (yR h.2.2),x8 _⟩
theorem R0{l:Ln}(h:LnB l):(liS l.w).length≤1552:=mK (CK h).1 (CK h).2
theorem Pz{x:Dd}(h:DdB x):∀l∈bD x,LnB l:=λ l hl=>by
 rcases List.mem_cons.mp hl with rfl | hl
 . exact h
 . obtain⟨r,hr,rfl⟩:=List.mem_map.mp hl
   exact h.2.2.2.2 r hr
theorem R9{n:Ns}(h:NsB n):∀l∈aH n,LnB l:=λ l hl=>by
 rcases List.mem_cons.mp hl with rfl | hl
 . trivial
 . rcases List.mem_append.mp hl with hl | hl
   . obtain⟨r,hr,rfl⟩:=List.mem_map.mp hl
     exact h.2.1 r hr
   . obtain⟨x,hx,hl⟩:=List.mem_flatMap.mp hl
     exact Pz (h.2.2.2 x hx) l hl
theorem Ua{nss:List Ns}(h:∀n∈nss,NsB n):∀l∈lns nss,LnB l:=λ l hl=>by
 obtain⟨x,hx,hl⟩:=List.mem_flatMap.mp hl
 exact R9 (h x hx) l hl
theorem iU{α β:Type}{f:α->List β}{B:Nat}:∀{l:List α},(∀a∈l,(f a).length≤B)->(l.flatMap f).length≤l.length*B
 | [],_=>by simp
 | a::l,h=>by
   have h1:=h a v3
   have h2:=iU (f:=f) (l:=l) λ b hb=>h b (x9 _ hb)
   rw[List.flatMap_cons,List.length_append,List.length_cons,Nat.succ_mul];omega
theorem RL{x:Dd}(h:DdB x):(bD x).length≤4:=by unfold bD;rw[List.length_cons,x5];have:=h.2.2.2.1;omega
theorem QH{n:Ns}(h:NsB n):(aH n).length≤20:=by
 have h1:=iU (f:=bD) (l:=n.dds) (B:=4) λ x hx=>RL (h.2.2.2 x hx)
 have h2:=h.1
 have h3:=h.2.2.1
 unfold aH
 rw[List.length_cons,List.length_append,x5]
 omega
theorem K7{nss:List Ns}(h:∀n∈nss,NsB n):(lns nss).length≤nss.length*20:=iU λ x hx=>QH (h x hx)
theorem dN{n b:Int}(h1: -b<n)(h2:n<b)(hb:b≤1000000000000000000000000000000):j0 n:=by unfold j0;omega
theorem tpB{pl:List Fm}(hws:WsA ws)(hd:d≤3)(h:TpV ws d t pl):t<3/\PlB pl:=by
 obtain⟨w,hw,hl,hf⟩:=h
 have ht:=(z0.mp hw).1
 have:=hws.2.1
 have:=(hws.2.2 w (y8 hw)).2
 refine⟨by omega,by omega,λ f hf'=>?_⟩
 obtain⟨a,b,c⟩:=hf f hf'
 refine⟨by omega,λ n hn=>?_⟩
 rcases List.mem_cons.mp hn with rfl | hn
 . exact dN (b:=100) (by omega) (by omega) (by decide)
 . have:=c n hn;exact dN (b:=100) (by omega) (by omega) (by decide)
theorem PgV.bq{p:Pg}(h:PgV p):PgB p:=by
 obtain⟨hws,n1,n3,hn,_⟩:=h
 refine⟨⟨hws.2.1,λ w hw=>?_⟩,n3,λ n hn'=>?_⟩
 . have:=hws.2.2 w hw;exact dN (b:=3) (by omega) (by omega) (by decide)
 . obtain⟨hL,d1,d4,hd⟩:=hn n hn'
   refine⟨hL.2.1,λ l hl=>?_,d4,λ x hx=>?_⟩
   . obtain⟨i,hi⟩:=List.getElem?_of_mem hl
     have hlt:=(z0.mp hi).1
     have l3:=hL.2.1
     have go:∀{f:Fm},BdF f i->FmB f:=λ{f} h=>by
      obtain⟨a,b,c,d⟩:=h
      refine⟨by omega,λ n hn=>?_⟩
      rcases List.mem_cons.mp hn with rfl | hn
      . exact dN (b:=10) (by omega) (by omega) (by decide)
      . have:=d n hn;exact dN (b:=3) (by omega) (by omega) (by decide)
     exact⟨go (hL.2.2 i l hi).1,go (hL.2.2 i l hi).2⟩
   . obtain⟨h1,h2,h3,h4⟩:=hd x hx
     have l3:=hL.2.1
     refine⟨(tpB hws l3 h1).1,(tpB hws l3 h1).2,⟨by rw[h2.1];exact l3,λ n hn=>?_⟩,h3,λ r hr=>?_⟩
     . rcases List.mem_cons.mp hn with rfl | hn
       . exact dN h2.2.1.1 h2.2.1.2 (by decide)
       . have:=h2.2.2 n hn;exact dN this.1 this.2 (by decide)
     . obtain⟨a,c⟩:=h4 r hr
       exact⟨dN a.1 a.2 (by decide),(tpB hws l3 c).1,(tpB hws l3 c).2⟩
theorem li4(a b c d:Str):(liS [a,b,c,d]).cps.toList=a.cps.toList++32::(b.cps.toList++32::(c.cps.toList++32::d.cps.toList)):=by
 unfold liS
 rw[s32,jK];rfl
theorem Pb(c:Nat):inT ⟨#[c]⟩ "0123456789"=dgB c:=by
 show(!(Builtin.Str.occurrences (Str.ofString "0123456789") ⟨#[c]⟩ 0 (Str.ofString "0123456789").length 1).isEmpty)=_
 rw[StrLaws.found_one]
 have e:(Str.ofString "0123456789").cps.toList=[48,49,50,51,52,53,54,55,56,57]:=by decide+kernel
 rw[e]
 unfold dgB
 by_cases h:48≤c/\c≤57
 . rw[decide_eq_true h.1,decide_eq_true h.2]
   exact decide_eq_true (by simp only[List.mem_cons,List.not_mem_nil,or_false];omega)
 . have e2:(decide (48≤c)&&decide (c≤57))=false:=by
    rw[Bool.and_eq_false_iff]
    by_cases h1:48≤c
    . exact .inr (decide_eq_false (by omega))
    . exact .inl (decide_eq_false h1)
   rw[e2]
   exact decide_eq_false (by simp only[List.mem_cons,List.not_mem_nil,or_false];omega)
theorem yV(a b:List Nat):(mkS a==mkS b)=(a==b):=by
 by_cases h:a=b
 . subst h;simp
 . rw[beq_eq_false_iff_ne.mpr h,beq_eq_false_iff_ne.mpr λ e=>h (by rw[←aU a,e,aU])]
theorem s48:Str.ofString "0"=mkS [48]:=by decide+kernel
def SQ:Ct:=λ ds S W=>∃x:Str,ds=[.str x]/\x.length≤100000/\W (.str (mkS (woS x.cps.toList))) S
theorem nO(F:Fun Ω.K "without_sign" "without_sign" dm f fd)(N0:Ω.cd=none):Ok Ω 1 f fd oF SQ:=by
 refine aG N0 (N:=oU) F (pg) (by kernel_rfl!) ?_
 rintro ds S W ⟨x,rfl,hz,hw⟩ hl
 walk_at "b"
 refine⟨_,rfl,?_⟩
 rw[s45,Mh]
 unfold woS at hw
 by_cases h:x.cps.toList.head? =some 45
 . rw[if_pos h]at hw
   rw[decide_eq_true h]
   walk_at "b"
   refine⟨_,rfl,by omega,?_⟩
   rw[Dr x (by
    rw[bJ]
    cases e:x.cps.toList with
    | nil=>rw[e]at h;cases h
    | cons a l=>simp)]
   exact hw
 . rw[if_neg h,gD]at hw
   rw[decide_eq_false h]
   walk_at "b"
   exact hw
def CG:Ct:=λ ds S W=>∃x:Str,ds=[.str x]/\x.length≤100000/\W (.bl (iV x.cps.toList)) S
theorem PT(l:List Nat):(woS l).length≤l.length:=by
 unfold woS
 split
 . rw[List.length_drop];omega
 . exact x8 _
theorem tY(F:Fun Ω.K "is_number" "is_number" fZ f fd)(N0:Ω.cd=none)(B:Bi Ω.mg Ω.K)(Cq45:Cal Ω "without_sign" 1 1 SQ):Ok Ω 2 f fd v4 CG:=by
 refine aG N0 (N:=wu) F (vD B Cq45) (by kernel_rfl!) ?_
 rintro ds S W ⟨x,rfl,hz,hw⟩ hl
 have hlen:=PT x.cps.toList
 rw[←bJ]at hlen
 unfold iV at hw
 walk_at "b"
 refine⟨rfl,x,rfl,hz,?_⟩
 generalize hg:woS x.cps.toList=g at*
 have hx1:(x==Str.ofString "0")=(x.cps.toList==[48]):=by rw[s48,←yV,gD]
 walk_at "b"
 refine cL ?_
 rw[s00,yV]
 cases g with
 | nil=>
   walk_at "b"
   exact hw
 | cons c r=>
   have e0:((c::r)==([]:List Nat))=false:=by simp
   rw[e0]
   walk_at "b"
   refine zc (xs:=(mkS (c::r)).cps.toList) (enc:=λ c=>D.str ⟨#[c]⟩) (λ c=>.bl (dgB c)) (by rw[aU];omega) ?_ ?_
   . intro i a ha Q hq
     walk_at "b"
     refine⟨_,_,rfl,rfl,?_⟩
     rw[Pb];exact hq
   rw[aU]
   refine⟨(c::r).map dgB,by rw[List.map_map];rfl,?_⟩
   have e1:((c::r).map dgB).all id=(c::r).all dgB:=by rw[List.all_map];rfl
   rw[e1]
   cases ha:(c::r).all dgB with
   | false=>
     rw[ha]at hw
     walk_at "b"
     exact hw
   | true=>
     rw[ha]at hw
     walk_at "b"
     refine⟨_,_,c,rfl,rfl,by rw[jw];omega,by rw[aU];exact au (j:=0) rfl,?_⟩
     refine Dy ?_
     have e2:((⟨#[c]⟩:Str)==Str.ofString "0")=(some c==some 48):=by
      rw[s48,show(⟨#[c]⟩:Str)=mkS [c]from rfl,yV]
      by_cases h:c=48
      . subst h;rfl
      . rw[beq_eq_false_iff_ne.mpr (by simpa using h),beq_eq_false_iff_ne.mpr (by simpa using h)]
     rw[e2]
     rw[List.head?_cons]at hw
     cases hc:(some c==some 48)with
     | false=>
       rw[hc]at hw
       walk_at "b"
       exact hw
     | true=>
       rw[hc]at hw
       walk_at "b"
       refine cL ?_
       rw[hx1]
       exact hw
theorem Gr{c s:Nat}:∀{xs:List (List Nat)},c∈jn s xs->c=s∨∃x∈xs,c∈x
 | [],h=>by cases h
 | [x],h=>.inr ⟨x,v3,h⟩
 | x ::y::r,h=>by
   rcases List.mem_append.mp h with h | h
   . exact .inr ⟨x,v3,h⟩
   . rcases List.mem_cons.mp h with h | h
     . exact .inl h
     . rcases Gr h with h | ⟨z,hz,h⟩
       . exact .inl h
       . exact .inr ⟨z,x9 _ hz,h⟩
theorem mem_join{s:Nat}{xs:List Str}(h:c∈(Txt.join (mkS [s]) xs).cps.toList):c=s∨∃x∈xs,c∈x.cps.toList:=by
 rw[jK]at h
 rcases Gr h with h | ⟨x,hx,h⟩
 . exact .inl h
 . obtain⟨y,hy,rfl⟩:=List.mem_map.mp hx
   exact .inr ⟨y,hy,h⟩
def sgN(c:Nat):Prop:=c=45∨(48≤c/\c≤57)
theorem DN{n:Int}(h:c∈(nS n).cps.toList):sgN c:=by rw[dJ]at h;exact Ou n c h
theorem Dz{f:Fm}(h:c∈(fS f).cps.toList):c=44∨sgN c:=by
 unfold fS at h
 rw[s44]at h
 rcases mem_join h with h | ⟨x,hx,h⟩
 . exact .inl h
 . obtain⟨n,_,rfl⟩:=List.mem_map.mp hx
   exact .inr (DN h)
theorem Ut{pl:List Fm}(h:c∈(cS t pl).cps.toList):c=64∨c=97+t∨c=44∨sgN c:=by
 unfold cS at h
 rw[s64]at h
 rcases mem_join h with h | ⟨x,hx,h⟩
 . exact .inl h
 . rcases List.mem_cons.mp hx with rfl | hx
   . unfold ltS at h
     rw[aU]at h
     exact .inr (.inl (by simpa using h))
   . obtain⟨n,_,rfl⟩:=List.mem_map.mp hx
     exact .inr (.inr (Dz h))
theorem Do(f:Fm):Txt.split (fS f) ","=(f.1::f.2).map nS:=by
 unfold fS
 rw[s44]
 refine gw (by simp) λ x hx h=>?_
 obtain⟨n,_,rfl⟩:=List.mem_map.mp hx
 have:=DN h
 unfold sgN at this;omega
theorem Fv(t:Nat)(pl:List Fm)(ht:t<3):Txt.split (cS t pl) "@"=ltS t::pl.map fS:=by
 unfold cS
 rw[s64]
 refine gw (by simp) λ x hx h=>?_
 rcases List.mem_cons.mp hx with rfl | hx
 . unfold ltS at h
   rw[aU]at h
   have:64=97+t:=by simpa using h
   omega
 . obtain⟨n,_,rfl⟩:=List.mem_map.mp hx
   have:=Dz h
   unfold sgN at this;omega
theorem Bv{l:Ln}(hl:LnB l){x:Str}(hx:x∈l.w){c:Nat}(h:c∈x.cps.toList):33≤c:=by
 have lit:∀{s:String},((Str.ofString s).cps.toList.all λ c=>decide (33≤c))=true->x=Str.ofString s->33≤c:=λ{s} e ex=>by
  subst ex
  exact of_decide_eq_true (List.all_eq_true.mp e c h)
 have fo:∀{f:Fm},x=fS f->33≤c:=λ{f} ex=>by
  subst ex
  have:=Dz h
  unfold sgN at this;omega
 have ce:∀{t:Nat}{pl:List Fm},x=cS t pl->33≤c:=λ{t pl} ex=>by
  subst ex
  have:=Ut h
  unfold sgN at this;omega
 cases l with
 | nest=>exact lit (s:="nest") (by decide+kernel) (List.mem_singleton.mp hx)
 | loop l=>
   simp only[Ln.w,List.mem_cons,List.not_mem_nil,or_false]at hx
   rcases hx with e | e | e | e
   . exact lit (by decide+kernel) e
   . exact fo e
   . exact lit (by decide+kernel) e
   . exact fo e
 | deed y=>
   simp only[Ln.w,List.mem_cons,List.not_mem_nil,or_false]at hx
   rcases hx with e | e | e | e
   . exact lit (by decide+kernel) e
   . exact ce e
   . exact lit (by decide+kernel) e
   . exact fo e
 | rd r=>
   simp only[Ln.w,List.mem_cons,List.not_mem_nil,or_false]at hx
   rcases hx with e | e | e | e
   . exact lit (by decide+kernel) e
   . subst e
     have:=DN h
     unfold sgN at this;omega
   . exact lit (by decide+kernel) e
   . exact ce e
theorem VD(l:Ln):l.w≠[]:=by cases l<;>simp[Ln.w]
theorem rD{l:Ln}(hl:LnB l):Txt.split (liS l.w) " "=l.w:=by
 unfold liS
 rw[s32]
 refine gw (VD l) λ x hx h=>?_
 have:=Bv hl hx h
 omega
def Rs{α:Type}(o:Option α)(enc:α->D)(S:Store)(W:WD)(WE:WX):Prop:=match o with
 | some a=>W (enc a) S
 | none=>WE "NoText" S
def trs{α β:Type}(f:α->Option β):List α->Option (List β)
 | []=>some []
 | a ::l=>match f a with
   | none=>none
   | some b=>match trs f l with
     | none=>none
     | some r=>some (b::r)
def opD{β:Type}(enc:β->D):Option β->D
 | some b=>enc b
 | none=>.non
theorem GX{α β:Type}{f:α->Option β}(enc:β->D):∀{xs:List α},(xs.all λ x=>(f x).isSome)=true->∃r,trs f xs=some r/\(xs.map λ x=>opD enc (f x))=r.map enc
 | [],_=>⟨[],rfl,rfl⟩
 | x::xs,h=>by
   rw[List.all_cons,Bool.and_eq_true]at h
   obtain⟨r,h1,h2⟩:=GX enc h.2
   obtain⟨b,hb⟩:=Option.isSome_iff_exists.mp h.1
   refine⟨b::r,?_,?_⟩
   . unfold trs;rw[hb,h1]
   . rw[List.map_cons,List.map_cons,h2,hb];rfl
theorem Hs{α β:Type}{f:α->Option β}:∀{xs:List α},(xs.all λ x=>(f x).isSome)=false->trs f xs=none
 | [],h=>by cases h
 | x ::xs,h=>by
   rw[List.all_cons,Bool.and_eq_false_iff]at h
   unfold trs
   cases e:f x with
   | none=>rfl
   | some b=>
     rcases h with h | h
     . rw[e]at h;cases h
     . rw[Hs h]
theorem By{α β:Type}{f:α->Option β}{g:β->α}:∀{xs:List β},(∀x∈xs,f (g x)=some x)->trs f (xs.map g)=some xs
 | [],_=>rfl
 | x::xs,h=>by
   rw[List.map_cons]
   unfold trs
   rw[h x v3,By λ y hy=>h y (x9 _ hy)]
theorem zz{Ω:Wd}{cap:List (Option Nat)}{Γ:Gam}{elt:XEx Ω}{tg:Tg}{WE:WX}{S1:Store}{α β:Type}{xs:List α}{e0:α->D}(f:α->Option β)(enc:β->D)(hz:xs.length≤1000000)
 (h:∀(x:α),x∈xs->∀(Q:WD)(QE:WX),Rs (f x) enc S1 Q QE->tg.wp (e0 x) (capt cap Γ) λ Γ2=>elt.wp Γ2 S1 Q QE)
 (w:Rs (trs f xs) (λ r=>.lst (r.map enc)) S1 W WE):XE.CompX cap Γ elt tg W WE (xs.map e0) S1:=by
 refine XE.cmx_enc (λ x=>opD enc (f x)) (λ x=>(f x).isSome) "NoText" hz ?_ ?_ ?_
 . intro i x hx Q QE q1 q2
   refine h x (y8 hx) Q QE ?_
   cases e:f x with
   | none=>rw[e]at q2;exact q2 rfl
   | some b=>rw[e]at q1;exact q1 rfl
 . intro ha
   obtain⟨r,h1,h2⟩:=GX (f:=f) enc ha
   rw[h1]at w
   rw[h2];exact w
 . intro ha
   rw[Hs ha]at w
   exact w
theorem rH{c:Nat}:∀{xs:List (List Nat)}{x:List Nat},x∈xs->x.length≤(jn c xs).length
 | [y],x,h=>by rw[List.mem_singleton.mp h];exact x8 _
 | y::z::r,x,h=>by
   have e:jn c (y::z::r)=y++c::jn c (z::r):=rfl
   rw[e,List.length_append,List.length_cons]
   rcases List.mem_cons.mp h with rfl | h
   . omega
   . have:=rH (c:=c) h;omega
theorem Dl{c:Nat}:∀(xs:List (List Nat)),xs.length≤(jn c xs).length+1
 | []=>Nat.zero_le _
 | [y]=>by simp
 | y::z::r=>by
   have e:jn c (y::z::r)=y++c::jn c (z::r):=rfl
   have:=Dl (c:=c) (z::r)
   simp only[e,List.length_append,List.length_cons]at this ⊢
   omega
theorem De(x:Str)(c:Nat):jn c ((Txt.split x (mkS [c])).map λ y=>y.cps.toList)=x.cps.toList:=by
 rw[←jK]
 show(Builtin.Str.glued _ _).cps.toList=_
 rw[StrLaws.glued_eq_join,StrLaws.join_split]
theorem qT{x y:Str}(h:y∈Txt.split x (mkS [c])):y.length≤x.length:=by
 have:=rH (c:=c) (List.mem_map_of_mem (f:=λ y:Str=>y.cps.toList) h)
 rw[De]at this
 rw[bJ,bJ];exact this
theorem m8(x:Str)(c:Nat):(Txt.split x (mkS [c])).length≤x.length+1:=by
 have:=Dl (c:=c) ((Txt.split x (mkS [c])).map λ y=>y.cps.toList)
 rw[De,x5]at this
 rw[bJ x];exact this
theorem sW(x:Str)(c:Nat):∃a l,Txt.split x (mkS [c])=a::l:=by
 cases e:Txt.split x (mkS [c])with
 | nil=>
   have:=PyProof.Rows.split_pos x (mkS [c])
   rw[e]at this
   simp at this
 | cons a l=>exact⟨a,l,rfl⟩
theorem DW(x:Str)(k:Nat):Txt.slice x none (some (k:Int))=mkS (x.cps.toList.take k):=by
 by_cases h:x.length≤k
 . rw[KR x h,List.take_of_length_le (by rw[←bJ];exact h),gD]
 . have h:k≤x.length:=by omega
   have hs:Builtin.Str.strSliceIndices none (some (k:Int)) 1 x.length=Builtin.Str.strSliceIndices (some ((0:Nat):Int)) (some ((k:Nat):Int)) 1 x.length:=by
    have h1:¬((k:Int)<0):=by omega
    have e4:max (0:Int) (min 0 (x.length:Int))=0:=by omega
    simp[Builtin.Str.strSliceIndices,sliceRange,h1,e4]
   unfold Txt.slice
   rw[hs,StrLaws.sliced_plain x (Nat.zero_le _) h,StrLaws.strSliceIndices_plain (Nat.zero_le _) h]
   by_cases hk:k=x.length
   . omega
   . have:((List.range (k-0)).map λ j=>0+j).length≠x.length:=by simp;omega
     rw[if_neg (by simpa using this)]
     show mkS _=mkS _
     congr 1
def nR(x:Str):Option Int:=if iV x.cps.toList then intText? (mkS (x.cps.toList.take 99))else none
theorem Hl{l:List Nat}(h:iV l=true):∃n,intText? (mkS (l.take 99))=some n:=by
 unfold iV at h
 rw[Bool.and_eq_true,Bool.and_eq_true]at h
 obtain⟨h1,h2,_⟩:=h
 have dig:∀c∈woS l,48≤c/\c≤57:=λ c hc=>by
  have:=List.all_eq_true.mp h2 c hc
  unfold dgB at this
  rw[Bool.and_eq_true]at this
  exact⟨of_decide_eq_true this.1,of_decide_eq_true this.2⟩
 have hl:(mkS (l.take 99)).length≤4300:=by rw[jw,List.length_take];omega
 cases l with
 | nil=>cases h1
 | cons a r=>
   by_cases ha:a=45
   . subst ha
     have e:woS (45::r)=r:=rfl
     rw[e]at dig h1
     refine⟨_,intText_neg (cs:=r.take 98) (by rw[aU];rfl) (λ c hc=>dig c (List.mem_of_mem_take hc)) ?_ hl⟩
     cases r with
     | nil=>cases h1
     | cons b s=>simp
   . have e:woS (a::r)=a::r:=by
      unfold woS
      rw[if_neg]
      simpa using ha
     rw[e]at dig
     refine⟨_,intText_digits (by rw[aU];exact λ c hc=>dig c (List.mem_of_mem_take hc)) (by rw[aU];simp) hl⟩
theorem K9{n:Int}(h:j0 n):nR (nS n)=some n:=by
 have h1:=qG h
 have h2:=bJ (nS n)
 unfold nR
 rw[dJ,Jb,if_pos rfl,←dJ,List.take_of_length_le (by omega),gD]
 exact Jz (by rw[←dJ,←bJ];omega)
def DX:XCt:=λ ds S W WE=>∃x:Str,ds=[.str x]/\x.length≤100000/\Rs (nR x) D.int S W WE
theorem nZ(F:Fun Ω.K "number_read" "number_read" d7 f fd)(N0:Ω.cd=none)(B:Bi Ω.mg Ω.K)(E:ExF Ω.mg Ω.K XL XT)(Cq25:Cal Ω "is_number" 2 1 CG):OkX Ω 3 f fd qb DX:=by
 refine di N0 (N:=qK) F (qi B E Cq25) (by kernel_rfl!) ?_
 rintro ds S W WE ⟨x,rfl,hz,hw⟩ hl
 unfold nR at hw
 walk_at "b"
 refine⟨rfl,_,rfl,hz,?_⟩
 cases h:iV x.cps.toList with
 | false=>
   rw[h]at hw
   walk_at "b"
   exact hw
 | true=>
   obtain⟨n,hn⟩:=Hl h
   rw[h,if_pos rfl,hn]at hw
   walk_at "b"
   refine⟨_,rfl,by omega,?_⟩
   rw[show(99:Int)=((99:Nat):Int)from rfl,DW]
   exact⟨n,hn,by rw[jw,List.length_take];omega,hw⟩
def dFq(f:List Int):D:=.tup (f.map D.int)
def dPq(pl:List (List Int)):D:=.tup (pl.map dFq)
def fR(x:Str):Option (List Int):=trs nR (Txt.split x ",")
def Eo:XCt:=λ ds S W WE=>∃x:Str,ds=[.str x]/\x.length≤100000/\Rs (fR x) dFq S W WE
theorem uN(F:Fun Ω.K "form_read" "form_read" fW f fd)(N0:Ω.cd=none)(B:Bi Ω.mg Ω.K)(E:ExF Ω.mg Ω.K XL XT)(Cq37:az Ω "number_read" 3 1 DX):OkX Ω 4 f fd wN Eo:=by
 refine di N0 (N:=wy) F (v6 B E Cq37) (by kernel_rfl!) ?_
 rintro ds S W WE ⟨x,rfl,hz,hw⟩ hl
 unfold fR at hw
 rw[s44]at hw
 have h1:=m8 x 44
 walk_at "b"
 refine⟨_,rfl,by decide+kernel,by omega,.inl ?_⟩
 rw[s44]
 refine zz nR D.int (by omega) ?_ ?_
 . intro y hy Q QE hq
   have:=qT hy
   walk_at "b"
   exact⟨rfl,y,rfl,by omega,hq⟩
 . cases e:trs nR (Txt.split x (mkS [44]))with
   | none=>rw[e]at hw;exact hw
   | some r=>rw[e]at hw;exact hw
def ltQ(h:Str):Option Nat:=if h=="a" then some 0 else if h=="b" then some 1 else if h=="c" then some 2 else none
theorem QW(e:ltQ h=none):lt3.contains h=false:=by
 unfold ltQ at e
 split at e
 . cases e
 . rename_i h1
   split at e
   . cases e
   . rename_i h2
     split at e
     . cases e
     . rename_i h3
       show((h==_)||((h==_)||((h==_)||false)))=false
       rw[Bool.eq_false_iff.mpr h1,Bool.eq_false_iff.mpr h2,Bool.eq_false_iff.mpr h3];rfl
theorem Rv(e:ltQ h=some t):t<3/\h=ltS t:=by
 unfold ltQ at e
 split at e
 . rename_i h1
   cases e
   exact⟨by decide,by rw[eq_of_beq h1];decide+kernel⟩
 . split at e
   . rename_i h1
     cases e
     exact⟨by decide,by rw[eq_of_beq h1];decide+kernel⟩
   . split at e
     . rename_i h1
       cases e
       exact⟨by decide,by rw[eq_of_beq h1];decide+kernel⟩
     . cases e
theorem PB:∀{t:Nat},t<3->lt3.contains (ltS t)=true
 | 0,_=>by decide+kernel
 | 1,_=>by decide+kernel
 | 2,_=>by decide+kernel
 | _+3,h=>absurd h (by omega)
theorem Ib:∀{t:Nat},t<3->lt3[t]? =some (ltS t)/\∀m,m<t->lt3[m]?≠some (ltS t)
 | 0,_=>⟨by decide+kernel,λ m h=>absurd h (by omega)⟩
 | 1,_=>⟨by decide+kernel,λ m h=>by
   have:m=0:=by omega
   subst this;decide+kernel⟩
 | 2,_=>⟨by decide+kernel,λ m h=>by
   have:m=0∨m=1:=by omega
   rcases this with rfl | rfl<;>decide+kernel⟩
 | _+3,h=>absurd h (by omega)
def cR(x:Str):Option (Nat×List (List Int)):=match Txt.split x "@" with
 | []=>none
 | h ::t=>match ltQ h with
   | none=>none
   | some i=>match trs fR t with
     | none=>none
     | some pl=>some (i,pl)
def dCq(c:Nat×List (List Int)):D:=.tup [.int c.1,dPq c.2]
def Km:XCt:=λ ds S W WE=>∃x:Str,ds=[.str x]/\x.length≤100000/\Rs (cR x) dCq S W WE
theorem ur(F:Fun Ω.K "cell_read" "cell_read" fO f fd)(N0:Ω.cd=none)(B:Bi Ω.mg Ω.K)(E:ExF Ω.mg Ω.K XL XT)(Cq16:az Ω "form_read" 4 1 Eo):OkX Ω 5 f fd vJ Km:=by
 refine di N0 (N:=vV) F (wB B E Cq16) (by kernel_rfl!) ?_
 rintro ds S W WE ⟨x,rfl,hz,hw⟩ hl
 have h1:=m8 x 64
 have h2:=λ y (h:y∈Txt.split x (mkS [64]))=>qT h
 obtain⟨h,t,e⟩:=sW x 64
 unfold cR at hw
 rw[s64,e]at hw
 dsimp only at hw
 rw[e]at h1 h2
 rw[List.length_cons]at h1
 walk_at "b"
 refine⟨_,rfl,by decide+kernel,by omega,.inl ?_⟩
 rw[s64,e,List.map_cons]
 walk_at "b"
 refine⟨_,au (j:=0) rfl,_,rfl,?_⟩
 cases e2:ltQ h with
 | none=>
   rw[e2]at hw
   rw[show List.contains [Str.ofString "a",Str.ofString "b",Str.ofString "c"] h=false from QW e2]
   walk_at "b"
   exact hw
 | some i=>
   rw[e2]at hw
   obtain⟨ht,rfl⟩:=Rv e2
   rw[show List.contains [Str.ofString "a",Str.ofString "b",Str.ofString "c"] (ltS i)=true from PB ht]
   walk_at "b"
   refine⟨_,au (j:=0) rfl,_,i,rfl,(Ib ht).1,(Ib ht).2,?_⟩
   walk_at "b"
   rw[List.map_cons,gR]
   refine zz fR dFq (by omega) ?_ ?_
   . intro y hy Q QE hq
     have:=h2 y (x9 _ hy)
     walk_at "b"
     exact⟨rfl,y,rfl,by omega,hq⟩
   . cases e3:trs fR t with
     | none=>rw[e3]at hw;exact hw
     | some r=>
       rw[e3]at hw
       walk_at "b"
       exact hw
abbrev dW(ws:List Str):D:=.lst (ws.map D.str)
def WL(ws:List Str):Prop:=∀w∈ws,w.length≤100000
def four(c:Str):List Str->Option (Str×Str)
 | [_,b,c',d]=>if c'==c then some (b,d)else none
 | _=>none
def wW:XCt:=λ ds S W WE=>∃(ws:List Str) (c:Str),ds=[dW ws,.str c]/\ws.length≤1000000/\Rs (four c ws) (λ _=>.non) S W WE
theorem iH(F:Fun Ω.K "refuse_other_words" "refuse_other_words" bO f fd)(N0:Ω.cd=none)(B:Bi Ω.mg Ω.K)(E:ExF Ω.mg Ω.K XL XT):OkX Ω 1 f fd jf wW:=by
 refine di N0 (N:=jj) F (jq B E) (by kernel_rfl!) ?_
 rintro ds S W WE ⟨ws,c,rfl,hz,hw⟩ hl
 have no:ws.length≠4->WE "NoText" S:=λ h=>by
  match ws,h with
  | [],_=>exact hw
  | [_],_=>exact hw
  | [_,_],_=>exact hw
  | [_,_,_],_=>exact hw
  | [_,_,_,_],h=>exact absurd rfl h
  | _::_::_::_::_::_,_=>exact hw
 by_cases h4:ws.length=4
 . match ws,h4 with
   | [a,b,c',d],_=>
     walk_at "b"
     refine Dy ?_
     have hw:Rs (if(c'==c)=true then some (b,d)else none) (λ _=>.non) S W WE:=hw
     cases e:c'==c with
     | false=>
       rw[e]at hw
       walk_at "b"
       exact hw
     | true=>
       rw[e]at hw
       walk_at "b"
       exact hw
 . walk_at "b"
   rw[x5,show(!decide ((ws.length:Int)=4))=true by simp;omega]
   walk_at "b"
   exact no h4
abbrev Lq:=List Int×List Int
abbrev Cq:=Nat×List (List Int)
abbrev Rq:=Int×Cq
structure Dq where
 c:Cq
 st:List Int
 rds:List Rq
def dLq(l:Lq):D:=.tup [dFq l.1,dFq l.2]
def dRq(r:Rq):D:=.tup [.int r.1,.int r.2.1,dPq r.2.2]
def dDq(x:Dq):D:=.tup [.int x.c.1,dPq x.c.2,dFq x.st,.tup (x.rds.map dRq)]
def dO(ws:List Str):Option Lq:=match four "to" ws with
 | none=>none
 | some p=>match fR p.1 with
   | none=>none
   | some a=>match fR p.2 with
     | none=>none
     | some b=>some (a,b)
def cO(ws:List Str):Option Dq:=match four "be" ws with
 | none=>none
 | some p=>match cR p.1 with
   | none=>none
   | some a=>match fR p.2 with
     | none=>none
     | some b=>some ⟨a,b,[]⟩
def gG(ws:List Str):Option Rq:=match four "of" ws with
 | none=>none
 | some p=>match nR p.1 with
   | none=>none
   | some a=>match cR p.2 with
     | none=>none
     | some b=>some (a,b)
theorem tZ{c d:Str}{ws:List Str}(h:four c ws=some (b,d)):∃a,ws=[a,b,c,d]:=by
 match ws,h with
 | [a,b',c',d'],h=>
   have h:(if(c'==c)=true then some (b',d')else none)=some (b,d):=h
   split at h
   . rename_i e
     obtain⟨rfl,rfl⟩:=Prod.mk.inj (Option.some.inj h)
     exact⟨a,by rw[eq_of_beq e]⟩
   . cases h
 | [],h=>cases h
 | [_],h=>cases h
 | [_,_],h=>cases h
 | [_,_,_],h=>cases h
 | _::_::_::_::_::_,h=>cases h
def Qk:XCt:=λ ds S W WE=>∃ws,ds=[dW ws]/\WL ws/\ws.length≤1000000/\Rs (dO ws) dLq S W WE
def PQ:XCt:=λ ds S W WE=>∃ws,ds=[dW ws]/\WL ws/\ws.length≤1000000/\Rs (cO ws) dDq S W WE
def addQ(x:Dq)(r:Rq):Dq:=⟨x.c,x.st,x.rds++[r]⟩
def RV:XCt:=λ ds S W WE=>∃x ws,ds=[dDq x,dW ws]/\WL ws/\ws.length≤1000000/\x.rds.length≤900000/\Rs (gG ws) (λ r=>dDq (addQ x r)) S W WE
theorem uA(F:Fun Ω.K "loop_read" "loop_read" fQ f fd)(N0:Ω.cd=none)(E:ExF Ω.mg Ω.K XL XT)(Cq16:az Ω "form_read" 4 1 Eo)(Cq40:az Ω "refuse_other_words" 1 2 wW):OkX Ω 5 f fd vz Qk:=by
 refine di N0 (N:=vQ) F (wJ E Cq16 Cq40) (by kernel_rfl!) ?_
 rintro ds S W WE ⟨ws,rfl,hb,hz,hw⟩ hl
 unfold dO at hw
 walk_at "b"
 refine⟨rfl,ws,_,rfl,hz,?_⟩
 cases e:four "to" ws with
 | none=>rw[e]at hw;exact hw
 | some p=>
   obtain⟨b,d⟩:=p
   rw[e]at hw
   obtain⟨a,rfl⟩:=tZ e
   walk_at "b"
   refine⟨rfl,b,rfl,hb b (by simp),?_⟩
   dsimp only at hw
   cases e1:fR b with
   | none=>rw[e1]at hw;exact hw
   | some u=>
     rw[e1]at hw
     walk_at "b"
     refine⟨rfl,d,rfl,hb d (by simp),?_⟩
     dsimp only at hw
     cases e2:fR d with
     | none=>rw[e2]at hw;exact hw
     | some v=>
       rw[e2]at hw
       walk_at "b"
       exact hw
theorem tG(F:Fun Ω.K "deed_read" "deed_read" fX f fd)(N0:Ω.cd=none)(E:ExF Ω.mg Ω.K XL XT)(Cq16:az Ω "form_read" 4 1 Eo)(Cq12:az Ω "cell_read" 5 1 Km)(Cq40:az Ω "refuse_other_words" 1 2 wW):OkX Ω 6 f fd vB PQ:=by
 refine di N0 (N:=vR) F (wH E Cq16 Cq12 Cq40) (by kernel_rfl!) ?_
 rintro ds S W WE ⟨ws,rfl,hb,hz,hw⟩ hl
 unfold cO at hw
 walk_at "b"
 refine⟨rfl,ws,_,rfl,hz,?_⟩
 cases e:four "be" ws with
 | none=>rw[e]at hw;exact hw
 | some p=>
   obtain⟨b,d⟩:=p
   rw[e]at hw
   obtain⟨a,rfl⟩:=tZ e
   walk_at "b"
   refine⟨rfl,b,rfl,hb b (by simp),?_⟩
   dsimp only at hw
   cases e1:cR b with
   | none=>rw[e1]at hw;exact hw
   | some u=>
     rw[e1]at hw
     walk_at "b"
     refine⟨rfl,d,rfl,hb d (by simp),?_⟩
     dsimp only at hw
     cases e2:fR d with
     | none=>rw[e2]at hw;exact hw
     | some v=>
       rw[e2]at hw
       walk_at "b"
       exact hw
theorem rP(F:Fun Ω.K "with_read" "with_read" fP f fd)(N0:Ω.cd=none)(E:ExF Ω.mg Ω.K XL XT)(Cq37:az Ω "number_read" 3 1 DX)(Cq12:az Ω "cell_read" 5 1 Km)(Cq40:az Ω "refuse_other_words" 1 2 wW):OkX Ω 6 f fd vA RV:=by
 refine di N0 (N:=vp) F (wj E Cq37 Cq12 Cq40) (by kernel_rfl!) ?_
 rintro ds S W WE ⟨x,ws,rfl,hb,hz,hx,hw⟩ hl
 unfold gG at hw
 walk_at "b"
 refine⟨rfl,ws,_,rfl,hz,?_⟩
 cases e:four "of" ws with
 | none=>rw[e]at hw;exact hw
 | some p=>
   obtain⟨b,d⟩:=p
   rw[e]at hw
   obtain⟨a,rfl⟩:=tZ e
   walk_at "b"
   refine⟨rfl,b,rfl,hb b (by simp),?_⟩
   dsimp only at hw
   cases e1:nR b with
   | none=>rw[e1]at hw;exact hw
   | some u=>
     rw[e1]at hw
     walk_at "b"
     refine⟨rfl,d,rfl,hb d (by simp),?_⟩
     dsimp only at hw
     cases e2:cR d with
     | none=>rw[e2]at hw;exact hw
     | some v=>
       rw[e2]at hw
       walk_at "b"
       rw[xu (by decide)]
       have e:dDq (addQ x (u,v))=.tup [.int x.c.1,dPq x.c.2,dFq x.st,.tup (x.rds.map dRq++[dRq (u,v)])]:=by
        show D.tup [_,_,_,.tup ((x.rds++[(u,v)]).map dRq)]=_
        rw[List.map_append];rfl
       have hw:W (dDq (addQ x (u,v))) S:=hw
       rw[e]at hw
       exact hw
abbrev Nq:=List Lq×List Dq
def dNq(n:Nq):D:=.tup [.tup (n.1.map dLq),.tup (n.2.reverse.map dDq)]
def lnQ(n:Nq):List Str->Option Nq
 | []=>none
 | w ::r=>if(w=="loop"&&n.2.isEmpty)=true then(match dO (w::r)with
     | none=>none
     | some l=>some (n.1++[l],n.2))
  else if(w=="set")=true then(match cO (w::r)with
   | none=>none
   | some d=>some (n.1,d::n.2))
  else if(w=="and")=true then(match n.2 with
   | []=>none
   | d::A=>match gG (w::r)with
     | none=>none
     | some q=>some (n.1,addQ d q::A))
  else none
def SzN(k:Nat)(n:Nq):Prop:=n.1.length≤k/\n.2.length≤k/\∀x∈n.2,x.rds.length≤k
def WsB(ws:List Str):Prop:=WL ws/\ws≠[]/\ws.length≤1000000
def LC:XCt:=λ ds S W WE=>∃n ws,ds=[dNq n,dW ws]/\WsB ws/\SzN 900000 n/\Rs (lnQ n ws) dNq S W WE
theorem Bw{α:Type}(A:List α)(x:α):atI (A++[x]) (-1)=some x:=by
 unfold atI
 have:L2.ixN (A++[x]).length (-1)=some A.length:=by
  unfold L2.ixN;simp;omega
 rw[this];simp
theorem JM(A:List D)(x:D):cutD (A++[x]) none (some (-1))=A:=by
 unfold cutD
 rw[HT.sIx_none]
 have e:HT.sIx (A++[x]).length (A++[x]).length (some (-1))=A.length:=by
  unfold HT.sIx
  simp
  omega
 rw[e,List.drop_zero,Nat.sub_zero,List.take_left']
 rfl
theorem uw (F:Fun Ω.K "with_line" "with_line" f9 f fd)(N0:Ω.cd=none)(E:ExF Ω.mg Ω.K XL XT)(Cq34:az Ω "loop_read" 5 1 Qk)(Cq15:az Ω "deed_read" 6 1 PQ)(Cq44:az Ω "with_read" 6 2 RV):OkX Ω 7 f fd vK LC:=by
 refine di N0 (N:=wK) F (wO E Cq34 Cq15 Cq44) (by kernel_rfl!) ?_
 rintro ds S W WE ⟨n,ws,rfl,⟨hb,h0,hz⟩,⟨z1,z2,z3⟩,hw⟩ hl
 obtain⟨L,E0⟩:=n
 dsimp only at z1 z2 z3
 cases ws with
 | nil=>exact absurd rfl h0
 | cons w r=>
 unfold lnQ at hw
 dsimp only at hw
 by_cases e1:w="loop"
 . subst e1
   cases E0 with
   | nil=>
     rw[beq_self_eq_true]at hw
     have hw:Rs (match dO ("loop"::r)with
      | none=>none
      | some l=>some (L++[l],([]:List Dq))) dNq S W WE:=hw
     walk_at "b"
     refine⟨_,au (j:=0) rfl,?_⟩
     refine cL ?_
     rw[beq_self_eq_true]
     walk_at "b"
     refine⟨_,rfl,by show 0≤1000000;decide,?_⟩
     walk_at "b"
     refine⟨rfl,_,rfl,hb,hz,?_⟩
     cases e:dO ("loop"::r)with
     | none=>rw[e]at hw;exact hw
     | some l=>
       rw[e]at hw
       walk_at "b"
       have hw:W (dNq (L++[l],[])) S:=hw
       rw[show L.map dLq++[dLq l]=(L++[l]).map dLq by rw[List.map_append];rfl]
       exact hw
   | cons d A=>
     rw[beq_self_eq_true,show(Str.ofString "loop"==Str.ofString "set")=false by decide+kernel,show(Str.ofString "loop"==Str.ofString "and")=false by decide+kernel]at hw
     have hw:WE "NoText" S:=hw
     have ed:(d::A).reverse.map dDq=A.reverse.map dDq++[dDq d]:=by rw[List.reverse_cons,List.map_append];rfl
     walk_at "b"
     refine⟨_,au (j:=0) rfl,?_⟩
     refine cL ?_
     rw[beq_self_eq_true]
     walk_at "b"
     refine⟨_,rfl,by rw[x5,List.length_reverse];exact Nat.le_trans z2 (by decide),?_⟩
     rw[ed,show(!(A.reverse.map dDq++[dDq d]).isEmpty)=true by simp]
     walk_at "b"
     refine⟨_,au (j:=0) rfl,?_⟩
     refine cL ?_
     rw[show(Str.ofString "loop"==Str.ofString "set")=false by decide+kernel]
     walk_at "b"
     refine⟨_,au (j:=0) rfl,?_⟩
     refine cL ?_
     rw[show(Str.ofString "loop"==Str.ofString "and")=false by decide+kernel]
     walk_at "b"
     exact hw
 . have b1 :(w==Str.ofString "loop")=false:=beq_eq_false_iff_ne.mpr e1
   rw[b1]at hw
   by_cases e2:w="set"
   . subst e2
     rw[beq_self_eq_true]at hw
     have hw:Rs (match cO ("set"::r)with
      | none=>none
      | some d=>some (L,d::E0)) dNq S W WE:=hw
     walk_at "b"
     refine⟨_,au (j:=0) rfl,?_⟩
     refine cL ?_
     rw[b1]
     walk_at "b"
     refine⟨_,au (j:=0) rfl,?_⟩
     refine cL ?_
     rw[beq_self_eq_true]
     walk_at "b"
     refine⟨rfl,_,rfl,hb,hz,?_⟩
     cases e:cO ("set"::r)with
     | none=>rw[e]at hw;exact hw
     | some d=>
       rw[e]at hw
       walk_at "b"
       have hw:W (dNq (L,d::E0)) S:=hw
       rw[show E0.reverse.map dDq++[dDq d]=(d::E0).reverse.map dDq by rw[List.reverse_cons,List.map_append];rfl]
       exact hw
   . have b2:(w==Str.ofString "set")=false:=beq_eq_false_iff_ne.mpr e2
     rw[b2]at hw
     by_cases e3:w="and"
     . subst e3
       rw[beq_self_eq_true]at hw
       cases E0 with
       | nil=>
         have hw:WE "NoText" S:=hw
         walk_at "b"
         refine⟨_,au (j:=0) rfl,?_⟩
         refine cL ?_
         rw[b1]
         walk_at "b"
         refine⟨_,au (j:=0) rfl,?_⟩
         refine cL ?_
         rw[b2]
         walk_at "b"
         refine⟨_,au (j:=0) rfl,?_⟩
         refine cL ?_
         rw[beq_self_eq_true]
         walk_at "b"
         refine⟨_,rfl,by show 0≤1000000;decide,?_⟩
         walk_at "b"
         exact hw
       | cons d A=>
         have ed:(d::A).reverse.map dDq=A.reverse.map dDq++[dDq d]:=by rw[List.reverse_cons,List.map_append];rfl
         rw[List.length_cons]at z2
         have hw:Rs (match gG ("and"::r)with
          | none=>none
          | some q=>some (L,addQ d q::A)) dNq S W WE:=hw
         walk_at "b"
         refine⟨_,au (j:=0) rfl,?_⟩
         refine cL ?_
         rw[b1]
         walk_at "b"
         refine⟨_,au (j:=0) rfl,?_⟩
         refine cL ?_
         rw[b2]
         walk_at "b"
         refine⟨_,au (j:=0) rfl,?_⟩
         refine cL ?_
         rw[beq_self_eq_true]
         walk_at "b"
         refine⟨_,rfl,by rw[x5,List.length_reverse,List.length_cons];omega,?_⟩
         rw[ed,show(!(A.reverse.map dDq++[dDq d]).isEmpty)=true by simp]
         walk_at "b"
         rw[JM]
         refine⟨_,Bw _ _,?_⟩
         refine⟨rfl,d,_,rfl,hb,hz,z3 d v3,?_⟩
         cases e:gG ("and"::r)with
         | none=>rw[e]at hw;exact hw
         | some q=>
           rw[e]at hw
           walk_at "b"
           have hw:W (dNq (L,addQ d q::A)) S:=hw
           rw[show A.reverse.map dDq++[dDq (addQ d q)]=(addQ d q::A).reverse.map dDq by rw[List.reverse_cons,List.map_append];rfl]
           exact hw
     . have b3:(w==Str.ofString "and")=false:=beq_eq_false_iff_ne.mpr e3
       rw[b3]at hw
       have hw:WE "NoText" S:=hw
       walk_at "b"
       refine⟨_,au (j:=0) rfl,?_⟩
       refine cL ?_
       rw[b1]
       walk_at "b"
       refine⟨_,au (j:=0) rfl,?_⟩
       refine cL ?_
       rw[b2]
       walk_at "b"
       refine⟨_,au (j:=0) rfl,?_⟩
       refine cL ?_
       rw[b3]
       walk_at "b"
       exact hw
theorem vf:∀(ws vs:List Str),cT (ws.map D.str) (vs.map D.str)=(ws==vs)
 | [],[]=>rfl
 | [],_::_=>rfl
 | _::_,[]=>rfl
 | a::ws,b::vs=>by
   show(eqD (.str a) (.str b)&&cT (ws.map D.str) (vs.map D.str))=((a==b)&&(ws==vs))
   rw[vf ws vs];rfl
theorem lM:∀(ws:List Str),bW (ws.map D.str)=true
 | []=>rfl
 | _::ws=>by
   show(true&&bW (ws.map D.str))=true
   rw[lM ws];rfl
theorem qQ:∀(ws:List Str),bc (ws.map D.str)=0
 | []=>rfl
 | _::ws=>by
   show max 0 (bc (ws.map D.str))=0
   rw[qQ ws];rfl
theorem w_eq{ws vs:List Str}{W:Bool->Store->Prop}(w:W (ws==vs) S):aQ .Eq (dW ws) (dW vs) S W:=by
 unfold aQ
 refine⟨⟨lM ws,lM vs,by show bc (ws.map D.str)+1≤50;rw[qQ];decide⟩,?_⟩
 have e:eqD (vw S (dW ws)) (vw S (dW vs))=(ws==vs):=vf ws vs
 rw[e];exact w
def stQ(st:List Nq)(ws:List Str):Option (List Nq):=if(ws==[Str.ofString "nest"])=true then some (([],[])::st)else match st with
 | []=>none
 | n::A=>match lnQ n ws with
   | none=>none
   | some m=>some (m::A)
def foldQ:List Nq->List (List Str)->Option (List Nq)
 | st,[]=>some st
 | st,ws::r=>match stQ st ws with
   | none=>none
   | some s=>foldQ s r
theorem jy{ws:List Str}(e:(ws==[Str.ofString "nest"])=false):stQ [] ws=none:=by unfold stQ;rw[e];rfl
theorem bQ{n:Nq}{A:List Nq}{ws:List Str}(e:(ws==[Str.ofString "nest"])=false):stQ (n::A) ws=match lnQ n ws with
 | none=>none
 | some m=>some (m::A):=by unfold stQ;rw[e];rfl
def SzS(k:Nat)(st:List Nq):Prop:=st.length≤k/\∀n∈st,SzN k n
theorem SzN.up{n:Nq}(h:SzN k n):SzN (k+1) n:=⟨by have:=h.1;omega,by have:=h.2.1;omega,λ x hx=>by have:=h.2.2 x hx;omega⟩
theorem SzN.le{m:Nat}{n:Nq}(h:SzN k n)(l:k≤m):SzN m n:=⟨Nat.le_trans h.1 l,Nat.le_trans h.2.1 l,λ x hx=>Nat.le_trans (h.2.2 x hx) l⟩
theorem U7{ws:List Str}{d:Dq}(h:cO ws=some d):d.rds=[]:=by
 unfold cO at h
 split at h
 . cases h
 . split at h
   . cases h
   . split at h
     . cases h
     . cases h;rfl
theorem Qh {n m:Nq}{ws:List Str}(hz:SzN k n)(h:lnQ n ws=some m):SzN (k+1) m:=by
 obtain⟨L,E0⟩:=n
 obtain⟨z1,z2,z3⟩:=hz
 dsimp only at z1 z2 z3
 cases ws with
 | nil=>cases h
 | cons w r=>
   unfold lnQ at h
   dsimp only at h
   split at h
   . split at h
     . cases h
     . cases h
       exact⟨by simp;omega,by show E0.length≤_;omega,λ x hx=>by have:=z3 x hx;omega⟩
   . split at h
     . split at h
       . cases h
       . rename_i d hd
         cases h
         refine⟨by show L.length≤_;omega,by show(d::E0).length≤_;rw[List.length_cons];omega,λ x hx=>?_⟩
         rcases List.mem_cons.mp hx with rfl | hx
         . rw[U7 hd];simp
         . have:=z3 x hx;omega
     . split at h
       . cases E0 with
         | nil=>cases h
         | cons d A=>
           dsimp only at h
           split at h
           . cases h
           . cases h
             refine⟨by show L.length≤_;omega,by show(addQ d _::A).length≤_;rw[List.length_cons]at z2 ⊢;omega,λ x hx=>?_⟩
             rcases List.mem_cons.mp hx with rfl | hx
             . have:=z3 d v3
               show(d.rds++[_]).length≤_
               simp;omega
             . have:=z3 x (x9 _ hx);omega
       . cases h
theorem QS{st s:List Nq}{ws:List Str}(hz:SzS k st)(h:stQ st ws=some s):SzS (k+1) s:=by
 obtain⟨z1,z2⟩:=hz
 unfold stQ at h
 split at h
 . cases h
   refine⟨by rw[List.length_cons];omega,λ n hn=>?_⟩
   rcases List.mem_cons.mp hn with rfl | hn
   . exact⟨by simp,by simp,λ x hx=>by cases hx⟩
   . exact(z2 n hn).up
 . split at h
   . cases h
   . rename_i n A
     split at h
     . cases h
     . rename_i m hm
       cases h
       refine⟨by rw[List.length_cons]at z1 ⊢;omega,λ y hy=>?_⟩
       rcases List.mem_cons.mp hy with rfl | hy
       . exact Qh (z2 n v3) hm
       . exact(z2 y (x9 _ hy)).up
theorem Mp(l:List Int):aq (l.map D.int)=true:=aP (λ _=>rfl) l
theorem Fb(f:List Int):ao (dFq f)=true:=Mp f
theorem Q0(pl:List (List Int)):ao (dPq pl)=true:=aP Fb pl
theorem VG(l:Lq):ao (dLq l)=true:=by
 show(ao (dFq l.1)&&(ao (dFq l.2)&&true))=true
 rw[Fb,Fb];rfl
theorem V3(r:Rq):ao (dRq r)=true:=by
 show(true&&(true&&(ao (dPq r.2.2)&&true)))=true
 rw[Q0];rfl
theorem VJ(x:Dq):ao (dDq x)=true:=by
 show(true&&(ao (dPq x.c.2)&&(ao (dFq x.st)&&(aq (x.rds.map dRq)&&true))))=true
 rw[Q0,Fb,aP V3];rfl
theorem VP(n:Nq):ao (dNq n)=true:=by
 show(aq (n.1.map dLq)&&(aq (n.2.reverse.map dDq)&&true))=true
 rw[aP VG,aP VJ];rfl
def dSq(st:List Nq):D:=.tup (st.reverse.map dNq)
def Lk:XCt:=λ ds S W WE=>∃lines,ds=[.lst (lines.map dW)]/\(∀ws∈lines,WsB ws)/\lines.length≤200000/\flat S/\Rs (foldQ [] lines) dSq S W WE
theorem qL(F:Fun Ω.K "nests_read" "nests_read" eQ f fd)(N0:Ω.cd=none)(B:Bi Ω.mg Ω.K)(E:ExF Ω.mg Ω.K XL XT)(Cq42:az Ω "with_line" 7 2 LC):OkX Ω 8 f fd tU Lk:=by
 refine di N0 (N:=ug) F (BX.drp E (uM B E Cq42)) (by kernel_rfl!) ?_
 rintro ds S W WE ⟨lines,rfl,hb,hz,hS,hw⟩ hl
 walk_at "b"
 refine XE.forX_by ⟨λ i Γ' S'=>∃st o2,Γ'=[some (.lst (lines.map dW)),some (.loc S.length),o2]/\S'=S++[st.reverse.map dNq]/\foldQ [] lines=foldQ st (lines.drop i)/\SzS i st,⟨[],_,rfl,rfl,by simp,by simp,λ n hn=>by cases hn⟩,?_,?_⟩
 . rintro i e Γ' S' he ⟨st,o2,rfl,rfl,hr,hst⟩
   obtain⟨ws,hx,rfl⟩:=mX he
   have hi:=(z0.mp hx).1
   have hwb:=hb ws (y8 hx)
   have ed:lines.drop i=ws::lines.drop (i+1):=by
    rw[List.drop_eq_getElem_cons hi]
    rw[y0 hi]at hx
    rw[Option.some.inj hx]
   rw[ed]at hr
   have bad:stQ st ws=none->WE "NoText" S:=λ h=>by
    have h2:foldQ [] lines=none:=by rw[hr];unfold foldQ;rw[h]
    rw[h2]at hw;exact hw
   have good:∀s,stQ st ws=some s->foldQ [] lines=foldQ s (lines.drop (i+1))/\SzS (i+1) s:=λ s h=>by
    refine⟨?_,QS hst h⟩
    rw[hr]
    show(match stQ st ws with | none=>none | some s=>foldQ s (lines.drop (i+1)))=_
    rw[h]
   have z1:=hst.1
   refine m6 ?_
   simp only[List.set_cons_succ,List.set_cons_zero]
   walk_at "b"
   refine w_eq (ws:=ws) (vs:=["nest"]) ?_
   cases e1:(ws==[Str.ofString "nest"])with
   | true=>
     obtain⟨g1,g2⟩:=good (([],[])::st) (by unfold stQ;rw[if_pos e1])
     walk_at "b"
     refine⟨_,b8 _ _,by rw[x5,List.length_reverse];omega,?_⟩
     refine⟨_,_,rfl,?_,g1,g2⟩
     rw[oM,List.reverse_cons,List.map_append];rfl
   | false=>
     cases st with
     | nil=>
       walk_at "b"
       refine⟨_,by show(match (S++[[]])[S.length]? with | some ds=>D.lst ds | none=>.loc S.length)=_;rw[b8];rfl,.inr ⟨_,rfl,b8 _ _⟩,by show 0≤1000000;decide,?_⟩
       walk_at "b"
       exact .inr ⟨by decide+kernel,[_],S,rfl,x8 _,hS,bad (jy e1)⟩
     | cons n A=>
       have em:(n::A).reverse.map dNq=A.reverse.map dNq++[dNq n]:=by rw[List.reverse_cons,List.map_append];rfl
       walk_at "b"
       rw[em]
       refine⟨_,by show(match (S++[A.reverse.map dNq++[dNq n]])[S.length]? with | some ds=>D.lst ds | none=>.loc S.length)=_;rw[b8],.inr ⟨_,rfl,b8 _ _⟩,?_,?_⟩
       . rw[List.length_cons]at z1
         simp only[List.length_append,x5,List.length_reverse,List.length_cons,List.length_nil];omega
       rw[show(!(A.reverse.map dNq++[dNq n]).isEmpty)=true by simp]
       walk_at "b"
       refine⟨_,_,b8 _ _,Bw _ _,?_⟩
       refine⟨rfl,n,ws,rfl,hwb,(hst.2 n v3).le (by omega),?_⟩
       cases e2:lnQ n ws with
       | none=>
         exact .inr ⟨by decide+kernel,[_],S,rfl,x8 _,hS,bad (by rw[bQ e1,e2])⟩
       | some m=>
         obtain⟨g1,g2⟩:=good (m::A) (by rw[bQ e1,e2])
         walk_at "b"
         refine⟨_,_,_,A.length,rfl,rfl,b8 _ _,?_,?_⟩
         . unfold L2.ixN;simp;omega
         refine⟨_,_,rfl,?_,g1,g2⟩
         rw[oM,List.reverse_cons,List.map_append]
         congr 2
         have e:A.length=(A.reverse.map dNq).length:=by rw[x5,List.length_reverse]
         rw[e];simp
 . rintro Γ' S' ⟨st,o2,rfl,rfl,hr,hst⟩
   rw[x5,List.drop_length]at hr
   rw[hr]at hw
   have hw:W (dSq st) S:=hw
   walk_at "b"
   refine⟨_,b8 _ _,?_⟩
   exact .inr ⟨[_],S,rfl,x8 _,aP VP _,hS,hw⟩
def wsQ:List Str->Option (List Int)
 | []=>none
 | w::r=>if(w=="tables")=true then trs nR r else none
def LQ:XCt:=λ ds S W WE=>∃ws,ds=[dW ws]/\WsB ws/\Rs (wsQ ws) dFq S W WE
theorem pI(F:Fun Ω.K "widths_read" "widths_read" dU f fd)(N0:Ω.cd=none)(B:Bi Ω.mg Ω.K)(E:ExF Ω.mg Ω.K XL XT)(Cq37:az Ω "number_read" 3 1 DX):OkX Ω 4 f fd qt LQ:=by
 refine di N0 (N:=pP) F (qH B E Cq37) (by kernel_rfl!) ?_
 rintro ds S W WE ⟨ws,rfl,⟨hb,h0,hz⟩,hw⟩ hl
 cases ws with
 | nil=>exact absurd rfl h0
 | cons w r=>
 unfold wsQ at hw
 dsimp only at hw
 rw[List.length_cons]at hz
 walk_at "b"
 refine⟨_,au (j:=0) rfl,?_⟩
 refine Dy ?_
 cases e:(w==Str.ofString "tables")with
 | false=>
   rw[e]at hw
   walk_at "b"
   exact hw
 | true=>
   rw[e]at hw
   have hw:Rs (trs nR r) dFq S W WE:=hw
   walk_at "b"
   rw[show List.map D.str (w::r)=D.str w::r.map D.str from rfl,gR]
   refine zz nR D.int (by omega) ?_ ?_
   . intro y hy Q QE hq
     walk_at "b"
     exact⟨rfl,y,rfl,hb y (x9 _ hy),hq⟩
   . cases e3:trs nR r with
     | none=>rw[e3]at hw;exact hw
     | some l=>
       rw[e3]at hw
       walk_at "b"
       exact hw
def gq(x:Str):Option (List Int×List Nq):=match Txt.split x "\n" with
 | []=>none
 | h ::t=>match wsQ (Txt.split h " ")with
   | none=>none
   | some ws=>match foldQ [] (t.map λ s=>Txt.split s " ")with
     | none=>none
     | some st=>some (ws,st)
def wU:XCt:=λ ds S W WE=>∃d,ds=[d]/\flat S/\((isStr d=false/\WE "NoText" S)∨∃x,d=.str x/\x.length≤100000/\(gq x=none->WE "NoText" S)/\∀ws st,gq x=some (ws,st)->uo [dFq ws,dSq st] S W WE)
theorem K5{x:Str}(h:x.length≤100000):WsB (Txt.split x " "):=by
 rw[s32]
 have h1:=m8 x 32
 refine⟨λ y hy=>Nat.le_trans (qT hy) h,λ z=>?_,by omega⟩
 obtain⟨a,l,e⟩:=sW x 32
 rw[z]at e
 cases e
theorem Fz(F:Fun Ω.K "read" "read" oh f fd)(N0:Ω.cd=none)(B:Bi Ω.mg Ω.K)(E:ExF Ω.mg Ω.K XL XT)(Cq38:az Ω "program_of" 10 2 uo)(Cq35:az Ω "nests_read" 8 1 Lk)(Cq41:az Ω "widths_read" 4 1 LQ):OkX Ω 11 f fd JW wU:=by
 refine di N0 (N:=Kp) F (Ja B E Cq38 Cq35 Cq41) (by kernel_rfl!) ?_
 rintro ds S W WE ⟨d,rfl,hS,hw⟩ hl
 rcases hw with⟨hd,hw⟩ | ⟨x,rfl,hx,hn,hs⟩
 . walk_at "b"
   rw[hd]
   walk_at "b"
   exact hw
 . have h1:=m8 x 10
   have h2:=λ y (h:y∈Txt.split x (mkS [10]))=>Nat.le_trans (qT h) hx
   obtain⟨h,t,e⟩:=sW x 10
   unfold gq at hn hs
   rw[s10,e]at hn hs
   dsimp only at hn hs
   rw[e]at h1 h2
   rw[List.length_cons]at h1
   walk_at "b"
   refine⟨_,rfl,by decide+kernel,by omega,.inl ?_⟩
   rw[s10,e]
   refine zc (xs:=h::t) (enc:=D.str) (λ s=>dW (Txt.split s " ")) (by rw[List.length_cons];omega) ?_ ?_
   . intro i s hs Q hq
     have:=h2 s (y8 hs)
     walk_at "b"
     exact⟨_,rfl,by decide+kernel,by omega,.inl hq⟩
   walk_at "b"
   refine⟨_,au (j:=0) rfl,?_⟩
   refine⟨rfl,_,rfl,K5 (h2 h v3),?_⟩
   cases e1:wsQ (Txt.split h " ")with
   | none=>rw[e1]at hn;exact hn rfl
   | some ws=>
     rw[e1]at hn hs
     dsimp only at hn hs
     walk_at "b"
     rw[List.map_cons,gR]
     refine⟨rfl,t.map λ s=>Txt.split s " ",by rw[List.map_map];rfl,λ w hw=>?_,by rw[x5];omega,hS,?_⟩
     . obtain⟨s,hs,rfl⟩:=List.mem_map.mp hw
       exact K5 (h2 s (x9 _ hs))
     cases e2:foldQ [] (t.map λ s=>Txt.split s " ")with
     | none=>rw[e2]at hn;exact hn rfl
     | some st=>
       rw[e2]at hs
       walk_at "b"
       exact⟨rfl,hs ws st rfl⟩
def fl(f:Fm):List Int:=f.1::f.2
def lq(l:Lp):Lq:=(fl l.1,fl l.2)
def rq(r:Rd):Rq:=(r.fac,(r.tab,r.pl.map fl))
def dq(x:Dd):Dq:=⟨(x.tab,x.pl.map fl),fl x.st,x.rds.map rq⟩
def toQ(n:Ns):Nq:=(n.lps.map lq,(n.dds.map dq).reverse)
theorem Di{α β γ:Type}{f:α->Option β}{g:γ->α}{h:γ->β}:∀{xs:List γ},(∀x∈xs,f (g x)=some (h x))->trs f (xs.map g)=some (xs.map h)
 | [],_=>rfl
 | x::xs,hx=>by
   rw[List.map_cons]
   unfold trs
   rw[hx x v3,Di λ y hy=>hx y (x9 _ hy)]
   rfl
theorem xf{f:Fm}(h:FmB f):fR (fS f)=some (fl f):=by
 unfold fR
 rw[Do]
 exact By λ n hn=>K9 (h.2 n hn)
theorem Qq:∀{t:Nat},t<3->ltQ (ltS t)=some t
 | 0,_=>by decide+kernel
 | 1,_=>by decide+kernel
 | 2,_=>by decide+kernel
 | _+3,h=>absurd h (by omega)
theorem Lw{pl:List Fm}(ht:t<3)(h:PlB pl):cR (cS t pl)=some (t,pl.map fl):=by
 unfold cR
 rw[Fv t pl ht]
 dsimp only
 rw[Qq ht]
 dsimp only
 rw[Di (h:=fl) λ f hf=>xf (h.2 f hf)]
theorem zZ{a c d:Str}:four c [a,b,c,d]=some (b,d):=by
 show(if(c==c)=true then some (b,d)else none)=_
 rw[beq_self_eq_true];rfl
theorem NQ{l:Lp}(h:LpB l):dO (Ln.loop l).w=some (lq l):=by
 unfold dO Ln.w
 rw[zZ]
 dsimp only
 rw[xf h.1]
 dsimp only
 rw[xf h.2];rfl
theorem Og{x:Dd}(h:DdB x):cO (Ln.deed x).w=some ⟨(x.tab,x.pl.map fl),fl x.st,[]⟩:=by
 unfold cO Ln.w
 rw[zZ]
 dsimp only
 rw[Lw h.1 h.2.1]
 dsimp only
 rw[xf h.2.2.1]
theorem Rw{r:Rd}(h:RdB r):gG (Ln.rd r).w=some (rq r):=by
 unfold gG Ln.w
 rw[zZ]
 dsimp only
 rw[K9 h.1]
 dsimp only
 rw[Lw h.2.1 h.2.2];rfl
theorem iY(a b c d n:Str):([a,b,c,d]==[n])=false:=by
 show(_&&false)=false
 exact Bool.and_false _
def Goes(st:List Nq)(ls:List Ln)(s:List Nq):Prop:=∀r,foldQ st (ls.map Ln.w++r)=foldQ s r
theorem jW(st:List Nq):Goes st [] st:=λ _=>rfl
theorem Goes.app{a b c:List Nq}{xs ys:List Ln}(h:Goes a xs b)(t:Goes b ys c):Goes a (xs++ys) c:=λ r=>by
 rw[List.map_append,List.append_assoc,h,t]
theorem j7{st s:List Nq}{l:Ln}(h:stQ st l.w=some s):Goes st [l] s:=λ r=>by
 show foldQ st (l.w::r)=_
 show(match stQ st l.w with | none=>none | some s=>foldQ s r)=_
 rw[h]
theorem Nb{L:List Lq}{A:List Nq}{l:Lp}(h:LpB l):stQ ((L,[])::A) (Ln.loop l).w=some ((L++[lq l],[])::A):=by
 rw[bQ (ws:=(Ln.loop l).w) (iY _ _ _ _ _)]
 have e:lnQ (L,[]) (Ln.loop l).w=some (L++[lq l],[]):=by
  have h1:=NQ h
  unfold Ln.w at h1 ⊢
  unfold lnQ
  dsimp only
  rw[beq_self_eq_true]
  show(match dO _ with | none=>none | some l=>some (L++[l],[]))=_
  rw[h1]
 rw[e]
theorem Nj{L:List Lq}{E:List Dq}{A:List Nq}{x:Dd}(h:DdB x):stQ ((L,E)::A) (Ln.deed x).w=some ((L,⟨(x.tab,x.pl.map fl),fl x.st,[]⟩::E)::A):=by
 rw[bQ (ws:=(Ln.deed x).w) (iY _ _ _ _ _)]
 have e:lnQ (L,E) (Ln.deed x).w=some (L,⟨(x.tab,x.pl.map fl),fl x.st,[]⟩::E):=by
  have h1:=Og h
  unfold Ln.w at h1 ⊢
  unfold lnQ
  dsimp only
  rw[show(Str.ofString "set"==Str.ofString "loop")=false by decide+kernel,beq_self_eq_true]
  show(match cO _ with | none=>none | some d=>some (L,d::E))=_
  rw[h1]
 rw[e]
theorem T8{L:List Lq}{E:List Dq}{d:Dq}{A:List Nq}{r:Rd}(h:RdB r):stQ ((L,d::E)::A) (Ln.rd r).w=some ((L,addQ d (rq r)::E)::A):=by
 rw[bQ (ws:=(Ln.rd r).w) (iY _ _ _ _ _)]
 have e:lnQ (L,d::E) (Ln.rd r).w=some (L,addQ d (rq r)::E):=by
  have h1:=Rw h
  unfold Ln.w at h1 ⊢
  unfold lnQ
  dsimp only
  rw[show(Str.ofString "and"==Str.ofString "loop")=false by decide+kernel,show(Str.ofString "and"==Str.ofString "set")=false by decide+kernel,beq_self_eq_true]
  show(match gG _ with | none=>none | some q=>some (L,addQ d q::E))=_
  rw[h1]
 rw[e]
theorem pK(A:List Nq):∀(ls:List Lp)(L:List Lq),(∀l∈ls,LpB l)->Goes ((L,[])::A) (ls.map .loop) ((L++ls.map lq,[])::A)
 | [],L,_=>by rw[List.map_nil,List.map_nil,List.append_nil];exact jW _
 | l::ls,L,h=>by
   have:=pK A ls (L++[lq l]) λ l hl=>h l (x9 _ hl)
   rw[List.append_assoc]at this
   exact Goes.app (xs:=[.loop l]) (j7 (Nb (h l v3))) this
theorem qP(A:List Nq)(L:List Lq)(E:List Dq)(c:Cq)(st:List Int):∀(rs:List Rd)(R:List Rq),(∀r∈rs,RdB r)->Goes ((L,⟨c,st,R⟩::E)::A) (rs.map .rd) ((L,⟨c,st,R++rs.map rq⟩::E)::A)
 | [],R,_=>by rw[List.map_nil,List.map_nil,List.append_nil];exact jW _
 | r::rs,R,h=>by
   have:=qP A L E c st rs (R++[rq r]) λ l hl=>h l (x9 _ hl)
   rw[List.append_assoc]at this
   exact Goes.app (xs:=[.rd r]) (j7 (T8 (h r v3))) this
theorem qw(A:List Nq)(L:List Lq):∀(xs:List Dd)(E:List Dq),(∀x∈xs,DdB x)->Goes ((L,E)::A) (xs.flatMap bD) ((L,(xs.map dq).reverse++E)::A)
 | [],E,_=>jW _
 | x::xs,E,h=>by
   have hx:=h x v3
   have h1:=qP A L E (x.tab,x.pl.map fl) (fl x.st) x.rds [] hx.2.2.2.2
   rw[List.nil_append]at h1
   have h2:=qw A L xs (dq x::E) λ l hl=>h l (x9 _ hl)
   rw[List.flatMap_cons,List.map_cons,List.reverse_cons,List.append_assoc]
   exact Goes.app (xs:=bD x) (Goes.app (xs:=[.deed x]) (j7 (Nj hx)) h1) h2
theorem Hg(A:List Nq){n:Ns}(h:NsB n):Goes A (aH n) (toQ n::A):=by
 have h1:=(pK A n.lps [] h.2.1).app (qw A _ n.dds [] h.2.2.2)
 rw[List.nil_append,List.append_nil]at h1
 refine Goes.app (xs:=[.nest]) (j7 ?_) h1
 unfold stQ
 rw[if_pos (by decide+kernel)]
theorem qU:∀(nss:List Ns)(A:List Nq),(∀n∈nss,NsB n)->Goes A (lns nss) ((nss.map toQ).reverse++A)
 | [],A,_=>jW _
 | n::nss,A,h=>by
   have h2:=qU nss (toQ n::A) λ l hl=>h l (x9 _ hl)
   rw[List.map_cons,List.reverse_cons,List.append_assoc]
   exact Goes.app (xs:=aH n) (Hg A (h n v3)) h2
theorem Lf(pl:List Fm):dPq (pl.map fl)=dP pl:=by
 show D.tup ((pl.map fl).map dFq)=D.tup (pl.map dF)
 rw[List.map_map];rfl
theorem Wb(r:Rd):dRq (rq r)=dRd r:=by
 show D.tup [.int r.fac,.int r.tab,dPq (r.pl.map fl)]=_
 rw[Lf];rfl
theorem V6(x:Dd):dDq (dq x)=dDd x:=by
 show D.tup [.int x.tab,dPq (x.pl.map fl),dF x.st,.tup ((x.rds.map rq).map dRq)]=_
 rw[Lf,List.map_map,show(dRq ∘ rq)=dRd from funext Wb];rfl
theorem V5(n:Ns):dNq (toQ n)=dNs n:=by
 show D.tup [.tup ((n.lps.map lq).map dLq),.tup ((n.dds.map dq).reverse.reverse.map dDq)]=_
 rw[List.reverse_reverse,List.map_map,List.map_map,show(dDq ∘ dq)=dDd from funext V6];rfl
theorem VL(nss:List Ns):dSq (nss.map toQ).reverse=.tup (nss.map dNs):=by
 show D.tup ((nss.map toQ).reverse.reverse.map dNq)=_
 rw[List.reverse_reverse,List.map_map,show(dNq ∘ toQ)=dNs from funext V5]
def NN(s:Str):Prop:=10∉s.cps.toList
def pR(h:Str)(t:List Str):Option (List Int×List Nq):=match wsQ (Txt.split h " ")with
 | none=>none
 | some ws=>match foldQ [] (t.map λ s=>Txt.split s " ")with
   | none=>none
   | some st=>some (ws,st)
theorem jV{t:List Str}(hn:∀s∈h::t,NN s):gq (Txt.join "\n" (h::t))=pR h t:=by
 unfold gq
 rw[s10,gw (by simp) hn]
 rfl
theorem Jk{t:List Str}(h0:foldQ [] (t.map λ s=>Txt.split s " ")=none):pR h t=none:=by
 unfold pR
 rw[h0]
 split<;>rfl
theorem lQ:∀(A B:List (List Str))(st:List Nq),foldQ st (A++B)=(match foldQ st A with
 | none=>none
 | some s=>foldQ s B)
 | [],B,st=>rfl
 | a::A,B,st=>by
   show(match stQ st a with | none=>none | some s=>foldQ s (A++B))=_
   show _=match (match stQ st a with | none=>none | some s=>foldQ s A)with | none=>none | some s=>foldQ s B
   cases stQ st a with
   | none=>rfl
   | some s=>exact lQ A B s
theorem Jw{A C:List (List Str)}{b:List Str}{st:List Nq}(h:∀s,foldQ st A=some s->stQ s b=none):foldQ st (A++b::C)=none:=by
 rw[lQ]
 cases e:foldQ st A with
 | none=>rfl
 | some s=>
   show(match stQ s b with | none=>none | some s=>foldQ s C)=_
   rw[h s e]
theorem Gy{A:List (List Str)}{b:List Str}{st s:List Nq}(h:foldQ st (A++[b])=some s):∃z,stQ z b=some s:=by
 rw[lQ]at h
 cases e:foldQ st A with
 | none=>rw[e]at h;cases h
 | some z=>
   rw[e]at h
   have h:(match stQ z b with | none=>none | some s=>some s)=some s:=h
   cases e2:stQ z b with
   | none=>rw[e2]at h;cases h
   | some y=>rw[e2]at h;exact⟨z,by rw[e2];exact h⟩
def Eg(c:Str):List Str->Bool
 | []=>false
 | w::_=>w==c
def tX(ws:List Str):Bool:=!(ws==[Str.ofString "nest"])&&((!Eg "loop" ws||(dO ws).isNone)&&((!Eg "set" ws||(cO ws).isNone)&&(!Eg "and" ws||(gG ws).isNone)))
theorem Nu{ws:List Str}(h:tX ws=true)(n:Nq):lnQ n ws=none:=by
 unfold tX at h
 obtain⟨_,h⟩:=aa h
 obtain⟨h1,h⟩:=aa h
 obtain⟨h2,h3⟩:=aa h
 cases ws with
 | nil=>rfl
 | cons w r=>
   unfold Eg at h1 h2 h3
   dsimp only at h1 h2 h3
   unfold lnQ
   dsimp only
   split
   . rename_i hc
     obtain⟨c1,_⟩:=aa hc
     rw[c1]at h1
     have h1:(dO (w::r)).isNone=true:=h1
     rw[Option.isNone_iff_eq_none.mp h1]
   . split
     . rename_i hc
       rw[hc]at h2
       have h2:(cO (w::r)).isNone=true:=h2
       rw[Option.isNone_iff_eq_none.mp h2]
     . split
       . rename_i hc
         rw[hc]at h3
         have h3:(gG (w::r)).isNone=true:=h3
         rw[Option.isNone_iff_eq_none.mp h3]
         split<;>rfl
       . rfl
theorem Cu{ws:List Str}(h:tX ws=true)(st:List Nq):stQ st ws=none:=by
 have h0:(ws==[Str.ofString "nest"])=false:=by
  unfold tX at h
  obtain⟨h,_⟩:=aa h
  simpa using h
 cases st with
 | nil=>exact jy h0
 | cons n A=>rw[bQ h0,Nu h]
def spW(s:Str):List Str:=Txt.split s " "
def bR(s:Str):Bool:=tX (spW s)&&(!(s.cps.toList.contains 10)&&(decide (s.length≤100)&&(!(Txt.slice s none (some 6)=="tables")||(wsQ (spW s)).isNone)))
def fu:List Str:=["01","-0","+1","","00","1.0","x","--1","1_0","-","-01","1e3","1-","0x1","one","- 1"]
def iD:List Str:=["d@0","A@0","aa@0","@0","a@","a@0,","a@,0","a@@0","0@0","a@0@","a@1.5","a@+0","a@0,-0","z@1"]
def yg(n:Str):List Str:=["tables "++n,"table 1","Tables 1",""," tables 1","tables 1 ","tables  1"]
def bL(n c:Str)(f:Str):Nat->List Str
 | 1=>["Nest","nest 1","nest "," nest","","nests","end"]
 | 2=>["loop "++n++" to 1","loop 0 to "++n,"loop 0,"++n++" to 1"]
 | 3=>["loop 0 until 1","loop 0 to","loop 0 to 1 2","loop 0 1","loop","loop  0 to 1"]
 | 4=>["set "++c++" be 0","set a@0 be "++n,"and "++n++" of a@0"]
 | 5=>["and 1 of "++c,"and 1,1 of a@0","and  1 of a@0","And 1 of a@0","or 1 of a@0"]
 | 6=>["set a@0 is 0","set a@0 be","set be 0","set a@0 be 0 0","set a@0 = 0","let a@0 be 0"]
 | 7=>["and 1 from a@0","and 1 of","and of a@0","and 1 of a@0 b@0","and a@0 of 1"]
 | _=>[f,"tables 1 x","tables 2,1"]
theorem Hv:∀n∈fu,∀f∈yg n,bR f=true:=by
 have h:(fu.all λ n=>(yg n).all bR)=true:=by decide+kernel
 intro n hn f hf
 exact List.all_eq_true.mp (List.all_eq_true.mp h n hn) f hf
theorem Jd{n c f:Str}(hn:n∈fu)(hc:c∈iD)(hf:bR f=true)(k:Nat)(hk:k<8):∀s∈bL n c f k,bR s=true:=by
 have e1:(bL (Str.ofString "") (Str.ofString "") (Str.ofString "") 1).all bR=true:=by decide+kernel
 have e3:(bL (Str.ofString "") (Str.ofString "") (Str.ofString "") 3).all bR=true:=by decide+kernel
 have e6:(bL (Str.ofString "") (Str.ofString "") (Str.ofString "") 6).all bR=true:=by decide+kernel
 have e7:(bL (Str.ofString "") (Str.ofString "") (Str.ofString "") 7).all bR=true:=by decide+kernel
 have e2:(fu.all λ n=>(bL n (Str.ofString "") (Str.ofString "") 2).all bR)=true:=by decide+kernel
 have e4:(fu.all λ n=>([Str.ofString "set a@0 be "++n,Str.ofString "and "++n++Str.ofString " of a@0"]).all bR)=true:=by decide+kernel
 have e4':(iD.all λ c=>bR (Str.ofString "set "++c++Str.ofString " be 0"))=true:=by decide+kernel
 have e5:(iD.all λ c=>(bL (Str.ofString "") c (Str.ofString "") 5).all bR)=true:=by decide+kernel
 have e0:bR (Str.ofString "tables 1 x")=true:=by decide+kernel
 have e0':bR (Str.ofString "tables 2,1")=true:=by decide+kernel
 intro s hs
 match k,hk with
 | 0,_=>
   simp only[bL,List.mem_cons,List.not_mem_nil,or_false]at hs
   rcases hs with rfl | rfl | rfl
   . exact hf
   . exact e0
   . exact e0'
 | 1,_=>exact List.all_eq_true.mp e1 s hs
 | 2,_=>exact List.all_eq_true.mp (List.all_eq_true.mp e2 n hn) s hs
 | 3,_=>exact List.all_eq_true.mp e3 s hs
 | 4,_=>
   simp only[bL,List.mem_cons,List.not_mem_nil,or_false]at hs
   rcases hs with rfl | rfl | rfl
   . exact List.all_eq_true.mp e4' c hc
   . exact List.all_eq_true.mp (List.all_eq_true.mp e4 n hn) _ (by simp)
   . exact List.all_eq_true.mp (List.all_eq_true.mp e4 n hn) _ (by simp)
 | 5,_=>exact List.all_eq_true.mp (List.all_eq_true.mp e5 c hc) s hs
 | 6,_=>exact List.all_eq_true.mp e6 s hs
 | 7,_=>exact List.all_eq_true.mp e7 s hs
def GF(d:Nat)(f:Fm):Prop:=f.2.length=d/\∀n∈f.1::f.2,-3≤n/\n≤3
def GR(d:Nat)(r:Rd):Prop:=(-49≤r.fac/\r.fac≤49)/\r.tab<2/\∃f,r.pl=[f]/\GF d f
def GD(d:Nat)(x:Dd):Prop:=x.tab<2/\(∃f,x.pl=[f]/\GF d f)/\GF d x.st/\x.rds.length≤2/\∀r∈x.rds,GR d r
def lpk(k:Nat):Lp:=((0,List.replicate k 0),(2,List.replicate k 0))
def aZ(d:Nat):List Lp:=(List.range d).map lpk
def GN(n:Ns):Prop:=∃d,(d=1∨d=2)/\n.lps=aZ d/\1≤n.dds.length/\n.dds.length≤3/\∀x∈n.dds,GD d x
def GP(nss:List Ns):Prop:=1≤nss.length/\nss.length≤3/\∀n∈nss,GN n
theorem GF.bd{f:Fm}(h:GF d f)(hd:d≤2):FmB f:=⟨by have:=h.1;omega,λ n hn=>by have:=h.2 n hn;exact dN (b:=10) (by omega) (by omega) (by decide)⟩
theorem GF.v{f:Fm}(h:GF d f):FmV d f:=⟨h.1,by have:=h.2 f.1 v3;omega,λ n hn=>by have:=h.2 n (x9 _ hn);omega⟩
theorem GF.s{f:Fm}(h:GF d f):FmS d f:=⟨h.1,by have:=h.2 f.1 v3;omega,λ n hn=>by have:=h.2 n (x9 _ hn);omega⟩
theorem Ti{pl:List Fm}(ht:t<2)(h:∃f,pl=[f]/\GF d f):TpV [1,1] d t pl:=by
 obtain⟨f,rfl,hf⟩:=h
 refine⟨1,?_,rfl,λ g hg=>by rw[List.mem_singleton.mp hg];exact hf.v⟩
 match t,ht with
 | 0,_=>rfl
 | 1,_=>rfl
theorem GD.v{x:Dd}(h:GD d x):DdV [1,1] d x:=by
 obtain⟨h1,h2,h3,h4,h5⟩:=h
 refine⟨Ti h1 h2,h3.s,by omega,λ r hr=>?_⟩
 obtain⟨a,b,c⟩:=h5 r hr
 exact⟨by omega,Ti b c⟩
theorem M8(h:d=1∨d=2):Lps (aZ d):=by
 have go:∀i,i<2->BdF (lpk i).1 i/\BdF (lpk i).2 i:=λ i hi=>by
  refine⟨⟨by simp[lpk],by simp[lpk],by simp[lpk],λ n hn=>?_⟩,by simp[lpk],by simp[lpk],by simp[lpk],λ n hn=>?_⟩
  . have:n=0:=List.eq_of_mem_replicate hn
    omega
  . have:n=0:=List.eq_of_mem_replicate hn
    omega
 have hl:(aZ d).length=d:=by unfold aZ;simp
 refine⟨by omega,by omega,λ i l hi=>?_⟩
 have hlt:=(z0.mp hi).1
 unfold aZ at hi
 obtain⟨j,hj,rfl⟩:=mX hi
 have:j=i:=by
  rw[List.getElem?_range (by omega)]at hj
  exact(Option.some.inj hj).symm
 subst this
 exact go j (by omega)
theorem GN.v{n:Ns}(h:GN n):NsV [1,1] n:=by
 obtain⟨d,hd,hl,h1,h2,h3⟩:=h
 have e:n.lps.length=d:=by rw[hl];unfold aZ;simp
 refine⟨by rw[hl];exact M8 hd,h1,by omega,λ x hx=>?_⟩
 rw[e]
 exact(h3 x hx).v
theorem Vm(h:d=1∨d=2):(cnt (aZ d)).length≤4:=by
 rcases h with rfl | rfl<;>decide
theorem GN.few{n:Ns}(h:GN n):((cnt n.lps).length:Int)*(n.dds.length:Int)≤12:=by
 obtain⟨d,hd,hl,h1,h2,h3⟩:=h
 have:=Vm hd
 rw[hl]
 have e:=Nat.mul_le_mul this h2
 omega
theorem Bx:∀{nss:List Ns},(∀n∈nss,GN n)->many nss≤12*(nss.length:Int)
 | [],_=>by decide
 | n::nss,h=>by
   have h1:=(h n v3).few
   have h2:=Bx (nss:=nss) λ m hm=>h m (x9 _ hm)
   have e:many (n::nss)=((cnt n.lps).length:Int)*(n.dds.length:Int)+many nss:=by
    unfold many;rw[List.map_cons,List.sum_cons]
   rw[e,List.length_cons];omega
theorem GP.v{nss:List Ns}(h:GP nss):PgV ⟨[1,1],nss⟩:=by
 refine⟨⟨by show 1≤2;decide,by show 2≤3;decide,λ w hw=>?_⟩,h.1,h.2.1,λ n hn=>(h.2.2 n hn).v,?_⟩
 . simp only[List.mem_cons,List.not_mem_nil,or_false]at hw
   rcases hw with rfl | rfl<;>decide
 . have:=Bx h.2.2
   have:=h.2.1
   show many nss≤60
   omega
def BW:Ct:=λ ds S W=>∃(k d:Nat),ds=[.loc k,.int d]/\Pen S k/\d≤2/\∀f S',GF d f->Upd S k S'->Pen S' k->W (.str (fS f)) S'
theorem Gv(F:Fun Ω.K "_law_form" "_law_form" pF f fd)(N0:Ω.cd=none)(B:Bi Ω.mg Ω.K)(Cq11:Cal Ω "_law_take" 2 2 cX):Ok Ω 3 f fd J3 BW:=by
 refine aG N0 (N:=KY) F (JQ B Cq11) (by kernel_rfl!) ?_
 rintro ds S W ⟨k,d,rfl,hp,hd,hw⟩ hl
 walk_at "b"
 refine⟨⟨by omega,by omega⟩,Ro (λ _ y=>∃n:Int,y=.str (nS n)/\(-3≤n/\n≤3)) (λ S'=>Upd S k S'/\Pen S' k) (by rw[aN];omega) ⟨.refl hp,hp⟩ ?_ ?_⟩
 . rintro i e S' he ⟨u,p⟩ R hR
   walk_at "b"
   refine aA p (by decide) (by decide) λ w S2 w0 w1 u2 p2=>?_
   walk_at "b"
   exact⟨GJ (dN (b:=10) (by omega) (by omega) (by decide)),hR _ _ ⟨_,rfl,by omega,by omega⟩ ⟨u.trans u2,p2⟩⟩
 rintro ys S' hlen hys ⟨u,p⟩
 obtain⟨fs,rfl,hf⟩:=Hr (f:=λ n:Int=>D.str (nS n)) hys
 rw[aN,x5]at hlen
 cases fs with
 | nil=>simp at hlen
 | cons a fs=>
   have g:GF d (a,fs):=⟨by simp at hlen;show fs.length=d;omega,hf⟩
   have hb:=g.bd hd
   exact⟨_,(a::fs).map nS,rfl,by rw[List.map_map];rfl,Dt (yP hb) (Dc hb) (by decide+kernel),hw (a,fs) _ g u p⟩
theorem G7(t:Nat)(f:Fm):(cS t [f]).cps.toList=(97+t)::64::(fS f).cps.toList:=by
 unfold cS
 rw[s64,jK]
 show jn 64 [(mkS [97+t]).cps.toList,(fS f).cps.toList]=_
 rw[aU];rfl
theorem HF(t:Nat)(f g:Fm):((((Str.ofString "set "++(⟨#[97+t]⟩:Str))++Str.ofString "@")++fS f)++Str.ofString " be ")++fS g=liS ["set",cS t [f],"be",fS g]:=by
 refine m7 ?_
 rw[li4,G7,show Str.ofString "set "=mkS [115,101,116,32] by decide+kernel,show Str.ofString "set"=mkS [115,101,116] by decide+kernel,show Str.ofString " be "=mkS [32,98,101,32] by decide+kernel,show Str.ofString "be"=mkS [98,101] by decide+kernel,s64,show(⟨#[97+t]⟩:Str)=mkS [97+t]from rfl]
 simp only[jJ,aU]
 simp
theorem IW(t:Nat)(f:Fm):((⟨#[97+t]⟩:Str)++Str.ofString "@")++fS f=cS t [f]:=by
 refine m7 ?_
 rw[G7,s64,show(⟨#[97+t]⟩:Str)=mkS [97+t]from rfl]
 simp only[jJ,aU]
 simp
theorem Oq(n:Int)(c:Str):((Str.ofString "and "++nS n)++Str.ofString " of ")++c=liS ["and",nS n,"of",c]:=by
 refine m7 ?_
 rw[li4,show Str.ofString "and "=mkS [97,110,100,32] by decide+kernel,show Str.ofString "and"=mkS [97,110,100] by decide+kernel,show Str.ofString " of "=mkS [32,111,102,32] by decide+kernel,show Str.ofString "of"=mkS [111,102] by decide+kernel]
 simp only[jJ,aU]
 simp
theorem Le:∀{t:Nat},t<2->atI (Str.ofString "ab").cps.toList (t:Int)=some (97+t)
 | 0,_=>by decide+kernel
 | 1,_=>by decide+kernel
 | _+2,h=>absurd h (by omega)
theorem cH{a b c:List D}(h:n=S.length):(S++[a,b,c])[n]? =some a:=by subst h;simp
theorem yh{a b c:List D}(h:n=S.length):(S++[a,b,c])[n+1]? =some b:=by subst h;simp
theorem zr{a b c:List D}(h:n=S.length):(S++[a,b,c])[n+2]? =some c:=by subst h;simp
theorem gY{a b c x:List D}(h:n=S.length):(S++[a,b,c]).set n x=S++[x,b,c]:=by subst h;simp
theorem Jr{a b c x:List D}(h:n=S.length):(S++[a,b,c]).set (n+1) x=S++[a,x,c]:=by subst h;simp
theorem JK{a b c x:List D}(h:n=S.length):(S++[a,b,c]).set (n+2) x=S++[a,b,x]:=by subst h;simp
def posN:Nat->List Ns->List (Nat×Nat)
 | _,[]=>[]
 | o,n::r=>(o,o+1+n.lps.length)::posN (o+(aH n).length) r
theorem rO(A B:List Ns):lns (A++B)=lns A++lns B:=by unfold lns;rw[List.flatMap_append]
theorem oK:∀(o:Nat)(A:List Ns)(n:Ns),posN o (A++[n])=posN o A++[(o+(lns A).length,o+(lns A).length+1+n.lps.length)]
 | o,[],n=>rfl
 | o,a::A,n=>by
   show(o,_)::posN (o+(aH a).length) (A++[n])=(o,_)::(posN (o+(aH a).length) A++_)
   rw[oK,show(lns (a::A)).length=(aH a).length+(lns A).length by show(aH a++lns A).length=_;rw[List.length_append],←Nat.add_assoc o (aH a).length (lns A).length]
def LD(nss:List Ns):List D:=D.str "tables 1 1"::(lns nss).map dLn
def ND(nss:List Ns):List D:=(posN 1 nss).map λ q=>D.int (q.1:Int)
def ED(nss:List Ns):List D:=(posN 1 nss).map λ q=>D.int (q.2:Int)
def Cp:Ct:=λ ds S W=>∃k:Nat,ds=[.loc k]/\Pen S k/\flat S/\∀nss S',GP nss->Upd S k S'->Pen S' k->flat S'->W (.tup [.lst (LD nss),.lst (ND nss),.lst (ED nss)]) S'
theorem aL{u v:Str}{a b:Nat}(h1:u.length≤a)(h2:v.length≤b)(h:a+b≤1000000):u.length+v.length≤1000000:=by omega
theorem cj{u v:Str}{a b:Nat}(h1:u.length≤a)(h2:v.length≤b):(u++v).length≤a+b:=by rw[len_app];omega
theorem one_le(c:Nat):(⟨#[c]⟩:Str).length≤1:=x8 1
theorem GN.bd{n:Ns}(h:GN n):NsB n:=(GP.v (nss:=[n]) ⟨by show 1≤1;decide,by show 1≤3;decide,λ m hm=>by rw[List.mem_singleton.mp hm];exact h⟩).bq.2.2 n v3
theorem Qi{nss:List Ns}(h:∀n∈nss,GN n):(LD nss).length≤1+nss.length*20:=by
 have:=K7 λ n hn=>(h n hn).bd
 unfold LD
 rw[List.length_cons,x5];omega
theorem Eb:((Str.ofString "loop "++Txt.join "," [Str.ofString "0"])++Str.ofString " to ")++Txt.join "," [Str.ofString "2"]=liS (Ln.loop (lpk 0)).w:=by decide+kernel
theorem Fg:((Str.ofString "loop "++Txt.join "," [Str.ofString "0",Str.ofString "0"])++Str.ofString " to ")++Txt.join "," [Str.ofString "2",Str.ofString "0"]=liS (Ln.loop (lpk 1)).w:=by decide+kernel
theorem Iz(i:Nat):aZ (i+1)=aZ i++[lpk i]:=by unfold aZ;rw[List.range_succ,List.map_append];rfl
theorem du:∀(o:Nat)(nss:List Ns),(posN o nss).length=nss.length
 | _,[]=>rfl
 | o,n::r=>by
   show(posN (o+(aH n).length) r).length+1=r.length+1
   rw[du]
theorem PL(nss:List Ns)(n:Ns):LD (nss++[n])=LD nss++(aH n).map dLn:=by
 unfold LD
 rw[rO,show lns [n]=aH n from List.append_nil _,List.map_append];rfl
theorem QL(nss:List Ns)(n:Ns):ND (nss++[n])=ND nss++[D.int ((LD nss).length:Int)]:=by
 unfold ND
 rw[oK,List.map_append,show(LD nss).length=1+(lns nss).length by unfold LD;rw[List.length_cons,x5,Nat.add_comm]];rfl
theorem xg(nss:List Ns)(n:Ns):ED (nss++[n])=ED nss++[D.int ((LD nss++(Ln.nest::n.lps.map .loop).map dLn).length:Int)]:=by
 unfold ED
 rw[oK,List.map_append,show(LD nss++(Ln.nest::n.lps.map .loop).map dLn).length=1+(lns nss).length+1+n.lps.length by unfold LD;simp only[List.length_append,List.length_cons,x5];omega];rfl
theorem nA{n:Nat}{S:Store}:∀{xs:List D},(∀x∈xs,ao x=true)->Rsvs n S xs xs
 | [],_=>.nil
 | x::xs,h=>.cons (.ok (h x v3)) (nA λ y hy=>h y (x9 _ hy))
abbrev frL(k a:Nat)(o4 o5 o6 o7 o8:Option D):Gam:=[some (.loc k),some (.loc a),some (.loc (a+1)),some (.loc (a+2)),o4,o5,o6,o7,o8]
theorem Ff(F:Fun Ω.K "_law_lines" "_law_lines" lY f fd)(N0:Ω.cd=none)(B:Bi Ω.mg Ω.K)(Cq11:Cal Ω "_law_take" 2 2 cX)(Cq5:Cal Ω "_law_form" 3 2 BW):Ok Ω 4 f fd Gz Cp:=by
 refine aG N0 (N:=Gp) F (Bl.frg (Gd B Cq11 Cq5)) (by kernel_rfl!) ?_
 rintro ds S W ⟨k,rfl,hp,hS,hw⟩ hl
 have rdb:∀(d:Nat)(S1:Store)(L N E:List D)(o4 o6 o7 o8:Option D)(Wf:DL.Fin),d≤2->Upd S k S1->Pen S1 k->L.length≤1000->(∀r S2 o8,GR d r->Upd S k S2->Pen S2 k->Wf.nx [some (.loc k),some (.loc S.length),some (.loc (S.length+1)),some (.loc (S.length+2)),o4,some (.int d),o6,o7,o8] (S2++[L++[dLn (.rd r)],N,E]))->(lW B Cq11 Cq5).wp [some (.loc k),some (.loc S.length),some (.loc (S.length+1)),some (.loc (S.length+2)),o4,some (.int d),o6,o7,o8] (S1++[L,N,E]) Wf:=by
  intro d S1 L N E o4 o6 o7 o8 Wf hd u p hL hn
  walk_at "b"
  refine aA (p.app _) (by decide) (by decide) λ v S2 v0 v1 u2 p2=>?_
  obtain⟨S2,rfl,u2,p2⟩:=u2.split p
  obtain⟨t,rfl⟩:=Int.eq_ofNat_of_zero_le v0
  walk_at "b"
  refine⟨_,_,97+t,rfl,rfl,by decide+kernel,Le (by omega),?_⟩
  refine⟨_,_,rfl,rfl,aL (one_le _) (b:=1) (by decide+kernel) (by decide),?_⟩
  walk_at "b"
  refine⟨rfl,k,d,rfl,p2.app _,hd,λ f S3 gf u3 p3=>?_⟩
  obtain⟨S3,rfl,u3,p3⟩:=u3.split p2
  have lf:=fK (gf.bd hd)
  refine⟨_,_,rfl,rfl,aL (cj (one_le _) (b:=1) (by decide+kernel)) lf (by decide),?_⟩
  rw[IW]
  walk_at "b"
  refine aA (p3.app _) (by decide) (by decide) λ w S4 w0 w1 u4 p4=>?_
  obtain⟨S4,rfl,u4,p4⟩:=u4.split p3
  have hb:PlB [f]:=⟨by show 1≤2;decide,λ g hg=>by rw[List.mem_singleton.mp hg];exact gf.bd hd⟩
  have sm:j0 (w-49):=dN (b:=100) (by omega) (by omega) (by decide)
  have lc:=yR (t:=t) hb
  have ln:=qG sm
  have u5:=((u.trans u2).trans u3).trans u4
  walk_at "b"
  refine⟨GJ sm,?_⟩
  refine⟨_,_,rfl,rfl,aL (a:=4) (by decide+kernel) ln (by decide),?_⟩
  refine⟨_,_,rfl,rfl,aL (cj (a:=4) (by decide+kernel) ln) (b:=4) (by decide+kernel) (by decide),?_⟩
  refine⟨_,_,rfl,rfl,aL (cj (cj (a:=4) (by decide+kernel) ln) (b:=4) (by decide+kernel)) lc (by decide),?_⟩
  rw[Oq]
  walk_at "b"
  refine⟨_,cH u5.len.symm,by omega,?_⟩
  rw[gY u5.len.symm]
  exact hn ⟨w-49,t,[f]⟩ S4 _ ⟨by show-49≤w-49/\w-49≤49;omega,by show t<2;omega,f,rfl,gf⟩ u5 p4
 have ddb:∀(d:Nat)(S1:Store)(L N E:List D)(o4 o6 o7 o8:Option D)(Wf:DL.Fin),d≤2->Upd S k S1->Pen S1 k->L.length≤900->(∀x S2 o6 o8,GD d x->Upd S k S2->Pen S2 k->Wf.nx (frL k S.length o4 (some (.int d)) o6 o7 o8) (S2++[L++(bD x).map dLn,N,E]))->(lJ B Cq11 Cq5).wp (frL k S.length o4 (some (.int d)) o6 o7 o8) (S1++[L,N,E]) Wf:=by
  intro d S1 L N E o4 o6 o7 o8 Wf hd u p hL hn
  walk_at "b"
  refine aA (p.app _) (by decide) (by decide) λ v S2 v0 v1 u2 p2=>?_
  obtain⟨S2,rfl,u2,p2⟩:=u2.split p
  obtain⟨t,rfl⟩:=Int.eq_ofNat_of_zero_le v0
  walk_at "b"
  refine⟨_,_,97+t,rfl,rfl,by decide+kernel,Le (by omega),?_⟩
  have l1:(Str.ofString "set ").length≤4:=by decide+kernel
  have l2:=cj l1 (one_le (97+t))
  have l3:=cj l2 (show(Str.ofString "@").length≤1 by decide+kernel)
  refine⟨_,_,rfl,rfl,aL l1 (one_le _) (by decide),?_⟩
  refine⟨_,_,rfl,rfl,aL l2 (b:=1) (by decide+kernel) (by decide),?_⟩
  walk_at "b"
  refine⟨rfl,k,d,rfl,p2.app _,hd,λ f S3 gf u3 p3=>?_⟩
  obtain⟨S3,rfl,u3,p3⟩:=u3.split p2
  have l4:=cj l3 (fK (gf.bd hd))
  have l5:=cj l4 (show(Str.ofString " be ").length≤4 by decide+kernel)
  refine⟨_,_,rfl,rfl,aL l3 (fK (gf.bd hd)) (by decide),?_⟩
  refine⟨_,_,rfl,rfl,aL l4 (b:=4) (by decide+kernel) (by decide),?_⟩
  walk_at "b"
  refine⟨rfl,k,d,rfl,p3.app _,hd,λ g S4 gg u4 p4=>?_⟩
  obtain⟨S4,rfl,u4,p4⟩:=u4.split p3
  refine⟨_,_,rfl,rfl,aL l5 (fK (gg.bd hd)) (by decide),?_⟩
  rw[HF]
  have u5:=((u.trans u2).trans u3).trans u4
  walk_at "b"
  refine⟨_,cH u5.len.symm,by omega,?_⟩
  rw[gY u5.len.symm]
  walk_at "b"
  refine aA (p4.app _) (by decide) (by decide) λ m S5 m0 m1 u6 p6=>?_
  obtain⟨S5,rfl,u6,p6⟩:=u6.split p4
  walk_at "b"
  refine⟨⟨by omega,by omega⟩,dR ⟨λ i G T=>∃(rds:List Rd) (S2:Store) (o6 o8:Option D),rds.length=i/\(∀r∈rds,GR d r)/\G=frL k S.length o4 (some (.int d)) o6 o7 o8/\T=S2++[L++(bD ⟨t,[f],g,rds⟩).map dLn,N,E]/\Upd S k S2/\Pen S2 k,⟨[],S5,_,_,rfl,(λ r hr=>nomatch hr),rfl,rfl,u5.trans u6,p6⟩,?_,?_⟩⟩
  . rintro i e G T he ⟨rds,S6,o6,o8,rfl,hr,rfl,rfl,u7,p7⟩
    have hi:=(z0.mp he).1
    rw[aN]at hi
    refine m6 ?_
    simp only[List.set_cons_succ,List.set_cons_zero]
    refine rdb d S6 _ N E o4 _ o7 o8 _ hd u7 p7 ?_ λ r S8 o8 gr u8 p8=>?_
    . unfold bD
      simp only[List.length_append,x5,List.length_cons];omega
    . refine⟨rds++[r],S8,_,_,by simp,λ q hq=>?_,rfl,?_,u8,p8⟩
      . rcases List.mem_append.mp hq with hq | hq
        . exact hr q hq
        . rw[List.mem_singleton.mp hq];exact gr
      . rw[List.append_assoc]
        congr 3
        unfold bD
        simp only[List.map_cons,List.map_append,List.map_nil,List.cons_append]
        rfl
  . rintro G T ⟨rds,S6,o6,o8,hlen,hr,rfl,rfl,u7,p7⟩
    rw[aN]at hlen
    exact hn ⟨t,[f],g,rds⟩ S6 o6 o8 ⟨by show t<2;omega,⟨f,rfl,gf⟩,gg,by show rds.length≤2;omega,hr⟩ u7 p7
 have nsb:∀(nss:List Ns)(S1:Store)(o4 o5 o6 o7 o8:Option D)(Wf:DL.Fin),nss.length≤2->(∀n∈nss,GN n)->Upd S k S1->Pen S1 k->(∀n S2 o5 o6 o7 o8,GN n->Upd S k S2->Pen S2 k->Wf.nx (frL k S.length o4 o5 o6 o7 o8) (S2++[LD (nss++[n]),ND (nss++[n]),ED (nss++[n])]))->(lU B Cq11 Cq5).wp (frL k S.length o4 o5 o6 o7 o8) (S1++[LD nss,ND nss,ED nss]) Wf:=by
  intro nss S1 o4 o5 o6 o7 o8 Wf hl2 hg u p hn
  have ll:=Qi hg
  have ul:=u.len
  walk_at "b"
  refine⟨_,cH u.len.symm,?_⟩
  walk_at "b"
  refine⟨_,yh u.len.symm,?_,?_⟩
  . unfold ND;rw[x5,du];omega
  rw[Jr u.len.symm]
  walk_at "b"
  refine⟨_,cH u.len.symm,by omega,?_⟩
  rw[gY u.len.symm]
  walk_at "b"
  refine aA (p.app _) (by decide) (by decide) λ v S2 v0 v1 u2 p2=>?_
  obtain⟨S2,rfl,u2,p2⟩:=u2.split p
  have u3:=u.trans u2
  obtain⟨d,hd⟩:∃d:Nat,1+v=(d:Int):=⟨(1+v).toNat,by omega⟩
  have hd2:d=1∨d=2:=by omega
  walk_at "b"
  rw[hd]
  generalize hN:ND nss++[D.int ((LD nss).length:Int)]=N
  refine⟨⟨by omega,by omega⟩,dR ⟨λ i G T=>∃o6:Option D,G=frL k S.length o4 (some (.int d)) o6 o7 o8/\T=S2++[LD nss++(Ln.nest::(aZ i).map .loop).map dLn,N,ED nss],⟨_,rfl,rfl⟩,?_,?_⟩⟩
  . rintro i e G T he ⟨o6,rfl,rfl⟩
    obtain⟨hi,rfl⟩:=oY he
    have hi2:i=0∨i=1:=by omega
    refine m6 ?_
    simp only[List.set_cons_succ,List.set_cons_zero]
    have fin:∀Q:D,Q=dLn (.loop (lpk i))->LD nss++(Ln.nest::(aZ i).map .loop).map dLn++[Q]=LD nss++(Ln.nest::(aZ (i+1)).map .loop).map dLn:=λ Q e=>by
     rw[e,Iz,List.append_assoc]
     simp only[List.map_cons,List.map_append,List.map_nil,List.cons_append]
    have ln:(LD nss++(Ln.nest::(aZ i).map .loop).map dLn).length≤900:=by
     have:(aZ i).length=i:=by unfold aZ;simp
     simp only[List.length_append,x5,List.length_cons];omega
    generalize LD nss++(Ln.nest::(aZ i).map .loop).map dLn=L at*
    rcases hi2 with rfl | rfl
    . walk_at "b"
      refine⟨[D.str "0"],_,rfl,rfl,by decide,by decide,?_⟩
      refine⟨_,[Str.ofString "0"],rfl,rfl,by decide+kernel,?_⟩
      refine⟨_,_,rfl,rfl,by decide+kernel,?_⟩
      walk_at "b"
      refine⟨_,_,rfl,rfl,by decide+kernel,?_⟩
      walk_at "b"
      refine⟨[D.str "0"],_,rfl,rfl,by decide,by decide,?_⟩
      refine⟨[D.str "2"],_,rfl,rfl,by decide,?_⟩
      refine⟨_,[Str.ofString "2"],rfl,rfl,by decide+kernel,?_⟩
      refine⟨_,_,rfl,rfl,by decide+kernel,?_⟩
      rw[Eb]
      walk_at "b"
      refine⟨_,cH u3.len.symm,by omega,?_⟩
      rw[gY u3.len.symm]
      exact⟨_,rfl,by rw[fin _ rfl]⟩
    . walk_at "b"
      refine⟨[D.str "0"],_,rfl,rfl,by decide,by decide,?_⟩
      refine⟨_,[Str.ofString "0",Str.ofString "0"],rfl,rfl,by decide+kernel,?_⟩
      refine⟨_,_,rfl,rfl,by decide+kernel,?_⟩
      walk_at "b"
      refine⟨_,_,rfl,rfl,by decide+kernel,?_⟩
      walk_at "b"
      refine⟨[D.str "0"],_,rfl,rfl,by decide,by decide,?_⟩
      refine⟨[D.str "2"],_,rfl,rfl,by decide,?_⟩
      refine⟨_,[Str.ofString "2",Str.ofString "0"],rfl,rfl,by decide+kernel,?_⟩
      refine⟨_,_,rfl,rfl,by decide+kernel,?_⟩
      rw[Fg]
      walk_at "b"
      refine⟨_,cH u3.len.symm,by omega,?_⟩
      rw[gY u3.len.symm]
      exact⟨_,rfl,by rw[fin _ rfl]⟩
  . rintro G T ⟨o6,rfl,rfl⟩
    rw[aN,show Int.toNat (d:Int)=d from rfl]
    have hlp:(aZ d).length=d:=by unfold aZ;simp
    have hL2:(LD nss++(Ln.nest::(aZ d).map .loop).map dLn).length≤100:=by
     simp only[List.length_append,x5,List.length_cons];omega
    walk_at "b"
    refine⟨_,cH u3.len.symm,?_⟩
    walk_at "b"
    refine⟨_,zr u3.len.symm,by unfold ED;rw[x5,du];omega,?_⟩
    rw[JK u3.len.symm]
    walk_at "b"
    refine aA (p2.app _) (by decide) (by decide) λ m S5 m0 m1 u6 p6=>?_
    obtain⟨S5,rfl,u6,p6⟩:=u6.split p2
    walk_at "b"
    refine⟨⟨by omega,by omega⟩,dR ⟨λ i G T=>∃(dds:List Dd) (S3:Store) (o6 o7 o8:Option D),dds.length=i/\(∀x∈dds,GD d x)/\G=frL k S.length o4 (some (.int d)) o6 o7 o8/\T=S3++[LD nss++(aH ⟨aZ d,dds⟩).map dLn,N,ED (nss++[⟨aZ d,dds⟩])]/\Upd S k S3/\Pen S3 k,⟨[],S5,_,_,_,rfl,(λ r hr=>nomatch hr),rfl,?_,u3.trans u6,p6⟩,?_,?_⟩⟩
    . rw[xg,show aH ⟨aZ d,[]⟩=Ln.nest::(aZ d).map .loop from congrArg (Ln.nest::·) (List.append_nil _)]
    . rintro i e G T he ⟨dds,S6,o6,o7,o8,rfl,hr,rfl,rfl,u7,p7⟩
      have hi:=(z0.mp he).1
      rw[aN]at hi
      refine m6 ?_
      simp only[List.set_cons_succ,List.set_cons_zero]
      have hz:(aH ⟨aZ d,dds⟩).length≤300:=by
       have h1:=iU (f:=bD) (l:=dds) (B:=3) λ x hx=>by
        have:=(hr x hx).2.2.2.1
        unfold bD;rw[List.length_cons,x5];omega
       unfold aH
       simp only[List.length_append,x5,List.length_cons];omega
      refine ddb d S6 _ N _ o4 o6 _ o8 _ (by omega) u7 p7 (by rw[List.length_append,x5];omega) λ x S8 o6 o8 gx u8 p8=>?_
      refine⟨dds++[x],S8,_,_,_,by simp,λ q hq=>?_,rfl,?_,u8,p8⟩
      . rcases List.mem_append.mp hq with hq | hq
        . exact hr q hq
        . rw[List.mem_singleton.mp hq];exact gx
      . rw[xg,xg,List.append_assoc,←List.map_append]
        congr 4
        unfold aH
        simp only[List.flatMap_append,List.flatMap_cons,List.flatMap_nil,List.append_nil,List.cons_append,List.append_assoc]
    . rintro G T ⟨dds,S6,o6,o7,o8,hlen,hr,rfl,rfl,u7,p7⟩
      rw[aN]at hlen
      rw[←PL,←hN,←QL nss ⟨aZ d,dds⟩]
      exact hn ⟨aZ d,dds⟩ S6 _ o6 o7 o8 ⟨d,hd2,rfl,by show 1≤dds.length;omega,by show dds.length≤3;omega,hr⟩ u7 p7
 walk_at "b"
 have e0:S++[[D.str "tables 1 1"]]++[[]]++[[]]=S++[LD [],ND [],ED []]:=by rw[List.append_assoc,List.append_assoc];rfl
 have e1:(S++[[D.str "tables 1 1"]]).length=S.length+1:=by simp
 have e2:(S++[[D.str "tables 1 1"]]++[[]]).length=S.length+2:=by simp
 rw[e0,e1,e2]
 refine aA (hp.app _) (by decide) (by decide) λ v S2 v0 v1 u2 p2=>?_
 obtain⟨S2,rfl,u2,p2⟩:=u2.split hp
 walk_at "b"
 refine⟨⟨by omega,by omega⟩,dR ⟨λ i G T=>∃(nss:List Ns) (S3:Store) (o4 o5 o6 o7 o8:Option D),nss.length=i/\(∀n∈nss,GN n)/\G=frL k S.length o4 o5 o6 o7 o8/\T=S3++[LD nss,ND nss,ED nss]/\Upd S k S3/\Pen S3 k,⟨[],S2,_,_,_,_,_,rfl,(λ r hr=>nomatch hr),rfl,rfl,u2,p2⟩,?_,?_⟩⟩
 . rintro i e G T he ⟨nss,S3,o4,o5,o6,o7,o8,rfl,hg,rfl,rfl,u3,p3⟩
   have hi:=(z0.mp he).1
   rw[aN]at hi
   refine m6 ?_
   simp only[List.set_cons_succ,List.set_cons_zero]
   refine nsb nss S3 _ o5 o6 o7 o8 _ (by omega) hg u3 p3 λ n S4 o5 o6 o7 o8 gn u4 p4=>?_
   refine⟨nss++[n],S4,_,_,_,_,_,by simp,λ m hm=>?_,rfl,rfl,u4,p4⟩
   rcases List.mem_append.mp hm with hm | hm
   . exact hg m hm
   . rw[List.mem_singleton.mp hm];exact gn
 . rintro G T ⟨nss,S3,o4,o5,o6,o7,o8,hlen,hg,rfl,rfl,u3,p3⟩
   rw[aN]at hlen
   have fS:=u3.flat hS
   walk_at "b"
   have nl1:Rsvs S3.length (S3++[LD nss,ND nss,ED nss]) (LD nss) (LD nss):=nA λ d hd=>by
    rcases List.mem_cons.mp hd with rfl | hd
    . rfl
    . obtain⟨l,_,rfl⟩:=List.mem_map.mp hd;rfl
   have nl2:Rsvs S3.length (S3++[LD nss,ND nss,ED nss]) (ND nss) (ND nss):=nA λ d hd=>by
    obtain⟨l,_,rfl⟩:=List.mem_map.mp hd;rfl
   have nl3:Rsvs S3.length (S3++[LD nss,ND nss,ED nss]) (ED nss) (ED nss):=nA λ d hd=>by
    obtain⟨l,_,rfl⟩:=List.mem_map.mp hd;rfl
   have ul:=u3.len
   refine .inr ⟨_,[LD nss,ND nss,ED nss],S3,rfl,by omega,fS,.tup (.cons (.loc (by omega) (cH ul.symm) nl1) (.cons (.loc (by omega) (yh ul.symm) nl2) (.cons (.loc (by omega) (zr ul.symm) nl3) .nil))),?_⟩
   exact hw nss S3 ⟨by omega,by omega,hg⟩ u3 p3 fS
def Hi:Ct:=λ ds S W=>∃k:Nat,ds=[.loc k]/\Pen S k/\∀n S',n∈fu->Upd S k S'->Pen S' k->W (.str n) S'
def Hk:Ct:=λ ds S W=>∃k:Nat,ds=[.loc k]/\Pen S k/\∀n S',n∈iD->Upd S k S'->Pen S' k->W (.str n) S'
def IK:Ct:=λ ds S W=>∃(k:Nat) (n:Str),ds=[.loc k,.str n]/\Pen S k/\n∈fu/\∀f S',bR f=true->Upd S k S'->Pen S' k->W (.str f) S'
def FJ:Ct:=λ ds S W=>∃k:Nat,ds=[.loc k]/\Pen S k/\∀f S',bR f=true->Upd S k S'->Pen S' k->W (.str f) S'
theorem yE{n:Str}(h:n∈fu):n.length≤10:=by
 have e:(fu.all λ n=>decide (n.length≤10))=true:=by decide+kernel
 exact of_decide_eq_true (List.all_eq_true.mp e n h)
theorem G8{n:Str}(h:n∈iD):n.length≤10:=by
 have e:(iD.all λ n=>decide (n.length≤10))=true:=by decide+kernel
 exact of_decide_eq_true (List.all_eq_true.mp e n h)
theorem bB{ls:List Str}{v:Int}(h0:0≤v)(h1:v<(ls.length:Int)):∃s,s∈ls/\atI (ls.map D.str) v=some (.str s):=by
 obtain⟨y,g1,g2⟩:=yQ (ds:=ls.map D.str) h0 (by rw[x5];exact h1)
 obtain⟨s,hs,rfl⟩:=List.mem_map.mp (y8 g2)
 exact⟨s,hs,g1⟩
theorem qd(F:Fun Ω.K "_law_bad_number" "_law_bad_number" eZ f fd)(N0:Ω.cd=none)(Cq11:Cal Ω "_law_take" 2 2 cX):Ok Ω 3 f fd uL Hi:=by
 refine aG N0 (N:=uC) F (sH Cq11) (by kernel_rfl!) ?_
 rintro ds S W ⟨k,rfl,hp,hw⟩ hl
 walk_at "b"
 refine aA hp (by decide) (by decide) λ v S1 v0 v1 u1 p1=>?_
 walk_at "n"
 obtain⟨s,hs,g⟩:=bB (ls:=fu) v0 v1
 exact⟨_,g,hw s S1 hs u1 p1⟩
theorem vY(F:Fun Ω.K "_law_bad_cell" "_law_bad_cell" il f fd)(N0:Ω.cd=none)(Cq11:Cal Ω "_law_take" 2 2 cX):Ok Ω 3 f fd xq Hk:=by
 refine aG N0 (N:=xM) F (zP Cq11) (by kernel_rfl!) ?_
 rintro ds S W ⟨k,rfl,hp,hw⟩ hl
 walk_at "b"
 refine aA hp (by decide) (by decide) λ v S1 v0 v1 u1 p1=>?_
 walk_at "n"
 obtain⟨s,hs,g⟩:=bB (ls:=iD) v0 v1
 exact⟨_,g,hw s S1 hs u1 p1⟩
theorem tK(F:Fun Ω.K "_law_bad_first" "_law_bad_first" gj f fd)(N0:Ω.cd=none)(Cq11:Cal Ω "_law_take" 2 2 cX):Ok Ω 3 f fd vO IK:=by
 refine aG N0 (N:=vM) F (wD Cq11) (by kernel_rfl!) ?_
 rintro ds S W ⟨k,n,rfl,hp,hn,hw⟩ hl
 have ln:=yE hn
 walk_at "b"
 refine⟨_,_,rfl,rfl,aL (a:=10) (by decide+kernel) ln (by decide),?_⟩
 walk_at "b"
 refine aA hp (by decide) (by decide) λ v S1 v0 v1 u1 p1=>?_
 walk_at "n"
 obtain⟨s,hs,g⟩:=bB (ls:=yg n) v0 v1
 exact⟨_,g,hw s S1 (Hv n hn s hs) u1 p1⟩
theorem vq(F:Fun Ω.K "_law_bad_line" "_law_bad_line" gO f fd)(N0:Ω.cd=none)(B:Bi Ω.mg Ω.K)(Cq11:Cal Ω "_law_take" 2 2 cX)(Cq3:Cal Ω "_law_bad_number" 3 1 Hi)(Cq0:Cal Ω "_law_bad_cell" 3 1 Hk)(Cq1:Cal Ω "_law_bad_first" 3 2 IK):Ok Ω 4 f fd zR FJ:=by
 refine aG N0 (N:=z8) F (zp B Cq11 Cq3 Cq0 Cq1) (by kernel_rfl!) ?_
 rintro ds S W ⟨k,rfl,hp,hw⟩ hl
 walk_at "b"
 refine aA hp (by decide) (by decide) λ v S1 v0 v1 u1 p1=>?_
 walk_at "b"
 refine⟨rfl,k,rfl,p1,λ n S2 hn u2 p2=>?_⟩
 walk_at "b"
 refine⟨rfl,k,rfl,p2,λ c S3 hc u3 p3=>?_⟩
 walk_at "b"
 refine⟨rfl,k,n,rfl,p3,hn,λ f S4 hf u4 p4=>?_⟩
 have ln:=yE hn
 have lc:=G8 hc
 have u5:=((u1.trans u2).trans u3).trans u4
 have ok:=λ j hj=>Jd hn hc hf j hj
 have hv:v=0∨v=1∨v=2∨v=3∨v=4∨v=5∨v=6∨v=7:=by omega
 rcases hv with rfl | rfl | rfl | rfl | rfl | rfl | rfl | rfl
 . walk_at "b"
   refine aA p4 (by simp) (by simp) λ v S5 v0 v1 u6 p6=>?_
   walk_at "n"
   obtain⟨s,hs,g⟩:=bB (ls:=bL n c f 0) v0 v1
   exact⟨_,g,hw s S5 (ok 0 (by decide) s hs) (u5.trans u6) p6⟩
 . walk_at "b"
   refine aA p4 (by simp) (by simp) λ v S5 v0 v1 u6 p6=>?_
   walk_at "n"
   obtain⟨s,hs,g⟩:=bB (ls:=bL n c f 1) v0 v1
   exact⟨_,g,hw s S5 (ok 1 (by decide) s hs) (u5.trans u6) p6⟩
 . walk_at "b"
   have l1:=cj (show(Str.ofString "loop ").length≤10 by decide+kernel) ln
   have l2:=cj (show(Str.ofString "loop 0,").length≤10 by decide+kernel) ln
   refine⟨_,_,rfl,rfl,aL (a:=10) (by decide+kernel) ln (by decide),?_⟩
   refine⟨_,_,rfl,rfl,aL l1 (b:=10) (by decide+kernel) (by decide),?_⟩
   walk_at "b"
   refine⟨_,_,rfl,rfl,aL (a:=10) (by decide+kernel) ln (by decide),?_⟩
   walk_at "b"
   refine⟨_,_,rfl,rfl,aL (a:=10) (by decide+kernel) ln (by decide),?_⟩
   refine⟨_,_,rfl,rfl,aL l2 (b:=10) (by decide+kernel) (by decide),?_⟩
   walk_at "b"
   refine aA p4 (by simp) (by simp) λ v S5 v0 v1 u6 p6=>?_
   walk_at "n"
   obtain⟨s,hs,g⟩:=bB (ls:=bL n c f 2) v0 v1
   exact⟨_,g,hw s S5 (ok 2 (by decide) s hs) (u5.trans u6) p6⟩
 . walk_at "b"
   refine aA p4 (by simp) (by simp) λ v S5 v0 v1 u6 p6=>?_
   walk_at "n"
   obtain⟨s,hs,g⟩:=bB (ls:=bL n c f 3) v0 v1
   exact⟨_,g,hw s S5 (ok 3 (by decide) s hs) (u5.trans u6) p6⟩
 . walk_at "b"
   have l1:=cj (show(Str.ofString "set ").length≤10 by decide+kernel) lc
   have l2:=cj (show(Str.ofString "and ").length≤10 by decide+kernel) ln
   refine⟨_,_,rfl,rfl,aL (a:=10) (by decide+kernel) lc (by decide),?_⟩
   refine⟨_,_,rfl,rfl,aL l1 (b:=10) (by decide+kernel) (by decide),?_⟩
   walk_at "b"
   refine⟨_,_,rfl,rfl,aL (a:=20) (by decide+kernel) ln (by decide),?_⟩
   walk_at "b"
   refine⟨_,_,rfl,rfl,aL (a:=10) (by decide+kernel) ln (by decide),?_⟩
   refine⟨_,_,rfl,rfl,aL l2 (b:=10) (by decide+kernel) (by decide),?_⟩
   walk_at "b"
   refine aA p4 (by simp) (by simp) λ v S5 v0 v1 u6 p6=>?_
   walk_at "n"
   obtain⟨s,hs,g⟩:=bB (ls:=bL n c f 4) v0 v1
   exact⟨_,g,hw s S5 (ok 4 (by decide) s hs) (u5.trans u6) p6⟩
 . walk_at "b"
   refine⟨_,_,rfl,rfl,aL (a:=20) (by decide+kernel) lc (by decide),?_⟩
   walk_at "b"
   refine aA p4 (by simp) (by simp) λ v S5 v0 v1 u6 p6=>?_
   walk_at "n"
   obtain⟨s,hs,g⟩:=bB (ls:=bL n c f 5) v0 v1
   exact⟨_,g,hw s S5 (ok 5 (by decide) s hs) (u5.trans u6) p6⟩
 . walk_at "b"
   refine aA p4 (by simp) (by simp) λ v S5 v0 v1 u6 p6=>?_
   walk_at "n"
   obtain⟨s,hs,g⟩:=bB (ls:=bL n c f 6) v0 v1
   exact⟨_,g,hw s S5 (ok 6 (by decide) s hs) (u5.trans u6) p6⟩
 . walk_at "b"
   refine aA p4 (by simp) (by simp) λ v S5 v0 v1 u6 p6=>?_
   walk_at "n"
   obtain⟨s,hs,g⟩:=bB (ls:=bL n c f 7) v0 v1
   exact⟨_,g,hw s S5 (ok 7 (by decide) s hs) (u5.trans u6) p6⟩
def LS(nss:List Ns):List Str:=Str.ofString "tables 1 1"::(lns nss).map λ l=>liS l.w
theorem Vi(nss:List Ns):LD nss=(LS nss).map D.str:=by
 unfold LD LS
 rw[List.map_cons,List.map_map];rfl
def GL(s:Str):Prop:=NN s/\s.length≤1552
def dw(ls:List Str):Prop:=gq (Txt.join "\n" ls)=none/\(∀s∈ls,s.length≤1552)/\ls.length≤63/\ls≠[]
theorem Vv{l:Ln}(h:LnB l):NN (liS l.w):=λ hc=>by
 unfold liS at hc
 rw[s32]at hc
 rcases mem_join hc with hc | ⟨y,hy,hc⟩
 . omega
 . have:=Bv h hy hc;omega
theorem GP.ln{nss:List Ns}(h:GP nss):∀l∈lns nss,LnB l:=Ua λ n hn=>(h.2.2 n hn).bd
theorem GP.gl{nss:List Ns}(h:GP nss):∀s∈LS nss,GL s:=λ s hs=>by
 rcases List.mem_cons.mp hs with rfl | hs
 . exact⟨by unfold NN;decide+kernel,by decide+kernel⟩
 . obtain⟨l,hl,rfl⟩:=List.mem_map.mp hs
   exact⟨Vv (h.ln l hl),R0 (h.ln l hl)⟩
theorem GP.len{nss:List Ns}(h:GP nss):(LS nss).length≤61/\2≤(LS nss).length:=by
 have h1:=K7 λ n hn=>(h.2.2 n hn).bd
 have h2:=h.2.1
 unfold LS
 rw[List.length_cons,x5]
 refine⟨by omega,?_⟩
 match nss,h.1 with
 | n::r,_=>
   show 2≤(aH n++lns r).length+1
   unfold aH
   simp only[List.length_append,List.length_cons];omega
theorem Gg{t:List Str}(hw:wsQ (spW h)=none)(g:∀s∈h::t,GL s)(hl:(h::t).length≤63):dw (h::t):=by
 refine⟨?_,λ s hs=>(g s hs).2,hl,by simp⟩
 rw[jV λ s hs=>(g s hs).1]
 unfold pR
 rw[show wsQ (Txt.split h " ")=none from hw]
theorem N5{T C:List Str}(hb:∀st,foldQ [] (T.map spW)=some st->stQ st (spW b)=none)(g:∀s∈h::(T++b::C),GL s)(hl:(h::(T++b::C)).length≤63):dw (h::(T++b::C)):=by
 refine⟨?_,λ s hs=>(g s hs).2,hl,by simp⟩
 rw[jV λ s hs=>(g s hs).1]
 refine Jk ?_
 show foldQ [] ((T++b::C).map spW)=none
 rw[List.map_append,List.map_cons]
 exact Jw hb
theorem mD{nss:List Ns}{a:Nat}(h:GP nss)(ha:1≤a)(hc:a≤c)(gb:GL b)(hb:∀st,foldQ [] (((LS nss).tail.take (a-1)).map spW)=some st->stQ st (spW b)=none):dw ((LS nss).take a++[b]++(LS nss).drop c):=by
 obtain⟨a,rfl⟩:∃a',a=a'+1:=⟨a-1,by omega⟩
 have e:(LS nss).take (a+1)++[b]++(LS nss).drop c=Str.ofString "tables 1 1"::((LS nss).tail.take a++b::(LS nss).drop c):=by
  unfold LS
  rw[List.take_succ_cons,List.tail_cons,List.append_assoc];rfl
 have hl:=h.len
 rw[e]
 refine N5 hb (λ s hs=>?_) ?_
 . rw[←e]at hs
   rcases List.mem_append.mp hs with hs | hs
   . rcases List.mem_append.mp hs with hs | hs
     . exact h.gl s (List.mem_of_mem_take hs)
     . rw[List.mem_singleton.mp hs];exact gb
   . exact h.gl s (List.mem_of_mem_drop hs)
 . rw[←e]
   simp only[List.length_append,List.length_take,List.length_drop,List.length_cons,List.length_nil];omega
def mJ:Ln->Bool
 | .deed _=>true
 | .rd _=>true
 | _=>false
theorem Ry{n m:Nq}{l:Ln}(hd:mJ l=true)(h:lnQ n l.w=some m):m.2≠[]:=by
 obtain⟨L,E⟩:=n
 cases l with
 | nest=>cases hd
 | loop l=>cases hd
 | deed x=>
   unfold Ln.w lnQ at h
   dsimp only at h
   rw[show(Str.ofString "set"==Str.ofString "loop")=false by decide+kernel,beq_self_eq_true]at h
   have h:(match cO _ with | none=>none | some d=>some (L,d::E))=some m:=h
   split at h
   . cases h
   . cases h;simp
 | rd r=>
   unfold Ln.w lnQ at h
   dsimp only at h
   rw[show(Str.ofString "and"==Str.ofString "loop")=false by decide+kernel,show(Str.ofString "and"==Str.ofString "set")=false by decide+kernel,beq_self_eq_true]at h
   cases E with
   | nil=>cases h
   | cons d A=>
     have h:(match gG _ with | none=>none | some q=>some (L,addQ d q::A))=some m:=h
     split at h
     . cases h
     . cases h;simp
theorem Sd{n m:Nq}{l:Lp}(h:lnQ n (Ln.loop l).w=some m):m.2=[]:=by
 obtain⟨L,E⟩:=n
 cases E with
 | nil=>
   unfold Ln.w lnQ at h
   dsimp only at h
   rw[beq_self_eq_true]at h
   have h:(match dO _ with | none=>none | some l=>some (L++[l],([]:List Dq)))=some m:=h
   split at h
   . cases h
   . cases h;rfl
 | cons d A=>
   unfold Ln.w lnQ at h
   dsimp only at h
   rw[beq_self_eq_true,show(Str.ofString "loop"==Str.ofString "set")=false by decide+kernel,show(Str.ofString "loop"==Str.ofString "and")=false by decide+kernel]at h
   cases h
theorem Vc{z s:List Nq}{l:Ln}(hd:mJ l=true)(h:stQ z l.w=some s):∃m A,s=m::A/\m.2≠[]:=by
 have h0:(l.w==[Str.ofString "nest"])=false:=by
  cases l with
  | nest=>cases hd
  | loop l=>cases hd
  | deed x=>exact iY _ _ _ _ _
  | rd r=>exact iY _ _ _ _ _
 cases z with
 | nil=>rw[jy h0]at h;cases h
 | cons n A=>
   rw[bQ h0]at h
   cases e:lnQ n l.w with
   | none=>rw[e]at h;cases h
   | some m=>
     rw[e]at h
     cases h
     exact⟨m,A,rfl,Ry hd e⟩
theorem Ve{z s:List Nq}{l:Ln}(hd:mJ l=false)(h:stQ z l.w=some s):∃m A,s=m::A/\m.2=[]:=by
 cases l with
 | nest=>
   unfold stQ at h
   rw[if_pos (by decide+kernel)]at h
   cases h
   exact⟨_,z,rfl,rfl⟩
 | loop l=>
   have h0:((Ln.loop l).w==[Str.ofString "nest"])=false:=iY _ _ _ _ _
   cases z with
   | nil=>rw[jy h0]at h;cases h
   | cons n A=>
     rw[bQ h0]at h
     cases e:lnQ n (Ln.loop l).w with
     | none=>rw[e]at h;cases h
     | some m=>
       rw[e]at h
       cases h
       exact⟨m,A,rfl,Sd e⟩
 | deed x=>cases hd
 | rd r=>cases hd
theorem RM:spW "loop 0 to 1"=[Str.ofString "loop",Str.ofString "0",Str.ofString "to",Str.ofString "1"]:=by decide+kernel
theorem T9:spW "and 1 of a@0"=[Str.ofString "and",Str.ofString "1",Str.ofString "of",Str.ofString "a@0"]:=by decide+kernel
theorem Nx{m:Nq}{A:List Nq}(h:m.2≠[]):stQ (m::A) (spW "loop 0 to 1")=none:=by
 obtain⟨L,E⟩:=m
 rw[RM,bQ (iY _ _ _ _ _)]
 cases E with
 | nil=>exact absurd rfl h
 | cons d B=>
   unfold lnQ
   dsimp only
   rw[beq_self_eq_true,show(Str.ofString "loop"==Str.ofString "set")=false by decide+kernel,show(Str.ofString "loop"==Str.ofString "and")=false by decide+kernel]
   rfl
theorem RK{m:Nq}{A:List Nq}(h:m.2=[]):stQ (m::A) (spW "and 1 of a@0")=none:=by
 obtain⟨L,E⟩:=m
 have h:E=[]:=h
 subst h
 rw[T9,bQ (iY _ _ _ _ _)]
 unfold lnQ
 dsimp only
 rw[show(Str.ofString "and"==Str.ofString "loop")=false by decide+kernel,show(Str.ofString "and"==Str.ofString "set")=false by decide+kernel,beq_self_eq_true]
 rfl
theorem ahead{nss:List Ns}{l:Ln}(h:GP nss)(hj:(lns nss)[j]? =some l){st:List Nq}(hs:foldQ [] (((LS nss).tail.take (j+1)).map spW)=some st):∃z,stQ z l.w=some st:=by
 have e:((LS nss).tail.take (j+1)).map spW=((lns nss).take j).map Ln.w++[l.w]:=by
  show(((lns nss).map λ l=>liS l.w).take (j+1)).map spW=_
  rw[←List.map_take,List.map_map,←List.map_singleton (f:=Ln.w) (a:=l),←List.map_append,←bN hj]
  refine List.map_congr_left λ x hx=>?_
  exact rD (h.ln x (List.mem_of_mem_take hx))
 rw[e]at hs
 exact Gy hs
theorem rW:GL "loop 0 to 1":=⟨by unfold NN;decide+kernel,by decide+kernel⟩
theorem R1:GL "and 1 of a@0":=⟨by unfold NN;decide+kernel,by decide+kernel⟩
theorem J2{nss:List Ns}{l:Ln}(h:GP nss)(hj:(lns nss)[j]? =some l)(hd:mJ l=true):dw ((LS nss).take (j+2)++[Str.ofString "loop 0 to 1"]++(LS nss).drop (j+2)):=
 mD h (by omega) (x8 _) rW λ st hs=>by
  obtain⟨z,hz⟩:=ahead h hj hs
  obtain⟨m,A,rfl,hm⟩:=Vc hd hz
  exact Nx hm
theorem Mq{nss:List Ns}{l:Ln}(h:GP nss)(hj:(lns nss)[j]? =some l)(hd:mJ l=false):dw ((LS nss).take (j+2)++[Str.ofString "and 1 of a@0"]++(LS nss).drop (j+2)):=
 mD h (by omega) (x8 _) R1 λ st hs=>by
  obtain⟨z,hz⟩:=ahead h hj hs
  obtain⟨m,A,rfl,hm⟩:=Ve hd hz
  exact RK hm
theorem m5(h:bR b=true):tX (spW b)=true/\GL b/\((Txt.slice b none (some 6)=="tables")=true->wsQ (spW b)=none):=by
 unfold bR at h
 obtain⟨h1,h⟩:=aa h
 obtain⟨h2,h⟩:=aa h
 obtain⟨h3,h4⟩:=aa h
 refine⟨h1,⟨λ hc=>?_,?_⟩,λ z=>?_⟩
 . rw[List.contains_iff_mem.mpr hc]at h2;cases h2
 . have:=of_decide_eq_true h3;omega
 . rw[z]at h4
   exact Option.isNone_iff_eq_none.mp h4
theorem xN{nss:List Ns}{a:Nat}(h:GP nss)(ha:1≤a)(hc:a≤c)(hb:bR b=true):dw ((LS nss).take a++[b]++(LS nss).drop c):=
 mD h ha hc (m5 hb).2.1 λ st _=>Cu (m5 hb).1 st
theorem qX{nss:List Ns}(h:GP nss)(gb:GL b)(hb:wsQ (spW b)=none):dw (b::(LS nss).drop c):=by
 have hl:=h.len
 refine Gg hb (λ s hs=>?_) (by rw[List.length_cons,List.length_drop];omega)
 rcases List.mem_cons.mp hs with rfl | hs
 . exact gb
 . exact h.gl s (List.mem_of_mem_drop hs)
theorem tL:∀(o:Nat)(A:List Ns)(m:Ns)(C:List Ns),(posN o (A++m::C))[A.length]? =some (o+(lns A).length,o+(lns A).length+1+m.lps.length)
 | o,[],m,C=>rfl
 | o,a::A,m,C=>by
   show(posN (o+(aH a).length) (A++m::C))[A.length]? =_
   rw[tL,show(lns (a::A)).length=(aH a).length+(lns A).length by show(aH a++lns A).length=_;rw[List.length_append],←Nat.add_assoc o (aH a).length (lns A).length]
theorem Pq{nss:List Ns}(h:i<nss.length):∃A m C,nss=A++m::C/\A.length=i:=by
 refine⟨nss.take i,nss[i],nss.drop (i+1),?_,by rw[List.length_take];omega⟩
 rw[←List.drop_eq_getElem_cons h,List.take_append_drop]
theorem DG(A:List Ns)(m:Ns)(C:List Ns):(ND (A++m::C))[A.length]? =some (.int ((1+(lns A).length:Nat):Int)):=by
 unfold ND
 rw[x6,tL];rfl
theorem jZ(A:List Ns)(m:Ns)(C:List Ns):(ED (A++m::C))[A.length]? =some (.int ((1+(lns A).length+1+m.lps.length:Nat):Int)):=by
 unfold ED
 rw[x6,tL];rfl
theorem mV(A:List Ns)(m:Ns)(C:List Ns):lns (A++m::C)=lns A++(aH m++lns C):=by
 rw[rO];rfl
theorem ye(A:List Ns)(m:Ns)(C:List Ns):(ND (A++m::C)++[D.int ((LS (A++m::C)).length:Int)])[A.length+1]? =some (.int ((1+(lns A).length+(aH m).length:Nat):Int)):=by
 have e:(LS (A++m::C)).length=1+(lns A).length+(aH m).length+(lns C).length:=by
  unfold LS
  rw[mV]
  simp only[List.length_cons,x5,List.length_append];omega
 cases C with
 | nil=>
   have hl:(ND (A++[m])).length=A.length+1:=by unfold ND;rw[x5,du];simp
   rw[List.getElem?_append_right (by omega),hl,e]
   simp[lns]
 | cons c C=>
   have e1:A++m::c::C=(A++[m])++c::C:=by simp
   have e2:A.length+1=(A++[m]).length:=by simp
   rw[List.getElem?_append_left (by unfold ND;rw[x5,du];simp),e1,e2,DG,rO]
   rw[show lns [m]=aH m from List.append_nil _,List.length_append,Nat.add_assoc]
theorem Ss{m:Ns}{l:Ln}(h:l∈m.dds.flatMap bD):mJ l=true:=by
 obtain⟨x,_,hl⟩:=List.mem_flatMap.mp h
 rcases List.mem_cons.mp hl with rfl | hl
 . rfl
 . obtain⟨r,_,rfl⟩:=List.mem_map.mp hl;rfl
theorem Uz{A C:List Ns}{m:Ns}(h1:(lns A).length+1+m.lps.length≤j)(h2:j<(lns A).length+(aH m).length):∃l,(lns (A++m::C))[j]? =some l/\mJ l=true:=by
 have e:(aH m).length=1+m.lps.length+(m.dds.flatMap bD).length:=by
  unfold aH
  simp only[List.length_cons,x5,List.length_append];omega
 obtain⟨i,rfl⟩:∃i,j=(lns A).length+(1+m.lps.length+i):=⟨j-((lns A).length+1+m.lps.length),by omega⟩
 have hi:i<(m.dds.flatMap bD).length:=by omega
 refine⟨(m.dds.flatMap bD)[i],?_,Ss (List.getElem_mem hi)⟩
 rw[mV,List.getElem?_append_right (by omega),List.getElem?_append_left (by omega)]
 unfold aH
 rw[show(lns A).length+(1+m.lps.length+i)-(lns A).length=(m.lps.length+i)+1 by omega,List.getElem?_cons_succ,List.getElem?_append_right (by rw[x5];omega),x5,show m.lps.length+i-m.lps.length=i by omega,y0 hi]
theorem Vp{A C:List Ns}{m:Ns}(h1:(lns A).length≤j)(h2:j<(lns A).length+1+m.lps.length):∃l,(lns (A++m::C))[j]? =some l/\mJ l=false:=by
 obtain⟨i,rfl⟩:∃i,j=(lns A).length+i:=⟨j-(lns A).length,by omega⟩
 have e:(aH m).length=1+m.lps.length+(m.dds.flatMap bD).length:=by
  unfold aH
  simp only[List.length_cons,x5,List.length_append];omega
 rw[mV,List.getElem?_append_right (by omega),List.getElem?_append_left (by omega),show(lns A).length+i-(lns A).length=i by omega]
 unfold aH
 cases i with
 | zero=>exact⟨_,rfl,rfl⟩
 | succ i=>
   have hi:i<m.lps.length:=by omega
   refine⟨.loop m.lps[i],?_,rfl⟩
   rw[List.getElem?_cons_succ,List.getElem?_append_left (by rw[x5];omega),x6,y0 hi];rfl
def LR:Ct:=λ ds S W=>∃(k:Nat) (nss:List Ns),ds=[.loc k,.lst ((LS nss).map D.str),.lst (ND nss),.lst (ED nss)]/\GP nss/\Pen S k/\∀ls S',dw ls->Upd S k S'->Pen S' k->W (.lst (ls.map D.str)) S'
theorem eO(L:List Str)(b:Str){a c:Int}(ha:0≤a)(hc:0≤c):cutD (L.map D.str) none (some a)++[D.str b]++cutD (L.map D.str) (some c) none=(L.take a.toNat++[b]++L.drop c.toNat).map D.str:=by
 rw[xu ha,zW hc,←List.map_take,←List.map_drop,List.map_append,List.map_append];rfl
theorem HR{nss:List Ns}(h:GP nss):dw ((LS nss).take 1++[Str.ofString "loop 0 to 1"]++(LS nss).drop 1):=
 mD h (x8 _) (x8 _) rW λ st hs=>by
  have:some []=some st:=hs
  cases this
  exact jy (by decide+kernel)
theorem Ox{nss:List Ns}(h:GP nss):dw ((LS nss).take 1++[Str.ofString "tables 1 1"]++(LS nss).drop 1):=
 mD h (x8 _) (x8 _) (h.gl _ v3) λ st _=>Cu (by decide+kernel) st
theorem Je{nss:List Ns}(h:GP nss):dw ((LS nss).drop 1):=by
 have e:(LS nss).drop 1=liS (Ln.nest).w::(LS nss).drop 2:=by
  match nss,h.1 with
  | n::r,_=>rfl
 rw[e]
 exact qX h (h.gl _ (by
  have:liS (Ln.nest).w∈(LS nss).drop 1:=by rw[e];exact v3
  exact List.mem_of_mem_drop this)) (by decide+kernel)
theorem Bu:bR ""=true:=by decide+kernel
theorem nM(F:Fun Ω.K "_law_out_of_place" "_law_out_of_place" dG f fd)(N0:Ω.cd=none)(B:Bi Ω.mg Ω.K)(Cq11:Cal Ω "_law_take" 2 2 cX):Ok Ω 3 f fd oX LR:=by
 refine aG N0 (N:=oH) F (nY B Cq11) (by kernel_rfl!) ?_
 rintro ds S W ⟨k,nss,rfl,hg,hp,hw⟩ hl
 have ll:=hg.len
 have hn:(ND nss).length=nss.length:=by unfold ND;rw[x5,du]
 have g1:=hg.1
 have g3:=hg.2.1
 walk_at "b"
 refine aA hp (by rw[hn];omega) (by rw[hn];omega) λ v S1 v0 v1 u1 p1=>?_
 rw[hn]at v1
 obtain⟨i,rfl⟩:=Int.eq_ofNat_of_zero_le v0
 obtain⟨A,m,C,rfl,rfl⟩:=Pq (nss:=nss) (i:=i) (by omega)
 have eN:(aH m).length=1+m.lps.length+(m.dds.flatMap bD).length:=by
  unfold aH
  simp only[List.length_cons,x5,List.length_append];omega
 have eD:1≤(m.dds.flatMap bD).length:=by
  obtain⟨d,_,_,d1,_,_⟩:=hg.2.2 m (by simp)
  cases hm:m.dds with
  | nil=>rw[hm]at d1;cases d1
  | cons x xs=>
    show 1≤(bD x++xs.flatMap bD).length
    unfold bD;simp
 have eL:(lns A).length+(aH m).length≤60:=by
  have:=ll.1
  unfold LS at this
  rw[mV]at this
  simp only[List.length_cons,x5,List.length_append]at this;omega
 walk_at "b"
 refine aA p1 (by decide) (by decide) λ w S2 w0 w1 u2 p2=>?_
 have u3:=u1.trans u2
 have hw':w=0∨w=1∨w=2∨w=3∨w=4∨w=5∨w=6∨w=7:=by omega
 have eM:((LS (A++m::C)).map D.str).length=(LS (A++m::C)).length:=x5 _
 have cut:∀lo hi,(cutD ((LS (A++m::C)).map D.str) lo hi).length≤100:=λ lo hi=>Nat.le_trans (uf _ _ _) (by rw[eM];omega)
 have c1:=cut none (some 1)
 have add:∀{a b:List D},a.length≤101->b.length≤100->a.length+b.length≤1000000:=λ h1 h2=>by omega
 rcases hw' with rfl | rfl | rfl | rfl | rfl | rfl | rfl | rfl
 . walk_at "b"
   rw[eM]
   refine⟨_,(show atI _ ((A.length+1:Nat):Int)=_ from au (j:=A.length+1) (ye A m C)),?_⟩
   walk_at "b"
   refine⟨_,au (jZ A m C),?_⟩
   walk_at "b"
   refine⟨_,au (jZ A m C),?_⟩
   walk_at "b"
   refine aA p2 (by omega) (by omega) λ x S3 x0 x1 u4 p4=>?_
   obtain⟨x,rfl⟩:=Int.eq_ofNat_of_zero_le x0
   walk_at "b"
   refine⟨Nat.le_trans (Nat.add_le_add_right (cut none _) 1) (by decide),?_⟩
   walk_at "b"
   refine⟨add (by rw[List.length_append];exact Nat.add_le_add_right (cut none _) 1) (cut _ none),?_⟩
   obtain⟨l,hj,hd⟩:=Uz (A:=A) (C:=C) (m:=m) (j:=(lns A).length+1+m.lps.length+x) (by omega) (by omega)
   rw[eO _ _ (by omega) (by omega),show(((1+(lns A).length+1+m.lps.length:Nat):Int)+1+(x:Int)).toNat=(lns A).length+1+m.lps.length+x+2 by omega]
   exact hw _ _ (J2 hg hj hd) (u3.trans u4) p4
 . walk_at "b"
   rw[eM]
   refine⟨_,(show atI _ ((A.length+1:Nat):Int)=_ from au (j:=A.length+1) (ye A m C)),?_⟩
   walk_at "b"
   refine⟨_,au (jZ A m C),?_⟩
   walk_at "b"
   refine⟨_,au (jZ A m C),?_⟩
   walk_at "b"
   refine aA p2 (by omega) (by omega) λ x S3 x0 x1 u4 p4=>?_
   obtain⟨x,rfl⟩:=Int.eq_ofNat_of_zero_le x0
   walk_at "b"
   refine⟨add (by rw[List.length_append];exact Nat.add_le_add_right (cut none _) 1) (cut _ none),?_⟩
   rw[eO _ _ (by decide) (by decide)]
   exact hw _ _ (HR hg) (u3.trans u4) p4
 . walk_at "b"
   rw[eM]
   refine⟨_,(show atI _ ((A.length+1:Nat):Int)=_ from au (j:=A.length+1) (ye A m C)),?_⟩
   walk_at "b"
   refine⟨_,au (jZ A m C),?_⟩
   walk_at "b"
   refine⟨_,au (jZ A m C),?_⟩
   walk_at "b"
   refine aA p2 (by omega) (by omega) λ x S3 x0 x1 u4 p4=>?_
   obtain⟨x,rfl⟩:=Int.eq_ofNat_of_zero_le x0
   walk_at "b"
   refine⟨add (by rw[List.length_append];exact Nat.add_le_add_right (cut none _) 1) (cut _ none),?_⟩
   rw[eO _ _ (by decide) (by decide)]
   exact hw _ _ (qX (c:=0) hg rW (by decide+kernel)) (u3.trans u4) p4
 . walk_at "b"
   refine⟨_,au (DG A m C),?_⟩
   walk_at "b"
   refine⟨_,au (jZ A m C),?_⟩
   walk_at "b"
   refine⟨_,au (DG A m C),?_⟩
   walk_at "b"
   refine aA p2 (by omega) (by omega) λ x S3 x0 x1 u4 p4=>?_
   obtain⟨x,rfl⟩:=Int.eq_ofNat_of_zero_le x0
   walk_at "b"
   refine⟨Nat.le_trans (Nat.add_le_add_right (cut none _) 1) (by decide),?_⟩
   walk_at "b"
   refine⟨add (by rw[List.length_append];exact Nat.add_le_add_right (cut none _) 1) (cut _ none),?_⟩
   obtain⟨l,hj,hd⟩:=Vp (A:=A) (C:=C) (m:=m) (j:=(lns A).length+x) (by omega) (by omega)
   rw[eO _ _ (by omega) (by omega),show(((1+(lns A).length:Nat):Int)+1+(x:Int)).toNat=(lns A).length+x+2 by omega]
   exact hw _ _ (Mq hg hj hd) (u3.trans u4) p4
 . walk_at "b"
   refine⟨_,_,rfl,rfl,by rw[eM];simp only[List.length_cons,List.length_nil];omega,?_⟩
   walk_at "b"
   rw[show cutD ((LS (A++m::C)).map D.str) (some 1) none=((LS (A++m::C)).drop 1).map D.str by rw[zW (by decide),List.map_drop];rfl]
   exact hw _ _ (Je hg) u3 p2
 . walk_at "b"
   refine⟨_,_,rfl,rfl,by rw[eM];simp only[List.length_cons,List.length_nil];omega,?_⟩
   walk_at "b"
   rw[show cutD ((LS (A++m::C)).map D.str) none (some 1)++(LS (A++m::C)).map D.str=((LS (A++m::C)).take 1++[Str.ofString "tables 1 1"]++(LS (A++m::C)).drop 1).map D.str by rw[xu (by decide)];rfl]
   exact hw _ _ (Ox hg) u3 p2
 . walk_at "b"
   refine⟨_,_,rfl,rfl,by rw[eM];simp only[List.length_cons,List.length_nil];omega,?_⟩
   walk_at "b"
   rw[show(LS (A++m::C)).map D.str++[D.str ""]=((LS (A++m::C)).take (LS (A++m::C)).length++[Str.ofString ""]++(LS (A++m::C)).drop (LS (A++m::C)).length).map D.str by rw[List.take_length,List.drop_length,List.append_nil,List.map_append];rfl]
   exact hw _ _ (xN hg (by omega) (x8 _) Bu) u3 p2
 . walk_at "b"
   refine⟨_,_,rfl,rfl,by rw[eM];simp only[List.length_cons,List.length_nil];omega,?_⟩
   walk_at "b"
   exact hw (Str.ofString ""::(LS (A++m::C)).drop 0) _ (qX hg (m5 Bu).2.1 (by decide+kernel)) u3 p2
def Jq(d:D):Prop:=isStr d=false∨∃x,d=.str x/\x.length≤100000/\gq x=none
def Mf:Ct:=λ ds S W=>∃(k:Nat) (nss:List Ns),ds=[.loc k,.lst ((LS nss).map D.str),.lst (ND nss),.lst (ED nss)]/\GP nss/\Pen S k/\∀d S',Jq d->Upd S k S'->Pen S' k->W d S'
theorem cJ{ls:List Str}(h:dw ls):JoinOk "\n" ls=true/\Jq (.str (Txt.join "\n" ls)):=by
 obtain⟨h1,h2,h3,_⟩:=h
 refine⟨Dt h2 h3 (by decide+kernel),.inr ⟨_,rfl,?_,h1⟩⟩
 exact Nat.le_trans (mK h2 h3) (by decide+kernel)
theorem Bp(F:Fun Ω.K "_law_spoilt" "_law_spoilt" kj f fd)(N0:Ω.cd=none)(B:Bi Ω.mg Ω.K)(Cq11:Cal Ω "_law_take" 2 2 cX)(Cq2:Cal Ω "_law_bad_line" 4 1 FJ)(Cq7:Cal Ω "_law_out_of_place" 3 4 LR):Ok Ω 5 f fd Fd Mf:=by
 refine aG N0 (N:=Ew) F (Dm B Cq11 Cq2 Cq7) (by kernel_rfl!) ?_
 rintro ds S W ⟨k,nss,rfl,hg,hp,hw⟩ hl
 have ll:=hg.len
 have eM:((LS nss).map D.str).length=(LS nss).length:=x5 _
 have cut:∀lo hi,(cutD ((LS nss).map D.str) lo hi).length≤100:=λ lo hi=>Nat.le_trans (uf _ _ _) (by rw[eM];omega)
 have add:∀{a b:List D},a.length≤101->b.length≤100->a.length+b.length≤1000000:=λ h1 h2=>by omega
 walk_at "b"
 refine aA hp (by decide) (by decide) λ v S1 v0 v1 u1 p1=>?_
 have hv:v=0∨v=1∨2≤v:=by omega
 rcases hv with rfl | rfl | hv
 . walk_at "b"
   refine aA p1 (by decide) (by decide) λ w S2 w0 w1 u2 p2=>?_
   walk_at "n"
   obtain⟨y,g1,g2⟩:=yQ (ds:=[D.non,.int 3,.lst ((LS nss).map D.str),.bl true,.tup [],.str "tables 1\n"]) w0 w1
   refine⟨_,g1,hw y S2 ?_ (u1.trans u2) p2⟩
   have hy:=y8 g2
   simp only[List.mem_cons,List.not_mem_nil,or_false]at hy
   rcases hy with rfl | rfl | rfl | rfl | rfl | rfl
   . exact .inl rfl
   . exact .inl rfl
   . exact .inl rfl
   . exact .inl rfl
   . exact .inl rfl
   . exact .inr ⟨_,rfl,by decide+kernel,by
      have:(gq (Str.ofString "tables 1\n")).isNone=true:=by decide+kernel
      exact Option.isNone_iff_eq_none.mp this⟩
 . walk_at "b"
   refine⟨rfl,k,nss,rfl,hg,p1,λ ls S2 hb u2 p2=>?_⟩
   exact⟨_,ls,rfl,rfl,(cJ hb).1,hw _ _ (cJ hb).2 (u1.trans u2) p2⟩
 . walk_at "n"
   refine⟨λ z=>absurd (of_decide_eq_true z) (by omega),λ _=>?_⟩
   walk_at "n"
   refine⟨λ z=>absurd (of_decide_eq_true z) (by omega),λ _=>?_⟩
   walk_at "b"
   refine aA p1 (by rw[eM];omega) (by rw[eM];omega) λ a S2 a0 a1 u2 p2=>?_
   rw[eM]at a1
   obtain⟨a,rfl⟩:=Int.eq_ofNat_of_zero_le a0
   walk_at "b"
   refine⟨rfl,k,rfl,p2,λ b S3 hb u3 p3=>?_⟩
   have u4:=(u1.trans u2).trans u3
   obtain⟨b1,b2,b3⟩:=m5 hb
   have l2:=b2.2
   by_cases ha:a=0
   . subst ha
     walk_at "b"
     refine⟨_,rfl,by omega,?_⟩
     refine Dy ?_
     cases e:(Txt.slice b none (some 6)==Str.ofString "tables")with
     | false=>
       walk_at "b"
       refine aA p3 (by rw[eM];omega) (by rw[eM];omega) λ c S4 c0 c1 u5 p5=>?_
       rw[eM]at c1
       walk_at "b"
       refine⟨Nat.le_trans (Nat.add_le_add_right (cut none _) 1) (by decide),?_⟩
       walk_at "b"
       refine⟨add (by rw[List.length_append];exact Nat.add_le_add_right (cut none _) 1) (cut _ none),?_⟩
       rw[eO _ _ (by omega) (by omega)]
       have h:dw ((LS nss).take (1+c).toNat++[b]++(LS nss).drop (1+c).toNat):=xN hg (by omega) (x8 _) hb
       exact⟨_,_,rfl,rfl,(cJ h).1,hw _ _ (cJ h).2 (u4.trans u5) p5⟩
     | true=>
       walk_at "b"
       refine⟨Nat.le_trans (Nat.add_le_add_right (cut none _) 1) (by decide),?_⟩
       walk_at "b"
       refine⟨add (by rw[List.length_append];exact Nat.add_le_add_right (cut none _) 1) (cut _ none),?_⟩
       rw[eO _ _ (by omega) (by omega)]
       have h:dw (b::(LS nss).drop 1):=qX hg b2 (b3 e)
       exact⟨_,b::(LS nss).drop 1,rfl,rfl,(cJ h).1,hw _ _ (cJ h).2 u4 p3⟩
   . walk_at "n"
     refine⟨λ z=>absurd (of_decide_eq_true z) (by omega),λ _=>?_⟩
     . walk_at "b"
       refine⟨Nat.le_trans (Nat.add_le_add_right (cut none _) 1) (by decide),?_⟩
       walk_at "b"
       refine⟨add (by rw[List.length_append];exact Nat.add_le_add_right (cut none _) 1) (cut _ none),?_⟩
       rw[eO _ _ (by omega) (by omega)]
       have h:dw ((LS nss).take ((a:Int)).toNat++[b]++(LS nss).drop ((a:Int)+1).toNat):=xN hg (by omega) (by omega) hb
       exact⟨_,_,rfl,rfl,(cJ h).1,hw _ _ (cJ h).2 u4 p3⟩
def Hm:Ct:=λ ds S W=>∃d,ds=[d]/\Jq d/\flat S/\W (.bl true) S
theorem xm(F:Fun Ω.K "_law_refused" "_law_refused" jd f fd)(N0:Ω.cd=none)(B:Bi Ω.mg Ω.K)(E:ExF Ω.mg Ω.K XL XT)(Cq39:az Ω "read" 11 1 wU):Ok Ω 12 f fd Bj Hm:=by
 refine T4 N0 (N:=Ay) F (Ao B E Cq39) (by kernel_rfl!) ?_
 rintro ds S W ⟨d,rfl,hd,hS,hw⟩ hl
 walk_at "b"
 refine⟨rfl,d,rfl,hS,?_⟩
 rcases hd with hd | ⟨x,rfl,hx,hr⟩
 . exact .inl ⟨hd,by decide+kernel,hw⟩
 . exact .inr ⟨x,rfl,hx,λ _=>⟨by decide+kernel,hw⟩,λ ws st z=>by rw[hr]at z;cases z⟩
theorem JZ{l:List D}(h:∀d∈l,deep d≤n):bc l≤n:=by
 induction l with
 | nil=>exact Nat.zero_le _
 | cons d l ih=>
   have:=h d v3
   have:=ih λ x hx=>h x (x9 _ hx)
   show max (deep d) (bc l)≤n
   omega
theorem iM{α:Type}{f:α->D}(h:∀a,deep (f a)≤n)(l:List α):deep (.tup (l.map f))≤n+1:=by
 have:bc (l.map f)≤n:=JZ λ d hd=>by obtain⟨a,_,rfl⟩:=List.mem_map.mp hd;exact h a
 show bc (l.map f)+1≤n+1
 omega
theorem MT(ws:List Int):deep (dWs ws)≤1:=iM (n:=0) (λ _=>x8 _) ws
theorem jL(f:Fm):deep (dF f)≤1:=iM (n:=0) (λ _=>x8 _) (f.1::f.2)
theorem Oz(l:Lp):deep (dL l)≤2:=by
 have:=jL l.1
 have:=jL l.2
 show max (deep (dF l.1)) (max (deep (dF l.2)) 0)+1≤2
 omega
theorem J5(r:Rd):deep (dRd r)≤3:=by
 have:=iM jL r.pl
 show max 0 (max 0 (max (deep (.tup (r.pl.map dF))) 0))+1≤3
 omega
theorem Kv(x:Dd):deep (dDd x)≤5:=by
 have:=iM jL x.pl
 have:=jL x.st
 have:=iM J5 x.rds
 show max 0 (max (deep (.tup (x.pl.map dF))) (max (deep (dF x.st)) (max (deep (.tup (x.rds.map dRd))) 0)))+1≤5
 omega
theorem Kg(n:Ns):deep (dNs n)≤7:=by
 have:=iM Oz n.lps
 have:=iM Kv n.dds
 show max (deep (.tup (n.lps.map dL))) (max (deep (.tup (n.dds.map dDd))) 0)+1≤7
 omega
theorem Nh(ws:List Int)(nss:List Ns):ao (.tup [dWs ws,.tup (nss.map dNs)])=true/\deep (.tup [dWs ws,.tup (nss.map dNs)])≤50:=by
 refine⟨uV ⟨ws,nss⟩,?_⟩
 have:=MT ws
 have:=iM Kg nss
 show max (deep (dWs ws)) (max (deep (.tup (nss.map dNs))) 0)+1≤50
 omega
theorem jU{α:Type}{f:α->D}(h:∀a,okD (f a)=true):∀l:List α,bW (l.map f)=true
 | []=>rfl
 | a::l=>by simp only[List.map_cons,bW,h,jU h l,Bool.and_true]
theorem qF(f:Fm):okD (dF f)=true:=jU (f:=D.int) (λ _=>rfl) (f.1::f.2)
theorem T6(l:Lp):okD (dL l)=true:=by
 show(okD (dF l.1)&&(okD (dF l.2)&&true))=true
 rw[qF,qF];rfl
theorem Rt(r:Rd):okD (dRd r)=true:=by
 show(true&&(true&&(bW (r.pl.map dF)&&true)))=true
 rw[jU qF];rfl
theorem TV(x:Dd):okD (dDd x)=true:=by
 show(true&&(bW (x.pl.map dF)&&(okD (dF x.st)&&(bW (x.rds.map dRd)&&true))))=true
 rw[jU qF,qF,jU Rt];rfl
theorem R6(n:Ns):okD (dNs n)=true:=by
 show(bW (n.lps.map dL)&&(bW (n.dds.map dDd)&&true))=true
 rw[jU T6,jU TV];rfl
theorem GZ(p:Pg):okD (dPg p)=true:=by
 show(bW (p.ws.map D.int)&&(bW (p.nss.map dNs)&&true))=true
 rw[jU λ _=>rfl,jU R6];rfl
theorem eq_self{p:Pg}{W:Bool->Store->Prop}(w:W true S):aQ .Eq (dPg p) (dPg p) S W:=by
 have e:=j9 (dPg p) (uV p)
 have e2:deep (dPg p)≤50:=(Nh p.ws p.nss).2
 unfold aQ
 exact⟨⟨GZ p,GZ p,e2⟩,by show W (eqD (dPg p) (dPg p)) S;rw[e];exact w⟩
theorem BK{nss:List Ns}(h:GP nss):gq (Txt.join "\n" (LS nss))=some ([1,1],(nss.map toQ).reverse):=by
 rw[show LS nss=Str.ofString "tables 1 1"::((lns nss).map λ l=>liS l.w)from rfl,jV λ s hs=>(h.gl s hs).1]
 unfold pR
 rw[show wsQ (Txt.split (Str.ofString "tables 1 1") " ")=some [1,1] by decide+kernel]
 dsimp only
 have e:((lns nss).map λ l=>liS l.w).map (λ s=>Txt.split s " ")=(lns nss).map Ln.w:=by
  rw[List.map_map]
  exact List.map_congr_left λ l hl=>rD (h.ln l hl)
 have g:=qU nss [] (λ n hn=>(h.2.2 n hn).bd) []
 rw[List.append_nil,List.append_nil]at g
 rw[e,g]
 rfl
theorem G4{nss:List Ns}{WE:WX}(h:GP nss)(hS:flat S)(w:W (dPg ⟨[1,1],nss⟩) S):wU [.str (Txt.join "\n" (LS nss))] S W WE:=by
 have hv:=h.v
 have ll:=h.len
 obtain⟨hws,n1,n3,hns,h60⟩:=id hv
 dsimp only at hws n1 n3 hns h60
 refine⟨_,rfl,hS,.inr ⟨_,rfl,Nat.le_trans (mK (λ s hs=>(h.gl s hs).2) ll.1) (by decide+kernel),(λ z=>by rw[BK h]at z;cases z),λ ws st z=>?_⟩⟩
 rw[BK h]at z
 cases z
 rw[VL]
 exact⟨_,_,rfl,hS,λ z=>(by rw[show cI (dFq [1,1])=true from G3 hws]at z;cases z),λ _=>⟨[1,1],rfl,λ z=>(by rw[show eG (.tup (nss.map dNs)) [1,1]=true from KZ hv]at z;cases z),λ _=>⟨nss,rfl,by omega,λ n hn=>(hns n hn).ok,λ z=>absurd z (by omega),λ _=>w⟩⟩⟩
theorem Sv(F:Fun Ω.K "law" "law" kJ f fd)(N0:Ω.cd=none)(B:Bi Ω.mg Ω.K)(Cq39:az Ω "read" 11 1 wU)(Cq8:Cal Ω "_law_pen" 2 1 La)(Cq6:Cal Ω "_law_lines" 4 1 Cp)(Cq10:Cal Ω "_law_spoilt" 5 4 Mf)(Cq9:Cal Ω "_law_refused" 12 1 Hm):Ok Ω 13 f fd K8 nu:=by
 refine aG N0 (N:=Ub) F (Uv B Cq39 Cq8 Cq6 Cq10 Cq9) (by kernel_rfl!) ?_
 rintro ds S W ⟨ns,rfl,hn,hw,rfl⟩ hl
 walk_at "b"
 refine⟨rfl,ns,rfl,hn,λ a c n m z ha=>?_⟩
 have hp0:Pen [gZ ns a c n m z] 0:=⟨ns,a,c,n,m,z,rfl,ha⟩
 have hf0:flat [gZ ns a c n m z]:=λ l h=>by
  rw[List.mem_singleton.mp h]
  have e:ao (D.lst (ns.map .int))=true:=iT ns
  show aq [D.lst (ns.map .int),.int a,.int c,.int n,.int m,.int z]=true
  simp only[aq,e,Bool.and_true];rfl
 generalize gZ ns a c n m z=pn at*
 walk_at "b"
 refine⟨rfl,0,rfl,hp0,hf0,λ nss S1 hg u1 p1 f1=>?_⟩
 have ll:=hg.len
 rw[Vi]
 walk_at "b"
 refine⟨rfl,?_⟩
 walk_at "b"
 refine⟨_,LS nss,rfl,rfl,Dt (λ s hs=>(hg.gl s hs).2) ll.1 (by decide+kernel),?_⟩
 walk_at "b"
 refine⟨rfl,G4 hg f1 ?_⟩
 walk_at "b"
 refine⟨⟨by decide,by decide⟩,dR ⟨λ i G T=>∃o7:Option D,G=[some (.lst (ns.map D.int)),some (.loc 0),some (.lst ((LS nss).map D.str)),some (.lst (ND nss)),some (.lst (ED nss)),some (.str (Txt.join "\n" (LS nss))),some (dPg ⟨[1,1],nss⟩),o7]/\Upd [pn] 0 T/\Pen T 0,⟨_,rfl,u1,p1⟩,?_,?_⟩⟩
 . rintro i e G T he ⟨o7,rfl,u2,p2⟩
   refine m6 ?_
   simp only[List.set_cons_succ,List.set_cons_zero]
   walk_at "b"
   refine⟨rfl,0,nss,rfl,hg,p2,λ d T2 hd u3 p3=>?_⟩
   have u4:=u2.trans u3
   walk_at "b"
   refine⟨rfl,d,rfl,hd,u4.flat hf0,?_⟩
   walk_at "b"
   exact⟨_,rfl,u4,p3⟩
 . rintro G T ⟨o7,rfl,u2,p2⟩
   walk_at "b"
   refine⟨rfl,G4 hg (u2.flat hf0) ?_⟩
   walk_at "b"
   refine eq_self ?_
   walk_at "b"
   have e:(ND nss).length=(List.map dNs nss).length:=by unfold ND;rw[x5,du,x5]
   rw[e,decide_eq_true rfl]
   exact hw _
end K53
namespace K53
open PySem PySem.Spec L2 DL RF XE
open PyProof.Rows
variable {Ω : Wd} {f : Addr} {fd : FuncData}
theorem by1{G:List Value->Prop}(h:∀a0:Value,G [a0])(us:List Value)(e:us.length=1):G us:=by
 obtain⟨a0,us,rfl⟩:=List.exists_cons_of_length_eq_add_one e
 replace e:=Nat.succ.inj e
 obtain rfl:=List.eq_nil_of_length_eq_zero e
 exact h a0
theorem by2{G:List Value->Prop}(h:∀a0 a1:Value,G [a0,a1])(us:List Value)(e:us.length=2):G us:=by
 obtain⟨a0,us,rfl⟩:=List.exists_cons_of_length_eq_add_one e
 replace e:=Nat.succ.inj e
 obtain⟨a1,us,rfl⟩:=List.exists_cons_of_length_eq_add_one e
 replace e:=Nat.succ.inj e
 obtain rfl:=List.eq_nil_of_length_eq_zero e
 exact h a0 a1
theorem by3{G:List Value->Prop}(h:∀a0 a1 a2:Value,G [a0,a1,a2])(us:List Value)(e:us.length=3):G us:=by
 obtain⟨a0,us,rfl⟩:=List.exists_cons_of_length_eq_add_one e
 replace e:=Nat.succ.inj e
 obtain⟨a1,us,rfl⟩:=List.exists_cons_of_length_eq_add_one e
 replace e:=Nat.succ.inj e
 obtain⟨a2,us,rfl⟩:=List.exists_cons_of_length_eq_add_one e
 replace e:=Nat.succ.inj e
 obtain rfl:=List.eq_nil_of_length_eq_zero e
 exact h a0 a1 a2
theorem by4{G:List Value->Prop}(h:∀a0 a1 a2 a3:Value,G [a0,a1,a2,a3])(us:List Value)(e:us.length=4):G us:=by
 obtain⟨a0,us,rfl⟩:=List.exists_cons_of_length_eq_add_one e
 replace e:=Nat.succ.inj e
 obtain⟨a1,us,rfl⟩:=List.exists_cons_of_length_eq_add_one e
 replace e:=Nat.succ.inj e
 obtain⟨a2,us,rfl⟩:=List.exists_cons_of_length_eq_add_one e
 replace e:=Nat.succ.inj e
 obtain⟨a3,us,rfl⟩:=List.exists_cons_of_length_eq_add_one e
 replace e:=Nat.succ.inj e
 obtain rfl:=List.eq_nil_of_length_eq_zero e
 exact h a0 a1 a2 a3
def FI(K:PySem.W.Frag)(x:Str)(t:Stmt):Prop:=∃(f:Addr) (oc:Value) (od:Option Addr) (kV dc pm:Value) (an:Option Addr) (cd ct:Value) (sl:Array (Option Value)),PySem.W.nsIn K mainGlobals x=some (some (.ref f))/\K.lookup f=some ⟨oc,od,.func (PySem.W.fnOf x x (eX t) (bu t) (ak t) .none kV dc pm an cd ct),sl⟩/\PySem.W.codeIn K cd x=true/\PySem.W.keepIn K (.ref f)=true
theorem FI.mk{K:PySem.W.Frag}{x:Str}{t:Stmt}{f:Addr}{oc:Value}{od:Option Addr}{kV dc pm:Value}{an:Option Addr}{cd ct:Value}{sl:Array (Option Value)}(a:PySem.W.nsIn K mainGlobals x=some (some (.ref f)))(l:K.lookup f=some ⟨oc,od,.func (PySem.W.fnOf x x (eX t) (bu t) (ak t) .none kV dc pm an cd ct),sl⟩)(c:PySem.W.codeIn K cd x=true)(k:PySem.W.keepIn K (.ref f)=true):FI K x t:=⟨f,oc,od,kV,dc,pm,an,cd,ct,sl,a,l,c,k⟩
abbrev FU(Ω:Wd)(x:Str)(t:Stmt):Prop:=∃f fd,Fun Ω.K x x t f fd/\Ω.mg x=some (.ref f)
theorem FI.use{Ω:Wd}{h:Heap}{x:Str}{t:Stmt}(X:Ω.K.In h)(G:h.Ns mainGlobals Ω.mg)(q:FI Ω.K x t):FU Ω x t:=by
 obtain⟨f,oc,od,kV,dc,pm,an,cd,ct,sl,a,l,c,k⟩:=q
 exact⟨f,_,Il (st:=t) l c k,PySem.W.mg_of X G a⟩
theorem SJ{Ω:Wd}(B:Bi Ω.mg Ω.K)(E:ExF Ω.mg Ω.K XL XT)
(u0:FU Ω "is_whole" gP)
(u1:FU Ω "is_tuple_of" d8)
(u2:FU Ω "is_widths" fV)
(u3:FU Ω "is_form" jk)
(u4:FU Ω "is_bound" gJ)
(u5:FU Ω "is_loop" jc)
(u6:FU Ω "is_loops" iB)
(u7:FU Ω "has_few_figures" cu)
(u8:FU Ω "is_start" iz)
(u9:FU Ω "is_place_form" cU)
(u10:FU Ω "is_table_with_place" bH)
(u11:FU Ω "is_read" jr)
(u12:FU Ω "is_reads" gW)
(u13:FU Ω "is_deed" jh)
(u14:FU Ω "is_nest" jt)
(u15:FU Ω "is_nests" gU)
(u16:FU Ω "comes_to" gK)
(u17:FU Ω "with_next_count" cz)
(u18:FU Ω "counts_of" fM)
(u19:FU Ω "number_of_steps" cB)
(u20:FU Ω "program_of" eU)
(u21:FU Ω "without_sign" dm)
(u22:FU Ω "is_number" fZ)
(u23:FU Ω "number_read" d7)
(u24:FU Ω "form_read" fW)
(u25:FU Ω "refuse_other_words" bO)
(u26:FU Ω "loop_read" fQ)
(u27:FU Ω "cell_read" fO)
(u28:FU Ω "deed_read" fX)
(u29:FU Ω "with_read" fP)
(u30:FU Ω "with_line" f9)
(u31:FU Ω "nests_read" eQ)
(u32:FU Ω "widths_read" dU)
(u33:FU Ω "read" oh)
(u34:FU Ω "_law_cell_at" jm)
(u35:FU Ω "_law_pen" uG)
(u36:FU Ω "_law_take" o9)
(u37:FU Ω "_law_form" pF)
(u38:FU Ω "_law_lines" lY)
(u39:FU Ω "_law_bad_number" eZ)
(u40:FU Ω "_law_bad_cell" il)
(u41:FU Ω "_law_bad_first" gj)
(u42:FU Ω "_law_bad_line" gO)
(u43:FU Ω "_law_out_of_place" dG)
(u44:FU Ω "_law_spoilt" kj)
(u45:FU Ω "_law_refused" jd)
{f:Addr}{fd:FuncData}(F:Fun Ω.K "law" "law" kJ f fd)(N0:Ω.cd=none):Ok Ω 13 f fd K8 nu:=by
 obtain⟨_,_,F0,g0⟩:=u0
 have Cq32:=callee F0 (wI F0 N0 B) g0 (F0.binds λ _ _ _ _ _ _=>by1 λ _=>rfl)
 obtain⟨_,_,F0,g0⟩:=u1
 have Cq31:=callee F0 (pJ F0 N0 B) g0 (F0.binds λ _ _ _ _ _ _=>by3 λ _ _ _=>rfl)
 obtain⟨_,_,F0,g0⟩:=u2
 have Cq33:=callee F0 (sS F0 N0 B Cq32 Cq31) g0 (F0.binds λ _ _ _ _ _ _=>by1 λ _=>rfl)
 obtain⟨_,_,F0,g0⟩:=u3
 have Cq20:=callee F0 (yu F0 N0 B Cq32 Cq31) g0 (F0.binds λ _ _ _ _ _ _=>by2 λ _ _=>rfl)
 obtain⟨_,_,F0,g0⟩:=u4
 have Cq18:=callee F0 (wg F0 N0 B Cq20) g0 (F0.binds λ _ _ _ _ _ _=>by2 λ _ _=>rfl)
 obtain⟨_,_,F0,g0⟩:=u5
 have Cq21:=callee F0 (xG F0 N0 Cq31 Cq18) g0 (F0.binds λ _ _ _ _ _ _=>by2 λ _ _=>rfl)
 obtain⟨_,_,F0,g0⟩:=u6
 have Cq22:=callee F0 (wG F0 N0 B Cq31 Cq21) g0 (F0.binds λ _ _ _ _ _ _=>by1 λ _=>rfl)
 obtain⟨_,_,F0,g0⟩:=u7
 have Cq17:=callee F0 (jR F0 N0 B) g0 (F0.binds λ _ _ _ _ _ _=>by1 λ _=>rfl)
 obtain⟨_,_,F0,g0⟩:=u8
 have Cq29:=callee F0 (vy F0 N0 B Cq20 Cq17) g0 (F0.binds λ _ _ _ _ _ _=>by2 λ _ _=>rfl)
 obtain⟨_,_,F0,g0⟩:=u9
 have Cq26:=callee F0 (lO F0 N0 B Cq20) g0 (F0.binds λ _ _ _ _ _ _=>by2 λ _ _=>rfl)
 obtain⟨_,_,F0,g0⟩:=u10
 have Cq30:=callee F0 (iw F0 N0 B Cq32 Cq31 Cq26) g0 (F0.binds λ _ _ _ _ _ _=>by4 λ _ _ _ _=>rfl)
 obtain⟨_,_,F0,g0⟩:=u11
 have Cq27:=callee F0 (xO F0 N0 Cq32 Cq31 Cq17 Cq30) g0 (F0.binds λ _ _ _ _ _ _=>by3 λ _ _ _=>rfl)
 obtain⟨_,_,F0,g0⟩:=u12
 have Cq28:=callee F0 (wk F0 N0 B Cq31 Cq27) g0 (F0.binds λ _ _ _ _ _ _=>by3 λ _ _ _=>rfl)
 obtain⟨_,_,F0,g0⟩:=u13
 have Cq19:=callee F0 (xZ F0 N0 Cq31 Cq29 Cq30 Cq28) g0 (F0.binds λ _ _ _ _ _ _=>by3 λ _ _ _=>rfl)
 obtain⟨_,_,F0,g0⟩:=u14
 have Cq23:=callee F0 (z6 F0 N0 B Cq31 Cq22 Cq19) g0 (F0.binds λ _ _ _ _ _ _=>by2 λ _ _=>rfl)
 obtain⟨_,_,F0,g0⟩:=u15
 have Cq24:=callee F0 (vU F0 N0 B Cq31 Cq23) g0 (F0.binds λ _ _ _ _ _ _=>by2 λ _ _=>rfl)
 obtain⟨_,_,F0,g0⟩:=u16
 have Cq13:=callee F0 (vZ F0 N0 B) g0 (F0.binds λ _ _ _ _ _ _=>by2 λ _ _=>rfl)
 obtain⟨_,_,F0,g0⟩:=u17
 have Cq43:=callee F0 (kI F0 N0 B Cq13) g0 (F0.binds λ _ _ _ _ _ _=>by3 λ _ _ _=>rfl)
 obtain⟨_,_,F0,g0⟩:=u18
 have Cq14:=callee F0 (t7 F0 N0 Cq43) g0 (F0.binds λ _ _ _ _ _ _=>by1 λ _=>rfl)
 obtain⟨_,_,F0,g0⟩:=u19
 have Cq36:=callee F0 (kY F0 N0 B Cq14) g0 (F0.binds λ _ _ _ _ _ _=>by1 λ _=>rfl)
 obtain⟨_,_,F0,g0⟩:=u20
 have Cq38:=bI F0 (qg F0 N0 B E Cq33 Cq24 Cq36) g0 (F0.binds λ _ _ _ _ _ _=>by2 λ _ _=>rfl)
 obtain⟨_,_,F0,g0⟩:=u21
 have Cq45:=callee F0 (nO F0 N0) g0 (F0.binds λ _ _ _ _ _ _=>by1 λ _=>rfl)
 obtain⟨_,_,F0,g0⟩:=u22
 have Cq25:=callee F0 (tY F0 N0 B Cq45) g0 (F0.binds λ _ _ _ _ _ _=>by1 λ _=>rfl)
 obtain⟨_,_,F0,g0⟩:=u23
 have Cq37:=bI F0 (nZ F0 N0 B E Cq25) g0 (F0.binds λ _ _ _ _ _ _=>by1 λ _=>rfl)
 obtain⟨_,_,F0,g0⟩:=u24
 have Cq16:=bI F0 (uN F0 N0 B E Cq37) g0 (F0.binds λ _ _ _ _ _ _=>by1 λ _=>rfl)
 obtain⟨_,_,F0,g0⟩:=u25
 have Cq40:=bI F0 (iH F0 N0 B E) g0 (F0.binds λ _ _ _ _ _ _=>by2 λ _ _=>rfl)
 obtain⟨_,_,F0,g0⟩:=u26
 have Cq34:=bI F0 (uA F0 N0 E Cq16 Cq40) g0 (F0.binds λ _ _ _ _ _ _=>by1 λ _=>rfl)
 obtain⟨_,_,F0,g0⟩:=u27
 have Cq12:=bI F0 (ur F0 N0 B E Cq16) g0 (F0.binds λ _ _ _ _ _ _=>by1 λ _=>rfl)
 obtain⟨_,_,F0,g0⟩:=u28
 have Cq15:=bI F0 (tG F0 N0 E Cq16 Cq12 Cq40) g0 (F0.binds λ _ _ _ _ _ _=>by1 λ _=>rfl)
 obtain⟨_,_,F0,g0⟩:=u29
 have Cq44:=bI F0 (rP F0 N0 E Cq37 Cq12 Cq40) g0 (F0.binds λ _ _ _ _ _ _=>by2 λ _ _=>rfl)
 obtain⟨_,_,F0,g0⟩:=u30
 have Cq42:=bI F0 (uw F0 N0 E Cq34 Cq15 Cq44) g0 (F0.binds λ _ _ _ _ _ _=>by2 λ _ _=>rfl)
 obtain⟨_,_,F0,g0⟩:=u31
 have Cq35:=bI F0 (qL F0 N0 B E Cq42) g0 (F0.binds λ _ _ _ _ _ _=>by1 λ _=>rfl)
 obtain⟨_,_,F0,g0⟩:=u32
 have Cq41:=bI F0 (pI F0 N0 B E Cq37) g0 (F0.binds λ _ _ _ _ _ _=>by1 λ _=>rfl)
 obtain⟨_,_,F0,g0⟩:=u33
 have Cq39:=bI F0 (Fz F0 N0 B E Cq38 Cq35 Cq41) g0 (F0.binds λ _ _ _ _ _ _=>by1 λ _=>rfl)
 obtain⟨_,_,F0,g0⟩:=u34
 have Cq4:=callee F0 (yJ F0 N0 B) g0 (F0.binds λ _ _ _ _ _ _=>by2 λ _ _=>rfl)
 obtain⟨_,_,F0,g0⟩:=u35
 have Cq8:=callee F0 (K3 F0 N0 B Cq4) g0 (F0.binds λ _ _ _ _ _ _=>by1 λ _=>rfl)
 obtain⟨_,_,F0,g0⟩:=u36
 have Cq11:=callee F0 (Ik F0 N0 Cq4) g0 (F0.binds λ _ _ _ _ _ _=>by2 λ _ _=>rfl)
 obtain⟨_,_,F0,g0⟩:=u37
 have Cq5:=callee F0 (Gv F0 N0 B Cq11) g0 (F0.binds λ _ _ _ _ _ _=>by2 λ _ _=>rfl)
 obtain⟨_,_,F0,g0⟩:=u38
 have Cq6:=callee F0 (Ff F0 N0 B Cq11 Cq5) g0 (F0.binds λ _ _ _ _ _ _=>by1 λ _=>rfl)
 obtain⟨_,_,F0,g0⟩:=u39
 have Cq3:=callee F0 (qd F0 N0 Cq11) g0 (F0.binds λ _ _ _ _ _ _=>by1 λ _=>rfl)
 obtain⟨_,_,F0,g0⟩:=u40
 have Cq0:=callee F0 (vY F0 N0 Cq11) g0 (F0.binds λ _ _ _ _ _ _=>by1 λ _=>rfl)
 obtain⟨_,_,F0,g0⟩:=u41
 have Cq1:=callee F0 (tK F0 N0 Cq11) g0 (F0.binds λ _ _ _ _ _ _=>by2 λ _ _=>rfl)
 obtain⟨_,_,F0,g0⟩:=u42
 have Cq2:=callee F0 (vq F0 N0 B Cq11 Cq3 Cq0 Cq1) g0 (F0.binds λ _ _ _ _ _ _=>by1 λ _=>rfl)
 obtain⟨_,_,F0,g0⟩:=u43
 have Cq7:=callee F0 (nM F0 N0 B Cq11) g0 (F0.binds λ _ _ _ _ _ _=>by4 λ _ _ _ _=>rfl)
 obtain⟨_,_,F0,g0⟩:=u44
 have Cq10:=callee F0 (Bp F0 N0 B Cq11 Cq2 Cq7) g0 (F0.binds λ _ _ _ _ _ _=>by4 λ _ _ _ _=>rfl)
 obtain⟨_,_,F0,g0⟩:=u45
 have Cq9:=callee F0 (xm F0 N0 B E Cq39) g0 (F0.binds λ _ _ _ _ _ _=>by1 λ _=>rfl)
 exact Sv F N0 B Cq39 Cq8 Cq6 Cq10 Cq9
theorem all_mk{l:PySem.W.OpenLaw}{w:World}{K:PySem.W.Frag}{h:Heap}{mg:Str->Option Value}{fa:Addr}(X:K.In h)(G:h.Ns mainGlobals mg)(hfa:mg "law"=some (.ref fa))(q:FI K "law" kJ)
(q0:FI K "is_whole" gP)
(q1:FI K "is_tuple_of" d8)
(q2:FI K "is_widths" fV)
(q3:FI K "is_form" jk)
(q4:FI K "is_bound" gJ)
(q5:FI K "is_loop" jc)
(q6:FI K "is_loops" iB)
(q7:FI K "has_few_figures" cu)
(q8:FI K "is_start" iz)
(q9:FI K "is_place_form" cU)
(q10:FI K "is_table_with_place" bH)
(q11:FI K "is_read" jr)
(q12:FI K "is_reads" gW)
(q13:FI K "is_deed" jh)
(q14:FI K "is_nest" jt)
(q15:FI K "is_nests" gU)
(q16:FI K "comes_to" gK)
(q17:FI K "with_next_count" cz)
(q18:FI K "counts_of" fM)
(q19:FI K "number_of_steps" cB)
(q20:FI K "program_of" eU)
(q21:FI K "without_sign" dm)
(q22:FI K "is_number" fZ)
(q23:FI K "number_read" d7)
(q24:FI K "form_read" fW)
(q25:FI K "refuse_other_words" bO)
(q26:FI K "loop_read" fQ)
(q27:FI K "cell_read" fO)
(q28:FI K "deed_read" fX)
(q29:FI K "with_read" fP)
(q30:FI K "with_line" f9)
(q31:FI K "nests_read" eQ)
(q32:FI K "widths_read" dU)
(q33:FI K "read" oh)
(q34:FI K "_law_cell_at" jm)
(q35:FI K "_law_pen" uG)
(q36:FI K "_law_take" o9)
(q37:FI K "_law_form" pF)
(q38:FI K "_law_lines" lY)
(q39:FI K "_law_bad_number" eZ)
(q40:FI K "_law_bad_cell" il)
(q41:FI K "_law_bad_first" gj)
(q42:FI K "_law_bad_line" gO)
(q43:FI K "_law_out_of_place" dG)
(q44:FI K "_law_spoilt" kj)
(q45:FI K "_law_refused" jd)
 {t_ENOUGH_SIGNS:Tok}(z_ENOUGH_SIGNS:PySem.W.nsIn K mainGlobals "ENOUGH_SIGNS"=some (some (.int 99 t_ENOUGH_SIGNS)))
 {t_FIGURES:Tok}(z_FIGURES:PySem.W.nsIn K mainGlobals "FIGURES"=some (some (.str "0123456789" t_FIGURES)))
 (z_LETTERS:gtB K "LETTERS" ["a","b","c"]=true)
 {t_MOST_STEPS:Tok}(z_MOST_STEPS:PySem.W.nsIn K mainGlobals "MOST_STEPS"=some (some (.int 60 t_MOST_STEPS)))
 (z_abs:PySem.W.nsIn K mainGlobals "abs"=some none)
 (z_all:PySem.W.nsIn K mainGlobals "all"=some none)
 (z_bool:PySem.W.nsIn K mainGlobals "bool"=some none)
 (z_enumerate:PySem.W.nsIn K mainGlobals "enumerate"=some none)
 (z_int:PySem.W.nsIn K mainGlobals "int"=some none)
 (z_isinstance:PySem.W.nsIn K mainGlobals "isinstance"=some none)
 (z_len:PySem.W.nsIn K mainGlobals "len"=some none)
 (z_list:PySem.W.nsIn K mainGlobals "list"=some none)
 (z_range:PySem.W.nsIn K mainGlobals "range"=some none)
 (z_str:PySem.W.nsIn K mainGlobals "str"=some none)
 (z_sum:PySem.W.nsIn K mainGlobals "sum"=some none)
 (z_tuple:PySem.W.nsIn K mainGlobals "tuple"=some none)
 (z_zip:PySem.W.nsIn K mainGlobals "zip"=some none)
 (z_ex:XL.all (Ke K XT)=true)
 :∃fd:FuncData,(∀(s:Shared)(v:Value),BindsTo s fd ⟨[v],[]⟩ [("_law_script",v)])/\∀base:Heap,K.In base->base.Ns mainGlobals mg->FnOk l.prog w K mg base CX0 13 fa fd ["_law_script"] (spC K 1 nu):=by
 obtain⟨f,oc,od,kV,dc,pm,an,cd,ct,sl,a,l',c,k⟩:=q
 have e:=hfa.symm.trans (PySem.W.mg_of X G a)
 cases e
 refine⟨PySem.W.fnOf "law" "law" (eX kJ) (bu kJ) (ak kJ) .none kV dc pm an cd ct,λ s v=>.of_eq rfl,λ base _ _=>?_⟩
 have B:Bi mg K:=⟨⟨_,PySem.W.mg_of X G z_ENOUGH_SIGNS⟩,⟨_,PySem.W.mg_of X G z_FIGURES⟩,Uw X G z_LETTERS,⟨_,PySem.W.mg_of X G z_MOST_STEPS⟩,PySem.W.mg_none_of X G z_abs,PySem.W.mg_none_of X G z_all,PySem.W.mg_none_of X G z_bool,PySem.W.mg_none_of X G z_enumerate,PySem.W.mg_none_of X G z_int,PySem.W.mg_none_of X G z_isinstance,PySem.W.mg_none_of X G z_len,PySem.W.mg_none_of X G z_list,PySem.W.mg_none_of X G z_range,PySem.W.mg_none_of X G z_str,PySem.W.mg_none_of X G z_sum,PySem.W.mg_none_of X G z_tuple,PySem.W.mg_none_of X G z_zip⟩
 have E:ExF mg K XL XT:=QV X G z_ex
 exact SJ (Ω:=⟨_,w,K,mg,base,none⟩) B E (q0.use X G) (q1.use X G) (q2.use X G) (q3.use X G) (q4.use X G) (q5.use X G) (q6.use X G) (q7.use X G) (q8.use X G) (q9.use X G) (q10.use X G) (q11.use X G) (q12.use X G) (q13.use X G) (q14.use X G) (q15.use X G) (q16.use X G) (q17.use X G) (q18.use X G) (q19.use X G) (q20.use X G) (q21.use X G) (q22.use X G) (q23.use X G) (q24.use X G) (q25.use X G) (q26.use X G) (q27.use X G) (q28.use X G) (q29.use X G) (q30.use X G) (q31.use X G) (q32.use X G) (q33.use X G) (q34.use X G) (q35.use X G) (q36.use X G) (q37.use X G) (q38.use X G) (q39.use X G) (q40.use X G) (q41.use X G) (q42.use X G) (q43.use X G) (q44.use X G) (q45.use X G) (Il (st:=kJ) l' c k) rfl
end K53
local macro_rules|`(universe $[$x]*)=>do return Lean.mkNullNode (←x.mapM fun i=>do
 let n:=Lean.mkIdent (.mkSimple s!"tw{i.getId.toString.toList.tail.foldl (fun a c=>a*62+c.toNat-if c.isDigit then 48 else if c.isUpper then 55 else 61) 0}")
 `(def $n:ident:=()))
namespace PySem.W.Fast
universe u5l7peTKRk7Z u2nZGFyNOO6Y u3XVpm9QYUD6 uCftxxxtAFdk u8tzLoeEX1n9 u5dpp2LXhfWV uCONQYw8sMEr uA9tySqJpKnG u1HzJhfRtVTP u2W3tPsJMzHV uLxDE48Z5NBt uAEzq5FFedrK uLb0t4LIU08G uEvIhNSipTKQ u1CeEuTKGpjC u7QYe8NUSalc u5gbxWqMALb3 uHWQ2EZsjstB u7CreX6GHQT9 u6JEqbEii4o9 uDtTRJzhKtHX uCY9zSWkOY9W u4b8w8FTpKlo uIWARini3puJ uFx7xc97liwZ uCiyoeP72sXb u7Yu5cA5ais6 u95qJATY6Xzf uLSlz9CiMYaT uAsADLZTRrpg u1RcToFjjVei u5A87Vn6FDvt u8wugsvQxSWI uHtTx2K8C0no uLUdLdnrUgwG uIKlSau2OLng uBXxFX29Wwkv uDU9Wy7GWVY5 uLPJAf2cgIpm uJjvj8ebYJTv uCAnbOAZ8y4V uHHsO2jP82uq uEclNdL6rk35 u1gep3vSJ2EU u3MufEWJOTXm u5lyT8j4GpUt uJcwXYZRD8S3 u8lKLKlIOeSA uLhCIqDiP9Gr uFtOzLWNVRv7 u2Kf5YNbdbBm u58K5wwPvEFg u6m6o2duWTHT uJme3fvidrRC uAkmBIfLeSHJ u1mqate8OBi2 u7lkBUT0ZruK uHPRoQM0Pk1m uAkLJBXcQhM9 u2UfJtTEzt3B uCljUDRWq0EW u5AxdIX9g51Z u6dUPBgpVoAa uAbhicg1Qgyv uDfFY2RRaxwr u5X75SrRdVsx uAKmQCnoguAE uHPXZ2Zwq0vV u4bjW6FQH05u u64fcFOTM7bT uAn1ubKhshLq u72uzbRih4B5 uFZBNujoR9lJ uRKaFq3KHPg ubx1iCBAx4x uDdT6ZMvJTLy uFp4rGSgHtrF uGb84Ly4652 u9aviBmI8XPO uI0gUDn2P0Ul u4GW46Bi1ebr uCoPqVsI0uqY u7zFn3LIAapq uFZ1JUtLJnZb uLFsuWM9ErVH u3y7WdxxmrpX u1DQO6lGHeCL uLp0xuu0EopC uABVcrhS4Gw4 uC4gBOIf6Rtx uB0nDH9Pfsss uFy3z1h1K5K4 uDUDP8ut2xBH u6qfcXRlpLzb uKEUKhlixunu uJYeB4giqNJV uJeO2xjKHAro uFYOFMI35ESz uFo5SXpjJ6oa uJKzaw6knDQM uA7Fd8uuUOce uJTRKI9nV8Jn uHUIv2A9cQBA u3tC7QftwQ73 uEEweW943w4O uFWiOsr0tBik u6TZbJLHWfqQ uKAQ8TmruKul uFwwuGWdkozu uEpv18Q2O44t uGlvy8ONpTJu uILTxLZY4A5D uCw1idFI70dU uOb2e3rVR3n uELBxKpVIb08 uGSCanU9ghVk uCxcUv8QYYIv uA0HqRwqdH7D u8FfohNiXoX4 uDBgu04srNLU u2KCrLOYIaER uK8rmp2QNhbi uBggZfuM7blg uAgpHfHLgEVy u9K2y2xN8HIq uAcOoAxhoil uEAIoupaapcG u4HT8FaemqXI uIOHqxesS2ZI u6smmFHplG99 uEgFY7twtwzh uFny44uuBWdm ubTNcFPGROh u6VAegkLTepg u7q6FaZkzP5w uKjbT40s3X8A u3I62HTqwgM0 u6hA2swbJLsp uICc9XSUj7BW u9YzTtROksov u6RqRO42vMWD u6AWUTde69RD u55JKR4NPnfD u2kzvvJ7lwaD u4uMqJvyM63u uBnCNJuTosci u5Yoa5jJ5bl4 uBvVoXZaqjp2 uFaTgWnAGCEj u1saiziyX8XM uLIr54VGR6h0 u1yIFD7Ly0Zc u5I5pHZR2tLx uF3hhGzF4Uac u9QKunVbjzCF uAb3RrcQM6nV uH9Mt47sive7 u28tA8s3Ll19 uKRk5Ka8Xbn7 u2irwCwhe3Ha u2ZSKOUAIqSl uDrtq19uIGRa u8EUZ7K6Ei4D uqVbyaqazwM uxAnNPySwE9 u9xF4aVDYXBx u3BP6f4fgJUQ uAHPI2Lo05Cs u1l7BP76sGr8 uJm9LgQaxN2n uAhzarHHydBE u5f6gOMaKNbi uJwJhlxXe3UU u2DTwgi21NvR uHBbVeMX0qnx ub8A8Fekmcg u4ZtBYoqsdyA uFCJwB2eqSwi u3ItVpnIBHzr u4hy6Koth6hq uBdycHD9t624 u1FZECfmGMtk uIdE653ODSGF u7CrapmliNQ7 uHKWmOfn8gdt uLLxy5wCKved uLjGTict6GD uEfMIUa1pErs uIvZ6va03Hwv uEbfkiqatiJm uBGsCPeLneHo uEAbCPLs2smk uCtx0kf2r28d u2UNyBR6YdyX uI0kIBVTk6Ah uL2KxkzfuQtn u2Y5G8Vj1jft u28B9wqdvAHd u90pRlYdtdTf u6zBAJxR2UEk u9BcvVM5DEcw uxMuhidRs3X uFqPxLMWHbQd u4cz3nviA93q u1Tl8mdovbTM u6F94RmGBIOx uHRyvUVZR5Kn u2oMBzAtV0xs uGZxgzrgGKPw uCaj1YhS4sCw u5kykUKMWU8i uFh2O8IIkS99 uIFnu1fMsxvq uqUUCBtpzlJ uAcCkd7LpXX5 uDPqQNVz8E74 u9BkMOIrb4yr u4SCwCwo6evZ uDewMHzy9BbL uHGFEZSl75cZ u34IMTqXSkHH uBHwvuhG53fX uDDoBzpVzUe5 u1VGavpBO6ek u9Iyqt2szkvR u96SwcT6XF2w u9lWXBeZ3Nrq u7egsIKfIGFJ uFIdnbSIE3xR u9R1OOQsJR7G uC9lzsI9WWPr uIPG0owGJPoL u7WFzAex0Oi uAG7KiQoYCmF uB8sAF8cd1oZ uGRsuMQxdfoq uJbLlUoxJ9Gb u3jd5ffwPgw5 u3zUVFzQ6oWq uF8i73EX3Nsl uFgWLYW9bqlm uJvktrFSDdNP uKecfjOm9ihE u2oPXtacKgR8 ucngvkgzvEk uIYl2TZByPCr u35aIKHXnm09 u4Q4HtrsB2ZU u1vcXIetFN31 u8nrAtbUEn7l u1K08WcRZhKJ u6Soyn9sXZiu u817pSb6Xo4M u6g91ajNa2dc u6LmqWpgkSVd u4LiyytGWggZ u9VzjHIUY89W u92V5tIkZAHx u4J6wsN3vaXC uAAWbQ3tuD8l u4p6CkVwhLYZ uCj2vYTr8rMU uF3QgpigakhG u6tB0hwozcOq uINmuQEpFnb0 u5XnEsHBScQo uJsczwRFxJ85 uIfQqMHBD2y6 u9LM7BDo7Cf1 uAdTENbJjnlo u6uzlHRcerr9 u9U5aARf2v6t u1Qan7DIizp0 uJPEwzblDbjc uLbr5ml2Aa3R u5HFWWycurrR uHMXIe0EWi5D uD1bPAeFaboJ uFsrRxiuuQuV u4RaCuj3C1AD u7g9Q4ow0JCH uSnKEiOfx5V uHY2lVzvdFNW u8qhiXbn8EPz uFTm9Dhd8urt u8InITmKwEeu u3IgATzR7fHQ uGkwsySzJwzn uEGN9o3FlRBY uIcv0VyVftJ9 uGfOLdGJ25iJ u3lP8K2xtGpd u2JNFGgYYVNv u9UfwMIaZvGq u5CfZiiWJvrS ug0ty05NN74 u3b4p8Mu46J4 uHDMaW1NqrG1 uCvxEVMSBweN uJ852SuVtWFJ uIJT3yOEA1KK uEcgL0lKSMp6 u8PI3KEpZpFA uEBu4m0T2OZE uH1gReJYZXoP u1CFiBx9GFDC uFWCsMuQGgLj uDB3w7NugAe6 u6H0iO8emh1i uLtFXMUXhLDV uJMkWbRyUyYz uCDXvxJm9mGF uL3xymSSGt9M u1rXquIz6KOR u9FhD5HvVYYY uHwdpYARHCkI uLInIwLsfXjA u5pjljUQflEe uWjtdonrgOz uJdbxWq8N9rk u8SriPwmceyB uBcBtIoYeBHV uGvTPnUIoxv4 uHz49jQtPTm2 uEFrIHdwfSve u5RNs74h1Sxb uLtoW1iyfshH u87NvFBYqeoq uKKPCbUx1R6R u7mzWijGb081 uLvvUoTw5jkN uGLbqleNgh9o u70MUkDsELaB uAcCCElOsBkk uFUzqGUxgnM2 u5v4hqVDdRfZ uB2npHBT2eAN uI2WvkFyvQQ0 u4VMyzHDsGE6 uDeipjG3FABu uCBfhwbpcCcu u3wFYVGoGJDL uFhya4Rp6dK1 uCXFFBWtXoBu uKXprlDOu0X1 u5lPcHKZOd0g u6wtvNKJ3mp6 u3jIUUAWVDVi uD2ytYJFqi4P uLCj2Yee5oQV uJ8IJpsDfaRM uLH1ppFJwLKI uI2c2InTx8UH uAWcW72KGATy ugOYB5WVEwX uE8EC7HrfKdC u7iiqDi6HU7n uJYo6ZXtWFI9 u8EvRywIt0hM uIJtyA376mGa u5YYnU7fPlqN uDuwTHfA2nq uEksOHNocYR7 u9ElZfyKAeDq u83TSnkGkQi3 u6tRtSMDVXHm uBKXoQ6Zc1Uz u266ccjOgeQZ u7Rkm5vD7lxM uJrcckrurcnW uLQEoe1CLsoH u4m51ZKQ5SoX uL8MwFh0qvA7 uJPiLmqKbiik uHUukKpmbUN2 u7BhR0TsDX1E u3odKfJ9GHoc u8a5yjhzQJee uA3PyuBGLMP8 u2iaB6Pswtde u2iHzF4dlrDX uDRAnQf8GNwD uK8zJM2RfEl5 u2GQVhsTd2Bn uLBtLBiB4hiG u1MGryStYdGC u2NgFRNchaNf uBrkD4EChBsO u1Rvp3KnUqbf uBHp9KN7GkYd uIYq0MdfM32j uLIBwhFT6daB u3Yqv6xCkiAF uCBPyQOyUTZW uJqeZD8FdVIp uARG05yHitKO u40pon846ImR u45noMv7huY0 uE1SdCK3ArzZ uFeAYlBXlyf2 u2rx3hvKs6iw uDCbttd2s1oW u2JPFhRrRE2R uHlYQ849RlXu u5ZcIfTYa9xm u1nODNba0vDy u7t6grisRBEg uHETY2JP0s68 u2Zxu8INbyka
end PySem.W.Fast
open PySem PySem.W PyProof.Rows
set_option maxRecDepth 100000 in
set_option maxHeartbeats 0 in
theorem PySem.Challenge.cw_nestturn_k53_texts_refused_holds : PySem.Challenge.rw_nestturn_k53_texts_refused.Holds := by
 w_on; o_law; k_head; (case hw => w_witness2)
 k_fill
 refine RF.walk (l := PySem.Challenge.rw_nestturn_k53_texts_refused) (lev := 13) (x := "_law_script") rfl rfl ⟨rfl, by decide, by decide⟩ (λ w h Y => by first | exact PySem.W.kIn_of Y | exact PySem.W.km_in_of Y) ?F
 case F =>
  intro w mg fa h KX G hmg
  refine' K53.all_mk KX G hmg ?_ ?_ ?_ ?_ ?_ ?_ ?_ ?_ ?_ ?_ ?_ ?_ ?_ ?_ ?_ ?_ ?_ ?_ ?_ ?_ ?_ ?_ ?_ ?_ ?_ ?_ ?_ ?_ ?_ ?_ ?_ ?_ ?_ ?_ ?_ ?_ ?_ ?_ ?_ ?_ ?_ ?_ ?_ ?_ ?_ ?_ ?_ ?_ ?_ ?zt_LETTERS ?_ ?_ ?_ ?_ ?_ ?_ ?_ ?_ ?_ ?_ ?_ ?_ ?_ ?_ ?z
  (case z => kernel_rfl!)
  (case zt_LETTERS => kernel_rfl!)
  all_goals try first | (refine' K53.FI.mk ?a ?l ?c ?k; (case a => k_is); (case l => k_is); (case c => k_is); (case k => k_is)) | (show _ = _; k_is)
