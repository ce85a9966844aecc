import PyProof.Rows.All
import Wide.All
import OpenK.AllK
import Wide.FinOn
import Lean
import PyProof.EqAt
import PyProof.EqKinds
import PyProof.TupleCall
import KE.KEqDict
import PyProof.ZipIter
import PyProof.ListMulAny
import KE.KTryMore
import PyProof.NsDelKeeps
import KE.KUnpack
import KE.KRevIter
import PyProof.DictUpdate
import PyProof.ListRange
import PyProof.Rows.CallKwBuiltin
import PyProof.WalkInts
import KE.KSortTup
import KE.KLam
import KE.KNestM
import PyProof.CollectIter
import PyProof.StrCalls
import PyProof.StrCalls2
import PyProof.StrOps
import PyProof.Rows.StrSplitJoin
import KE.KIntText
import PyProof.StrWalks
import PyProof.FString
import PyProof.StrBlockI
import PyProof.FactsAll.tuple_2
import PyProof.FactsAll.tuple_3
import PyProof.StrLawsChain
import PyProof.StrLawsTight
import PyProof.StrLawsIn
import KE.IntTextLaws
import PyProof.Rows.ReprOcc
import PySem.Challenge.RW_nestturn_k52_programs_written
set_option bootstrap.genMatcherCode false
set_option compiler.extract_closed false
set_option genSizeOfSpec false
set_option genSizeOf false
theorem fE{α:Prop}(h:false=true):α:=(Bool.false_ne_true h).elim
noncomputable section
set_option Elab.async false
set_option linter.all false
def z0:=@List.getElem?_eq_some_iff
def y0:=@List.getElem?_eq_getElem
def y3:=@List.mem_of_getElem?
def y4:=@Bool.false_ne_true
def y6:=@List.length_map
def y7:=@List.getElem?_map
def y8:=@Nat.le_refl
def y9:=@List.mem_cons_of_mem
def x5:=@List.size_toArray
def x6:=@List.mem_cons_self
def x8:=@List.length_append
def x9:=@List.getElem?_append_left
def w9:=@Nat.lt_of_lt_of_le
def v3:=@Nat.ne_of_lt
set_option bootstrap.genMatcherCode false
set_option maxRecDepth 100000
local macro_rules | `(tactic| omega) => `(tactic| first | with_reducible assumption | with_reducible exact Int.natCast_nonneg _ | with_reducible exact Nat.le_trans (by assumption) (by decide) | with_reducible exact Int.le_trans (by decide) (Int.natCast_nonneg _) | with_reducible exact Int.lt_of_le_of_lt (Int.ofNat_le.mpr (by assumption)) (by decide) | lia)
local macro_rules|`(def $i:declId $s:optDeclSig $v:declVal)=>`(noncomputable def $i:declId $s:optDeclSig $v:declVal)
local macro_rules|`(abbrev $i:declId $s:optDeclSig $v:declVal)=>`(noncomputable abbrev $i:declId $s:optDeclSig $v:declVal)
namespace L2
open PySem PySem.Spec PyProof.Rows
abbrev Key:=Sum Int Str
def JZ:Key->Value->Bool
 | .inl k,v=>Value.isInt k v
 | .inr x,v=>Value.isStrOf x v
def Sv(w:World):Key->Int
 | .inl k=>hashInt k
 | .inr x=>hashStr w x
theorem bw:∀{k:Key}{v:Value},JZ k v=true->(∃i t,k=Sum.inl i/\v=Value.int i t)∨(∃x t,k=Sum.inr x/\v=Value.str x t)
 | .inl i,v,h=>by
   obtain⟨t,e⟩:=Value.isInt_shape (k:=i) (v:=v) h
   exact .inl ⟨i,t,rfl,e⟩
 | .inr x,v,h=>by
   obtain⟨t,e⟩:=Value.isStrOf_shape (x:=x) (v:=v) h
   exact .inr ⟨x,t,rfl,e⟩
theorem Ot(a b:Int):decide ((Sum.inl a:Key)=Sum.inl b)=(a==b):=by
 by_cases e:a=b
 . subst e;simp
 . have h:¬(Sum.inl a:Key)=Sum.inl b:=λ q=>e (Sum.inl.inj q)
   rw[decide_eq_false h]
   exact(beq_eq_false_iff_ne.mpr e).symm
theorem Qg(a b:Str):decide ((Sum.inr a:Key)=Sum.inr b)=decide (a=b):=by
 by_cases e:a=b
 . subst e;simp
 . have h:¬(Sum.inr a:Key)=Sum.inr b:=λ q=>e (Sum.inr.inj q)
   rw[decide_eq_false h,decide_eq_false e]
theorem Qo(a:Int)(b:Str):decide ((Sum.inl a:Key)=Sum.inr b)=false:=decide_eq_false (λ q=>nomatch q)
theorem Qq(a:Str)(b:Int):decide ((Sum.inr a:Key)=Sum.inl b)=false:=decide_eq_false (λ q=>nomatch q)
def eO(prog:Program)(w:World):PySem.KeyKind prog w Key where
 is:=JZ
 hash:=Sv w
 inj:=λ v a b ha hb=>by
  rcases bw ha with⟨i,t,rfl,rfl⟩ | ⟨x,t,rfl,rfl⟩
  . rcases bw hb with⟨j,u,rfl,e⟩ | ⟨y,u,rfl,e⟩
    . injection e with e1 _;rw[e1]
    . exact nomatch e
  . rcases bw hb with⟨j,u,rfl,e⟩ | ⟨y,u,rfl,e⟩
    . exact nomatch e
    . injection e with e1 _;rw[e1]
 byValue:=λ k v h=>by
  rcases bw h with⟨i,t,rfl,rfl⟩ | ⟨x,t,rfl,rfl⟩<;>rfl
 pyHash:=λ hv h=>by
  rcases bw hv with⟨i,t,rfl,rfl⟩ | ⟨x,t,rfl,rfl⟩
  . exact wpAny_pyHash_int h
  . exact wpAny_pyHash_str h
 eqBool:=λ hu hv h=>by
  rcases bw hu with⟨i,t,rfl,rfl⟩ | ⟨x,t,rfl,rfl⟩
  . rcases bw hv with⟨j,u,rfl,rfl⟩ | ⟨y,u,rfl,rfl⟩
    . rw[Ot]at h;exact wpAny_eqBool_int h
    . rw[Qo]at h;exact SeqAt.EqAt.int_str i t y u _ _ _ _ h
  . rcases bw hv with⟨j,u,rfl,rfl⟩ | ⟨y,u,rfl,rfl⟩
    . rw[Qq]at h;exact SeqAt.EqAt.str_int x t j u _ _ _ _ h
    . rw[Qg]at h;exact wpAny_eqBool_str h
 «strs»:=λ k x t v h=>by
  rcases bw h with⟨i,u,rfl,e⟩ | ⟨y,u,rfl,e⟩
  . exact nomatch e
  . injection e with e1 _
    subst e1
    cases v<;>rfl
variable {b : Addr}
inductive V where
 | non | bl(b:Bool) | int(i:Int) | str(x:Str) | byt(b:Array UInt8) | flt(b:UInt64) | ref(a:Addr) | ty(n:String)
 deriving DecidableEq
def RelV:V->Value->Prop
 | .non,u=>u=Value.none
 | .bl b,u=>u=Value.bool b
 | .int i,u=>∃t,u=Value.int i t
 | .str x,u=>∃t,u=Value.str x t
 | .byt b,u=>∃t,u=Value.bytes b t
 | .flt b,u=>∃t,u=Value.float b t
 | .ref a,u=>u=Value.ref a
 | .ty n,u=>u=Value.type n
abbrev Vals:List V->List Value->Prop:=Paired RelV
theorem Vals.length{xs:List V}{us:List Value}(r:Vals xs us):xs.length=us.length:=Paired.length r
theorem Vals.get:∀{xs:List V}{us:List Value}{i:Nat}{x:V},Vals xs us->xs[i]? =some x->∃u,us[i]? =some u/\RelV x u
 | _,_,_,_,.nil,e=>by simp at e
 | _,_,0,_,.cons r _,e=>by simp at e;subst e;exact⟨_,rfl,r⟩
 | _,_,i+1,x,.cons _ t,e=>by
   obtain⟨u,h1,h2⟩:=Vals.get (i:=i) (x:=x) t (by simpa using e)
   exact⟨u,by simpa using h1,h2⟩
theorem Vals.set{x:V}{u:Value}(r:RelV x u):∀{xs:List V}{us:List Value}(i:Nat),Vals xs us->Vals (xs.set i x) (us.set i u)
 | _,_,_,.nil=>.nil
 | _,_,0,.cons _ t=>.cons r t
 | _,_,i+1,.cons q t=>.cons q (Vals.set r i t)
theorem Vals.append:∀{xs ys:List V}{us ws:List Value},Vals xs us->Vals ys ws->Vals (xs++ys) (us++ws)
 | _,_,_,_,.nil,s=>s
 | _,_,_,_,.cons r t,s=>.cons r (Vals.append t s)
theorem Vals.take:∀{xs:List V}{us:List Value}(n:Nat),Vals xs us->Vals (xs.take n) (us.take n)
 | _,_,0,_=>.nil
 | _,_,_+1,.nil=>.nil
 | _,_,n+1,.cons r t=>.cons r (Vals.take n t)
theorem Vals.drop:∀{xs:List V}{us:List Value}(n:Nat),Vals xs us->Vals (xs.drop n) (us.drop n)
 | _,_,0,r=>r
 | _,_,_+1,.nil=>.nil
 | _,_,n+1,.cons _ t=>Vals.drop n t
def Nq:Option V->Option Value->Prop
 | some v,some u=>RelV v u
 | none,none=>True
 | _,_=>False
def KV{κ:Type}:List (κ×V)->List (κ×Value)->Prop:=Paired λ(p:κ×V) (q:κ×Value)=>p.1=q.1/\RelV p.2 q.2
def kV:Key->V
 | .inl i=>.int i
 | .inr x=>.str x
inductive HO where
 /-- a list -/
 | lst(xs:List V)
 /-- a tuple (never changes) -/
 | tup(xs:List V)
 /-- a dict whose keys are ints and texts; one whose keys are tuples of ints and texts (the empty one is both) -/
 | dK(kvs:List (Key×V)) | dT(kvs:List (List Key×V))
 /-- a set of ints: its members, its size -/
 | set(S:Int->Bool)(n:Nat)
 /-- an instance of the class at C, its dict at dx, its attributes -/
 | ins(C dx:Addr)(fs:List (Str×V))
 /-- the dict of the instance at x -/
 | own(x:Addr)
 /-- the dict of an exception -/
 | xd(fs:List (Str×V))
 /-- a bound method, f of x -/
 | met(f x:Addr)
 /-- a range object lo, lo + 1, .. below hi -/
 | rng(lo hi:Int)
 /-- a thing that is known to the object (the script; a dict while a loop walks it): read, never written while it is so -/
 | frz(o:Obj)(u:HO)
 /-- a code object's table -/
 | tbl(ps:Array Value)
 /-- any other thing, by what is true of its one object (a def of one's own: SetO a S n := HO.ext λ h => ..) -/
 | ext(φ:Heap->Prop)
abbrev Hp:=Addr->Option HO
def upd(H:Hp)(a:Addr)(o:HO):Hp:=λ b=>if b=a then some o else H b
theorem aP{H:Hp}{a:Addr}{o:HO}:upd H a o a=some o:=by unfold upd;rw[if_pos rfl]
theorem aA{H:Hp}{a:Addr}{o:HO}(h:b≠a):upd H a o b=H b:=by unfold upd;rw[if_neg h]
theorem aH{H:Hp}{a:Addr}{o:HO}(h:H a=some o)(h':H b=none):a≠b:=by
 intro e;subst e;rw[h]at h';cases h'
section
variable (P : Program) (w : World)
def bz(H:Hp)(h:Heap)(a:Addr):HO->Prop
 | .lst xs=>xs.length≤sizeLine/\∃(its:List Value) (n:Nat),Vals xs its/\h.get? a=some {cls:=.type "list",data:=.seq its.toArray n}
 | .tup xs=>xs.length≤sizeLine/\∃its:List Value,Vals xs its/\IsTup h a its.toArray
 | .dK kvs=>kvs.length≤sizeLine/\(a==sysModules)=false/\∃vs,KV kvs vs/\h.DictOf (eO P w) a vs
 | .dT kvs=>kvs.length≤sizeLine/\(a==sysModules)=false/\∃xs:List (List Key×Addr×Value),
  Paired (λ(p:List Key×V) (q:List Key×Addr×Value)=>p.1=q.1/\H q.2.1=some (.tup (p.1.map kV))/\RelV p.2 q.2.2) kvs xs/\
  ∃o es ep,h.get? a=some o/\o.ExactDict/\o.data=.dict es ep/\es.toList=xs.map (entryOfKey (tupleKind (eO P w)))/\(xs.map (·.1)).Nodup
 | .set S n=>h.SetOf (intKind P w) a S n
 | .ins C dx fs=>H dx=some (.own a)/\fs.length≤1000/\dx≠a/\h.get? a=some (PySem.W.instObj C dx)/\
  ∃mA,h.Ns1 dx mA/\(∀f,Nq (fs.lookup f) (mA f))/\PySem.Within mA (fs.map (·.1))
 | .own _=>∃o,h.get? a=some o
 | .xd fs=>∃mA,h.Ns1 a mA/\∀f,Nq (fs.lookup f) (mA f)
 | .rng lo hi=>∃t u v,h.get? a=some {cls:=.type "range",data:=.fields #[.int lo t,.int hi u,.int 1 v]}
 | .frz o u=>h.get? a=some o/\bz H h a u
 | .tbl ps=>h.get? a=some {cls:=.none,data:=.fields ps}
 | .met f x=>h.get? a=some (PySem.W.methodObj (.ref f) (.ref x))
 | .ext φ=>φ h/\(∃o,h.get? a=some o)/\∀h1 h2:Heap,φ h1->(∀o,h1.get? a=some o->h2.get? a=some o)->φ h2
def HOk(H:Hp)(h:Heap):Prop:=∀a o,H a=some o->bz P w H h a o
end
section
variable {P : Program} {w : World} {H H' : Hp} {h h' : Heap} {a : Addr} {o : HO}
theorem bz.lt(x:bz P w H h a o):a<h.objs.size:=by
 cases o with
 | lst xs=>obtain⟨_,_,_,_,e⟩:=x;exact Heap.lt_size e
 | tup xs=>obtain⟨_,_,_,p⟩:=x;exact p.lt
 | dK kvs=>obtain⟨_,_,_,_,o,_,_,e,_⟩:=x;exact Heap.lt_size e
 | dT kvs=>obtain⟨_,_,_,_,o,_,_,e,_⟩:=x;exact Heap.lt_size e
 | set S n=>obtain⟨o,_,_,_,e,_⟩:=x;exact Heap.lt_size e
 | ins C dx fs=>obtain⟨_,_,_,e,_⟩:=x;exact Heap.lt_size e
 | own y=>obtain⟨_,e⟩:=x;exact Heap.lt_size e
 | xd fs=>obtain⟨_,⟨_,_,_,e,_⟩,_⟩:=x;exact Heap.lt_size e
 | rng lo hi=>obtain⟨_,_,_,e⟩:=x;exact Heap.lt_size e
 | frz ob u=>obtain⟨e,_⟩:=x;exact Heap.lt_size e
 | tbl ps=>exact Heap.lt_size (show h.get? a=some _ from x)
 | met f y=>exact Heap.lt_size (show h.get? a=some _ from x)
 | ext φ=>obtain⟨_,⟨_,e⟩,_⟩:=x;exact Heap.lt_size e
theorem Paired.mapP{α β:Type}{F G:α->β->Prop}:∀{l₁:List α}{l₂:List β},Paired F l₁ l₂->(∀a b,F a b->G a b)->Paired G l₁ l₂
 | _,_,.nil,_=>.nil
 | _,_,.cons r t,f=>.cons (f _ _ r) (Paired.mapP t f)
theorem bz.stay(x:bz P w H h a o)(k:∀b u,(b=a∨H b=some (.own a))->h.get? b=some u->h'.get? b=some u)
 (ho:∀b,H b=some (.own a)->H' b=some (.own a))(ht:∀b xs,H b=some (.tup xs)->H' b=some (.tup xs)):bz P w H' h' a o:=by
 induction o with
 | lst xs=>obtain⟨z,its,n,r,e⟩:=x;exact⟨z,its,n,r,k _ _ (.inl rfl) e⟩
 | tup xs=>obtain⟨z,its,r,ob,e,c⟩:=x;exact⟨z,its,r,ob,k _ _ (.inl rfl) e,c⟩
 | dK kvs=>obtain⟨z,y,vs,r,ob,es,ep,e,c⟩:=x;exact⟨z,y,vs,r,ob,es,ep,k _ _ (.inl rfl) e,c⟩
 | dT kvs=>
   obtain⟨z,y,xs,r,ob,es,ep,e,c⟩:=x
   exact⟨z,y,xs,Paired.mapP r λ p q z=>⟨z.1,ht _ _ z.2.1,z.2.2⟩,ob,es,ep,k _ _ (.inl rfl) e,c⟩
 | set S n=>obtain⟨ob,es,ep,t,e,c⟩:=x;exact⟨ob,es,ep,t,k _ _ (.inl rfl) e,c⟩
 | ins C dx fs=>
   obtain⟨d,z,ne,e,mA,⟨od,es,ep,e2,c⟩,r⟩:=x
   exact⟨ho _ d,z,ne,k _ _ (.inl rfl) e,mA,⟨od,es,ep,k _ _ (.inr d) e2,c⟩,r⟩
 | own y=>obtain⟨ob,e⟩:=x;exact⟨ob,k _ _ (.inl rfl) e⟩
 | xd fs=>obtain⟨mA,⟨od,es,ep,e,c⟩,r⟩:=x;exact⟨mA,⟨od,es,ep,k _ _ (.inl rfl) e,c⟩,r⟩
 | rng lo hi=>obtain⟨t,u,v,e⟩:=x;exact⟨t,u,v,k _ _ (.inl rfl) e⟩
 | frz ob u ih=>obtain⟨e,q⟩:=x;exact⟨k _ _ (.inl rfl) e,ih q⟩
 | tbl ps=>
   have e:h.get? a=some {cls:=.none,data:=.fields ps}:=x
   show h'.get? a=some {cls:=.none,data:=.fields ps}
   exact k a _ (.inl rfl) e
 | met f y=>
   have e:h.get? a=some (PySem.W.methodObj (.ref f) (.ref y)):=x
   show h'.get? a=some (PySem.W.methodObj (.ref f) (.ref y))
   exact k a _ (.inl rfl) e
 | ext φ=>obtain⟨p,⟨o,e⟩,st⟩:=x;exact⟨st _ _ p λ o q=>k _ _ (.inl rfl) q,⟨o,k _ _ (.inl rfl) e⟩,st⟩
theorem HOk.lt(x:HOk P w H h)(e:H a=some o):a<h.objs.size:=(x a o e).lt
theorem HOk.fresh(x:HOk P w H h)(e:h.objs.size≤a):H a=none:=by
 cases q:H a with
 | none=>rfl
 | some u=>exact absurd (w9 (x.lt q) e) (Nat.lt_irrefl _)
theorem HOk.kept(x:HOk P w H h)(k:∀b u,h.get? b=some u->h'.get? b=some u):HOk P w H h':=λ a o e=>
 (x a o e).stay (λ b u _ q=>k b u q) (λ _ q=>q) λ _ _ q=>q
theorem HOk.laid(x:HOk P w H h)(k:∀b u,h.get? b=some u->h'.get? b=some u)(hp:h.objs.size≤a)(new:bz P w (upd H a o) h' a o):HOk P w (upd H a o) h':=λ b u e=>by
 have hn:=x.fresh hp
 by_cases hb:b=a
 . subst hb;rw[aP]at e;cases e;exact new
 . rw[aA hb]at e
   exact(x b u e).stay (λ c v _ q=>k c v q) (λ c q=>by rw[aA (aH q hn)];exact q) λ c xs q=>by rw[aA (aH q hn)];exact q
end
def Rd(H:Hp)(a:Addr)(u:HO):Prop:=H a=some u∨∃o,H a=some (.frz o u)
theorem Rd.ok{P:Program}{w:World}{H:Hp}{h:Heap}{a:Addr}{u:HO}(r:Rd H a u)(x:HOk P w H h):bz P w H h a u:=by
 rcases r with r | ⟨o,r⟩
 . exact x a u r
 . obtain⟨_,q⟩:=x a _ r
   exact q
def Mut:Option HO->Prop
 | some (.lst _)=>True
 | some (.dK _)=>True
 | some (.dT _)=>True
 | some (.set _ _)=>True
 | some (.ins _ _ _)=>True
 | some (.ext _)=>True
 | _=>False
section
variable {P : Program} {w : World} {H : Hp} {h h' : Heap} {x e : Addr} {o' : HO}
theorem HOk.write(ok:HOk P w H h)(mu:Mut (H x))(he:e=x∨H e=some (.own x))(k:∀b u,b≠e->h.get? b=some u->h'.get? b=some u)(heo:∃u,h'.get? e=some u)
 (new:bz P w (upd H x o') h' x o'):HOk P w (upd H x o') h':=λ b u q=>by
 have nown:∀c y,H c=some (.own y)->c≠x:=λ c y r z=>by subst z;rw[r]at mu;exact mu
 have ntup:∀c xs,H c=some (.tup xs)->c≠x:=λ c xs r z=>by subst z;rw[r]at mu;exact mu
 by_cases hb:b=x
 . subst hb;rw[aP]at q;cases q;exact new
 . rw [aA hb]at q
   by_cases hbe:b=e
   . have q':H b=some (.own x):=by
      rcases he with z | z
      . exact absurd (hbe.trans z) hb
      . rw[hbe];exact z
     rw[q]at q';cases q'
     obtain⟨v,hv⟩:=heo
     exact⟨v,by rw[hbe];exact hv⟩
   . refine(ok b u q).stay (λ c v hc r=>k c v ?_ r) (λ c r=>by rw[aA (nown c b r)];exact r) λ c xs r=>by rw[aA (ntup c xs r)];exact r
     rcases hc with rfl | hc
     . exact hbe
     . rintro rfl
       rcases he with z | z
       . exact nown c b hc z
       . rw[hc]at z;cases z;exact hb rfl
end
structure Un(fs ex:List Addr)(H H':Hp)(h h':Heap):Prop where
 keep:∀b o,h.get? b=some o->H b=none->b∉fs->b∉ex->h'.get? b=some o
 slot:∀b o,h.get? b=some o->H b=none->b∈fs->b∉ex->∃sl,h'.get? b=some {o with slots:=sl}
 free:∀b o,h.get? b=some o->H b=none->b∉ex->H' b=none
 there:∀b o,h.get? b=some o->b∉ex->∃o',h'.get? b=some o'
 tups:∀b xs,H b=some (.tup xs)->H' b=some (.tup xs)
 frzs:∀b o u,H b=some (.frz o u)->H' b=some (.frz o u)
 tbls:∀b ps,H b=some (.tbl ps)->∃more,H' b=some (.tbl (ps++more))
section
variable {fs fs' ex ex' : List Addr} {H H1 H2 : Hp} {h h1 h2 h' : Heap} {a x e : Addr} {o : HO}
theorem Un.any(u:Un fs ex H H1 h h1){b:Addr}{ob:Obj}(q:h.get? b=some ob)(n:H b=none)(hx:b∉ex):∃sl,h1.get? b=some {ob with slots:=sl}:=by
 by_cases hb:b∈fs
 . exact u.slot b ob q n hb hx
 . exact⟨ob.slots,u.keep b ob q n hb hx⟩
theorem Un.kept(k:∀b u,h.get? b=some u->h'.get? b=some u):Un fs ex H H h h':=
 ⟨λ b ob q _ _ _=>k b ob q,λ b ob q _ _ _=>⟨ob.slots,k b ob q⟩,λ _ _ _ n _=>n,λ b ob q _=>⟨ob,k b ob q⟩,λ _ _ q=>q,λ _ _ _ q=>q,λ _ ps q=>⟨#[],by rw[q];simp⟩⟩
theorem Un.refl:Un fs ex H H h h:=Un.kept λ _ _ q=>q
theorem Un.laid(k:∀b u,h.get? b=some u->h'.get? b=some u)(hp:h.objs.size≤a)(hn:H a=none):Un fs ex H (upd H a o) h h' where
 keep:=λ b u q _ _ _=>k b u q
 slot:=λ b u q _ _ _=>⟨u.slots,k b u q⟩
 free:=λ b u q n _=>by rw[aA (v3 (w9 (Heap.lt_size q) hp))];exact n
 there:=λ b u q _=>⟨u,k b u q⟩
 tups:=λ b xs q=>by rw[aA (aH q hn)];exact q
 frzs:=λ b u xs q=>by rw[aA (aH q hn)];exact q
 tbls:=λ b ps q=>⟨#[],by rw[aA (aH q hn),q];simp⟩
theorem Un.write(mu:Mut (H x))(he:e=x∨H e=some (.own x))(k:∀b u,b≠e->h.get? b=some u->h'.get? b=some u)(heo:∃u,h'.get? e=some u):Un fs ex H (upd H x o) h h':=by
 have hx:∀b,H b=none->b≠x:=λ b n z=>by subst z;rw[n]at mu;exact mu
 have hb:∀b,H b=none->b≠e:=λ b n z=>by
  subst z
  rcases he with r | r
  . exact hx b n r
  . rw[n]at r;cases r
 have hm:∀b u,H b=some u->¬Mut (some u)->b≠x:=λ b u q nm z=>by subst z;rw[q]at mu;exact nm mu
 refine⟨λ b u q n _ _=>k b u (hb b n) q,λ b u q n _ _=>⟨u.slots,k b u (hb b n) q⟩,λ b u q n _=>by rw[aA (hx b n)];exact n,λ b u q _=>?_,
  λ b xs q=>by rw[aA (hm b _ q λ z=>z)];exact q,λ b u xs q=>by rw[aA (hm b _ q λ z=>z)];exact q,λ b ps q=>⟨#[],by rw[aA (hm b _ q λ z=>z),q];simp⟩⟩
 by_cases hbe:b=e
 . subst hbe;exact heo
 . exact⟨u,k b u hbe q⟩
end
def trk(h:Heap)(H:Hp):List Addr:=(List.range h.objs.size).filter λ a=>(H a).isSome
def jY(h:Heap)(H:Hp):Heap:=PySem.W.hideAll h (trk h H)
theorem Gj(h:Heap)(H:Hp):(jY h H).objs.size=h.objs.size:=PySem.W.hideAll_size _ _
theorem JD{h:Heap}{H:Hp}{o:Obj}(e:h.get? b=some o)(n:H b=none):(jY h H).get? b=some o:=
 PySem.W.hideAll_get _ e λ hm=>by
  have q:(H b).isSome=true:=(List.mem_filter.mp hm).2
  rw[n]at q;simp at q
theorem LK{h:Heap}{H:Hp}{o:Obj}(e:(jY h H).get? b=some o):h.get? b=some o/\H b=none:=by
 have e':h.get? b=some o:=PySem.W.of_hideAll (trk h H) e
 refine⟨e',?_⟩
 cases q:H b with
 | none=>rfl
 | some x=>
   have hm:b∈trk h H:=List.mem_filter.mpr ⟨List.mem_range.mpr (Heap.lt_size e'),by simp[q]⟩
   have z:(jY h H).get? b=none:=PySem.W.hideAll_none (trk h H) hm
   rw[z]at e;cases e
end L2
namespace L2
open PySem PySem.Spec PyProof.Rows
variable {t' : Nat}
structure Mod(K:PySem.W.Frag)(mg:Str->Option Value)(base:Heap):Prop where
 kin:K.In base
 glob:base.Ns mainGlobals mg
 blt:∃mb,base.Ns builtinsNs mb/\∀x:Str,x≠"__name__"->mb x=bootBuiltins x
 nolimit:base.NoLimit
set_option genInjectivity false in
structure Cx where
 prog:Program
 w:World
 K:PySem.W.Frag
 mg:Str->Option Value
 base:Heap
 A:Around
 N:List Str
 s₀:Shared
 H₀:Hp
 env:Env
 outer:List Env
 stack:List Env
 ex:List Addr
 fn:Str->Bool
 calm:Bool
 pn:List (Addr×Obj)
 xe:Value->Shared->Prop
def frs(l:List Env):List Addr:=l.filterMap (·.frame)
abbrev Cx.fs(X:Cx):List Addr:=frs X.outer
def Vis(sc:Scope)(x:Str):Prop:=sc.names.lookup x=some .local∨sc.names.lookup x=some .cell∨sc.names.lookup x=some .free
def Loc(sc:Scope)(x:Str):Prop:=sc.names.lookup x=some .local∨sc.names.lookup x=some .cell
def Look(env:Env)(h:Heap)(m:Str->Option Value)(x:Str)(u:Value):Prop:=
 (env.kindOf x=some .local/\m x=some u)∨((env.kindOf x=some .cell∨env.kindOf x=some .free)/\∃c,env.cells.lookup x=some c/\h.IsCell c (some u))
structure Cx.Ok(X:Cx):Prop where
 mod:Mod X.K X.mg X.base
 kind:X.env.scope.kind=.function
 glob:X.env.globals=mainGlobals
 blt:X.env.builtins=builtinsNs
 above:X.s₀.heap.objs.size≤X.env.locals
 inj:∀x y c,X.env.cells.lookup x=some c->X.env.cells.lookup y=some c->x=y
 has:∀x,(X.env.kindOf x=some .cell∨X.env.kindOf x=some .free)->∃c,X.env.cells.lookup x=some c
 cab:∀x c,X.fn x=true->X.env.cells.lookup x=some c->X.s₀.heap.objs.size≤c
 hd:X.calm=true->X.A.handled=none
 frames:X.A.frames=some X.stack
 stk:X.stack=X.outer∨(X.stack=X.env::X.outer/\X.env.frame=some X.env.locals)
 exf:∀b∈X.ex,b≠X.env.locals/\∀x c,X.env.cells.lookup x=some c->c≠b
 bs:∀b o,X.base.get? b=some o->X.s₀.heap.get? b=some o/\X.H₀ b=none
 bsz:X.base.objs.size≤X.s₀.heap.objs.size
 noex:∀b o,X.base.get? b=some o->b∉X.ex
 exfs:∀b∈X.ex,b∉X.fs
 funs:X.s₀.heap.FunFrames X.base X.outer
 frf:∀b∈X.fs,X.H₀ b=none
structure Inv(X:Cx)(pins:List (Addr×Obj))(σ:List (Option V))(H:Hp)(s:Shared):Prop where
 ok:X.Ok
 os:s.os=X.s₀.os
 bare:AllBare s.gens
 base:Un X.fs X.ex X.H₀ H X.s₀.heap s.heap
 loc:∃m,s.heap.Ns X.env.locals m/\∀(i:Nat)(x:Str)(v:V),X.N[i]? =some x->σ[i]? =some (some v)->Vis X.env.scope x->∃u,RelV v u/\Look X.env s.heap m x u
 cell:∀x c,X.env.cells.lookup x=some c->∃v,s.heap.IsCell c v
 free:H X.env.locals=none
 freeC:∀x c,X.env.cells.lookup x=some c->H c=none
 pin:∀p∈X.pn++pins,s.heap.get? p.1=some p.2/\H p.1=none/\p.1≠X.env.locals/\p.1∉X.fs/\∀v,p.2.data≠.cell v
 hok:HOk X.prog X.w H s.heap
 len:σ.length=X.N.length
section
variable {X : Cx} {pins : List (Addr × Obj)} {σ : List (Option V)} {H H' : Hp} {s : Shared} {h' : Heap}
theorem Cx.Ok.nofr(ok:X.Ok){b:Addr}{o:Obj}(e:X.base.get? b=some o):b∉X.fs:=λ hb=>by
 have:=(ok.funs.mem hb).1
 rw[e]at this;cases this
theorem Inv.bs(I:Inv X pins σ H s):∀b o,X.base.get? b=some o->s.heap.get? b=some o/\H b=none:=λ b o e=>
 ⟨I.base.keep b o (I.ok.bs b o e).1 (I.ok.bs b o e).2 (I.ok.nofr e) (I.ok.noex b o e),I.base.free b o (I.ok.bs b o e).1 (I.ok.bs b o e).2 (I.ok.noex b o e)⟩
theorem Inv.bk(I:Inv X pins σ H s):∀b o,X.base.get? b=some o->s.heap.get? b=some o:=λ b o e=>(I.bs b o e).1
theorem Inv.mod(I:Inv X pins σ H s):Mod X.K X.mg X.base:=I.ok.mod
theorem Inv.kIn(I:Inv X pins σ H s):X.K.In s.heap:=I.ok.mod.kin.keeps I.bk
theorem Inv.lt(I:Inv X pins σ H s):X.env.locals<s.heap.objs.size:=let ⟨_,hn,_⟩:=I.loc;hn.lt
theorem Inv.sz(I:Inv X pins σ H s):X.s₀.heap.objs.size≤s.heap.objs.size:=Nat.le_trans I.ok.above (Nat.le_of_lt I.lt)
theorem Inv.nofs(I:Inv X pins σ H s){a:Addr}(h:s.heap.objs.size≤a):a∉X.fs:=λ hb=>by
 obtain⟨_,o,ho,_⟩:=I.ok.funs.mem hb
 exact absurd (w9 (Heap.lt_size ho) (Nat.le_trans I.sz h)) (Nat.lt_irrefl _)
theorem Inv.cne(I:Inv X pins σ H s):∀x c,X.env.cells.lookup x=some c->c≠X.env.locals:=λ x c e z=>by
 obtain⟨v,o,ho,hd⟩:=I.cell x c e
 obtain⟨m,⟨o',es,ep,ho',hd',_⟩,_⟩:=I.loc
 rw[z,ho']at ho;cases ho;rw[hd']at hd;cases hd
theorem Inv.funs(I:Inv X pins σ H s):s.heap.FunFrames X.base X.outer:=by
 have all:∀(l:List Env),(∀b∈frs l,b∈X.fs)->X.s₀.heap.FunFrames X.base l->s.heap.FunFrames X.base l:=by
  intro l
  induction l with
  | nil=>intro _ _;trivial
  | cons env r ih=>
    intro hs hl
    obtain⟨hk,⟨L,o,hf,hn,ho,hd⟩,hr⟩:=hl
    have hL:L∈X.fs:=hs L (by unfold frs;rw[List.filterMap_cons,hf];exact x6)
    obtain⟨sl,e⟩:=I.base.slot L o ho (I.ok.frf L hL) hL λ z=>I.ok.exfs L z hL
    exact⟨hk,⟨L,_,hf,hn,e,hd⟩,ih (λ b hb=>hs b (by unfold frs;rw[List.filterMap_cons,hf];exact y9 _ hb)) hr⟩
 exact all X.outer (λ _ hb=>hb) I.ok.funs
theorem Inv.stack(I:Inv X pins σ H s):s.heap.FunFrames X.base X.stack:=by
 rcases I.ok.stk with e | ⟨e,hf⟩
 . rw[e];exact I.funs
 . rw[e]
   obtain⟨m,hn,_⟩:=I.loc
   refine .cons (by rw[I.ok.kind];decide) hf hn ?_ I.funs
   exact Heap.get?_none_of_le (Nat.le_trans I.ok.bsz I.ok.above)
theorem Inv.stkSub(I:Inv X pins σ H s):∀b∈frs X.stack,b∈X.env.locals::X.fs:=λ b hb=>by
 rcases I.ok.stk with e | ⟨e,hf⟩
 . rw[e]at hb;exact y9 _ hb
 . rw[e]at hb
   unfold frs at hb
   rw[List.filterMap_cons,hf]at hb
   exact hb
theorem Inv.stkFree(I:Inv X pins σ H s):∀b∈frs X.stack,H b=none:=λ b hb=>by
 rcases List.mem_cons.mp (I.stkSub b hb)with e | hb
 . rw[e];exact I.free
 . obtain⟨_,o,ho,_⟩:=I.ok.funs.mem hb
   exact I.base.free b o ho (I.ok.frf b hb) λ z=>I.ok.exfs b z hb
theorem Inv.step{g':Array GenState}{d':Drawn}{ch:List Addr}(I:Inv X pins σ H s)
 (hch:∀b∈ch,(b∈X.ex∨X.s₀.heap.objs.size≤b)/\b≠X.env.locals/\(∀x c,X.env.cells.lookup x=some c->c≠b)/\∀p∈X.pn++pins,p.1≠b)
 (keep:∀b o,b≠X.env.locals->b∉X.fs->b∉ch->s.heap.get? b=some o->H b=none->h'.get? b=some o)
 (slot:∀b o,b≠X.env.locals->b∈X.fs->b∉ch->s.heap.get? b=some o->H b=none->∃sl,h'.get? b=some {o with slots:=sl})(free:∀b o,b∉ch->s.heap.get? b=some o->H b=none->H' b=none)
 (there:∀b o,b∉ch->s.heap.get? b=some o->∃o',h'.get? b=some o')
 (tups:∀b xs,H b=some (.tup xs)->H' b=some (.tup xs))(frzs:∀b o u,H b=some (.frz o u)->H' b=some (.frz o u))(tbls:∀b ps,H b=some (.tbl ps)->∃more,H' b=some (.tbl (ps++more)))
 (ns:∀m,s.heap.Ns X.env.locals m->h'.Ns X.env.locals m)(hok:HOk X.prog X.w H' h')(hg:AllBare g'):
 Inv X pins σ H' {s with heap:=h',gens:=g',drawn:=d',toks:=t'}:=by
 have neL:∀b o,X.s₀.heap.get? b=some o->b≠X.env.locals:=λ b o e=>v3 (w9 (Heap.lt_size e) I.ok.above)
 have neC:∀b o,X.s₀.heap.get? b=some o->b∉X.ex->b∉ch:=λ b o e hx hb=>by
  rcases(hch b hb).1 with z | z
  . exact hx z
  . exact absurd (w9 (Heap.lt_size e) z) (Nat.lt_irrefl _)
 have cellK:∀x c,X.env.cells.lookup x=some c->∀v,s.heap.IsCell c v->h'.IsCell c v:=λ x c e v ⟨o,ho,hd⟩=>by
  have nch:c∉ch:=λ z=>(hch c z).2.2.1 x c e rfl
  by_cases hc:c∈X.fs
  . obtain⟨sl,q⟩:=slot c o (I.cne x c e) hc nch ho (I.freeC x c e)
    exact⟨_,q,hd⟩
  . exact⟨o,keep c o (I.cne x c e) hc nch ho (I.freeC x c e),hd⟩
 refine⟨I.ok,I.os,hg,⟨λ b o e n hb hx=>?_,λ b o e n hb hx=>?_,λ b o e n hx=>?_,λ b o e hx=>?_,λ b xs e=>tups b xs (I.base.tups b xs e),λ b o xs e=>frzs b o xs (I.base.frzs b o xs e),λ b ps e=>?_⟩,?_,λ x c e=>?_,?_,λ x c e=>?_,λ p hp=>?_,hok,I.len⟩
 . exact keep b o (neL b o e) hb (neC b o e hx) (I.base.keep b o e n hb hx) (I.base.free b o e n hx)
 . obtain⟨sl,e1⟩:=I.base.slot b o e n hb hx
   obtain⟨sl',e2⟩:=slot b _ (neL b o e) hb (neC b o e hx) e1 (I.base.free b o e n hx)
   exact⟨sl',e2⟩
 . obtain⟨o',e1⟩:=I.base.there b o e hx
   exact free b o' (neC b o e hx) e1 (I.base.free b o e n hx)
 . obtain⟨o',e1⟩:=I.base.there b o e hx
   exact there b o' (neC b o e hx) e1
 . obtain⟨m1,e1⟩:=I.base.tbls b ps e
   obtain⟨m2,e2⟩:=tbls b _ e1
   exact⟨m1++m2,by rw[e2,Array.append_assoc]⟩
 . obtain⟨m,hn,hl⟩:=I.loc
   refine⟨m,ns m hn,λ i x v e1 e2 e3=>?_⟩
   obtain⟨u,r,l⟩:=hl i x v e1 e2 e3
   refine⟨u,r,?_⟩
   rcases l with l | ⟨k,c,e,z⟩
   . exact .inl l
   . exact .inr ⟨k,c,e,cellK x c e _ z⟩
 . obtain⟨v,z⟩:=I.cell x c e
   exact⟨v,cellK x c e v z⟩
 . obtain⟨m,⟨o,_,_,ho,_⟩,_⟩:=I.loc
   exact free _ o (λ z=>(hch _ z).2.1 rfl) ho I.free
 . obtain⟨v,o,ho,hd⟩:=I.cell x c e
   exact free c o (λ z=>(hch c z).2.2.1 x c e rfl) ho (I.freeC x c e)
 . obtain⟨e,n,ne,nf,d⟩:=I.pin p hp
   have nch:p.1∉ch:=λ z=>(hch p.1 z).2.2.2 p hp rfl
   exact⟨keep p.1 p.2 ne nf nch e n,free p.1 p.2 nch e n,ne,nf,d⟩
theorem Inv.un(I:Inv X pins σ H s)(u:Un X.fs [] H H' s.heap h')(hok:HOk X.prog X.w H' h'):Inv X pins σ H' {s with heap:=h',toks:=t'}:=by
 obtain⟨m,⟨o,es,ep,ho,r⟩,_⟩:=id I.loc
 obtain⟨sl,hL⟩:=u.any ho I.free (by simp)
 exact I.step (g':=s.gens) (d':=s.drawn) (ch:=[]) (λ _ z=>nomatch z) (λ b o _ hb _ e n=>u.keep b o e n hb (by simp)) (λ b o _ hb _ e n=>u.slot b o e n hb (by simp)) (λ b o _ e n=>u.free b o e n (by simp)) (λ b o _ e=>u.there b o e (by simp)) u.tups u.frzs u.tbls (λ m' hm=>by
  obtain⟨o',es',ep',ho',r'⟩:=hm
  rw[ho]at ho';cases ho'
  exact⟨_,es',ep',hL,r'⟩) hok I.bare
theorem Inv.call{g':Array GenState}{d':Drawn}{ch:List Addr}(I:Inv X pins σ H s)(u:Un (frs X.stack) ch H H' s.heap h')(hok:HOk X.prog X.w H' h')(hg:AllBare g')
 (hch:∀b∈ch,(b∈X.ex∨X.s₀.heap.objs.size≤b)/\b≠X.env.locals/\(∀x c,X.env.cells.lookup x=some c->c≠b)/\∀p∈X.pn++pins,p.1≠b):
 Inv X pins σ H' {s with heap:=h',gens:=g',drawn:=d',toks:=t'}:=by
 obtain⟨m,⟨o,es,ep,ho,r⟩,_⟩:=id I.loc
 obtain⟨sl,hL⟩:=u.any ho I.free λ z=>(hch _ z).2.1 rfl
 exact I.step (ch:=ch) hch (λ b o hL hb hc e n=>u.keep b o e n (λ z=>(List.mem_cons.mp (I.stkSub b z)).elim hL hb) hc) (λ b o _ _ hc e n=>u.any e n hc) (λ b o hc e n=>u.free b o e n hc) (λ b o hc e=>u.there b o e hc) u.tups u.frzs u.tbls (λ m' hm=>by
  obtain⟨o',es',ep',ho',r'⟩:=hm
  rw[ho]at ho';cases ho'
  exact⟨_,es',ep',hL,r'⟩) hok hg
theorem Inv.turned{it:Addr}(I:Inv X pins σ H s)(k:∀b o,b≠it->s.heap.get? b=some o->h'.get? b=some o)(hn:H it=none)(hL:it≠X.env.locals)
 (h1:it∈X.ex∨X.s₀.heap.objs.size≤it)(h2:∀x c,X.env.cells.lookup x=some c->c≠it)(h3:∀p∈X.pn++pins,p.1≠it):Inv X pins σ H {s with heap:=h',toks:=t'}:=by
 have nit:∀b u,H b=some u->b≠it:=λ b u e z=>by rw[z,hn]at e;cases e
 refine I.step (g':=s.gens) (d':=s.drawn) (ch:=[it]) (λ b hb=>?_) (λ b o _ _ hc e _=>k b o (λ z=>hc (by simp[z])) e) (λ b o _ _ hc e _=>⟨o.slots,k b o (λ z=>hc (by simp[z])) e⟩) (λ _ _ _ _ n=>n)
  (λ b o hc e=>⟨o,k b o (λ z=>hc (by simp[z])) e⟩) (λ _ _ e=>e) (λ _ _ _ e=>e) (λ b ps e=>⟨#[],by rw[e];simp⟩) (λ m hm=>?_) (λ b u e=>?_) I.bare
 . have e:b=it:=by simpa using hb
   subst e
   exact⟨h1,hL,h2,h3⟩
 . obtain⟨o,es,ep,ho,r⟩:=hm
   exact⟨o,es,ep,k _ o (Ne.symm hL) ho,r⟩
 . refine(I.hok b u e).stay (λ c v hc q=>k c v ?_ q) (λ _ q=>q) λ _ _ q=>q
   rcases hc with z | z
   . rw[z];exact nit b u e
   . exact nit c _ z
theorem Inv.tok(I:Inv X pins σ H s)(t:Nat):Inv X pins σ H {s with toks:=t}:=I.un (h':=s.heap) (t':=t) Un.refl I.hok
theorem Inv.kept(I:Inv X pins σ H s)(k:∀b u,s.heap.get? b=some u->h'.get? b=some u):Inv X pins σ H {s with heap:=h',toks:=t'}:=I.un (Un.kept k) (I.hok.kept k)
theorem Inv.laid{a:Addr}{o:HO}(I:Inv X pins σ H s)(k:∀b u,s.heap.get? b=some u->h'.get? b=some u)(hp:s.heap.objs.size≤a)(new:bz X.prog X.w (upd H a o) h' a o):
 Inv X pins σ (upd H a o) {s with heap:=h',toks:=t'}:=I.un (Un.laid k hp (I.hok.fresh hp)) (I.hok.laid k hp new)
theorem Inv.write{x e:Addr}{o:HO}(I:Inv X pins σ H s)(mu:Mut (H x))(he:e=x∨H e=some (.own x))(k:∀b u,b≠e->s.heap.get? b=some u->h'.get? b=some u)(heo:∃u,h'.get? e=some u)
 (new:bz X.prog X.w (upd H x o) h' x o):Inv X pins σ (upd H x o) {s with heap:=h',toks:=t'}:=I.un (Un.write mu he k heo) (I.hok.write mu he k heo new)
theorem Inv.pins_of{pins':List (Addr×Obj)}(I:Inv X pins σ H s)(h:∀p∈pins',s.heap.get? p.1=some p.2/\H p.1=none/\p.1≠X.env.locals/\p.1∉X.fs/\∀v,p.2.data≠.cell v):Inv X pins' σ H s:=
 ⟨I.ok,I.os,I.bare,I.base,I.loc,I.cell,I.free,I.freeC,λ p hp=>(List.mem_append.mp hp).elim (λ z=>I.pin p (List.mem_append_left _ z)) (h p),I.hok,I.len⟩
theorem yr{N:List Str}(hN:N.Nodup){i j:Nat}{x:Str}(a:N[i]? =some x)(b:N[j]? =some x):i=j:=by
 obtain⟨h1,e1⟩:=z0.mp a
 obtain⟨h2,e2⟩:=z0.mp b
 exact(List.getElem_inj hN).mp (e1.trans e2.symm)
theorem vX{M:Model}{A:Around}{E:Value->Shared->Prop}{i:Nat}{x:Str}{v:V}{u:Value}{Q:Unit->Shared->Prop}(I:Inv X pins σ H s)(hN:X.N.Nodup)(hi:X.N[i]? =some x)(hx:Loc X.env.scope x)(r:RelV v u)
 (h:∀s',Inv X pins (σ.set i (some v)) H s'->(∃a,Heap.SameBut a s.heap s'.heap/\(a=X.env.locals∨X.env.cells.lookup x=some a))->Q () s')(hf:X.fn x=true∨X.env.scope.names.lookup x=some .local:=by first | exact .inl rfl | exact .inr rfl | assumption):wpAny M A (storeName X.env x u) Q E s:=by
 obtain⟨m,hn,hl⟩:=id I.loc
 have hcls:(X.env.scope.kind==.class||(X.env.scope.kind==.module&&X.env.locals !=X.env.globals))=false:=by rw[I.ok.kind];rfl
 have hiσ:i<σ.length:=by rw[I.len];exact(z0.mp hi).1
 have cne:=I.cne
 have tracked:∀{a:Addr}{h':Heap},(∃o,s.heap.get? a=some o/\H a=none)->Heap.SameBut a s.heap h'->HOk X.prog X.w H h':=λ{a h'} ha hs b ob e=>by
  obtain⟨_,_,hfree⟩:=ha
  refine(I.hok b ob e).stay (λ c w' hc q=>(hs.2 c ?_).trans q) (λ _ q=>q) λ _ _ q=>q
  rintro rfl
  rcases hc with rfl | hc
  . rw[hfree]at e;cases e
  . rw[hfree]at hc;cases hc
 rcases hx with hk | hk
 . refine wpAny_storeName_local hk hn (λ h' hn' hs=>?_) hcls
   obtain⟨oL,_,_,hoL,_⟩:=id hn
   refine h _ ⟨I.ok,I.os,I.bare,⟨λ b o e n hb hx=>?_,λ b o e n hb hx=>?_,I.base.free,λ b o e hx=>?_,I.base.tups,I.base.frzs,I.base.tbls⟩,⟨_,hn',λ j y v' e1 e2 e3=>?_⟩,λ y c e=>?_,I.free,I.freeC,λ p hp=>?_,tracked ⟨oL,hoL,I.free⟩ hs,by simpa using I.len⟩ ⟨_,hs,.inl rfl⟩
   . exact(hs.2 b (v3 (w9 (Heap.lt_size e) I.ok.above))).trans (I.base.keep b o e n hb hx)
   . obtain⟨sl,e1⟩:=I.base.slot b o e n hb hx
     exact⟨sl,(hs.2 b (v3 (w9 (Heap.lt_size e) I.ok.above))).trans e1⟩
   . obtain⟨o',e1⟩:=I.base.there b o e hx
     exact⟨o',(hs.2 b (v3 (w9 (Heap.lt_size e) I.ok.above))).trans e1⟩
   . by_cases hj:j=i
     . subst hj
       rw[hi]at e1;cases e1
       rw[List.getElem?_set_self hiσ]at e2
       cases e2
       exact⟨u,r,.inl ⟨hk,by simp⟩⟩
     . rw[List.getElem?_set_ne (Ne.symm hj)]at e2
       obtain⟨u',r',q⟩:=hl j y v' e1 e2 e3
       refine⟨u',r',?_⟩
       rcases q with⟨k,e⟩ | ⟨k,c,e,z⟩
       . refine .inl ⟨k,?_⟩
         have:y≠x:=λ e=>hj (yr hN e1 (e▸hi))
         simp[this,e]
       . exact .inr ⟨k,c,e,z.sameBut hs (cne y c e)⟩
   . obtain⟨w',z⟩:=I.cell y c e
     exact⟨w',z.sameBut hs (cne y c e)⟩
   . obtain⟨e,n,ne,nf,d⟩:=I.pin p hp
     exact⟨(hs.2 p.1 ne).trans e,n,ne,nf,d⟩
 . have hfn:X.fn x=true:=by
    rcases hf with z | z
    . exact z
    . rw[z]at hk;cases hk
   obtain⟨c,hc⟩:=I.ok.has x (.inl hk)
   obtain⟨w',z⟩:=I.cell x c hc
   refine wpAny_storeName_cell I.ok.kind hk hc z (λ h' hc' hs=>?_)
   obtain⟨oc,hoc,hocd⟩:=id z
   refine h {s with heap:=h'} ⟨I.ok,I.os,I.bare,⟨λ b o e n hb hx=>?_,λ b o e n hb hx=>?_,I.base.free,λ b o e hx=>?_,I.base.tups,I.base.frzs,I.base.tbls⟩,⟨m,hn.sameBut hs (Ne.symm (cne x c hc)),λ j y v' e1 e2 e3=>?_⟩,λ y c' e=>?_,I.free,I.freeC,λ p hp=>?_,tracked ⟨oc,hoc,I.freeC x c hc⟩ hs,by simpa using I.len⟩ ⟨c,hs,.inr hc⟩
   . exact(hs.2 b (v3 (w9 (Heap.lt_size e) (I.ok.cab x c hfn hc)))).trans (I.base.keep b o e n hb hx)
   . obtain⟨sl,e1⟩:=I.base.slot b o e n hb hx
     exact⟨sl,(hs.2 b (v3 (w9 (Heap.lt_size e) (I.ok.cab x c hfn hc)))).trans e1⟩
   . obtain⟨o',e1⟩:=I.base.there b o e hx
     exact⟨o',(hs.2 b (v3 (w9 (Heap.lt_size e) (I.ok.cab x c hfn hc)))).trans e1⟩
   . by_cases hj:j=i
     . subst hj
       rw[hi]at e1;cases e1
       rw[List.getElem?_set_self hiσ]at e2
       cases e2
       exact⟨u,r,.inr ⟨.inl hk,c,hc,hc'⟩⟩
     . rw[List.getElem?_set_ne (Ne.symm hj)]at e2
       obtain⟨u',r',q⟩:=hl j y v' e1 e2 e3
       refine⟨u',r',?_⟩
       rcases q with q | ⟨k,c',e,z'⟩
       . exact .inl q
       . refine .inr ⟨k,c',e,z'.sameBut hs ?_⟩
         rintro rfl
         exact hj (yr hN e1 (I.ok.inj _ _ _ e hc▸hi))
   . by_cases hcc:c'=c
     . subst hcc;exact⟨_,hc'⟩
     . obtain⟨w2,z2⟩:=I.cell y c' e
       exact⟨w2,z2.sameBut hs hcc⟩
   . obtain⟨e,n,ne,nf,d⟩:=I.pin p hp
     refine⟨(hs.2 p.1 ?_).trans e,n,ne,nf,d⟩
     intro q
     rw[q,hoc]at e
     have q':oc=p.2:=Option.some.inj e
     exact d w' (by rw[←q'];exact hocd)
theorem zO{M:Model}{A:Around}{E:Value->Shared->Prop}{i:Nat}{x:Str}{v:V}{u:Value}{Q:Unit->Shared->Prop}(I:Inv X pins σ H s)(hN:X.N.Nodup)(hi:X.N[i]? =some x)(hx:Loc X.env.scope x)(r:RelV v u)
 (h:∀s',Inv X pins (σ.set i (some v)) H s'->Q () s')(hf:X.fn x=true∨X.env.scope.names.lookup x=some .local:=by first | exact .inl rfl | exact .inr rfl | assumption):wpAny M A (storeName X.env x u) Q E s:=
 vX I hN hi hx r (λ s' I' _=>h s' I') hf
theorem Inv.call'{s':Shared}{ch:List Addr}(I:Inv X pins σ H s)(ho:s'.os=s.os)(u:Un (frs X.stack) ch H H' s.heap s'.heap)(hok:HOk X.prog X.w H' s'.heap)(hg:AllBare s'.gens)
 (hch:∀b∈ch,(b∈X.ex∨X.s₀.heap.objs.size≤b)/\b≠X.env.locals/\(∀x c,X.env.cells.lookup x=some c->c≠b)/\∀p∈X.pn++pins,p.1≠b):Inv X pins σ H' s':=by
 obtain⟨h',g',d',t',o'⟩:=s'
 have e:o'=s.os:=ho
 subst e
 exact I.call (g':=g') (t':=t') (d':=d') u hok hg hch
end
abbrev XK:=Value->Option Addr->Hp->Prop
abbrev St:=List (Option V)
abbrev VK:=V->Hp->Prop
abbrev TE:=St->Hp->VK->Prop
abbrev TT:=St->Hp->(Bool->Hp->Prop)->Prop
abbrev TA:=St->Hp->(List V->Hp->Prop)->Prop
structure Ends where
 nx:St->Hp->Prop
 rt:VK
 bk:St->Hp->Prop:=λ _ _=>False
 ct:St->Hp->Prop:=λ _ _=>False
abbrev TS:=Ends->St->Hp->Prop
def EP(X:Cx)(pins:List (Addr×Obj))(σ:St)(Q:VK)(u:Value)(s':Shared):Prop:=∃v H',Inv X pins σ H' s'/\RelV v u/\Q v H'
def TP(X:Cx)(pins:List (Addr×Obj))(σ:St)(Q:Bool->Hp->Prop)(b:Bool)(s':Shared):Prop:=∃H',Inv X pins σ H' s'/\Q b H'
def AP(X:Cx)(pins:List (Addr×Obj))(σ:St)(Q:List V->Hp->Prop)(us:List Value)(s':Shared):Prop:=∃vs H',Inv X pins σ H' s'/\Vals vs us/\Q vs H'
def SP(X:Cx)(pins:List (Addr×Obj))(D:Ends)(f:Flow)(s':Shared):Prop:=
 match f with
 | .next=>∃σ' H',Inv X pins σ' H' s'/\D.nx σ' H'
 | .brk=>∃σ' H',Inv X pins σ' H' s'/\D.bk σ' H'
 | .cont=>∃σ' H',Inv X pins σ' H' s'/\D.ct σ' H'
 | .ret u=>∃v σ' H',Inv X pins σ' H' s'/\RelV v u/\D.rt v H'
def PE(X:Cx)(e:Expr)(t:TE):Prop:=
 ∀(pins:List (Addr×Obj))(s:Shared)(σ:St)(H:Hp)(Q:VK),Inv X pins σ H s->t σ H Q->wpAny (model X.prog X.w) X.A (eval e X.env) (EP X pins σ Q) X.xe s
def PA(X:Cx)(es:List Expr)(t:TA):Prop:=
 ∀(pos:Pos)(pins:List (Addr×Obj))(s:Shared)(σ:St)(H:Hp)(Q:List V->Hp->Prop),Inv X pins σ H s->t σ H Q->wpAny (model X.prog X.w) X.A (spliced (backTo pos (starEach es X.env))) (AP X pins σ Q) X.xe s
def PS(X:Cx)(st:Stmt)(t:TS):Prop:=
 ∀(pins:List (Addr×Obj))(s:Shared)(σ:St)(H:Hp)(D:Ends),Inv X pins σ H s->t D σ H->wpAny (model X.prog X.w) X.A (exec st X.env) (SP X pins D) X.xe s
def PSs(X:Cx)(st:List Stmt)(t:TS):Prop:=
 ∀(pins:List (Addr×Obj))(s:Shared)(σ:St)(H:Hp)(D:Ends),Inv X pins σ H s->t D σ H->wpAny (model X.prog X.w) X.A (execs st X.env) (SP X pins D) X.xe s
theorem thn{α:Type}{t:Sem α}{Q Q':α->Shared->Prop}{M:Model}{A:Around}{E:Value->Shared->Prop}{s:Shared}(h:wpAny M A t Q E s)(hQ:∀a s,Q a s->Q' a s):wpAny M A t Q' E s:=wpAny_mono h hQ λ _ _ x=>x
end L2
namespace L2
open PySem PySem.Spec PyProof.Rows
variable {x : Str} {u : Value}
section
variable {X : Cx}
def RZ(i:Nat):TE:=λ σ H Q=>∃v,σ[i]? =some (some v)/\Q v H
def tC(v:V):TE:=λ _ H Q=>Q v H
theorem NT{i:Nat}{pos:Pos}(hN:X.N[i]? =some x)(hv:Vis X.env.scope x)(hd:(x==("__debug__":Str))=false:=by decide)(hcd:(x==("__classdict__":Str))=false:=by decide):PE X (.Name x pos) (RZ i):=by
 intro pins s σ H Q I h
 obtain⟨v,e,h⟩:=h
 obtain⟨m,hn,hl⟩:=I.loc
 obtain⟨u,r,l⟩:=hl i x v hN e hv
 have fin:EP X pins σ Q u s:=⟨v,H,I,r,h⟩
 rcases l with⟨hk,hm⟩ | ⟨hk,c,hc,hcell⟩
 . exact wpAny_Name (wpAny_loadName_local I.ok.kind hk hn hm fin) hd
 . rcases hk with hk | hk
   . exact wpAny_Name (wpAny_loadName_cell I.ok.kind hk hc hcell fin) hd
   . exact wpAny_Name (wpAny_loadName_free I.ok.kind hk hc hcell fin hcd) hd
theorem Nv{i j pos}:PE X (.Constant (.int i) j pos) (tC (.int i)):=λ _ _ _ H _ I h=>wpAny_Constant_int ⟨.int i,H,I.tok _,⟨_,rfl⟩,h⟩
theorem QJ{b j pos}:PE X (.Constant (.bool b) j pos) (tC (.bl b)):=λ _ _ _ H _ I h=>Constant_bool ⟨.bl b,H,I,rfl,h⟩
theorem M4{x j pos}:PE X (.Constant (.str x) j pos) (tC (.str x)):=λ _ _ _ H _ I h=>Calls.Constant_str ⟨.str x,H,I.tok _,⟨_,rfl⟩,h⟩
def Gl(X:Cx)(x:Str):Prop:=X.env.kindOf x=some .globalImplicit
theorem ni{E:Value->Shared->Prop}{pins:List (Addr×Obj)}{s:Shared}{σ:St}{H:Hp}{pos:Pos}{Q:Value->Shared->Prop}(I:Inv X pins σ H s)(hg:Gl X x)(hm:X.mg x=some u)(h:Q u s)
 (hd:(x==("__debug__":Str))=false:=by decide):wpAny (model X.prog X.w) X.A (eval (.Name x pos) X.env) Q E s:=
 Calls.Name_function_global I.ok.kind hg (Calls.loadGlobal_global (by rw[I.ok.glob];exact I.mod.glob.keeps I.bk) hm h) hd
theorem gm{E:Value->Shared->Prop}{pins:List (Addr×Obj)}{s:Shared}{σ:St}{H:Hp}{pos:Pos}{Q:Value->Shared->Prop}(I:Inv X pins σ H s)(hg:Gl X x)(hm:X.mg x=none)(hv:bootBuiltins x=some u)(h:Q u s)
 (hn:x≠"__name__":=by decide)(hd:(x==("__debug__":Str))=false:=by decide):wpAny (model X.prog X.w) X.A (eval (.Name x pos) X.env) Q E s:=by
 obtain⟨mb,h1,h2⟩:=I.mod.blt
 exact Calls.Name_function_global I.ok.kind hg (Calls.loadGlobal_builtin (by rw[I.ok.glob];exact I.mod.glob.keeps I.bk) hm (by rw[I.ok.blt];exact h1.keeps I.bk) ((h2 x hn).trans hv) h) hd
theorem jN{v:V}{pos:Pos}(hg:Gl X x)(hm:X.mg x=some u)(r:RelV v u)(hd:(x==("__debug__":Str))=false:=by decide):PE X (.Name x pos) (tC v):=
 λ _ _ _ H _ I h=>ni I hg hm ⟨v,H,I,r,h⟩ hd
theorem Ci{v:V}{pos:Pos}(hg:Gl X x)(hm:X.mg x=none)(hv:bootBuiltins x=some u)(r:RelV v u)(hn:x≠"__name__":=by decide)(hd:(x==("__debug__":Str))=false:=by decide):PE X (.Name x pos) (tC v):=
 λ _ _ _ H _ I h=>gm I hg hm hv ⟨v,H,I,r,h⟩ hn hd
variable {a b : Expr} {ta tb : TE} {pos : Pos}
variable {tA tB' : TT} {rest : List Expr}
end
end L2
namespace L2
open PySem PySem.Spec PyProof.Rows
variable {K : PySem.W.Frag} {tg : Expr}
def SqL(K:PySem.W.Frag)(H:Hp)(a:Addr)(xs:List V):Prop:=
 Rd H a (.lst xs)∨
  ∃(o:Obj) (its:Array Value) (n:Nat),K.lookup a=some o/\o.cls=.type "list"/\o.dict=none/\o.data=.seq its n/\its.size≤sizeLine/\Vals xs its.toList
def SqT(K:PySem.W.Frag)(H:Hp)(a:Addr)(xs:List V):Prop:=
 Rd H a (.tup xs)∨
  ∃(o:Obj) (its:Array Value) (n:Nat),K.lookup a=some o/\o.cls=.type "tuple"/\o.data=.seq its n/\its.size≤sizeLine/\Vals xs its.toList
def R4:Value->Option V
 | .none=>some .non
 | .bool b=>some (.bl b)
 | .int i _=>some (.int i)
 | .str x _=>some (.str x)
 | .bytes b _=>some (.byt b)
 | .float b _=>some (.flt b)
 | .ref a=>some (.ref a)
 | .type n=>some (.ty n)
 | _=>none
theorem RelV.abs{x:V}{u:Value}(r:RelV x u):R4 u=some x:=by
 cases x with
 | non=>cases r;rfl
 | bl _=>cases r;rfl
 | int _=>obtain⟨t,rfl⟩:=r;rfl
 | str _=>obtain⟨t,rfl⟩:=r;rfl
 | byt _=>obtain⟨t,rfl⟩:=r;rfl
 | flt _=>obtain⟨t,rfl⟩:=r;rfl
 | ref _=>cases r;rfl
 | ty _=>cases r;rfl
theorem RelV.inj{x y:V}{u:Value}(r:RelV x u)(q:RelV y u):x=y:=Option.some.inj (r.abs.symm.trans q.abs)
theorem Vals.inj:∀{xs ys:List V}{us:List Value},Vals xs us->Vals ys us->xs=ys
 | _,_,_,.nil,.nil=>rfl
 | _,_,_,.cons r t,.cons r' t'=>by rw[r.inj r',Vals.inj t t']
section
variable {X : Cx} {pins : List (Addr × Obj)} {σ : St} {H : Hp} {s : Shared} {a : Addr} {xs ys : List V}
theorem SqL.of(h:H a=some (.lst xs)):SqL K H a xs:=.inl (.inl h)
theorem Inv.list(I:Inv X pins σ H s)(h:SqL X.K H a xs):∃its:List Value,Vals xs its/\PlainL s.heap a its.toArray/\xs.length≤sizeLine:=by
 rcases h with h | ⟨o,its,n,hk,hc,hd,hs,hz,r⟩
 . obtain⟨z,its,n,r,e⟩:=h.ok I.hok
   exact⟨its,r,⟨_,n,e,rfl,rfl,rfl⟩,z⟩
 . refine⟨its.toList,r,⟨o,n,I.kIn a o hk,hc,hd,by simpa using hs⟩,?_⟩
   have e:=r.length
   simp only[Array.length_toList]at e
   omega
theorem Inv.tuple(I:Inv X pins σ H s)(h:SqT X.K H a xs):∃its:List Value,Vals xs its/\IsTup s.heap a its.toArray/\xs.length≤sizeLine:=by
 rcases h with h | ⟨o,its,n,hk,hc,hs,hz,r⟩
 . obtain⟨z,its,r,p⟩:=h.ok I.hok
   exact⟨its,r,p,z⟩
 . refine⟨its.toList,r,⟨o,I.kIn a o hk,hc,n,by simpa using hs⟩,?_⟩
   have e:=r.length
   simp only[Array.length_toList]at e
   omega
theorem Inv.list_inj(I:Inv X pins σ H s)(h:SqL X.K H a xs)(h':SqL X.K H a ys):xs=ys:=by
 obtain⟨its,r,⟨o,n,e,_,_,d⟩,_⟩:=I.list h
 obtain⟨its',r',⟨o',n',e',_,_,d'⟩,_⟩:=I.list h'
 rw[e]at e';cases e'
 rw[d]at d'
 injection d' with d1 _
 have:its=its':=by simpa using congrArg Array.toList d1
 subst this
 exact r.inj r'
theorem Inv.tuple_inj(I:Inv X pins σ H s)(h:SqT X.K H a xs)(h':SqT X.K H a ys):xs=ys:=by
 obtain⟨its,r,⟨o,e,_,n,d⟩,_⟩:=I.tuple h
 obtain⟨its',r',⟨o',e',_,n',d'⟩,_⟩:=I.tuple h'
 rw[e]at e';cases e'
 rw[d]at d'
 injection d' with d1 _
 have:its=its':=by simpa using congrArg Array.toList d1
 subst this
 exact r.inj r'
end
abbrev Cx.wish(X:Cx)(E:Value->Shared->Prop):Cx:={X with xe:=E}
abbrev Cx.nox(X:Cx):Cx:=X.wish λ _ _=>False
theorem Cx.Ok.wish{X:Cx}(ok:X.Ok)(E:Value->Shared->Prop):(X.wish E).Ok:=
 ⟨ok.mod,ok.kind,ok.glob,ok.blt,ok.above,ok.inj,ok.has,ok.cab,ok.hd,ok.frames,ok.stk,ok.exf,ok.bs,ok.bsz,ok.noex,ok.exfs,ok.funs,ok.frf⟩
theorem Cx.Ok.unwish{X:Cx}{E:Value->Shared->Prop}(ok:(X.wish E).Ok):X.Ok:=
 ⟨ok.mod,ok.kind,ok.glob,ok.blt,ok.above,ok.inj,ok.has,ok.cab,ok.hd,ok.frames,ok.stk,ok.exf,ok.bs,ok.bsz,ok.noex,ok.exfs,ok.funs,ok.frf⟩
section
variable {X : Cx} {pins : List (Addr × Obj)} {σ : St} {H : Hp} {s : Shared} {E : Value -> Shared -> Prop}
theorem Inv.wish(I:Inv X pins σ H s)(E:Value->Shared->Prop):Inv (X.wish E) pins σ H s:=⟨I.ok.wish E,I.os,I.bare,I.base,I.loc,I.cell,I.free,I.freeC,I.pin,I.hok,I.len⟩
theorem Inv.unwish(I:Inv (X.wish E) pins σ H s):Inv X pins σ H s:=⟨I.ok.unwish,I.os,I.bare,I.base,I.loc,I.cell,I.free,I.freeC,I.pin,I.hok,I.len⟩
theorem SP.unwish{D:Ends}{f:Flow}{s':Shared}(h:SP (X.wish E) pins D f s'):SP X pins D f s':=by
 cases f with
 | next=>obtain⟨σ',H',I,q⟩:=h;exact⟨σ',H',I.unwish,q⟩
 | brk=>obtain⟨σ',H',I,q⟩:=h;exact⟨σ',H',I.unwish,q⟩
 | cont=>obtain⟨σ',H',I,q⟩:=h;exact⟨σ',H',I.unwish,q⟩
 | ret u=>obtain⟨v,σ',H',I,r,q⟩:=h;exact⟨v,σ',H',I.unwish,r,q⟩
theorem PSs.nox{st:List Stmt}{t:TS}(h:PSs X.nox st t):PSs X st t:=λ pins s σ H D I hw=>
 wpAny_mono (h pins s σ H D (I.wish _) hw) (λ _ _ q=>q.unwish) λ _ _ z=>False.elim z
end
section
variable {X : Cx} {st : Stmt} {rest : List Stmt} {t u : TS} {e : Expr} {te : TE} {pos : Pos}
theorem Inv.quiet{pins:List (Addr×Obj)}{σ:St}{H:Hp}{s:Shared}(I:Inv X pins σ H s):interactive X.env=false:=by simp[interactive,I.ok.kind]
end
abbrev TG:=V->St->Hp->(St->Hp->Prop)->Prop
def PG(X:Cx)(target:Expr)(t:TG):Prop:=
 ∀ (pins:List (Addr×Obj))(s:Shared)(σ:St)(H:Hp)(v:V)(u:Value)(Q:St->Hp->Prop),Inv X pins σ H s->RelV v u->t v σ H Q->
   wpAny (model X.prog X.w) X.A (assign target X.env u) (λ _ s'=>∃σ' H',Inv X pins σ' H' s'/\Q σ' H') X.xe s
abbrev Sw:=V->V->V->Hp->(Hp->Prop)->Prop
def R3(X:Cx)(t:Sw):Prop:=
 ∀ (pins:List (Addr×Obj))(s:Shared)(σ:St)(H:Hp)(o i v:V)(ov iv u:Value)(Q:Hp->Prop),Inv X pins σ H s->RelV o ov->RelV i iv->RelV v u->t o i v H Q->
   wpAny (model X.prog X.w) X.A (setItem ov iv u) (λ _ s'=>∃H',Inv X pins σ H' s'/\Q H') X.xe s
structure It where
 go:Nat->Hp->Prop
 yld:Nat->Hp->V->Hp->Prop
 stop:Nat->Hp->Prop
def fC(X:Cx)(pins:List (Addr×Obj))(H:Hp)(b:Addr):Prop:=
 H b=none/\b≠X.env.locals/\b∉X.fs/\(b∈X.ex∨X.s₀.heap.objs.size≤b)/\(∀x c,X.env.cells.lookup x=some c->c≠b)/\∀p∈X.pn++pins,p.1≠b
theorem Inv.fpOk{X:Cx}{pins:List (Addr×Obj)}{σ:St}{H H':Hp}{s:Shared}{b:Addr}(I:Inv X pins σ H s)(hb:s.heap.objs.size≤b)(hn:H' b=none):fC X pins H' b:=by
 refine⟨hn,Nat.ne_of_gt (w9 I.lt hb),I.nofs hb,.inr (Nat.le_trans I.sz hb),λ x c e z=>?_,λ p hp z=>?_⟩
 . obtain⟨v,q⟩:=I.cell x c e
   exact absurd (w9 q.lt (by rw[z];exact hb)) (Nat.lt_irrefl _)
 . exact absurd (w9 (Heap.lt_size (I.pin p hp).1) (by rw[z];exact hb)) (Nat.lt_irrefl _)
structure Turn(P:Program)(w:World)(K:PySem.W.Frag)(tg:Expr)(J:It)(fp:List Addr)(it:Addr)(tn:Nat->Heap->Prop):Prop where
 mem:it∈fp
 obj:∀i h,tn i h->∀b∈fp,∃o,h.get? b=some o/\∀v,o.data≠.cell v
 keep:∀i h h',tn i h->(∀b∈fp,∀o,h.get? b=some o->h'.get? b=some o)->tn i h'
 item:∀(X:Cx),X.prog=P->X.w=w->X.K=K->X.calm=true->∀(i:Nat)(pins:List (Addr×Obj))(s:Shared)(σ:St)(H:Hp)(E:Value->Shared->Prop),Inv X pins σ H s->(∀b∈fp,fC X pins H b)->tn i s.heap->J.go i H->
  wpAny (model P w) X.A (pyNext (.ref it)) (λ r s1=>∃u,r=some u/\
   wpAny (model P w) X.A (letOwnedTupleGo tg (.ref it) u) (λ _ s2=>∃x H',Inv X pins σ H' s2/\RelV x u/\J.yld i H x H'/\tn (i+1) s2.heap/\∀b∈fp,H' b=none) E s1) E s
 done:∀(X:Cx),X.prog=P->X.w=w->X.K=K->X.calm=true->∀(i:Nat)(pins:List (Addr×Obj))(s:Shared)(σ:St)(H:Hp)(E:Value->Shared->Prop),Inv X pins σ H s->(∀b∈fp,fC X pins H b)->tn i s.heap->J.stop i H->
  wpAny (model P w) X.A (pyNext (.ref it)) (λ r s1=>r=none/\Inv X pins σ H s1) E s
 self:∀(A:Around)(i:Nat)(s:Shared)(Q:Value->Shared->Prop)(E:Value->Shared->Prop),tn i s.heap->Q (.ref it) s->wpAny (model P w) A (pyIter (.ref it)) Q E s
abbrev TI:=St->Hp->(It->Hp->Prop)->Prop
def PIE(X:Cx)(pins:List (Addr×Obj))(σ:St)(tg:Expr)(R:It->Hp->Prop)(itv:Value)(s2:Shared):Prop:=
 ∃(it:Addr) (fp:List Addr) (tn:Nat->Heap->Prop) (J:It) (H':Hp),itv=.ref it/\Inv X pins σ H' s2/\Turn X.prog X.w X.K tg J fp it tn/\tn 0 s2.heap/\(∀b∈fp,fC X pins H' b)/\R J H'
def PI(X:Cx)(tg iter:Expr)(wi:TI):Prop:=
 ∀ (pins:List (Addr×Obj))(s:Shared)(σ:St)(H:Hp)(R:It->Hp->Prop),Inv X pins σ H s->wi σ H R->
   wpAny (model X.prog X.w) X.A (eval iter X.env) (λ v s1=>wpAny (model X.prog X.w) X.A (pyIter v) (PIE X pins σ tg R) X.xe s1) X.xe s
theorem ye{M:Model}{A:Around}{E:Value->Shared->Prop}{s:Shared}{it:Addr}{u:Value}{o:Obj}{n:String}{vs:Array Value}{Q:Unit->Shared->Prop}(ho:s.heap.get? it=some o)(hc:o.cls=.type n)(hd:o.data=.fields vs)
 (hn:["enumerate","zip","dict_itemiterator","dict_reverseitemiterator","odict_iterator","itertools.zip_longest","itertools.pairwise"].contains n=false)(hQ:Q () s):wpAny M A (letOwnedTupleGo tg (.ref it) u) Q E s:=by
 unfold letOwnedTupleGo
 cases tg<;>first
  | exact wpAny_pure hQ
  | (cases u<;>first
   | exact wpAny_pure hQ
   | (refine wpAny_bind (wpAny_load ho ?_)
      rw[hc,hd]
      show wpAny M A (if(["enumerate","zip","dict_itemiterator","dict_reverseitemiterator","odict_iterator","itertools.zip_longest","itertools.pairwise"].contains n&&vs[0]? ==some (rawInt _))=true then _ else _) Q E s
      rw[if_neg (by intro h;rw[hn,Bool.false_and]at h;cases h)]
      exact wpAny_pure hQ))
def Itl(K:PySem.W.Frag)(a:Addr):It:=
 ⟨λ i H=>∃xs x,SqL K H a xs/\xs[i]? =some x,λ i H x H'=>H'=H/\∀xs,SqL K H a xs->xs[i]? =some x,λ i H=>∃xs,SqL K H a xs/\xs.length≤i⟩
def Itt(K:PySem.W.Frag)(a:Addr):It:=
 ⟨λ i H=>∃xs x,SqT K H a xs/\xs[i]? =some x,λ i H x H'=>H'=H/\∀xs,SqT K H a xs->xs[i]? =some x,λ i H=>∃xs,SqT K H a xs/\xs.length≤i⟩
def Itr(lo:Int)(n:Nat):It:=⟨λ i _=>i<n,λ i H x H'=>H'=H/\x=.int (lo+i),λ i _=>n≤i⟩
theorem mK{P:Program}{w:World}(a it:Addr):Turn P w K tg (Itl K a) [it] it (λ i h=>h.IsListIter it a i) where
 mem:=by simp
 obj:=λ i h st b hb=>by
  have e:b=it:=by simpa using hb
  subst e
  obtain⟨o,e,c,d⟩:=st
  exact⟨o,e,λ v z=>by rw[d]at z;cases z⟩
 keep:=λ i h h' st k=>st.at λ o e=>k it (by simp) o e
 item:=by
  intro X hP hw hK hc i pins s σ H E I hf st hg
  subst hP hw hK
  obtain⟨xs,x,hq,hx⟩:=hg
  obtain⟨its,rv,p,hz⟩:=I.list hq
  obtain⟨u,hu,ru⟩:=rv.get hx
  obtain⟨f0,f1,f2,f3,f4,f5⟩:=hf it (by simp)
  refine wpAny_pyNext_list_item st p.isList (x:=u) (by simpa using hu) λ h' st' sb=>?_
  have I1:Inv X pins σ H {s with heap:=h'}:=I.turned (t':=s.toks) (λ b o hb e=>(sb.2 b hb).trans e) f0 f1 f3 f4 f5
  obtain⟨o,e,c,d⟩:=id st'
  exact⟨u,rfl,ye (s:={s with heap:=h'}) e c d (by decide) ⟨x,H,I1,ru,⟨rfl,λ ys hy=>by rw[I.list_inj hy hq];exact hx⟩,st',λ b hb=>(hf b hb).1⟩⟩
 done:=by
  intro X hP hw hK hc i pins s σ H E I hf st hg
  subst hP hw hK
  obtain⟨xs,hq,hx⟩:=hg
  obtain⟨its,rv,p,hz⟩:=I.list hq
  obtain⟨f0,f1,f2,f3,f4,f5⟩:=hf it (by simp)
  have hl:=rv.length
  exact wpAny_pyNext_list_end (I.ok.hd hc) st p.isList (by simp;omega) λ h' eb=>⟨rfl,I.turned (t':=s.toks) (λ b o hb e=>eb b o hb e) f0 f1 f3 f4 f5⟩
 self:=λ _ _ _ _ _ st h=>wpAny_pyIter_listiter st h
theorem qN{P:Program}{w:World}(a it:Addr):Turn P w K tg (Itt K a) [it] it (λ i h=>h.IsTupleIter it a i) where
 mem:=by simp
 obj:=λ i h st b hb=>by
  have e:b=it:=by simpa using hb
  subst e
  obtain⟨o,e,c,d⟩:=st
  exact⟨o,e,λ v z=>by rw[d]at z;cases z⟩
 keep:=λ i h h' st k=>st.at λ o e=>k it (by simp) o e
 item:=by
  intro X hP hw hK hc i pins s σ H E I hf st hg
  subst hP hw hK
  obtain⟨xs,x,hq,hx⟩:=hg
  obtain⟨its,rv,p,hz⟩:=I.tuple hq
  obtain⟨u,hu,ru⟩:=rv.get hx
  obtain⟨f0,f1,f2,f3,f4,f5⟩:=hf it (by simp)
  refine wpAny_pyNext_tuple_item st (show s.heap.IsTuple a its.toArray from p) (x:=u) (by simpa using hu) λ h' st' sb=>?_
  have I1:Inv X pins σ H {s with heap:=h'}:=I.turned (t':=s.toks) (λ b o hb e=>(sb.2 b hb).trans e) f0 f1 f3 f4 f5
  obtain⟨o,e,c,d⟩:=id st'
  exact⟨u,rfl,ye (s:={s with heap:=h'}) e c d (by decide) ⟨x,H,I1,ru,⟨rfl,λ ys hy=>by rw[I.tuple_inj hy hq];exact hx⟩,st',λ b hb=>(hf b hb).1⟩⟩
 done:=by
  intro X hP hw hK hc i pins s σ H E I hf st hg
  subst hP hw hK
  obtain⟨xs,hq,hx⟩:=hg
  obtain⟨its,rv,p,hz⟩:=I.tuple hq
  obtain⟨f0,f1,f2,f3,f4,f5⟩:=hf it (by simp)
  have hl:=rv.length
  exact wpAny_pyNext_tuple_end (I.ok.hd hc) st (show s.heap.IsTuple a its.toArray from p) (by simp;omega) λ h' eb=>⟨rfl,I.turned (t':=s.toks) (λ b o hb e=>eb b o hb e) f0 f1 f3 f4 f5⟩
 self:=λ _ _ _ _ _ st h=>wpAny_pyIter_tupleiter st h
theorem Eu{P:Program}{w:World}(it:Addr)(lo:Int)(n:Nat):Turn P w K tg (Itr lo n) [it] it (λ i h=>IsRangeIter h it (lo+(i:Nat)*1) ((n:Int)-(i:Nat)) 1) where
 mem:=by simp
 obj:=λ i h st b hb=>by
  have e:b=it:=by simpa using hb
  subst e
  exact⟨_,st,λ v z=>by
   have z':Data.fields _=Data.cell v:=z
   cases z'⟩
 keep:=λ i h h' st k=>k it (by simp) _ st
 item:=by
  intro X hP hw hK hc i pins s σ H E I hf st hg
  subst hP hw hK
  obtain⟨f0,f1,f2,f3,f4,f5⟩:=hf it (by simp)
  have W:=Walks.range (prog:=X.prog) (w:=X.w) (I.ok.hd hc) it lo 1 n
  refine W.item i s _ _ hg st λ v h' tk hv st' kk=>?_
  obtain⟨t,rfl⟩:=hv
  have I1:Inv X pins σ H {s with heap:=h',toks:=tk}:=I.turned (λ b o hb e=>kk b o (by simpa using hb) e) f0 f1 f3 f4 f5
  refine⟨_,rfl,ye (s:={s with heap:=h',toks:=tk}) (n:="range_iterator") st' rfl rfl (by decide) ⟨.int (lo+i),H,I1,⟨t,?_⟩,⟨rfl,rfl⟩,st',λ b hb=>(hf b hb).1⟩⟩
  rw[Int.mul_one]
 done:=by
  intro X hP hw hK hc i pins s σ H E I hf st hg
  subst hP hw hK
  obtain⟨f0,f1,f2,f3,f4,f5⟩:=hf it (by simp)
  exact wpAny_pyNext_range_end (I.ok.hd hc) st (by have:n≤i:=hg;omega) λ h' eb=>⟨rfl,I.turned (t':=s.toks) (λ b o hb e=>eb b o hb e) f0 f1 f3 f4 f5⟩
 self:=λ _ _ _ _ _ st h=>wpAny_pyIter_rangeiter st h
end L2
namespace L2
open PySem PySem.Spec PyProof.Rows
section
variable {X : Cx} {tg : Expr}
theorem zR{pins:List (Addr×Obj)}{σ:St}{H:Hp}{s:Shared}{R:It->Hp->Prop}{E:Value->Shared->Prop}{lo hi:Int}{t u v:Tok}{tk:Nat}(I:Inv X pins σ H s)(h1: -(2 ^ 62)≤lo)(h2:lo<2 ^ 62)(h3: -(2 ^ 62)≤hi)(h4:hi<2 ^ 62)
 (q:R (Itr lo (hi-lo).toNat) H):wpAny (model X.prog X.w) X.A (pyIter (.ref s.heap.objs.size)) (PIE X pins σ tg R) E {s with heap:=s.heap.push {cls:=.type "range",data:=.fields #[.int lo t,.int hi u,.int 1 v]},toks:=tk}:=by
 refine wpAny_pyIter_range (IsRange.new ..) (small_one h1 h2 h3 h4) ?_
 have I1:Inv X pins σ H {s with heap:=s.heap.push {cls:=.type "range",data:=.fields #[.int lo t,.int hi u,.int 1 v]},toks:=tk}:=I.kept λ b o e=>Heap.get?_push_of_some _ e
 refine⟨(s.heap.push {cls:=.type "range",data:=.fields #[.int lo t,.int hi u,.int 1 v]}).objs.size,[(s.heap.push {cls:=.type "range",data:=.fields #[.int lo t,.int hi u,.int 1 v]}).objs.size],_,_,H,rfl,
  I1.kept (t':=tk) λ b o e=>Heap.get?_push_of_some _ e,Eu _ lo (hi-lo).toNat,?_,λ b hb=>?_,q⟩
 . have e1:lo+((0:Nat):Int)*1=lo:=by simp
   have e2:(((hi-lo).toNat:Nat):Int)-((0:Nat):Int)=Builtin.Range.rangeSize lo hi 1:=by rw[rangeSize_one];split<;>omega
   show IsRangeIter _ _ (lo+((0:Nat):Int)*1) ((((hi-lo).toNat:Nat):Int)-((0:Nat):Int)) 1
   rw[e1,e2]
   exact Heap.get?_push_size _ rfl
 . have e:b=(s.heap.push {cls:=.type "range",data:=.fields #[.int lo t,.int hi u,.int 1 v]}).objs.size:=by simpa using hb
   subst e
   exact I1.fpOk (y8 _) (I1.hok.fresh (y8 _))
def Rz(ta:TA):TI:=λ σ H R=>ta σ H λ vs H1=>∃j:Int,vs=[.int j]/\ -(2 ^ 62)≤j/\j<2 ^ 62/\R (Itr 0 j.toNat) H1
def QR(ta:TA):TI:=λ σ H R=>ta σ H λ vs H1=>∃i j:Int,vs=[.int i,.int j]/\(-(2 ^ 62)≤i/\i<2 ^ 62/\ -(2 ^ 62)≤j/\j<2 ^ 62)/\R (Itr i (j-i).toNat) H1
theorem Fv{a:Expr}{ta:TA}{p pos:Pos}(hg:Gl X "range")(hm:X.mg "range"=none)(ha:PA X [a] ta)(hs:starEach [a] X.env=[(false,eval a X.env)]:=by rfl):PI X tg (.Call (.Name "range" p) [a] [] pos) (Rz ta):=by
 intro pins s σ H R I h
 refine Call_ (gm I hg hm boot_range (PyProof.Rows.callWith_type1 (thn (ha pos pins s σ H _ I h) λ us s1 ⟨vs,H1,I1,r1,q1⟩=>?_) hs rfl))
 obtain⟨j,e,q1,q2,q⟩:=q1
 subst e
 cases r1 with
 | cons r rr=>
   cases rr
   obtain⟨t,rfl⟩:=r
   exact call_range_1 (zR I1 (by omega) (by omega) q1 q2 (by simpa using q))
theorem Fg{a b:Expr}{ta:TA}{p pos:Pos}(hg:Gl X "range")(hm:X.mg "range"=none)(ha:PA X [a,b] ta)(hs:starEach [a,b] X.env=[(false,eval a X.env),(false,eval b X.env)]:=by rfl)(hs2:starEach [b] X.env=[(false,eval b X.env)]:=by rfl):
 PI X tg (.Call (.Name "range" p) [a,b] [] pos) (QR ta):=by
 intro pins s σ H R I h
 refine Call_ (gm I hg hm boot_range (PyProof.Rows.callWith_type1 (thn (ha pos pins s σ H _ I h) λ us s1 ⟨vs,H1,I1,r1,q1⟩=>?_) (by rw[hs,hs2]) (by rw[hs2];rfl)))
 obtain⟨i,j,e,⟨q1,q2,q3,q4⟩,q⟩:=q1
 subst e
 cases r1 with
 | cons r rr=>
   cases rr with
   | cons r' rr=>
     cases rr
     obtain⟨t,rfl⟩:=r
     obtain⟨t',rfl⟩:=r'
     exact call_range_2 (zR I1 q1 q2 q3 q4 q)
def R5(wi:TI)(g:TG)(tb:TS):TS:=λ D σ H=>wi σ H λ J H1=>∃W:Nat->Nat->St->Hp->Prop,(∃m,W 0 m σ H1)/\∀i m σ H,W i m σ H->
 (J.stop i H/\D.nx σ H)∨(J.go i H/\∃N:St->Hp->Prop,(∀σ' H',N σ' H'->∃m',m'<m/\W (i+1) m' σ' H')/\∀x H',J.yld i H x H'->g x σ H' λ σ2 H2=>tb {D with nx:=N,ct:=N,bk:=D.nx} σ2 H2)
def lN(fp:List Addr)(h:Heap):List (Addr×Obj):=fp.filterMap λ b=>(h.get? b).map λ o=>(b,o)
theorem gQ{fp:List Addr}{h:Heap}{b:Addr}{o:Obj}(hb:b∈fp)(e:h.get? b=some o):(b,o)∈lN fp h:=List.mem_filterMap.mpr ⟨b,hb,by rw[e];rfl⟩
theorem Gg{fp:List Addr}{h:Heap}{p:Addr×Obj}(hp:p∈lN fp h):p.1∈fp/\h.get? p.1=some p.2:=by
 obtain⟨b,hb,e⟩:=List.mem_filterMap.mp hp
 cases q:h.get? b with
 | none=>rw[q]at e;cases e
 | some o=>
   rw[q]at e
   have e':(b,o)=p:=Option.some.inj e
   subst e'
   exact⟨hb,q⟩
theorem Inv.pinned{pins:List (Addr×Obj)}{σ:St}{H:Hp}{s:Shared}{fp:List Addr}(I:Inv X pins σ H s)(hf:∀b∈fp,fC X pins H b)(ho:∀b∈fp,∃o,s.heap.get? b=some o/\∀v,o.data≠.cell v):Inv X (pins++lN fp s.heap) σ H s:=
 I.pins_of λ p hp=>(List.mem_append.mp hp).elim (λ z=>I.pin p (List.mem_append_right _ z)) λ z=>by
  obtain⟨hb,e⟩:=Gg z
  obtain⟨f0,f1,f2,_⟩:=hf p.1 hb
  obtain⟨o,e',d⟩:=ho p.1 hb
  rw[e]at e';cases e'
  exact⟨e,f0,f1,f2,d⟩
theorem Inv.unpinned{pins pl:List (Addr×Obj)}{σ:St}{H:Hp}{s:Shared}(I:Inv X (pins++pl) σ H s):Inv X pins σ H s:=I.pins_of λ p hp=>I.pin p (List.mem_append_right _ (List.mem_append_left _ hp))
theorem Hs{iter:Expr}{body:List Stmt}{wi:TI}{g:TG}{tb:TS}{pos:Pos}(hp:PassesOwn (model X.prog X.w) X.A X.env X.xe)(hc:X.calm=true)(hi:PI X tg iter wi)(hg:PG X tg g)(hb:PSs X body tb)
 (hs:∀x,foldedSetIterable iter X.env x=pure x:=by intro _;rfl):PS X (.For tg iter body [] pos) (R5 wi g tb):=by
 intro pins s σ H D I h
 refine wpAny_For (thn (hi pins s σ H _ I h) λ v s1 h1=>thn h1 λ itv s2 h2=>?_) hs
 obtain⟨it,fp,tn,J,H2,e,I2,T,st2,f2,W,⟨m0,w0⟩,turn⟩:=h2
 subst e
 have stat:∀{H':Hp},(∀b∈fp,H' b=none)->∀b∈fp,fC X pins H' b:=λ hn b hb=>⟨hn b hb,(f2 b hb).2⟩
 refine codeAny_forLoop_any (λ n s'=>∃i σ' H',Inv X pins σ' H' s'/\tn i s'.heap/\(∀b∈fp,H' b=none)/\W i n σ' H') ?_ m0 ⟨0,σ,H2,I2,st2,λ b hb=>(f2 b hb).1,w0⟩
 rintro n s3 ⟨i,σ3,H3,I3,st3,fr3,w3⟩
 rcases turn i n σ3 H3 w3 with⟨stop,qn⟩ | ⟨go,N,hN,step⟩
 . refine wpAny_passesOwn hp (thn (T.done X rfl rfl rfl hc i pins s3 σ3 H3 X.xe I3 (stat fr3) st3 stop) λ r s4 ⟨hr,I4⟩=>?_)
   subst hr
   exact wpAny_execs_nil ⟨σ3,H3,I4,qn⟩
 . refine wpAny_passesOwn hp (thn (T.item X rfl rfl rfl hc i pins s3 σ3 H3 X.xe I3 (stat fr3) st3 go) λ r s4 ⟨u,hr,h4⟩=>?_)
   subst hr
   refine wpAny_passesOwn hp (thn h4 λ _ s5 ⟨x,H5,I5,r5,y5,st5,fr5⟩=>?_)
   have I5':=I5.pinned (stat fr5) (T.obj _ _ st5)
   refine wpAny_passesOwn hp (thn (hg _ s5 σ3 H5 x u _ I5' r5 (step x H5 y5)) λ _ s6 ⟨σ6,H6,I6,q6⟩=>?_)
   refine wpAny_passesOwn hp (thn (hb _ s6 σ6 H6 _ I6 q6) λ f s7 q7=>?_)
   have again:∀{σ7:St}{H7:Hp},Inv X (pins++lN fp s5.heap) σ7 H7 s7->N σ7 H7->∃m,m<n/\∃i σ' H',Inv X pins σ' H' s7/\tn i s7.heap/\(∀b∈fp,H' b=none)/\W i m σ' H':=λ{σ7 H7} I7 n7=>by
    obtain⟨m',hm,w7⟩:=hN σ7 H7 n7
    refine⟨m',hm,i+1,σ7,H7,I7.unpinned,T.keep _ _ _ st5 λ b hb o e=>(I7.pin (b,o) (List.mem_append_right _ (List.mem_append_right _ (gQ hb e)))).1,λ b hb=>?_,w7⟩
    obtain⟨o,e,d⟩:=T.obj _ _ st5 b hb
    exact(I7.pin (b,o) (List.mem_append_right _ (List.mem_append_right _ (gQ hb e)))).2.1
   cases f with
   | next=>obtain⟨σ7,H7,I7,n7⟩:=q7;exact again I7 n7
   | cont=>obtain⟨σ7,H7,I7,n7⟩:=q7;exact again I7 n7
   | brk=>obtain⟨σ7,H7,I7,q7⟩:=q7;exact⟨σ7,H7,I7.unpinned,q7⟩
   | ret v=>obtain⟨x7,σ7,H7,I7,r7,q7⟩:=q7;exact⟨x7,σ7,H7,I7.unpinned,r7,q7⟩
end
abbrev R2:=V->V->Hp->VK->Prop
def OpR(X:Cx)(f:Value->Value->Sem Value)(r:R2):Prop:=
 ∀ (pins:List (Addr×Obj))(s:Shared)(σ:St)(H:Hp)(x y:V)(v u:Value)(Q:VK),Inv X pins σ H s->RelV x v->RelV y u->r x y H Q->
   wpAny (model X.prog X.w) X.A (f v u) (EP X pins σ Q) X.xe s
def UnR(X:Cx)(f:Value->Sem Value)(r:V->Hp->VK->Prop):Prop:=
 ∀ (pins:List (Addr×Obj))(s:Shared)(σ:St)(H:Hp)(x:V)(v:Value)(Q:VK),Inv X pins σ H s->RelV x v->r x H Q->
   wpAny (model X.prog X.w) X.A (f v) (EP X pins σ Q) X.xe s
def gM(X:Cx)(f:Value)(r:List V->Hp->VK->Prop):Prop:=
 ∀ (pins:List (Addr×Obj))(s:Shared)(σ:St)(H:Hp)(xs:List V)(us:List Value)(Q:VK),Inv X pins σ H s->Vals xs us->r xs H Q->
   wpAny (model X.prog X.w) X.A (call f us) (EP X pins σ Q) X.xe s
def rI(C:Int->Int->Prop)(g:Int->Int->V):R2:=λ x y H Q=>∃i j,x=.int i/\y=.int j/\C i j/\Q (g i j) H
def rI0(g:Int->Int->V):R2:=λ x y H Q=>∃i j,x=.int i/\y=.int j/\Q (g i j) H
def rU(g:Int->V):V->Hp->VK->Prop:=λ x H Q=>∃i,x=.int i/\Q (g i) H
section
variable {X : Cx} {a b c : Expr} {ta tb tc : TE} {pos : Pos}
theorem opI{f:Value->Value->Sem Value}{C:Int->Int->Prop}{g:Int->Int->Int}
 (rule:∀(i j:Int)(t u:Tok)(s:Shared)(Q:Value->Shared->Prop)(E:Value->Shared->Prop),C i j->Q (.int (g i j) s.toks) {s with toks:=s.toks+1}->wpAny (model X.prog X.w) X.A (f (.int i t) (.int j u)) Q E s):
 OpR X f (rI C λ i j=>.int (g i j)):=by
 intro pins s σ H x y v u Q I rx ry h
 obtain⟨i,j,rfl,rfl,hc,q⟩:=h
 obtain⟨t,rfl⟩:=rx
 obtain⟨t',rfl⟩:=ry
 exact rule i j t t' s _ _ hc ⟨.int (g i j),H,I.tok _,⟨_,rfl⟩,q⟩
theorem Oo{f:Value->Value->Sem Value}{g:Int->Int->Int}
 (rule:∀(i j:Int)(t u:Tok)(s:Shared)(Q:Value->Shared->Prop)(E:Value->Shared->Prop),Q (.int (g i j) s.toks) {s with toks:=s.toks+1}->wpAny (model X.prog X.w) X.A (f (.int i t) (.int j u)) Q E s):
 OpR X f (rI0 λ i j=>.int (g i j)):=by
 intro pins s σ H x y v u Q I rx ry h
 obtain⟨i,j,rfl,rfl,q⟩:=h
 obtain⟨t,rfl⟩:=rx
 obtain⟨t',rfl⟩:=ry
 exact rule i j t t' s _ _ ⟨.int (g i j),H,I.tok _,⟨_,rfl⟩,q⟩
theorem DW{f:Value->Value->Sem Value}{g:Int->Int->Bool}
 (rule:∀(i j:Int)(t u:Tok)(s:Shared)(Q:Value->Shared->Prop)(E:Value->Shared->Prop),Q (.bool (g i j)) s->wpAny (model X.prog X.w) X.A (f (.int i t) (.int j u)) Q E s):
 OpR X f (rI0 λ i j=>.bl (g i j)):=by
 intro pins s σ H x y v u Q I rx ry h
 obtain⟨i,j,rfl,rfl,q⟩:=h
 obtain⟨t,rfl⟩:=rx
 obtain⟨t',rfl⟩:=ry
 exact rule i j t t' s _ _ ⟨.bl (g i j),H,I,rfl,q⟩
def Su(i j:Int):Prop:=0<j/\j<1073741824
def CPow(i j:Int):Prop:=0≤j/\j≤1000000/\i.natAbs<2 ^ 64
def CMul(i j:Int):Prop:=(-(2 ^ 64)<i/\i<2 ^ 64)∨(-(2 ^ 64)<j/\j<2 ^ 64)
theorem CMul.ok{i j:Int}(h:CMul i j):IntMulOk i j:=by
 rcases h with⟨h1,h2⟩ | ⟨h1,h2⟩
 . exact .of_left (intBits_le_64 h1 h2)
 . exact .of_right (intBits_le_64 h1 h2)
theorem Qv:OpR X (binaryOp .Add) (rI0 λ i j=>.int (i+j)):=Oo λ _ _ _ _ _ _ _ q=>add_int q
theorem N7:OpR X (binaryOp .Sub) (rI0 λ i j=>.int (i-j)):=Oo λ _ _ _ _ _ _ _ q=>sub_int q
theorem M5:OpR X (binaryOp .Mult) (rI CMul λ i j=>.int (i*j)):=opI λ _ _ _ _ _ _ _ hc q=>mul_int q hc.ok
theorem K7:OpR X (binaryOp .FloorDiv) (rI Su λ i j=>.int (i/j)):=opI λ i j _ _ _ _ _ hc q=>by
 have h1:(0:Int)<j:=hc.1
 have h2:j<1073741824:=hc.2
 exact floordiv_int (by omega) (by rw[Int.fdiv_eq_ediv_of_nonneg i (by omega)];exact q) (.inl (PyProof.noPylong_small (by omega)))
theorem MJ:OpR X (binaryOp .Mod) (rI (λ _ j=>0<j) λ i j=>.int (i % j)):=opI λ i j _ _ _ _ _ hc q=>by
 have h1:(0:Int)<j:=hc
 exact mod_int' (by omega) (by rw[Int.fmod_eq_emod_of_nonneg i (by omega)];exact q)
theorem PX:OpR X (binaryOp .Pow) (rI CPow λ i j=>.int (i ^ j.toNat)):=opI λ _ _ _ _ _ _ _ hc q=>pow_int_small hc.1 hc.2.1 hc.2.2 q
theorem unI{f:Value->Sem Value}{g:Int->Int}
 (rule:∀(i:Int)(t:Tok)(s:Shared)(Q:Value->Shared->Prop)(E:Value->Shared->Prop),Q (.int (g i) s.toks) {s with toks:=s.toks+1}->wpAny (model X.prog X.w) X.A (f (.int i t)) Q E s):
 UnR X f (rU λ i=>.int (g i)):=by
 intro pins s σ H x v Q I rx h
 obtain⟨i,rfl,q⟩:=h
 obtain⟨t,rfl⟩:=rx
 exact rule i t s _ _ ⟨.int (g i),H,I.tok _,⟨_,rfl⟩,q⟩
theorem Ow:UnR X (unaryOp .USub) (rU λ i=>.int (-i)):=unI λ _ _ _ _ _ q=>neg_int q
end
def Qk:V->V->Bool
 | .non,.non=>true | .non,.int _=>true | .int _,.non=>true | .non,.bl _=>true | .bl _,.non=>true | .non,.str _=>true | .str _,.non=>true
 | .int _,.int _=>true | .bl _,.bl _=>true | .str _,.str _=>true | .byt _,.byt _=>true
 | .int _,.str _=>true | .str _,.int _=>true | .bl _,.str _=>true | .str _,.bl _=>true
 | _,_=>false
def rEq:R2:=λ x y H Q=>Qk x y=true/\Q (.bl (decide (x=y))) H
def rNe:R2:=λ x y H Q=>Qk x y=true/\Q (.bl (!decide (x=y))) H
theorem mU{i j:Int}:decide (V.int i=V.int j)=(i==j):=by
 rw[Bool.eq_iff_iff]
 simp
theorem sr{i j:Bool}:decide (V.bl i=V.bl j)=(i==j):=by
 rw[Bool.eq_iff_iff]
 simp
theorem CK{i j:Str}:decide (V.str i=V.str j)=(i==j):=by
 rw[Bool.eq_iff_iff]
 simp
theorem Cr{i j:Array UInt8}:decide (V.byt i=V.byt j)=(i.toList==j.toList):=by
 rw[Bool.eq_iff_iff]
 cases i
 cases j
 simp
section
variable {X : Cx} {a b c : Expr} {ta tb tc : TE} {pos : Pos}
theorem aF{pins:List (Addr×Obj)}{σ:St}{H:Hp}{s:Shared}{Q:VK}{k k':Bool}(I:Inv X pins σ H s)(q:Q (.bl k) H)(e:k=k'):EP X pins σ Q (.bool k') s:=by
 subst e
 exact⟨.bl k,H,I,rfl,q⟩
theorem J0:OpR X (compareOp .Eq) rEq:=by
 intro pins s σ H x y v u Q I rx ry h
 obtain⟨hs,q⟩:=h
 cases x with
 | non=>
   cases rx
   cases y with
   | non=>cases ry;exact PySem.EqNone.eq_none_none (aF I q (by simp))
   | bl j=>cases ry;exact PySem.EqNone.eq_none_bool (aF I q (by simp))
   | int j=>obtain⟨t',rfl⟩:=ry;exact PySem.EqNone.eq_none_int (aF I q (by simp))
   | str j=>obtain⟨t',rfl⟩:=ry;exact PySem.EqNone.eq_none_str (aF I q (by simp))
   | _=>exact absurd (show false=true from hs) y4
 | bl i=>
   cases rx
   cases y with
   | non=>cases ry;exact PySem.EqNone.eq_bool_none (aF I q (by simp))
   | bl j=>cases ry;exact eq_bool (aF I q sr)
   | str j=>obtain⟨t',rfl⟩:=ry;exact PySem.EqMixed.eq_bool_str (aF I q (by simp))
   | _=>exact absurd (show false=true from hs) y4
 | int i=>
   obtain⟨t,rfl⟩:=rx
   cases y with
   | non=>cases ry;exact PySem.EqNone.eq_int_none (aF I q (by simp))
   | int j=>obtain⟨t',rfl⟩:=ry;exact eq_int (aF I q mU)
   | str j=>obtain⟨t',rfl⟩:=ry;exact PySem.EqMixed.eq_int_str (aF I q (by simp))
   | _=>exact absurd (show false=true from hs) y4
 | str i=>
   obtain⟨t,rfl⟩:=rx
   cases y with
   | non=>cases ry;exact PySem.EqNone.eq_str_none (aF I q (by simp))
   | bl j=>cases ry;exact PySem.EqMixed.eq_str_bool (aF I q (by simp))
   | int j=>obtain⟨t',rfl⟩:=ry;exact PySem.EqMixed.eq_str_int (aF I q (by simp))
   | str j=>obtain⟨t',rfl⟩:=ry;exact eq_str (aF I q CK)
   | _=>exact absurd (show false=true from hs) y4
 | byt i=>
   obtain⟨t,rfl⟩:=rx
   cases y with
   | byt j=>obtain⟨t',rfl⟩:=ry;exact PySem.W.eq_bytes (aF I q Cr)
   | _=>exact absurd (show false=true from hs) y4
 | _=>cases y<;>exact absurd (show false=true from hs) y4
theorem Kc:OpR X (compareOp .NotEq) rNe:=by
 intro pins s σ H x y v u Q I rx ry h
 obtain⟨hs,q⟩:=h
 cases x with
 | non=>
   cases rx
   cases y with
   | non=>cases ry;exact PySem.EqNone.ne_none_none (aF I q (by simp))
   | bl j=>cases ry;exact PySem.EqNone.ne_none_bool (aF I q (by simp))
   | int j=>obtain⟨t',rfl⟩:=ry;exact PySem.EqNone.ne_none_int (aF I q (by simp))
   | str j=>obtain⟨t',rfl⟩:=ry;exact PySem.EqNone.ne_none_str (aF I q (by simp))
   | _=>exact absurd (show false=true from hs) y4
 | bl i=>
   cases rx
   cases y with
   | non=>cases ry;exact PySem.EqNone.ne_bool_none (aF I q (by simp))
   | bl j=>cases ry;exact ne_bool (aF I q (congrArg not sr))
   | str j=>obtain⟨t',rfl⟩:=ry;exact PySem.EqMixed.ne_bool_str (aF I q (by simp))
   | _=>exact absurd (show false=true from hs) y4
 | int i=>
   obtain⟨t,rfl⟩:=rx
   cases y with
   | non=>cases ry;exact PySem.EqNone.ne_int_none (aF I q (by simp))
   | int j=>obtain⟨t',rfl⟩:=ry;exact ne_int (aF I q (congrArg not mU))
   | str j=>obtain⟨t',rfl⟩:=ry;exact PySem.EqMixed.ne_int_str (aF I q (by simp))
   | _=>exact absurd (show false=true from hs) y4
 | str i=>
   obtain⟨t,rfl⟩:=rx
   cases y with
   | non=>cases ry;exact PySem.EqNone.ne_str_none (aF I q (by simp))
   | bl j=>cases ry;exact PySem.EqMixed.ne_str_bool (aF I q (by simp))
   | int j=>obtain⟨t',rfl⟩:=ry;exact PySem.EqMixed.ne_str_int (aF I q (by simp))
   | str j=>obtain⟨t',rfl⟩:=ry;exact ne_str (aF I q (congrArg not CK))
   | _=>exact absurd (show false=true from hs) y4
 | byt i=>
   obtain⟨t,rfl⟩:=rx
   cases y with
   | byt j=>obtain⟨t',rfl⟩:=ry;exact PySem.W.ne_bytes (aF I q (congrArg not Cr))
   | _=>exact absurd (show false=true from hs) y4
 | _=>cases y<;>exact absurd (show false=true from hs) y4
theorem QQ:OpR X (compareOp .Lt) (rI0 λ i j=>.bl (decide (i<j))):=DW λ _ _ _ _ _ _ _ q=>lt_int q
theorem RJ:OpR X (compareOp .LtE) (rI0 λ i j=>.bl (decide (i≤j))):=DW λ _ _ _ _ _ _ _ q=>le_int q
theorem RL:OpR X (compareOp .Gt) (rI0 λ i j=>.bl (decide (j<i))):=DW λ _ _ _ _ _ _ _ q=>gt_int q
theorem Rj:OpR X (compareOp .GtE) (rI0 λ i j=>.bl (decide (j≤i))):=DW λ _ _ _ _ _ _ _ q=>ge_int q
theorem Oh:OpR X (compareOp .Is) (λ x y H Q=>y=.non/\Q (.bl (decide (x=.non))) H):=by
 intro pins s σ H x y v u Q I rx ry h
 obtain⟨rfl,q⟩:=h
 cases ry
 refine is_none_gen (aF I q ?_)
 cases x<;>first
  | (cases rx;rfl)
  | (obtain⟨t,rfl⟩:=rx;rfl)
theorem KC:OpR X (compareOp .IsNot) (λ x y H Q=>y=.non/\Q (.bl (!decide (x=.non))) H):=by
 intro pins s σ H x y v u Q I rx ry h
 obtain⟨rfl,q⟩:=h
 cases ry
 refine isnot_none_gen (aF I q ?_)
 cases x<;>first
  | (cases rx;rfl)
  | (obtain⟨t,rfl⟩:=rx;rfl)
theorem DN{xs:List V}{its:List Value}(r:Vals xs its):(!its.toArray.isEmpty)= !xs.isEmpty:=by
 cases r<;>simp
theorem mz:(sizeLine:Nat)<2 ^ 63:=by rw[sizeLine_eq];decide
theorem Dw:OpR X (binaryOp .Add) (λ x y H Q=>∃i j,x=.str i/\y=.str j/\i.length+j.length≤sizeLine/\Q (.str (i++j)) H):=by
 intro pins s σ H x y v u Q I rx ry h
 obtain⟨i,j,rfl,rfl,hz,q⟩:=h
 obtain⟨t,rfl⟩:=rx
 obtain⟨t',rfl⟩:=ry
 exact add_str (λ t' tk=>⟨.str (i++j),H,I.tok _,⟨_,rfl⟩,q⟩) hz
theorem vals1{x:V}{us:List Value}(r:Vals [x] us):∃u,us=[u]/\RelV x u:=by
 cases r with
 | cons r1 r2=>cases r2;exact⟨_,rfl,r1⟩
theorem vals2{x y:V}{us:List Value}(r:Vals [x,y] us):∃u w',us=[u,w']/\RelV x u/\RelV y w':=by
 cases r with
 | cons r1 r2=>
   cases r2 with
   | cons r3 r4=>cases r4;exact⟨_,_,rfl,r1,r3⟩
theorem JF:gM X (.builtin "abs") (λ xs H Q=>∃i,xs=[.int i]/\Q (.int (if i<0 then-i else i)) H):=by
 intro pins s σ H xs us Q I r h
 obtain⟨i,rfl,q⟩:=h
 obtain⟨u,rfl,t,rfl⟩:=vals1 r
 exact call_abs_int λ u tk=>⟨.int (if i<0 then-i else i),H,I.tok _,⟨_,rfl⟩,q⟩
theorem Hr(hc:X.calm=true):gM X (.builtin "min") (λ xs H Q=>∃i j,xs=[.int i,.int j]/\Q (.int (if j<i then j else i)) H):=by
 intro pins s σ H xs us Q I r h
 obtain⟨i,j,rfl,q⟩:=h
 obtain⟨u,w',rfl,⟨t,rfl⟩,⟨t',rfl⟩⟩:=vals2 r
 refine min_two_ints (I.ok.hd hc) λ h' tk k=>⟨_,H,I.kept k,?_,q⟩
 by_cases hj:j<i
 . rw[if_pos hj,if_pos hj];exact⟨_,rfl⟩
 . rw[if_neg hj,if_neg hj];exact⟨_,rfl⟩
theorem Ad:gM X (.type "str") (λ xs H Q=>∃i,xs=[.int i]/\i.natAbs.log2<1920/\Q (.str (toString i)) H):=by
 intro pins s σ H xs us Q I r h
 obtain⟨i,rfl,hz,q⟩:=h
 obtain⟨u,rfl,t,rfl⟩:=vals1 r
 exact PySem.P.str_of_int hz ⟨.str _,H,I.tok _,⟨_,rfl⟩,q⟩
end
structure Room(k:Nat)(A:Around):Prop where
 hd:A.handled=none
 dp:A.depth+3*k+5<recursionLimit
 un:A.units+16*k+200<cLine
theorem Room.mono{j k:Nat}{A:Around}(r:Room k A)(h:j≤k):Room j A:=⟨r.hd,by have:=r.dp;omega,by have:=r.un;omega⟩
theorem Room.deeper{k:Nat}{A:Around}(r:Room (k+1) A)(env:Env):Room k (A.deeper env):=
 ⟨r.hd,by have:=r.dp;show A.depth+1+3*k+5<_;omega,by have:=r.un;show A.units+3+16*k+200<_;omega⟩
theorem Room.depth{k:Nat}{A:Around}(r:Room k A):A.depth<recursionLimit:=by have:=r.dp;omega
def R9:TA:=λ _ H Q=>Q [] H
def Q7(ta:TE)(tr:TA):TA:=λ σ H Q=>ta σ H λ x H1=>tr σ H1 λ xs H2=>Q (x::xs) H2
section
variable {X : Cx} {e : Expr} {es : List Expr} {te : TE} {t : TA} {pos : Pos}
theorem su:PA X [] R9:=λ _ _ _ _ H Q I h=>Calls.spliced_nil ⟨[],H,I,.nil,h⟩
theorem gU(ha:PE X e te)(hr:PA X es t)(hs:starEach (e::es) X.env=(false,eval e X.env)::starEach es X.env:=by rfl):PA X (e::es) (Q7 te t):=by
 intro pos pins s σ H Q I h
 rw[hs]
 show wpAny _ _ (spliced ((false,eval e X.env)::backTo pos (starEach es X.env))) _ _ s
 refine Calls.spliced_cons (thn (ha pins s σ H _ I h) λ u s1 ⟨x,H1,I1,r1,q1⟩=>?_)
 exact thn (hr pos pins s1 σ H1 _ I1 q1) λ us s2 ⟨xs,H2,I2,r2,q2⟩=>⟨x::xs,H2,I2,.cons r1 r2,q2⟩
end
abbrev Sp:=List V->Hp->VK->XK->Prop
abbrev CXT:=List Env->Hp->Shared->XK->Value->Shared->Prop
structure Env0(P:Program)(w:World)(K:PySem.W.Frag)(mg:Str->Option Value)(base:Heap)(A:Around)(outer:List Env)(s:Shared)(H:Hp):Prop where
 frames:A.frames=some outer
 mod:Mod K mg base
 bs:∀b o,base.get? b=some o->s.heap.get? b=some o/\H b=none
 bsz:base.objs.size≤s.heap.objs.size
 funs:s.heap.FunFrames base outer
 frf:∀b∈frs outer,H b=none
 hok:HOk P w H s.heap
 bare:AllBare s.gens
def CE(outer:List Env)(P:Program)(w:World)(H:Hp)(s:Shared)(Q:VK)(u:Value)(s':Shared):Prop:=
 ∃v H',s'.os=s.os/\AllBare s'.gens/\Un (frs outer) [] H H' s.heap s'.heap/\HOk P w H' s'.heap/\RelV v u/\Q v H'
def CR(CX:CXT)(outer:List Env)(P:Program)(w:World)(H:Hp)(s:Shared)(Q:VK)(E:XK)(r:Result)(s':Shared):Prop:=
 match r with
 | .ok (.ret u)=>CE outer P w H s Q u s'
 | .ok _=>False
 | .error e=>CX outer H s E e s'
structure FnOk(P:Program)(w:World)(K:PySem.W.Frag)(mg:Str->Option Value)(base:Heap)(CX:CXT)(k:Nat)(f:Addr)(fd:FuncData)(ps:List Str)(sp:Sp):Prop where
 len:∀vs H Q E,sp vs H Q E->vs.length=ps.length
 run:∀(A:Around)(outer:List Env)(s:Shared)(H:Hp)(args:Args)(us:List Value)(vs:List V)(Q:VK)(E:XK),Room k A->Env0 P w K mg base A outer s H->BindsTo s fd args (ps.zip us)->Vals vs us->sp vs H Q E->
  codeAny (model P w) A (.call (.ref f) args) (CR CX outer P w H s Q E) s
section
variable {X : Cx} {pins : List (Addr × Obj)} {σ : St} {H : Hp} {s s' : Shared}
theorem Inv.env0(I:Inv X pins σ H s):Env0 X.prog X.w X.K X.mg X.base X.A X.stack s H:=
 ⟨I.ok.frames,I.ok.mod,I.bs,Nat.le_trans I.ok.bsz I.sz,I.stack,I.stkFree,I.hok,I.bare⟩
theorem Inv.after{Q:VK}{u:Value}(I:Inv X pins σ H s)(h:CE X.stack X.prog X.w H s Q u s'):EP X pins σ Q u s':=by
 obtain⟨v,H',os,bare,un,hok,r,q⟩:=h
 obtain⟨hh,g,d,t,os'⟩:=s'
 obtain rfl:os'=s.os:=os
 exact⟨v,H',I.call (h':=hh) (g':=g) (d':=d) (t':=t) (ch:=[]) un hok bare (λ b z=>absurd z (by simp)),r,q⟩
end
def Binds(K:PySem.W.Frag)(fd:FuncData)(ps:List Str)(ds:List Value):Prop:=
 ∀(s:Shared)(us:List Value),K.In s.heap->(us++ds).length=ps.length->BindsTo s fd ⟨us,[]⟩ (ps.zip (us++ds))
theorem Binds.all{K:PySem.W.Frag}{fd:FuncData}{ps:List Str}(h:∀us:List Value,us.length=ps.length->bindArgs fd ⟨us,[]⟩=pure (ps.zip us)):Binds K fd ps []:=λ s us _ hl=>by
 rw[List.append_nil]at hl ⊢
 exact .of_eq (h us hl)
def Gn(CX:CXT)(X:Cx)(E:XK):Prop:=∀(pins:List (Addr×Obj))(σ:St)(H:Hp)(s:Shared)(e:Value)(s':Shared),Inv X pins σ H s->CX X.stack H s E e s'->X.xe e s'
section
variable {X : Cx} {CX : CXT} {k : Nat} {f C : Addr} {fd : FuncData} {ps : List Str} {sp : Sp} {dvs : List V} {ds : List Value} {E : XK} {x m : Str} {p pos apos : Pos} {e o : Expr} {es : List Expr} {ta : TE} {t : TA}
theorem Qs{pins:List (Addr×Obj)}{σ:St}{H:Hp}{s:Shared}{Q:VK}{us:List Value}{vs:List V}(F:FnOk X.prog X.w X.K X.mg X.base CX k f fd ps sp)(hr:Room k X.A)(hb:Binds X.K fd ps ds)(hd:Vals dvs ds)(hx:Gn CX X E)
 (I:Inv X pins σ H s)(r:Vals vs us)(h:sp (vs++dvs) H Q E):wpAny (model X.prog X.w) X.A (call (.ref f) us) (EP X pins σ Q) X.xe s:=by
 have r2:Vals (vs++dvs) (us++ds):=r.append hd
 have hl:(us++ds).length=ps.length:=by rw[←r2.length];exact F.len _ _ _ _ h
 refine wpAny_call (codeAny_mono (F.run X.A X.stack s H ⟨us,[]⟩ (us++ds) (vs++dvs) Q E hr I.env0 (hb s us I.kIn hl) r2 h) λ r s' hq=>?_)
 cases r with
 | error e=>exact hx pins σ H s e s' I hq
 | ok fl=>
   cases fl with
   | ret u=>exact I.after hq
   | next=>exact False.elim hq
   | brk=>exact False.elim hq
   | cont=>exact False.elim hq
end
structure FnScope(N P:List Str)(sc:Scope):Prop where
 kind:sc.kind=.function
 co:sc.isCoroutine=false
 gen:sc.isGenerator=false
 nd:N.Nodup
 pre:N.take P.length=P
 par:∀x∈P,sc.names.lookup x=some .local∨sc.names.lookup x=some .cell
 nofree:∀y∈sc.names,y.2≠.free
theorem vN{kindOf:Str->Option NameKind}{x:Str}:∀{binds:List (Str×Value)}{m:Str->Option Value},(∀v,(x,v)∉binds)->bindL kindOf binds m x=m x
 | [],_,_=>rfl
 | (n,v)::r,m,h=>by
   unfold bindL
   rw[vN λ w hw=>h w (y9 _ hw)]
   split
   . have:x≠n:=by rintro rfl;exact h v x6
     simp[this]
   . rfl
theorem vY{kindOf:Str->Option NameKind}{x:Str}:∀{binds:List (Str×Value)}{m:Str->Option Value},(∀v,(x,v)∉binds)->bindC kindOf binds m x=m x
 | [],_,_=>rfl
 | (n,v)::r,m,h=>by
   unfold bindC
   rw[vY λ w hw=>h w (y9 _ hw)]
   split
   . rfl
   . have:x≠n:=by rintro rfl;exact h v x6
     simp[this]
theorem v4{kindOf:Str->Option NameKind}{x:Str}{v:Value}:∀{P:List Str}{vs:List Value}{i:Nat}{m:Str->Option Value},P.Nodup->P[i]? =some x->vs[i]? =some v->kindOf x=some .local->
 bindL kindOf (P.zip vs) m x=some v
 | [],_,_,_,_,h,_,_=>by simp at h
 | _::_,[],_,_,_,_,h,_=>by simp at h
 | p::P,w::vs,0,m,nd,h1,h2,hk=>by
   simp at h1 h2;subst h1;subst h2
   show bindL kindOf ((p,w)::P.zip vs) m p=_
   unfold bindL
   rw[vN λ v hv=>(List.nodup_cons.mp nd).1 (List.of_mem_zip hv).1,if_pos hk]
   simp
 | p::P,w::vs,i+1,m,nd,h1,h2,hk=>by
   show bindL kindOf ((p,w)::P.zip vs) m x=_
   unfold bindL
   exact v4 (i:=i) (List.nodup_cons.mp nd).2 (by simpa using h1) (by simpa using h2) hk
theorem vR{kindOf:Str->Option NameKind}{x:Str}{v:Value}:∀{P:List Str}{vs:List Value}{i:Nat}{m:Str->Option Value},P.Nodup->P[i]? =some x->vs[i]? =some v->kindOf x≠some .local->
 bindC kindOf (P.zip vs) m x=some v
 | [],_,_,_,_,h,_,_=>by simp at h
 | _::_,[],_,_,_,_,h,_=>by simp at h
 | p::P,w::vs,0,m,nd,h1,h2,hk=>by
   simp at h1 h2;subst h1;subst h2
   show bindC kindOf ((p,w)::P.zip vs) m p=_
   unfold bindC
   rw[vY λ v hv=>(List.nodup_cons.mp nd).1 (List.of_mem_zip hv).1,if_neg hk]
   simp
 | p::P,w::vs,i+1,m,nd,h1,h2,hk=>by
   show bindC kindOf ((p,w)::P.zip vs) m x=_
   unfold bindC
   exact vR (i:=i) (List.nodup_cons.mp nd).2 (by simpa using h1) (by simpa using h2) hk
def start(N:List Str)(vs:List V):St:=vs.map some++List.replicate (N.length-vs.length) none
def cC(CX:CXT)(P:Program)(w:World)(K:PySem.W.Frag)(mg:Str->Option Value)(base:Heap)(N:List Str)(qual:Str)(scope:Scope)(f:Addr)(cd:Value)(A:Around)(outer:List Env)(s:Shared)(H:Hp)(E:XK):Cx where
 prog:=P
 w:=w
 K:=K
 mg:=mg
 base:=base
 A:=A.deeper (envOfC qual scope s.heap.objs.size f cd)
 N:=N
 s₀:=s
 H₀:=H
 env:=envOfC qual scope s.heap.objs.size f cd
 outer:=outer
 stack:=envOfC qual scope s.heap.objs.size f cd::outer
 ex:=[]
 calm:=true
 fn:=λ _=>true
 pn:=[]
 xe:=λ e s'=>wpAny (model P w) (A.deeper (envOfC qual scope s.heap.objs.size f cd)) (leaving (envOfC qual scope s.heap.objs.size f cd) e) (λ _ s''=>CX outer H s E e s'') (λ e' s''=>CX outer H s E e' s'') s'
theorem zW{sc:Scope}{n:Nat}{x:Str}(h:sc.names.lookup x=some .cell):∃c,(cellsFrom n sc.names []).lookup x=some c:=by
 have q:=PySem.W.cellsFrom_some sc.names n [] (.inl h)
 exact Option.isSome_iff_exists.mp q
theorem Gf{CX:CXT}{P:Program}{w:World}{K:PySem.W.Frag}{mg:Str->Option Value}{base:Heap}{N ps:List Str}{qual:Str}{scope:Scope}{f:Addr}{cd:Value}{A:Around}{outer:List Env}{s s1:Shared}{H:Hp}{E:XK}{us:List Value}{vs:List V}
 (S:FnScope N ps scope)(hd:A.handled=none)(e0:Env0 P w K mg base A outer s H)(hl:vs.length=ps.length)(r:Vals vs us)
 (x:InCallC s s.heap.objs.size (bindL (envOfC qual scope s.heap.objs.size f cd).kindOf (ps.zip us) λ _=>none) (cellsFrom (s.heap.objs.size+1) scope.names []) (bindC (envOfC qual scope s.heap.objs.size f cd).kindOf (ps.zip us) λ _=>none) s1):
 Inv (cC CX P w K mg base N qual scope f cd A outer s H E) [] (start N vs) H s1:=by
 have hpl:ps.length≤N.length:=by have:=congrArg List.length S.pre;rw[List.length_take]at this;omega
 obtain⟨h1,tk,rfl,hk⟩:=x.done
 have noA:∀b:Addr,b∉(cC CX P w K mg base N qual scope f cd A outer s H E).ex:=λ b z=>absurd (show b∈([]:List Addr)from z) (by simp)
 refine⟨⟨e0.mod,S.kind,rfl,rfl,y8 _,λ y z c h1 h2=>?_,λ y hy=>?_,λ y c _ h=>?_,λ _=>hd,Around.frames_deeper e0.frames,.inr ⟨rfl,rfl⟩,λ b z=>absurd z (noA b),e0.bs,e0.bsz,λ b _ _=>noA b,λ b z=>absurd z (noA b),e0.funs,e0.frf⟩,
  rfl,e0.bare,Un.kept hk,⟨_,x.toInCall.ns,λ i y v h1 h2 h3=>?_⟩,λ y c h=>⟨_,x.cell y c h⟩,e0.hok.fresh (y8 _),λ y c h=>?_,λ p hp=>absurd (show p∈([]:List (Addr×Obj))from hp) (by simp),e0.hok.kept hk,?_⟩
 . exact name_of_addr x.apart (PySem.mem_of_lookup h1) (PySem.mem_of_lookup h2)
 . have hy:scope.names.lookup y=some .cell∨scope.names.lookup y=some .free:=hy
   rcases hy with hy | hy
   . exact zW hy
   . exact absurd rfl (S.nofree _ (PySem.mem_of_lookup hy))
 . exact Nat.le_of_lt (x.above y c (PySem.mem_of_lookup h))
 . have hi:i<vs.length:=by
    unfold start at h2
    by_cases hi:i<vs.length
    . exact hi
    . rw[List.getElem?_append_right (by simpa using hi)]at h2
      rw[List.getElem?_replicate]at h2
      split at h2<;>cases h2
   have ha:vs[i]? =some v:=by
    unfold start at h2
    rw[x9 (by simpa using hi),y7]at h2
    cases e:vs[i]? with
    | none=>rw[e]at h2;cases h2
    | some a=>rw[e]at h2;cases h2;rfl
   obtain⟨u,hu,rv⟩:=r.get ha
   have hp:ps[i]? =some y:=by
    rw[←S.pre,List.getElem?_take_of_lt (by omega)];exact h1
   have ndP:ps.Nodup:=by rw[←S.pre];exact S.nd.sublist (List.take_sublist _ _)
   refine⟨u,rv,?_⟩
   rcases S.par y (y3 hp)with k | k
   . exact .inl ⟨k,v4 ndP hp hu k⟩
   . obtain⟨c,e⟩:=zW (n:=s.heap.objs.size+1) k
     refine .inr ⟨.inl k,c,e,?_⟩
     have q:=x.cell y c e
     rw[vR ndP hp hu (by show scope.names.lookup y≠_;rw[k];decide)]at q
     exact q
 . exact e0.hok.fresh (Nat.le_of_lt (x.above y c (PySem.mem_of_lookup h)))
 . unfold start
   show _=N.length
   rw[x8,y6,List.length_replicate]
   omega
theorem J6{CX:CXT}{P:Program}{w:World}{K:PySem.W.Frag}{mg:Str->Option Value}{base:Heap}{k:Nat}{f:Addr}{name qual:Str}{params:Arguments}{body:List Stmt}{scope:Scope}{dV kV doc pm cdv ct oc:Value}{an od:Option Addr}
 {osl:Array (Option Value)}{N ps:List Str}{sp:Sp}(lk:K.lookup f=some ⟨oc,od,.func (PySem.W.fnOf name qual params body scope dV kV doc pm an cdv ct),osl⟩)(hcd:PySem.W.codeIn K cdv qual=true)(S:FnScope N ps scope)
 (len:∀vs H Q E,sp vs H Q E->vs.length=ps.length)
 (hbody:∀(A:Around)(outer:List Env)(s:Shared)(H:Hp)(vs:List V)(Q:VK)(E:XK),Room k (A.deeper (envOfC qual scope s.heap.objs.size f cdv))->sp vs H Q E->
  ∃t,PSs (cC CX P w K mg base N qual scope f cdv A outer s H E) body t/\t {nx:=λ _ H'=>Q .non H',rt:=Q} (start N vs) H):
 FnOk P w K mg base CX (k+1) f (PySem.W.fnOf name qual params body scope dV kV doc pm an cdv ct) ps sp:=by
 refine⟨len,λ A outer s H args us vs Q E hr e0 hb r hsp=>?_⟩
 have hl:=len _ _ _ _ hsp
 have KX:K.In s.heap:=e0.mod.kin.keeps λ b o e=>(e0.bs b o e).1
 have lim:s.heap.NoLimit:=e0.mod.nolimit.keeps λ b o e=>(e0.bs b o e).1
 have hkind:∀y∈ps.zip us,scope.names.lookup y.1=some .local∨(scope.names.lookup y.1=some .cell/\((cellsFrom (s.heap.objs.size+1) scope.names []).lookup y.1).isSome=true):=λ⟨n,v⟩ hy=>by
  rcases S.par n (List.of_mem_zip hy).1 with q | q
  . exact .inl q
  . exact .inr ⟨q,PySem.W.cellsFrom_some _ _ _ (.inl q)⟩
 refine codeAny_call_function hr.depth (KX _ _ lk) rfl S.co S.gen rfl (PySem.W.codeRec_of KX hcd) (hb _ _ _ _ ?_)
 refine wpAny_newFunctionEnv_cells S.kind hkind λ env he s1 x=>?_
 subst he
 refine⟨lim.keeps x.toInCall.keep,codeAny_func ?_⟩
 obtain⟨t,ht,hq⟩:=hbody A outer s H vs Q E (hr.deeper _) hsp
 have I:Inv (cC CX P w K mg base N qual scope f cdv A outer s H E) [] (start N vs) H s1:=Gf S hr.hd e0 hl r x
 refine wpAny_mono (ht [] s1 (start N vs) H _ I hq) (λ fl s' hs=>?_) λ e s' hs=>hs
 have fin:∀{σ':St}{H':Hp}{v:V}{u:Value},Inv (cC CX P w K mg base N qual scope f cdv A outer s H E) [] σ' H' s'->RelV v u->Q v H'->CE outer P w H s Q u s':=
  λ{σ' H' v u} J rv q=>⟨v,H',J.os,J.bare,J.base,J.hok,rv,q⟩
 cases fl with
 | ret u=>
   obtain⟨v,σ',H',J,rv,q⟩:=hs
   exact fin J rv q
 | next=>
   obtain⟨σ',H',J,q⟩:=hs
   exact fin (v:=V.non) (u:=Value.none) J rfl q
 | brk=>
   obtain⟨_,_,_,q⟩:=hs
   exact False.elim q
 | cont=>
   obtain⟨_,_,_,q⟩:=hs
   exact False.elim q
section
variable {X : Cx} {x : Str} {p pos : Pos} {e : Expr} {es : List Expr} {t : TA} {id T : String} {r : List V -> Hp -> VK -> Prop}
def tCB(r:List V->Hp->VK->Prop)(t:TA):TE:=λ σ H Q=>t σ H λ vs H1=>r vs H1 Q
theorem za(hc:gM X (.builtin id) r)(hg:Gl X x)(hm:X.mg x=none)(hv:bootBuiltins x=some (.builtin id))(ha:PA X (e::es) t)(hn:x≠"__name__":=by decide)(hdb:(x==("__debug__":Str))=false:=by decide)
 (he:starEach (e::es) X.env=(false,eval e X.env)::starEach es X.env:=by rfl)(hpl:(backTo pos (starEach es X.env)).any (·.1)=false:=by rfl):PE X (.Call (.Name x p) (e::es) [] pos) (tCB r t):=by
 intro pins s σ H Q I h
 refine wpAny_Call_Name_kw (gm I hg hm hv ?_ hn hdb)
 exact PyProof.Rows.callWith_builtin1 (thn (ha pos pins s σ H _ I h) λ us s1 ⟨vs,H1,I1,r1,q1⟩=>hc pins s1 σ H1 vs us Q I1 r1 q1) he hpl
end
end L2
namespace HT
open PySem PyProof.Rows
section
variable {prog : Program} {w : World} {A : Around} {E : Value -> Shared -> Prop} {s : Shared}
theorem cat_tup{t b:Addr}{vs ws:List Value}{Q:Value->Shared->Prop}(ht:IsTup s.heap t vs.toArray)(hb:IsTup s.heap b ws.toArray)(hv:vs≠[])
 (h1:ws=[]->Q (.ref t) s)(h2:ws≠[]->Q (.ref s.heap.objs.size) {s with heap:=s.heap.push {cls:=.type "tuple",data:=.seq (vs++ws).toArray}})
 (hsz:vs.length+ws.length≤sizeLine):wpAny (model prog w) A (binaryOp .Add (.ref t) (.ref b)) Q E s:=by
 obtain⟨⟨cls,dd,data,sl⟩,ho,hc,n,hd⟩:=id ht
 obtain⟨⟨cls2,dd2,data2,sl2⟩,ho2,hc2,n2,hd2⟩:=id hb
 simp only at hc hd hc2 hd2
 subst hc hd hc2 hd2
 have e:vs.toArray++ws.toArray=(vs++ws).toArray:=by simp
 by_cases hw:ws=[]
 . exact concat_meets ⟨_,ho,rfl⟩ ⟨_,ho2,rfl⟩ noFill_tuple_add seq_tuple_add PySem.F.slot_tuple_add PySem.F.entry_tuple_add (PySem.F.args_tuple_add_2 _ _)
    (tuple_addW1 t b vs.toArray ws.toArray n n2 dd dd2 sl sl2 (by simpa using hv) (by simp[hw])) ⟨ho,ho2,h1 hw⟩
 . refine concat_meets ⟨_,ho,rfl⟩ ⟨_,ho2,rfl⟩ noFill_tuple_add seq_tuple_add PySem.F.slot_tuple_add PySem.F.entry_tuple_add (PySem.F.args_tuple_add_2 _ _)
    (tuple_addW2 t b vs.toArray ws.toArray n n2 dd dd2 sl sl2 (by simpa using hv) (by simpa using hw) (by rw[x5,x5];exact hsz)) ⟨ho,ho2,?_⟩
   rw[e]
   exact h2 hw
def sIx(n d:Nat):Option Int->Nat
 | none=>d
 | some v=>if v<0 then(v+(n:Int)).toNat else min v.toNat n
theorem sIx_none(n d:Nat):sIx n d none=d:=rfl
theorem sIx_nat(n d k:Nat):sIx n d (some (k:Int))=min k n:=by
 show(if(k:Int)<0 then((k:Int)+(n:Int)).toNat else min (k:Int).toNat n)=min k n
 rw[if_neg (by omega),Int.toNat_natCast]
theorem Qd(n d:Nat)(hd:d≤n)(o:Option Int):sIx n d o≤n:=by
 cases o with
 | none=>exact hd
 | some v=>
   show(if v<0 then(v+(n:Int)).toNat else min v.toNat n)≤n
   by_cases hv:v<0
   . rw[if_pos hv];omega
   . rw[if_neg hv];exact Nat.min_le_right _ _
theorem Cu(v:Int)(n d:Nat):(if v<0 then max (v+(n:Int)) 0 else min v (n:Int))=((sIx n d (some v):Nat):Int):=by
 show(if v<0 then max (v+(n:Int)) 0 else min v (n:Int))=(((if v<0 then(v+(n:Int)).toNat else min v.toNat n):Nat):Int)
 by_cases hv:v<0
 . simp only[if_pos hv];omega
 . simp only[if_neg hv];omega
theorem Do(lo hi:Option Int)(n:Nat):Builtin.Slice.sliceAdjust lo hi 1 (n:Int)=(((sIx n 0 lo:Nat):Int),((sIx n n hi:Nat):Int)):=by
 have h1:¬((1:Int)<0):=by omega
 unfold Builtin.Slice.sliceAdjust
 simp only[h1,if_false]
 refine Prod.ext ?_ ?_
 . cases lo with
   | none=>rfl
   | some v=>exact Cu v n 0
 . cases hi with
   | none=>rfl
   | some v=>exact Cu v n n
theorem DY(i j:Nat):Builtin.Slice.slicePlaces (i:Int) (j:Int) 1=j-i:=by
 unfold Builtin.Slice.slicePlaces
 have h1:(1:Int)>0:=by omega
 simp only[h1,if_true,Int.ediv_one]
 split<;>omega
theorem qW{v:Value}{o:Option Int}{Q:Option Int->Shared->Prop}(p:IsPart v o)(h:Q o s):wpAny (model prog w) A (Builtin.Slice.slicePartIndex v) Q E s:=by
 cases p with
 | none=>exact slicePart_none h
 | int i t=>exact slicePart_int h
theorem sliceApplied_gen{sl:Addr}{vl vu:Value}{lo hi:Option Int}{n:Nat}{Q:Int×Int×Nat->Shared->Prop}(hs:s.heap.IsSliceOf sl vl vu .none)(pl:IsPart vl lo)(pu:IsPart vu hi)
 (h:Q (((sIx n 0 lo:Nat):Int),1,sIx n n hi-sIx n 0 lo) s):wpAny (model prog w) A (Builtin.Slice.sliceApplied (.ref sl) (pure (n:Int))) Q E s:=by
 obtain⟨os,hos,hcs,hds⟩:=id hs
 unfold Builtin.Slice.sliceApplied Builtin.Slice.sliceFields
 refine wpAny_bind (wpAny_bind (wpAny_field hos hds (x:=vl) rfl (wpAny_bind (wpAny_field hos hds (x:=vu) rfl (wpAny_bind (wpAny_field hos hds (x:=.none) rfl (wpAny_pure ?_)))))))
 refine wpAny_bind (slicePart_none ?_)
 show wpAny _ _ (if((1:Int)==0)=true then _ else _) _ _ s
 rw[if_neg (by decide)]
 refine wpAny_bind (qW pl (wpAny_bind (qW pu (wpAny_bind (wpAny_pure ?_)))))
 show wpAny _ _ (match Builtin.Slice.sliceAdjust lo hi 1 (n:Int)with | (lo,hi)=>pure (lo,(1:Int),Builtin.Slice.slicePlaces lo hi 1)) _ _ s
 rw[Do lo hi n]
 show wpAny _ _ (pure (((sIx n 0 lo:Nat):Int),(1:Int),Builtin.Slice.slicePlaces ((sIx n 0 lo:Nat):Int) ((sIx n n hi:Nat):Int) 1)) _ _ s
 rw[DY]
 exact wpAny_pure h
theorem HB(xs:Array Value)(i k:Nat):((List.range k).filterMap λ(m:Nat)=>xs[((i:Int)+(m:Int)*1).toNat]?).toArray=((xs.toList.drop i).take k).toArray:=by
 have e:(λ(m:Nat)=>xs[((i:Int)+(m:Int)*1).toNat]?)=λ m=>xs[i+m]?:=by
  funext m
  have:((i:Int)+(m:Int)*1).toNat=i+m:=by omega
  rw[this]
 rw[e]
 have:=pick_run xs i k
 rw[List.filterMap_map]at this
 have e2:((λ x=>xs[x]?) ∘ λ x=>i+x)=λ m=>xs[i+m]?:=rfl
 rw[e2]at this
 rw[this]
theorem getItem_tuple_cut{t sl:Addr}{items:Array Value}{vl vu:Value}{lo hi:Option Int}{Q:Value->Shared->Prop}(ht:IsTup s.heap t items)(hs:s.heap.IsSliceOf sl vl vu .none)(pl:IsPart vl lo)(pu:IsPart vu hi)
 (hw:¬(sIx items.size 0 lo=0/\sIx items.size items.size hi=items.size))
 (h:Q (.ref s.heap.objs.size) {s with heap:=s.heap.push {cls:=.type "tuple",data:=.seq ((items.toList.drop (sIx items.size 0 lo)).take (sIx items.size items.size hi-sIx items.size 0 lo)).toArray}})
 (hsz:items.size≤sizeLine):wpAny (model prog w) A (getItem (.ref t) (.ref sl)) Q E s:=by
 have htake:sizeOk (.seq ((items.toList.drop (sIx items.size 0 lo)).take (sIx items.size items.size hi-sIx items.size 0 lo)).toArray):=by
  show((items.toList.drop (sIx items.size 0 lo)).take (sIx items.size items.size hi-sIx items.size 0 lo)).toArray.size≤sizeLine
  rw[x5,List.length_take,List.length_drop,Array.length_toList]
  omega
 have hj:sIx items.size items.size hi≤items.size:=Qd _ _ (y8 _) hi
 obtain⟨os,hos,hcs,hds⟩:=id hs
 have hTs:s.TypeIs (.ref sl) "slice":=⟨os,hos,hcs⟩
 unfold getItem
 try with_reducible refine wpAny_holding ?_
 first | refine wpAny_bind (wpAny_pure ?_) | skip
 refine wpAny_bind (wpAny_sequenceKey ht.typeIs (by decide) ?_)
 refine wpAny_bind (wpAny_callSpecial?_slot (name:=Str.ofString "__getitem__") ht.typeIs PyProof.Rows.slot_tuple_getitem
  (wpAny_call_entry PyProof.Rows.slot_tuple_getitem ht.typeIs entry_tuple_getitem ?_ (args_tuple_getitem _ _)))
 show wpAny _ _ (Builtin.Tuple.tupleItemsOf (.ref t)>>=_) _ _ s
 refine wpAny_bind (tupleItemsOf_ ht ?_)
 refine wpAny_bind (wpAny_typeOf hTs ?_)
 rw[if_pos (by decide)]
 refine wpAny_bind (sliceApplied_gen hs pl pu ?_)
 have hno:¬((((sIx items.size 0 lo:Nat):Int)==0&&(1:Int)==1&&(sIx items.size items.size hi-sIx items.size 0 lo)==items.size)=true):=by
  intro q
  rw[Bool.and_eq_true,Bool.and_eq_true]at q
  have q1:((sIx items.size 0 lo:Nat):Int)=0:=eq_of_beq q.1.1
  have q2:sIx items.size items.size hi-sIx items.size 0 lo=items.size:=eq_of_beq q.2
  exact hw ⟨by omega,by omega⟩
 show wpAny _ _ (if(((sIx items.size 0 lo:Nat):Int)==0&&(1:Int)==1&&(sIx items.size items.size hi-sIx items.size 0 lo)==items.size)=true then _ else _) _ _ s
 rw[if_neg hno,HB]
 first
  | exact wpAny_bind (m:=Builtin.Tuple.tupleExact _) (wpAny_newObj_type (wpAny_pure ⟨_,rfl,wpAny_pure h⟩) htake)
  | exact wpAny_bind (m:=Builtin.Tuple.tupleExact _) (wpAny_newObj_type (wpAny_bind (wpAny_pure (wpAny_pure ⟨_,rfl,wpAny_pure h⟩))) htake)
  | exact wpAny_bind (wpAny_bind (m:=Builtin.Tuple.tupleExact _) (wpAny_newObj_type (wpAny_pure (wpAny_pure ⟨_,rfl,wpAny_pure h⟩)) htake))
  | exact wpAny_bind (wpAny_bind (m:=Builtin.Tuple.tupleExact _) (wpAny_newObj_type (wpAny_pure ⟨_,rfl,wpAny_pure h⟩) htake))
end
end HT
namespace L2
open PySem PySem.Spec PyProof.Rows
abbrev TO:=St->Hp->(Option Int->Hp->Prop)->Prop
theorem intsAre_of{ns:List Int}:∀{us:List Value},Vals (ns.map V.int) us->IntsAre us ns:=by
 induction ns with
 | nil=>intro us r;rw[List.map_nil]at r;cases r;exact .nil
 | cons n ns ih=>
   intro us r
   rw[List.map_cons]at r
   cases r with
   | cons r1 r2=>
     obtain⟨t,e⟩:=r1
     subst e
     exact .cons n t (ih r2)
section
variable {X : Cx} {e : Expr} {te : TE} {lo hi : Option Expr} {tl th : TO} {pos p2 : Pos}
def SlR(X:Cx)(r:V->Option Int->Option Int->Hp->VK->Prop):Prop:=
 ∀ (pins:List (Addr×Obj))(s:Shared)(σ:St)(H:Hp)(x:V)(v vl vu:Value)(lo hi:Option Int)(sl:Addr)(Q:VK),Inv X pins σ H s->RelV x v->s.heap.IsSliceOf sl vl vu .none->IsPart vl lo->IsPart vu hi->r x lo hi H Q->
   ∃T id,typeLookup (.type T) "__getitem__"=pure (some (.builtin id))/\s.TypeIs v T/\wpAny (model X.prog X.w) X.A (getItem v (.ref sl)) (EP X pins σ Q) X.xe s
def mF(xs:List V)(lo hi:Option Int):List V:=(xs.drop (HT.sIx xs.length 0 lo)).take (HT.sIx xs.length xs.length hi-HT.sIx xs.length 0 lo)
theorem nJ(xs:List V)(lo hi:Option Int):(mF xs lo hi).length≤xs.length:=by
 unfold mF
 rw[List.length_take,List.length_drop]
 omega
def Sg(K:PySem.W.Frag):V->Option Int->Option Int->Hp->VK->Prop:=λ x lo hi H Q=>∃a xs,x=.ref a/\SqT K H a xs/\
 ¬(HT.sIx xs.length 0 lo=0/\HT.sIx xs.length xs.length hi=xs.length)/\∀p,H p=none->Q (.ref p) (upd H p (.tup (mF xs lo hi)))
theorem Oa:SlR X (Sg X.K):=by
 intro pins s σ H x v vl vu lo hi sl Q I rx hs pl pu h
 obtain⟨a,xs,rfl,hx,hw,q⟩:=h
 cases rx
 obtain⟨its,r,ht,hz⟩:=I.tuple hx
 have hlen:its.toArray.size=xs.length:=by rw[x5];exact r.length.symm
 refine⟨"tuple",_,PyProof.Rows.slot_tuple_getitem.lookup,ht.typeIs,?_⟩
 refine HT.getItem_tuple_cut ht hs pl pu (by rw[hlen];exact hw) ?_ (by rw[hlen];exact hz)
 rw[hlen]
 refine⟨.ref s.heap.objs.size,_,I.laid (t':=s.toks) (o:=.tup (mF xs lo hi)) (λ b ob q=>Heap.get?_push_of_some _ q) (y8 _) ?_,rfl,q _ (I.hok.fresh (y8 _))⟩
 exact⟨Nat.le_trans (nJ xs lo hi) hz,_,(r.drop (HT.sIx xs.length 0 lo)).take (HT.sIx xs.length xs.length hi-HT.sIx xs.length 0 lo),IsTup.new _ _⟩
def Rh(K:PySem.W.Frag):R2:=λ x y H Q=>∃a b xs ys,x=.ref a/\y=.ref b/\SqT K H a xs/\SqT K H b ys/\xs≠[]/\xs.length+ys.length≤sizeLine/\
 (ys=[]->Q (.ref a) H)/\(ys≠[]->∀p,H p=none->Q (.ref p) (upd H p (.tup (xs++ys))))
theorem Vals.nil_iff{xs:List V}{us:List Value}(r:Vals xs us):us=[]↔xs=[]:=by
 cases r with
 | nil=>simp
 | cons _ _=>simp
theorem K1:OpR X (binaryOp .Add) (Rh X.K):=by
 intro pins s σ H x y v u Q I rx ry h
 obtain⟨a,b,xs,ys,rfl,rfl,ha,hb,hx,hz,q1,q2⟩:=h
 cases rx
 cases ry
 obtain⟨its,r1,p1,_⟩:=I.tuple ha
 obtain⟨its2,r2,p2,_⟩:=I.tuple hb
 refine HT.cat_tup p1 p2 (λ z=>hx (r1.nil_iff.mp z)) (λ z=>⟨.ref a,H,I,rfl,q1 (r2.nil_iff.mp z)⟩) (λ z=>?_) (by rw[←r1.length,←r2.length];exact hz)
 refine⟨.ref s.heap.objs.size,_,I.laid (t':=s.toks) (o:=.tup (xs++ys)) (λ b ob q=>Heap.get?_push_of_some _ q) (y8 _) ?_,rfl,q2 (λ w=>z (r2.nil_iff.mpr w)) _ (I.hok.fresh (y8 _))⟩
 exact⟨by rw[x8];exact hz,_,r1.append r2,IsTup.new _ _⟩
end
variable {s : Shared}
def ixN(n:Nat)(i:Int):Option Nat:=if 0≤i then(if i<n then some i.toNat else none)else if-(n:Int)≤i then some (i+n).toNat else none
def atI{α:Type}(xs:List α)(i:Int):Option α:=(ixN xs.length i).bind λ j=>xs[j]?
theorem Ck{n:Nat}{i:Int}{j:Nat}(h:ixN n i=some j):seqIndex? i n=some j/\j<n/\ -(n:Int)≤i/\i<n:=by
 unfold ixN at h
 by_cases h0:0≤i
 . rw[if_pos h0]at h
   by_cases h1:i<n
   . rw[if_pos h1]at h
     have e:i.toNat=j:=Option.some.inj h
     exact⟨by rw[seqIndex_of h0 h1,e],by omega,by omega,h1⟩
   . rw[if_neg h1]at h;cases h
 . rw[if_neg h0]at h
   by_cases h1: -(n:Int)≤i
   . rw[if_pos h1]at h
     have e:(i+n).toNat=j:=Option.some.inj h
     exact⟨by rw[seqIndex_neg (by omega) h1,e],by omega,h1,by omega⟩
   . rw[if_neg h1]at h;cases h
theorem uO{α:Type}{xs:List α}{i:Int}{v:α}(h:atI xs i=some v):∃j,seqIndex? i xs.length=some j/\xs[j]? =some v/\j<xs.length/\ -(xs.length:Int)≤i/\i<xs.length:=by
 unfold atI at h
 cases e:ixN xs.length i with
 | none=>rw[e]at h;cases h
 | some j=>
   rw[e]at h
   obtain⟨h1,h2,h3,h4⟩:=Ck e
   exact⟨j,h1,h,h2,h3,h4⟩
theorem dz{α:Type}{xs:List α}{j:Nat}{v:α}(h:xs[j]? =some v):atI xs (j:Int)=some v:=by
 have hj:j<xs.length:=(z0.mp h).1
 have e:ixN xs.length (j:Int)=some j:=by
  unfold ixN
  rw[if_pos (by omega),if_pos (by omega)];simp
 unfold atI;rw[e];exact h
def uc(b:Expr):Prop:=∀o i,subscripted b false o i=operate [o,i] (getItem o i)
def IxR(X:Cx)(r:R2):Prop:=
 ∀ (value slice:Expr)(pins:List (Addr×Obj))(s:Shared)(σ:St)(H:Hp)(x y:V)(v u:Value)(Q:VK),Inv X pins σ H s->RelV x v->RelV y u->r x y H Q->
   subscripted slice false v u=operate [v,u] (getItem v u)->wpAny (model X.prog X.w) X.A (subscriptTail value slice v u) (EP X pins σ Q) X.xe s
def MtR(X:Cx)(id:String)(r:V->List V->Hp->VK->Prop):Prop:=
 ∀ (pins:List (Addr×Obj))(s:Shared)(σ:St)(H:Hp)(x:V)(xs:List V)(v:Value)(us:List Value)(Q:VK),Inv X pins σ H s->RelV x v->Vals xs us->r x xs H Q->
   wpAny (model X.prog X.w) X.A (call (.builtin id) (v::us)) (EP X pins σ Q) X.xe s
section
variable {X : Cx} {a b : Expr} {ta tb : TE} {pos : Pos}
def R1(K:PySem.W.Frag):R2:=λ x y H Q=>∃p xs i v,x=.ref p/\y=.int i/\SqL K H p xs/\atI xs i=some v/\Q v H
def Ss(K:PySem.W.Frag):R2:=λ x y H Q=>∃p xs i v,x=.ref p/\y=.int i/\SqT K H p xs/\atI xs i=some v/\Q v H
def SJ:R2:=λ x y H Q=>∃z i c,x=.str z/\y=.int i/\z.length≤sizeLine/\atI z.cps.toList i=some c/\Q (.str ⟨#[c]⟩) H
theorem BR:IxR X (R1 X.K):=by
 intro value slice pins s σ H x y v u Q I rx ry h hs
 obtain⟨p,xs,i,z,rfl,rfl,hq,he,q⟩:=h
 cases rx
 obtain⟨t,rfl⟩:=ry
 obtain⟨its,r,pl,hz⟩:=I.list hq
 obtain⟨j,h1,h2,h3,h4,h5⟩:=uO he
 obtain⟨w,ew,rw'⟩:=r.get h2
 have hl:=r.length
 have hn:=mz
 have fin:EP X pins σ Q w s:=⟨z,H,I,rw',q⟩
 by_cases h0:0≤i
 . have hj:i.toNat=j:=by
    rw[seqIndex_of h0 h5]at h1
    exact Option.some.inj h1
   exact item_listR pl.isList h0 (by omega) (by rw[hj];simpa using ew) fin hs
 . have hj:(i+(its.toArray.size:Int)).toNat=j:=by
    rw[seqIndex_neg (by omega) h4]at h1
    rw[x5,←hl]
    exact Option.some.inj h1
   exact subscriptTail_builtinR (x:=w) pl.isList.typeIs slot_list_getitem.lookup
    (wpAny_getItem_list_neg (Q:=λ r s'=>r=w/\EP X pins σ Q r s') pl.isList (by omega) (by rw[x5]<;>omega) (by omega) (by rw[hj];simpa using ew) ⟨rfl,fin⟩) hs
theorem Gz:IxR X (Ss X.K):=by
 intro value slice pins s σ H x y v u Q I rx ry h hs
 obtain⟨p,xs,i,z,rfl,rfl,hq,he,q⟩:=h
 cases rx
 obtain⟨t,rfl⟩:=ry
 obtain⟨its,r,pl,hz⟩:=I.tuple hq
 obtain⟨j,h1,h2,h3,h4,h5⟩:=uO he
 obtain⟨w,ew,rw'⟩:=r.get h2
 have hl:=r.length
 have hn:=mz
 have fin:EP X pins σ Q w s:=⟨z,H,I,rw',q⟩
 exact subscriptTail_builtinR (x:=w) pl.typeIs slot_tuple_getitem.lookup
  (getItem_tuple (j:=j) (Q:=λ r s'=>r=w/\EP X pins σ Q r s') pl (by omega) (by omega) (by rw[x5,←hl];exact h1) (by simpa using ew) ⟨rfl,fin⟩) hs
theorem PN:IxR X SJ:=by
 intro value slice pins s σ H x y v u Q I rx ry h hs
 obtain⟨z,i,c,rfl,rfl,hz,he,q⟩:=h
 obtain⟨t,rfl⟩:=rx
 obtain⟨t',rfl⟩:=ry
 obtain⟨j,h1,h2,h3,h4,h5⟩:=uO he
 have hl:z.cps.toList.length=z.length:=by simp[Str.length]
 rw[hl]at h1 h4 h5
 have hn:=mz
 exact tail_any (typeIs_str s z t) slot_str_getitem.lookup (getItem_str (c:=c) (by
  have e1:decide (i< -(2 ^ 63:Int))=false:=decide_eq_false (by omega)
  have e2:decide (i≥2 ^ 63)=false:=decide_eq_false (by omega)
  rw[e1,e2,Bool.or_false]) (by rw[h1];simpa using h2) ⟨.str ⟨#[c]⟩,H,I.tok _,⟨_,rfl⟩,q⟩) hs
theorem Ez(its:List Value)(n j:Nat)(u:Value):Obj.mapSeq (·.setIfInBounds j u) {cls:=.type "list",data:=.seq its.toArray n}={cls:=.type "list",data:=.seq (its.set j u).toArray n}:=by
 simp[Obj.mapSeq]
theorem Inv.lst{pins:List (Addr×Obj)}{σ:St}{H:Hp}{p:Addr}{xs:List V}(I:Inv X pins σ H s)(h:H p=some (.lst xs)):
 ∃(its:List Value) (n:Nat),Vals xs its/\s.heap.get? p=some {cls:=.type "list",data:=.seq its.toArray n}/\xs.length≤sizeLine:=by
 obtain⟨z,its,n,r,e⟩:=I.hok p _ h
 exact⟨its,n,r,e,z⟩
theorem Inv.lstUpd{pins:List (Addr×Obj)}{σ:St}{H:Hp}{p:Addr}{xs ys:List V}{its its':List Value}{n n':Nat}{f:Obj->Obj}(I:Inv X pins σ H s)(h:H p=some (.lst xs))
 (ho:s.heap.get? p=some {cls:=.type "list",data:=.seq its.toArray n})(hf:f {cls:=.type "list",data:=.seq its.toArray n}={cls:=.type "list",data:=.seq its'.toArray n'})(r:Vals ys its')(hz:ys.length≤sizeLine)(t:Nat):
 Inv X pins σ (upd H p (.lst ys)) {s with heap:=s.heap.update p f,toks:=t}:=by
 have e:(s.heap.update p f).get? p=some {cls:=.type "list",data:=.seq its'.toArray n'}:=by
  rw[Heap.get?_update_self f ho (by rw[hf]<;>rfl),hf]
 refine I.write (x:=p) (e:=p) (by rw[h];trivial) (.inl rfl) (λ b u hb q=>(Heap.get?_update_other _ _ (Ne.symm hb)).trans q) ⟨_,e⟩ ?_
 exact⟨hz,its',n',r,e⟩
def RN:V->V->V->Hp->(Hp->Prop)->Prop:=λ o i v H Q=>∃p xs k j,o=.ref p/\i=.int k/\H p=some (.lst xs)/\ixN xs.length k=some j/\Q (upd H p (.lst (xs.set j v)))
theorem set_list:R3 X RN:=by
 intro pins s σ H o i v ov iv u Q I ro ri rv h
 obtain⟨p,xs,k,j,rfl,rfl,hp,hj,q⟩:=h
 cases ro
 obtain⟨t,rfl⟩:=ri
 obtain⟨its,n,r,ho,hz⟩:=I.lst hp
 obtain⟨h1,h2,h3,h4⟩:=Ck hj
 have hl:=r.length
 have hn:=mz
 have I':Inv X pins σ (upd H p (.lst (xs.set j v))) {s with heap:=s.heap.update p (Obj.mapSeq (·.setIfInBounds j u))}:=
  I.lstUpd hp ho (Ez its n j u) (r.set rv j) (by rw[List.length_set];exact hz) s.toks
 by_cases h0:0≤k
 . have hk:k.toNat=j:=by
    rw[seqIndex_of h0 h4]at h1
    exact Option.some.inj h1
   exact PySem.W.ki_setAt ho h0 (by omega) (by rw[x5,←hl];exact h4) (by rw[hk];exact⟨_,I',q⟩)
 . have hk:(k+(its.toArray.size:Int)).toNat=j:=by
    rw[seqIndex_neg (by omega) h3]at h1
    rw[x5,←hl]
    exact Option.some.inj h1
   exact PySem.W.ki_setBack ho (by omega) (by rw[x5,←hl];exact h3) (by omega) (by rw[hk];exact⟨_,I',q⟩)
theorem yQ(lo hi:Option Int)(n:Nat):(sliceBounds lo hi none n).1=((HT.sIx n 0 lo:Nat):Int)/\(sliceBounds lo hi none n).2.1=((HT.sIx n n hi:Nat):Int)/\(sliceBounds lo hi none n).2.2=1:=by
 refine⟨?_,?_,rfl⟩
 . cases lo with
   | none=>simp[sliceBounds,HT.sIx]
   | some i=>
     simp only[sliceBounds,HT.sIx,Option.getD_none,show(1:Int)>0 by decide,if_true]
     by_cases h:i<0
     . simp only[h,if_true]<;>omega
     . simp only[h,if_false]<;>omega
 . cases hi with
   | none=>simp[sliceBounds,HT.sIx]
   | some i=>
     simp only[sliceBounds,HT.sIx,Option.getD_none,show(1:Int)>0 by decide,if_true]
     by_cases h:i<0
     . simp only[h,if_true]<;>omega
     . simp only[h,if_false]<;>omega
theorem wD(its:List Value)(lo hi:Option Int):slicePick its.toArray lo hi none=((its.drop (HT.sIx its.length 0 lo)).take (HT.sIx its.length its.length hi-HT.sIx its.length 0 lo)).toArray:=by
 obtain⟨h1,h2,h3⟩:=yQ lo hi its.toArray.size
 unfold slicePick
 rw[h1,h2,h3]
 simp only[sliceRange_one,pick_run,x5]<;>rfl
def Sy(K:PySem.W.Frag):V->Option Int->Option Int->Hp->VK->Prop:=λ x lo hi H Q=>∃a xs,x=.ref a/\SqL K H a xs/\∀p,H p=none->Q (.ref p) (upd H p (.lst (mF xs lo hi)))
theorem vz:SlR X (Sy X.K):=by
 intro pins s σ H x v vl vu lo hi sl Q I rx hs pl pu h
 obtain⟨a,xs,rfl,hx,q⟩:=h
 cases rx
 obtain⟨its,r,ht,hz⟩:=I.list hx
 have hlen:=r.length
 refine⟨"list",_,slot_list_getitem.lookup,ht.isList.typeIs,?_⟩
 refine wpAny_getItem_list_slice ht.isList hs pl pu .none (by simp) ?_ (by rw[x5]<;>omega)
 rw[wD,←hlen]
 refine⟨.ref s.heap.objs.size,_,I.laid (t':=s.toks) (o:=.lst (mF xs lo hi)) (λ b ob q=>Heap.get?_push_of_some _ q) (y8 _) ?_,rfl,q _ (I.hok.fresh (y8 _))⟩
 exact⟨Nat.le_trans (nJ xs lo hi) hz,_,0,(r.drop (HT.sIx xs.length 0 lo)).take (HT.sIx xs.length xs.length hi-HT.sIx xs.length 0 lo),Heap.get?_push_size _ rfl⟩
def gf:V->Bool
 | .non=>true
 | .bl _=>true
 | .int _=>true
 | .str _=>true
 | _=>false
def eqV:V->V->Bool
 | .non,.non=>true
 | .bl a,.bl b=>a==b
 | .bl a,.int b=>(if a then 1 else 0)==b
 | .int a,.bl b=>a==(if b then 1 else 0)
 | .int a,.int b=>a==b
 | .str a,.str b=>a==b
 | _,_=>false
theorem N6{A:Around}{y x:V}{u v:Value}(ry:RelV y u)(rx:RelV x v)(fy:gf y=true)(fx:gf x=true):SeqAt.EqAt A s u v (eqV y x):=by
 cases y with
 | non=>
   cases ry
   cases x with
   | non=>cases rx;exact SeqAt.EqAt.same _
   | bl b=>cases rx;exact SeqAt.EqAt.none_bool b
   | int b=>obtain⟨t,rfl⟩:=rx;exact SeqAt.EqAt.none_int b t
   | str b=>obtain⟨t,rfl⟩:=rx;exact SeqAt.EqAt.none_str b t
   | _=>exact absurd (show false=true from fx) y4
 | bl a=>
   cases ry
   cases x with
   | non=>cases rx;exact SeqAt.EqAt.bool_none a
   | bl b=>cases rx;exact SeqAt.EqAt.bool_bool a b
   | int b=>obtain⟨t,rfl⟩:=rx;exact SeqAt.EqAt.bool_int a b t
   | str b=>obtain⟨t,rfl⟩:=rx;exact SeqAt.EqAt.bool_str a b t
   | _=>exact absurd (show false=true from fx) y4
 | int a=>
   obtain⟨t',rfl⟩:=ry
   cases x with
   | non=>cases rx;exact SeqAt.EqAt.int_none a t'
   | bl b=>cases rx;exact SeqAt.EqAt.int_bool a t' b
   | int b=>obtain⟨t,rfl⟩:=rx;exact SeqAt.EqAt.int_int a t' b t
   | str b=>obtain⟨t,rfl⟩:=rx;exact SeqAt.EqAt.int_str a t' b t
   | _=>exact absurd (show false=true from fx) y4
 | str a=>
   obtain⟨t',rfl⟩:=ry
   cases x with
   | non=>cases rx;exact SeqAt.EqAt.str_none a t'
   | bl b=>cases rx;exact SeqAt.EqAt.str_bool a t' b
   | int b=>obtain⟨t,rfl⟩:=rx;exact SeqAt.EqAt.str_int a t' b t
   | str b=>obtain⟨t,rfl⟩:=rx;exact SeqAt.EqAt.str_str a t' b t
   | _=>exact absurd (show false=true from fx) y4
 | _=>exact absurd (show false=true from fy) y4
def eqU(x:V)(u:Value):Bool:=match u with
 | .none=>eqV .non x
 | .bool b=>eqV (.bl b) x
 | .int i _=>eqV (.int i) x
 | .str z _=>eqV (.str z) x
 | _=>false
theorem zK{x y:V}{u:Value}(r:RelV y u)(f:gf y=true):eqU x u=eqV y x:=by
 cases y with
 | non=>cases r;rfl
 | bl b=>cases r;rfl
 | int i=>obtain⟨t,rfl⟩:=r;rfl
 | str z=>obtain⟨t,rfl⟩:=r;rfl
 | _=>exact absurd (show false=true from f) y4
theorem jy{x:V}:∀{xs:List V}{us:List Value},Vals xs us->xs.all gf=true->us.any (eqU x)=xs.any λ y=>eqV y x
 | _,_,.nil,_=>rfl
 | y::xs,u::us,.cons r t,f=>by
   rw[List.all_cons,Bool.and_eq_true]at f
   rw[List.any_cons,List.any_cons,zK r f.1,jy t f.2]
theorem fX{A:Around}{s:Shared}{x:V}{v:Value}(rx:RelV x v)(fx:gf x=true):∀{xs:List V}{us:List Value},Vals xs us->xs.all gf=true->∀u∈us,SeqAt.EqAt A s u v (eqU x u)
 | _,_,.nil,_=>λ u hu=>by cases hu
 | y::xs,u::us,.cons r t,f=>λ u' hu=>by
   rw[List.all_cons,Bool.and_eq_true]at f
   rcases List.mem_cons.mp hu with rfl | hu
   . rw[zK r f.1];exact N6 r rx f.1 fx
   . exact fX rx fx t f.2 u' hu
def inV(x:V)(xs:List V):Bool:=xs.any λ y=>eqV y x
def rIn(K:PySem.W.Frag)(neg:Bool):R2:=λ x y H Q=>∃p xs,y=.ref p/\(SqL K H p xs∨SqT K H p xs)/\gf x=true/\xs.all gf=true/\Q (.bl (if neg then !inV x xs else inV x xs)) H
theorem Fz:OpR X (compareOp .In) (rIn X.K false):=by
 intro pins s σ H x y v u Q I rx ry h
 obtain⟨p,xs,rfl,hq,fx,fs,q⟩:=h
 cases ry
 rcases hq with hq | hq
 . obtain⟨its,r,pl,hz⟩:=I.list hq
   refine SeqAt.in_listAt (eqU x) pl.isList (λ w hw=>fX rx fx r fs w (by simpa using hw)) ⟨.bl _,H,I,rfl,?_⟩
   rw[show its.toArray.any (eqU x)=its.any (eqU x) by simp,jy r fs]
   exact q
 . obtain⟨its,r,pl,hz⟩:=I.tuple hq
   refine SeqAt.in_tupleAt (eqU x) pl (λ w hw=>fX rx fx r fs w (by simpa using hw)) ⟨.bl _,H,I,rfl,?_⟩
   rw[show its.toArray.any (eqU x)=its.any (eqU x) by simp,jy r fs]
   exact q
theorem zJ:OpR X (compareOp .NotIn) (rIn X.K true):=by
 intro pins s σ H x y v u Q I rx ry h
 obtain⟨p,xs,rfl,hq,fx,fs,q⟩:=h
 cases ry
 rcases hq with hq | hq
 . obtain⟨its,r,pl,hz⟩:=I.list hq
   refine SeqAt.notIn_listAt (eqU x) pl.isList (λ w hw=>fX rx fx r fs w (by simpa using hw)) ⟨.bl _,H,I,rfl,?_⟩
   rw[show its.toArray.any (eqU x)=its.any (eqU x) by simp,jy r fs]
   exact q
 . obtain⟨its,r,pl,hz⟩:=I.tuple hq
   refine SeqAt.notIn_tupleAt (eqU x) pl (λ w hw=>fX rx fx r fs w (by simpa using hw)) ⟨.bl _,H,I,rfl,?_⟩
   rw[show its.toArray.any (eqU x)=its.any (eqU x) by simp,jy r fs]
   exact q
theorem ie:gM X (.builtin "len") (λ xs H Q=>∃p ys,xs=[.ref p]/\(SqL X.K H p ys∨SqT X.K H p ys)/\Q (.int ys.length) H):=by
 intro pins s σ H xs us Q I r h
 obtain⟨p,ys,rfl,hq,q⟩:=h
 obtain⟨u,rfl,rx⟩:=vals1 r
 cases rx
 have hn:=mz
 rcases hq with hq | hq
 . obtain⟨its,r',pl,hz⟩:=I.list hq
   have hlen:=r'.length
   exact Calls.call_len_list pl.isList (by simp only[x5]<;>omega) ⟨.int ys.length,H,I.tok _,⟨s.toks+1,by rw[x5,hlen]⟩,q⟩
 . obtain⟨its,r',pl,hz⟩:=I.tuple hq
   have hlen:=r'.length
   exact len_tuple pl (by simp only[x5]<;>omega) ⟨.int ys.length,H,I.tok _,⟨s.toks+1,by rw[x5,hlen]⟩,q⟩
theorem lA:gM X (.type "tuple") (λ xs H Q=>∃p ys,xs=[.ref p]/\((SqL X.K H p ys/\∀l,H l=none->Q (.ref l) (upd H l (.tup ys)))∨(SqT X.K H p ys/\Q (.ref p) H))):=by
 intro pins s σ H xs us Q I r h
 obtain⟨p,ys,rfl,h⟩:=h
 obtain⟨u,rfl,rx⟩:=vals1 r
 cases rx
 rcases h with⟨hq,q⟩ | ⟨hq,q⟩
 . obtain⟨its,r',pl,hz⟩:=I.list hq
   have hlen:=r'.length
   refine call_tuple_list pl.isList (λ h' kp=>?_) (by simp only[x5]<;>omega)
   have I1:Inv X pins σ H {s with heap:=h'}:=I.kept (t':=s.toks) kp
   have I2:Inv X pins σ (upd H h'.objs.size (.tup ys)) {s with heap:=h'.push {cls:=.type "tuple",data:=.seq its.toArray}}:=
    I1.laid (t':=s.toks) (λ b o e=>Heap.get?_push_of_some _ e) (y8 _) (show bz X.prog X.w _ _ _ (.tup ys)from⟨hz,its,r',IsTup.new _ _⟩)
   exact⟨.ref h'.objs.size,_,I2,rfl,q _ (I1.hok.fresh (y8 _))⟩
 . obtain⟨its,r',pl,hz⟩:=I.tuple hq
   exact call_tuple_same pl ⟨.ref p,H,I,rfl,q⟩
def tyV(K:PySem.W.Frag)(T:String)(x:V)(H:Hp):Prop:=match x with
 | .str _=>T="str"
 | .int _=>T="int"
 | .ref p=>(T="list"/\∃xs,SqL K H p xs)∨(T="tuple"/\∃o,K.lookup p=some o/\o.cls=.type "tuple"/\o.dict=none)∨
  (T="dict"/\((∃kvs,H p=some (.dK kvs))∨∃kvs,H p=some (.dT kvs)))∨(T="set"/\∃S n,H p=some (.set S n))
 | _=>False
theorem QB{pins:List (Addr×Obj)}{σ:St}{H:Hp}{T:String}{x:V}{v:Value}(I:Inv X pins σ H s)(r:RelV x v)(ty:tyV X.K T x H):
 s.TypeIs v T/\∀a,v=.ref a->∃ob,s.heap.get? a=some ob/\ob.dict=none:=by
 cases x with
 | str z=>
   obtain⟨t,rfl⟩:=r
   cases (show T="str" from ty)
   exact⟨typeIs_str s z t,λ _ e=>nomatch e⟩
 | int i=>
   obtain⟨t,rfl⟩:=r
   cases (show T="int" from ty)
   exact⟨typeIs_int s i t,λ _ e=>nomatch e⟩
 | ref p=>
   cases r
   rcases ty with⟨rfl,xs,hq⟩ | ⟨rfl,o,hk,hc,hd⟩ | ⟨rfl,hk⟩ | ⟨rfl,S,n,hk⟩
   . obtain⟨its,_,pl,_⟩:=I.list hq
     refine⟨pl.isList.typeIs,λ a e=>?_⟩
     cases e
     obtain⟨o,n,e,c,hd,_⟩:=pl
     exact⟨o,e,hd⟩
   . refine⟨⟨o,I.kIn p o hk,hc⟩,λ a e=>?_⟩
     cases e
     exact⟨o,I.kIn _ o hk,hd⟩
   . have z:∃o,s.heap.get? p=some o/\o.ExactDict:=by
      rcases hk with⟨kvs,hk⟩ | ⟨kvs,hk⟩
      . obtain⟨_,_,_,_,o,_,_,e,ex,_⟩:=I.hok p _ hk
        exact⟨o,e,ex⟩
      . obtain⟨_,_,_,_,o,_,_,e,ex,_⟩:=I.hok p _ hk
        exact⟨o,e,ex⟩
     obtain⟨o,e,ex⟩:=z
     refine⟨⟨o,e,ex.1⟩,λ a e2=>?_⟩
     cases e2
     exact⟨o,e,ex.2.1⟩
   . obtain⟨o,_,_,_,e,ex,_⟩:=I.hok p _ hk
     refine⟨⟨o,e,ex.1⟩,λ a e2=>?_⟩
     cases e2
     exact⟨o,e,ex.2.1⟩
 | _=>exact False.elim ty
def tBM(K:PySem.W.Frag)(T:String)(r:V->List V->Hp->VK->Prop)(to:TE)(t:TA):TE:=λ σ H Q=>to σ H λ x H1=>tyV K T x H1/\t σ H1 λ xs H2=>r x xs H2 Q
variable {o e : Expr} {es : List Expr} {to : TE} {t : TA} {name : Str} {apos cpos : Pos} {T id : String} {r : V -> List V -> Hp -> VK -> Prop}
theorem yg(pa:PlainAttrs T)(slot:Slot T name id)(hty:typeOf (.builtin id)=pure (.type "method_descriptor"))(hm:MtR X id r)(ho:PE X o to)(ha:PA X (e::es) t)
 (hbase:attributeBase o name X.env (eval o X.env)=eval o X.env:=by rfl)
 (hfew:((backTo cpos (starEach (e::es) X.env)).all (λ x=>!x.1)&&(backToKw cpos (keywordEach [] X.env)).all (λ x=>x.1.isSome)
  &&decide ((e::es).length+([]:List Keyword).length+(if([]:List Keyword).isEmpty then 0 else 1)<30))=true:=by rfl)
 (hline:(apos.endLine==cpos.line)=true:=by rfl)(hs:starEach (e::es) X.env=(false,eval e X.env)::starEach es X.env:=by rfl)(hplain:(backTo cpos (starEach es X.env)).any (·.1)=false:=by rfl):
 PE X (.Call (.Attribute o name apos) (e::es) [] cpos) (tBM X.K T r to t):=by
 intro pins s σ H Q I h
 refine wpAny_Call_method_late hbase hfew hline rfl (thn (ho pins s σ H _ I h) λ v s1 ⟨x,H1,I1,r1,ty,q1⟩=>?_)
 obtain⟨h1,h2⟩:=QB I1 r1 ty
 refine⟨T,id,pa,slot,hty,h1,h2,?_⟩
 have hA:=ha cpos pins s1 σ H1 _ I1 q1
 rw[hs]at hA ⊢
 refine Calls.callWith_builtin (by show(false||(backTo cpos (starEach es X.env)).any (·.1))=false;rw[hplain]<;>rfl) (Calls.evalArgs_plain ?_)
 exact thn hA λ us s2 ⟨vs,H2,I2,r2,q2⟩=>hm pins s2 σ H2 x vs v us Q I2 r1 r2 q2
end
end L2
namespace L2
open PySem PySem.Spec PyProof.Rows
def MtM(X:Cx)(id:String)(r:V->List V->Hp->VK->Prop):Prop:=
 ∀ (pins:List (Addr×Obj))(s:Shared)(σ:St)(H:Hp)(x:V)(xs:List V)(v:Value)(us:List Value)(Q:VK),Inv X pins σ H s->RelV x v->Vals xs us->r x xs H Q->
   wpAny (model X.prog X.w) X.A (call (.builtin id) (v::us)) (EP X pins σ Q) X.xe s
theorem Vals.one:∀{x:V}{us:List Value},Vals [x] us->∃u,us=[u]/\RelV x u
 | _,_,.cons r .nil=>⟨_,rfl,r⟩
theorem Vals.rep{xs:List V}{us:List Value}(h:Vals xs us):∀k:Nat,Vals (List.replicate k xs).flatten (List.replicate k us).flatten
 | 0=>.nil
 | k+1=>by
   rw[List.replicate_succ,List.replicate_succ,List.flatten_cons,List.flatten_cons]
   exact Vals.append h (Vals.rep h k)
theorem foldl_rep(its:List Value):∀(k:Nat)(acc:List Value),
 List.foldl (λ x1 x2=>x1++x2) acc.toArray (List.replicate k its.toArray)=(acc++(List.replicate k its).flatten).toArray
 | 0,acc=>by simp
 | k+1,acc=>by
   have e:acc.toArray++its.toArray=(acc++its).toArray:=by simp
   have e2:(acc++its)++(List.replicate k its).flatten=acc++(List.replicate (k+1) its).flatten:=by
    rw[List.replicate_succ,List.flatten_cons,List.append_assoc]
   rw[←e2,←foldl_rep its k (acc++its),←e,List.replicate_succ,List.foldl_cons]
section
variable {X : Cx} {pins : List (Addr × Obj)} {σ : St} {H : Hp} {s : Shared} {l b : Addr} {xs ys zs : List V}
theorem Inv.lset{its its':List Value}{n:Nat}{f:Array Value->Array Value}{t':Nat}(I:Inv X pins σ H s)(hH:H l=some (.lst xs))
 (e:s.heap.get? l=some {cls:=.type "list",data:=.seq its.toArray n})(hf:f its.toArray=its'.toArray)(hv:Vals ys its')(hz:ys.length≤sizeLine):
 Inv X pins σ (upd H l (.lst ys)) {s with heap:=s.heap.update l (Obj.mapSeq f),toks:=t'}:=by
 have q:=PySem.IsL.update e f
 rw[hf]at q
 refine I.write (x:=l) (e:=l) (by rw[hH];exact trivial) (.inl rfl) (λ b' u hb hu=>(Heap.get?_update_other s.heap (Obj.mapSeq f) (Ne.symm hb)).trans hu) ⟨_,q⟩ ?_
 exact⟨hz,its',_,hv,q⟩
theorem Inv.lnew{its:List Value}{t':Nat}(I:Inv X pins σ H s)(hv:Vals ys its)(hz:ys.length≤sizeLine):
 Inv X pins σ (upd H s.heap.objs.size (.lst ys)) {s with heap:=s.heap.push {cls:=.type "list",data:=.seq its.toArray},toks:=t'}:=
 I.laid (λ _ _ q=>Heap.get?_push_of_some _ q) (y8 _) ⟨hz,its,0,hv,Heap.get?_push_size _ rfl⟩
theorem Inv.fresh(I:Inv X pins σ H s):H s.heap.objs.size=none:=I.hok.fresh (y8 _)
theorem Inv.lstM(I:Inv X pins σ H s)(hH:H l=some (.lst xs)):xs.length≤sizeLine/\∃(its:List Value) (n:Nat),Vals xs its/\xs.length=its.length/\s.heap.get? l=some {cls:=.type "list",data:=.seq its.toArray n}:=by
 obtain⟨z,its,n,r,e⟩:=I.hok l _ hH
 exact⟨z,its,n,r,r.length,e⟩
theorem Jv{n:Nat}(h:n≤sizeLine):Builtin.List.listTooLong n=false:=by
 unfold Builtin.List.listTooLong
 exact decide_eq_false (by omega)
end
section
variable {X : Cx}
def KD:V->List V->Hp->VK->Prop:=λ x vs H Q=>∃l xs y,x=.ref l/\vs=[y]/\H l=some (.lst xs)/\xs.length<sizeLine/\Q .non (upd H l (.lst (xs++[y])))
theorem v9:MtM X "list.append" KD:=by
 intro pins s σ H x vs v us Q I rx rv h
 obtain⟨l,xs,y,rfl,rfl,hH,hz,q⟩:=h
 cases rx
 obtain⟨u,rfl,ru⟩:=rv.one
 obtain⟨z,its,n,r,hl,e⟩:=I.lstM hH
 refine call_meets F.slot_list_append ⟨_,e,rfl⟩ F.entry_list_append (F.args_list_append_2 _ _) (PySem.list_append l its.toArray n u (by rw[x5];omega)) ⟨e,?_⟩
 refine⟨.non,_,I.lset (its':=its++[u]) hH e (by simp) (r.append (.cons ru .nil)) ?_,rfl,q⟩
 rw[x8,List.length_singleton]
 omega
theorem len_rep{α:Type}(xs:List α)(k:Nat):(List.replicate k xs).flatten.length=k*xs.length:=by
 induction k with
 | zero=>simp
 | succ k ih=>rw[List.replicate_succ,List.flatten_cons,x8,ih,Nat.succ_mul,Nat.add_comm]
end
end L2
namespace Att
open PySem PySem.W PySem.Calls PyProof.Rows
theorem qF{P:Params}{h:Heap}:∀(ns:List Int)(vs:List Value),WellAll P h vs (ns.map WData.int)->IntsAre vs ns:=by
 intro ns
 induction ns with
 | nil=>
   intro vs w
   rw[List.map_nil]at w
   cases w
   exact .nil
 | cons n ns ih=>
   intro vs w
   rw[List.map_cons]at w
   cases w with
   | cons a b=>
     cases a
     exact .cons _ _ (ih _ b)
theorem Gv{l:OpenLaw}{n:Nat}(hn:l.most=some n){P:Params}{h:Heap}{args:List WData}{vals:List Value}
 (hpre:l.row.toRowW.claim.pre args=true)(hwl:WellAll P h vals args):
 ∃a vs ns,vals=[Value.ref a]/\args=[WData.list (ns.map WData.int)]/\h.get? a=some {cls:=.type "list",data:=.seq vs.toArray}/\IntsAre vs ns/\ns.length≤n:=by
 have hsh:WShape.hasAll [] args [.list .int]=true:=(pre_splitW hpre).1
 have hc:l.pre.holds [] {args:=args}=true:=(pre_splitW hpre).2
 obtain⟨d,r,rfl,h1,h2⟩:=hasAllW_cons hsh
 obtain rfl:=hasAllW_nil h2
 obtain⟨xs,rfl,h3⟩:=hasW_list h1
 obtain⟨ns,rfl⟩:=items_int h3
 have hlen:ns.length≤n:=by
  unfold OpenLaw.pre at hc
  have h4:(WTm.not (.lt (.lit (.int (n:Int))) (.len (.arg 0)))).holds [] {args:=[.list (ns.map .int)]}=true:=by
   have h4:=(holds_andW hc).1
   rw[hn]at h4
   exact h4
  have h5:=condW_of h4 (w_not (w_lt w_lit (w_len_list (w_arg rfl))))
  rw[y6]at h5
  refine Nat.le_of_not_lt λ q=>?_
  have q':(n:Int)<((ns.length:Nat):Int):=by omega
  first
   | (rw[decide_eq_true q']at h5;exact absurd h5 (by decide))
   | (simp at h5;omega)
 cases hwl with
 | cons w1 w2=>
   cases w2
   cases w1 with
   | list ho hall=>exact⟨_,_,ns,rfl,rfl,ho,qF ns _ hall,hlen⟩
theorem Fp(l:OpenLaw)(args:List WData):l.row.toRowW.claim.post args (.bool true) args=true:=
 postW_of (r:=l.row.toRowW) (X:=(true==true))
  (show WShape.has [] (.bool true) .bool=true by first | rfl | decide | simp[WShape.has,WShape.arms,WShape.armsAll])
  (show(WTm.eq .res (.lit (.bool true))).value [] {args:=args,res:=some (.bool true),after:=args}=some (.bool (true==true))from w_eq_bool (w_res rfl) w_lit) rfl
theorem attach_call{l:OpenLaw}{n:Nat}{q:Program}{loose:List Str}{XP:(Str->Option Value)->Heap->Prop}{YP:World->Heap->Prop}{d:DefRec}
 (hn:l.most=some n)(hdf:d.params.defaults=[])
 (call:∀(w:World)(s₀ s₁:Shared)(mg mb:Str->Option Value)(fa:Addr)(o:Obj)(pm cd doc:Value)(a:Addr)(vs:List Value)(ns:List Int),
  Ground q loose [] XP w s₀ mg mb s₁.heap->YP w s₁.heap->
  s₁.heap.get? fa=some o->o.data=.func (docDef d.name d.params d.body d.scope pm cd doc)->s₁.heap.CodeRec cd d.name->mg d.name=some (.ref fa)->
  s₁.heap.get? a=some {cls:=.type "list",data:=.seq vs.toArray}->IntsAre vs ns->ns.length≤n->s₁.gens=#[]->
  codeAny (model l.prog w) callerA (.call (.ref fa) ⟨[.ref a],[]⟩) (λ r s'=>r=.ok (.ret (.bool true))/\OldK s₁.heap s'.heap/\s'.os=s₁.os/\AllBare s'.gens) s₁):
 WalkO q loose XP YP l.row.toRowW d [] (λ f vs=>PySem.call f vs):=by
 intro w s₀ s₁ mg mb G Y fa o pm cd doc dV kV ho hd hcd hD hmg hg args vals as hpre hlay hrd hwl hlo
 obtain rfl:dV=.none:=Dflts.none hD hdf
 obtain rfl:kV=.none:=Dflts.noKw hD
 obtain⟨a,vs,ns,rfl,rfl,hobj,hints,hlen⟩:=Gv hn hpre hwl
 refine enter_call (codeAny_mono (call w s₀ s₁ mg mb fa o pm cd doc a vs ns G Y ho (fd_plain hd) hcd hmg hobj hints hlen hg) λ r s' hq=>?_)
 obtain⟨rfl,h2,h3,h4⟩:=hq
 exact⟨.inl ⟨.bool true,.bool true,[],rfl,λ _=>rfl,.bool true,Fp l _,λ _=>⟨List.Pairwise.nil,λ _ hm=>(nomatch hm)⟩⟩,h2,h3,h4⟩
end Att
namespace L2
open PySem PySem.Spec PyProof.Rows
theorem vM:∀{vs:List Value}{ns:List Int},IntsAre vs ns->Vals (ns.map V.int) vs
 | _,_,.nil=>.nil
 | _,_,.cons n t h=>.cons ⟨t,rfl⟩ (vM h)
def Only(H:Hp):Prop:=∀b,H b=none∨∃o xs,H b=some (.frz o (.lst xs))
theorem Jj{P:Program}{w:World}{K:PySem.W.Frag}{mg mb:Str->Option Value}{CX:CXT}{k:Nat}{fa a:Addr}{fd:FuncData}{x:Str}{sp:Sp}{s₁:Shared}{vs:List Value}{ns:List Int}
 (KX:K.In s₁.heap)(hns:s₁.heap.Ns mainGlobals mg)(hb:s₁.heap.Ns builtinsNs mb)(hbb:∀x:Str,x≠"__name__"->mb x=bootBuiltins x)(hlim:s₁.heap.NoLimit)(hg:s₁.gens=#[])
 (ha:s₁.heap.get? a=some {cls:=.type "list",data:=.seq vs.toArray})(hi:IntsAre vs ns)(hl:ns.length≤sizeLine)(hr:Room k callerA)
 (F:∀base:Heap,K.In base->base.Ns mainGlobals mg->FnOk P w K mg base CX k fa fd [x] sp)(hbind:∀(s:Shared)(u:Value),BindsTo s fd ⟨[u],[]⟩ [(x,u)])
 (hsp:∀H:Hp,Only H->SqL K H a (ns.map V.int)->sp [.ref a] H (λ v _=>v=.bl true) λ _ _ _=>False)
 (hCX:∀H e s',CX [] H s₁ (λ _ _ _=>False) e s'->False):
 codeAny (model P w) callerA (.call (.ref fa) ⟨[.ref a],[]⟩) (λ r s'=>r=.ok (.ret (.bool true))/\OldK s₁.heap s'.heap/\s'.os=s₁.os/\AllBare s'.gens) s₁:=by
 have rv:=vM hi
 have lenV:=hi.length
 have core:∀H:Hp,Only H->SqL K H a (ns.map V.int)->HOk P w H s₁.heap->(∀b,H b≠none->b=a)->(H a≠none->K.lookup a=none)->
  codeAny (model P w) callerA (.call (.ref fa) ⟨[.ref a],[]⟩) (λ r s'=>r=.ok (.ret (.bool true))/\OldK s₁.heap s'.heap/\s'.os=s₁.os/\AllBare s'.gens) s₁:=by
  intro H hO hS hok hA hK
  have base_of:∀{b:Addr}{o:Obj},s₁.heap.get? b=some o->H b=none->(jY s₁.heap H).get? b=some o:=λ e n=>JD e n
  have noA:∀{b:Addr}{o:Obj}{es:Array DictEntry}{ep:Nat},s₁.heap.get? b=some o->o.data=.dict es ep->H b=none:=λ{b o es ep} e d=>by
   cases q:H b with
   | none=>rfl
   | some u=>
     have e':b=a:=hA b (by rw[q];simp)
     subst e'
     rw[ha]at e;cases e
     have d':Data.seq vs.toArray _=Data.dict es ep:=d
     cases d'
  have nsK:∀{b:Addr}{m:Str->Option Value},s₁.heap.Ns b m->(jY s₁.heap H).Ns b m:=λ{b m} ⟨o,es,ep,e,d,r⟩=>⟨o,es,ep,base_of e (noA e d),d,r⟩
  have hKb:K.In (jY s₁.heap H):=λ b o e=>base_of (KX b o e) (by
   cases q:H b with
   | none=>rfl
   | some u=>
     have e':b=a:=hA b (by rw[q];simp)
     subst e'
     rw[hK (by rw[q];simp)]at e;cases e)
  have hM:Mod K mg (jY s₁.heap H):=⟨hKb,nsK hns,⟨mb,nsK hb,hbb⟩,let ⟨mc,h1,h2⟩:=hlim;⟨mc,nsK h1,h2⟩⟩
  have e0:Env0 P w K mg (jY s₁.heap H) callerA [] s₁ H:=⟨rfl,hM,λ b o e=>LK e,Nat.le_of_eq (Gj _ _),trivial,λ b hb=>absurd (show b∈([]:List Addr)from hb) (by simp),hok,.of_eq hg⟩
  refine codeAny_mono ((F _ hKb (nsK hns)).run callerA [] s₁ H ⟨[.ref a],[]⟩ [.ref a] [.ref a] _ _ hr e0 (hbind s₁ (.ref a)) (.cons rfl .nil) (hsp H hO hS)) λ r s' h=>?_
  cases r with
  | error e=>exact(hCX H e s' h).elim
  | ok fl =>
    cases fl with
    | next=>exact False.elim h
    | brk=>exact False.elim h
    | cont=>exact False.elim h
    | ret u=>
      obtain⟨v,H',os,bare,un,hok',r',q⟩:=h
      have q':v=.bl true:=q
      subst q'
      obtain rfl:u=Value.bool true:=r'
      refine⟨rfl,OldK.of_keep λ b o e=>?_,os,bare⟩
      cases q:H b with
      | none=>exact un.keep b o e q (by intro z;exact absurd (show b∈([]:List Addr)from z) (by simp)) (by simp)
      | some u=>
        rcases hO b with z | ⟨ob,xs,z⟩
        . rw[q]at z;cases z
        . have z2:=un.frzs b ob _ z
          obtain⟨e1,_⟩:=hok b _ z
          obtain⟨e2,_⟩:=hok' b _ z2
          rw[e]at e1;cases e1
          exact e2
 cases hk:K.lookup a with
 | some o=>
   have e:=KX a o hk
   rw[ha]at e
   cases e
   refine core (λ _=>none) (λ _=>.inl rfl) (.inr ⟨_,vs.toArray,_,hk,rfl,rfl,rfl,by rw[x5,lenV];exact hl,by simpa using rv⟩) (λ b u z=>by have z':(none:Option HO)=some u:=z;cases z') (λ b z=>absurd rfl z) λ z=>absurd rfl z
 | none=>
   refine core (λ b=>if b=a then some (.frz {cls:=.type "list",data:=.seq vs.toArray} (.lst (ns.map V.int)))else none) (λ b=>?_) (.inl (.inr ⟨{cls:=.type "list",data:=.seq vs.toArray},if_pos rfl⟩)) (λ b u z=>?_) (λ b z=>?_) λ _=>hk
   . by_cases hb:b=a
     . exact .inr ⟨_,_,if_pos hb⟩
     . exact .inl (if_neg hb)
   . by_cases hb:b=a
     . have z':=(if_pos hb).symm.trans z
       cases z'
       subst hb
       exact⟨ha,by rw[y6];exact hl,vs,_,rv,ha⟩
     . have z':=(if_neg hb).symm.trans z
       cases z'
   . by_cases hb:b=a
     . exact hb
     . exact absurd (if_neg hb) z
abbrev KOf{K:PySem.W.Frag}{h:Heap}(_:K.In h):PySem.W.Frag:=K
theorem walk_of{l:PySem.W.OpenLaw}{n k:Nat}{q:Program}{loose:List Str}{XP:(Str->Option Value)->Heap->Prop}{YP:World->Heap->Prop}{d:DefRec}{K:Params->PySem.W.Frag}{CX:World->CXT}{sp:World->Sp}{x:Str}
 (hn:l.most=some n)(hn2:n≤sizeLine)(hdf:d.params.defaults=[])(hr:Room k callerA)
 (hY:∀(w:World)(h:Heap),YP w h->(K w.params).In h)
 (F :∀(w:World)(mg:Str->Option Value)(fa:Addr)(h:Heap),(K w.params).In h->h.Ns mainGlobals mg->mg d.name=some (.ref fa)->
  ∃ fd:FuncData,(∀(s:Shared)(u:Value),BindsTo s fd ⟨[u],[]⟩ [(x,u)])/\
    ∀base:Heap,(K w.params).In base->base.Ns mainGlobals mg->FnOk l.prog w (K w.params) mg base (CX w) k fa fd [x] (sp w))
 (hsp:∀(w:World)(H:Hp)(a:Addr)(ns:List Int),ns.length≤n->Only H->SqL (K w.params) H a (ns.map V.int)->sp w [.ref a] H (λ v _=>v=.bl true) λ _ _ _=>False)
 (hCX:∀(w:World)(H:Hp)(s:Shared)(e:Value)(s':Shared),CX w [] H s (λ _ _ _=>False) e s'->False):
 PySem.W.WalkO q loose XP YP l.row.toRowW d [] (λ f vs=>PySem.call f vs):=by
 refine Att.attach_call hn hdf λ w s₀ s₁ mg mb fa o pm cd doc a vs ns G Y ho hd hcd hmg hobj hints hlen hg=>?_
 have KX:=hY w _ Y
 obtain⟨fd,hb,hF⟩:=F w mg fa _ KX G.T.g hmg
 exact Jj KX G.T.g G.T.b G.T.builtins G.T.nolimit hg hobj hints (Nat.le_trans hlen hn2) hr hF hb (λ H hO hS=>hsp w H a ns hlen hO hS) λ H e s'=>hCX w H s₁ e s'
def ao(s:Stmt):Arguments:=match s with
 | .FunctionDef _ a _ _ _ _ _ _ _ _=>a
 | _=>{posonlyargs:=[],args:=[],vararg:=none,kwonlyargs:=[],kw_defaults:=[],kwarg:=none,defaults:=[]}
def ak(s:Stmt):List Stmt:=match s with
 | .FunctionDef _ _ b _ _ _ _ _ _ _=>b
 | _=>[]
def aj(s:Stmt):Scope:=match s with
 | .FunctionDef _ _ _ _ _ _ sc _ _ _=>sc
 | _=>{kind:=.function,names:=[],isGenerator:=false,isCoroutine:=false}
abbrev CX0:CXT:=λ _ _ _ _ _ _=>False
abbrev E0:XK:=λ _ _ _=>False
theorem QF{X:Cx}:Gn CX0 X E0:=λ _ _ _ _ _ _ _ h=>h.elim
structure Fun(K:PySem.W.Frag)(x qual:Str)(st:Stmt)(f:Addr)(fd:FuncData):Prop where
 ex:∃(oc:Value) (od:Option Addr) (kV doc pm:Value) (an:Option Addr) (cdv ct:Value) (osl:Array (Option Value)),
  fd=PySem.W.fnOf x qual (ao st) (ak st) (aj st) .none kV doc pm an cdv ct/\K.lookup f=some ⟨oc,od,.func fd,osl⟩/\PySem.W.codeIn K cdv qual=true
 kp:PySem.W.keepIn K (.ref f)=true
section
variable {P : Program} {w : World} {K : PySem.W.Frag} {mg : Str -> Option Value} {base : Heap}
theorem Fun.binds{x qual:Str}{st:Stmt}{f:Addr}{fd:FuncData}{ps:List Str}(F:Fun K x qual st f fd)
 (h:∀(kV doc pm:Value)(an:Option Addr)(cdv ct:Value)(us:List Value),us.length=ps.length->bindArgs (PySem.W.fnOf x qual (ao st) (ak st) (aj st) .none kV doc pm an cdv ct) ⟨us,[]⟩=pure (ps.zip us)):Binds K fd ps []:=by
 obtain⟨oc,od,kV,doc,pm,an,cdv,ct,osl,rfl,lk,hcd⟩:=F.ex
 exact .all (h kV doc pm an cdv ct)
theorem aq{x qual:Str}{st:Stmt}{f:Addr}{oc:Value}{od an:Option Addr}{osl:Array (Option Value)}{kV doc pm cdv ct:Value}(l:K.lookup f=some ⟨oc,od,.func (PySem.W.fnOf x qual (ao st) (ak st) (aj st) .none kV doc pm an cdv ct),osl⟩)
 (c:PySem.W.codeIn K cdv qual=true)(k:PySem.W.keepIn K (.ref f)=true):Fun K x qual st f (PySem.W.fnOf x qual (ao st) (ak st) (aj st) .none kV doc pm an cdv ct):=⟨⟨oc,od,kV,doc,pm,an,cdv,ct,osl,rfl,l,c⟩,k⟩
end
def dG(H H':Hp):Prop:=∀b o,H b=some o->H' b=some o
theorem dG.refl(H:Hp):dG H H:=λ _ _ h=>h
end L2
set_option maxHeartbeats 4000000
namespace DL
open PySem PySem.Spec L2
open PyProof.Rows
variable {a p : Addr} {K : PySem.W.Frag} {O O' : Own} {H H' : Hp} {xs : List V} {S : Store}
abbrev St:=L2.St
inductive D where
 | non | bl(b:Bool) | int(i:Int) | str(x:Str) | tup(ds:List D) | lst(ds:List D) | loc(k:Nat) | dic | dlo(k:Nat)
abbrev Store:=List (List D)
abbrev Gam:=List (Option D)
structure Own where
 A:List (Addr×Bool)
 B:List Addr
abbrev adr(A:List (Addr×Bool)):List Addr:=A.map Prod.fst
theorem gA{A:List (Addr×Bool)}{k:Nat}{q:Bool}(h:A[k]? =some (a,q)):a∈adr A:=List.mem_map.mpr ⟨_,y3 h,rfl⟩
theorem eN(A N:List (Addr×Bool)):adr (A++N)=adr A++adr N:=List.map_append
abbrev Own.has(O:Own)(a:Addr):Prop:=a∈adr O.A∨a∈O.B
def Tp(K:PySem.W.Frag)(O:Own)(H:Hp)(a:Addr)(xs:List V):Prop:=¬O.has a/\H a=some (.tup xs)
def Ls(K:PySem.W.Frag)(O:Own)(H:Hp)(a:Addr)(xs:List V):Prop:=(¬O.has a/\Rd H a (.lst xs))∨SqL K (λ _=>none) a xs
theorem Tp.sq(h:Tp K O H a xs):SqT K H a xs:=.inl (.inl h.2)
theorem Ls.sq(h:Ls K O H a xs):SqL K H a xs:=by
 rcases h with⟨_,h⟩ | (h | h)
 . exact .inl h
 . rcases h with h | ⟨_,h⟩<;>cases h
 . exact .inr h
def Abv(K:PySem.W.Frag)(a:Addr):Prop:=∀c o,K.lookup c=some o->c<a
mutual
inductive Rep(K:PySem.W.Frag)(O:Own)(H:Hp):V->D->Prop
 | non:Rep K O H .non .non
 | bl(b:Bool):Rep K O H (.bl b) (.bl b)
 | int(i:Int):Rep K O H (.int i) (.int i)
 | str(x:Str):Rep K O H (.str x) (.str x)
 | tup{a:Addr}{xs:List V}{ds:List D}(h:Tp K O H a xs)(r:Reps K O H xs ds):Rep K O H (.ref a) (.tup ds)
 | lst{a:Addr}{xs:List V}{ds:List D}(h:Ls K O H a xs)(r:Reps K O H xs ds):Rep K O H (.ref a) (.lst ds)
 | loc{a:Addr}{k:Nat}(h:O.A[k]? =some (a,false)):Rep K O H (.ref a) (.loc k)
 | dlo{a:Addr}{k:Nat}(h:O.A[k]? =some (a,true))(n:Abv K a):Rep K O H (.ref a) (.dlo k)
 | dic{a:Addr}(h:¬O.has a)(e:H a=some (.dK [])):Rep K O H (.ref a) .dic
inductive Reps(K:PySem.W.Frag)(O:Own)(H:Hp):List V->List D->Prop
 | nil:Reps K O H [] []
 | cons{v:V}{d:D}{vs:List V}{ds:List D}(r:Rep K O H v d)(t:Reps K O H vs ds):Reps K O H (v::vs) (d::ds)
end
structure Step(O O':Own)(H H':Hp):Prop where
 kept:∀b o,b∉adr O.A->H b=some o->H' b=some o
 dom:∀b,H b≠none->H' b≠none
 ext:∃N,O'.A=O.A++N/\∀b∈adr N,H b=none
 hid:O'.B=O.B
theorem Step.refl(O:Own)(H:Hp):Step O O H H:=⟨λ _ _ _ h=>h,λ _ h=>h,⟨[],by simp,λ _ h=>nomatch h⟩,rfl⟩
theorem Step.trans{O1 O2:Own}{H1 H2:Hp}(a:Step O O1 H H1)(b:Step O1 O2 H1 H2):Step O O2 H H2:=by
 obtain⟨N1,e1,f1⟩:=a.ext
 obtain⟨N2,e2,f2⟩:=b.ext
 refine⟨λ c o hc h=>b.kept c o (λ z=>?_) (a.kept c o hc h),λ c h=>b.dom c (a.dom c h),⟨N1++N2,by rw[e2,e1,List.append_assoc],λ c hc=>?_⟩,b.hid.trans a.hid⟩
 . rw[e1,eN]at z
   rcases List.mem_append.mp z with z | z
   . exact hc z
   . rw[f1 c z]at h;cases h
 . rw[eN]at hc
   rcases List.mem_append.mp hc with z | z
   . exact f1 c z
   . cases q:H c with
     | none=>rfl
     | some o=>exact absurd (f2 c z) (a.dom c (by rw[q];simp))
theorem Step.nothas(s:Step O O' H H'){a:Addr}(h:¬O.has a)(t:H a≠none):¬O'.has a:=by
 obtain⟨N,e,f⟩:=s.ext
 rintro(z | z)
 . rw[e,eN]at z
   rcases List.mem_append.mp z with z | z
   . exact h (.inl z)
   . exact t (f a z)
 . rw[s.hid]at z;exact h (.inr z)
structure Conv(O O':Own)(H H':Hp):Prop where
 tr:∀a u,¬O.has a->H a=some u->¬O'.has a/\H' a=some u
 lc:∀(k:Nat)(a:Addr×Bool),O.A[k]? =some a->O'.A[k]? =some a
theorem Step.conv(s:Step O O' H H'):Conv O O' H H':=
 ⟨λ a u h t=>⟨s.nothas h (by rw[t];simp),s.kept a u (λ z=>h (.inl z)) t⟩,λ k a h=>by
  obtain⟨N,e,_⟩:=s.ext
  rw[e,x9 (z0.mp h).1];exact h⟩
theorem Rd.conv(s:Conv O O' H H'){a:Addr}{u:HO}(h:¬O.has a)(r:Rd H a u):¬O'.has a/\Rd H' a u:=by
 rcases r with r | ⟨o,r⟩
 . obtain⟨x,y⟩:=s.tr a _ h r
   exact⟨x,.inl y⟩
 . obtain⟨x,y⟩:=s.tr a _ h r
   exact⟨x,.inr ⟨o,y⟩⟩
theorem Tp.conv(h:Tp K O H a xs)(s:Conv O O' H H'):Tp K O' H' a xs:=s.tr a _ h.1 h.2
theorem Ls.conv(h:Ls K O H a xs)(s:Conv O O' H H'):Ls K O' H' a xs:=by
 rcases h with⟨n,r⟩ | h
 . exact .inl (Rd.conv s n r)
 . exact .inr h
mutual
theorem Rep.conv{K:PySem.W.Frag}{O O':Own}{H H':Hp}(s:Conv O O' H H'):∀{v:V}{d:D},Rep K O H v d->Rep K O' H' v d
 | _,_,.non=>.non
 | _,_,.bl b=>.bl b
 | _,_,.int i=>.int i
 | _,_,.str x=>.str x
 | _,_,.tup h r=>.tup (h.conv s) (Reps.conv s r)
 | _,_,.lst h r=>.lst (h.conv s) (Reps.conv s r)
 | _,_,.loc h=>.loc (s.lc _ _ h)
 | _,_,.dlo h n=>.dlo (s.lc _ _ h) n
 | _,_,.dic h e=>.dic (s.tr _ _ h e).1 (s.tr _ _ h e).2
theorem Reps.conv{K:PySem.W.Frag}{O O':Own}{H H':Hp}(s:Conv O O' H H'):∀{vs:List V}{ds:List D},Reps K O H vs ds->Reps K O' H' vs ds
 | _,_,.nil=>.nil
 | _,_,.cons r t=>.cons (Rep.conv s r) (Reps.conv s t)
end
theorem Rep.mono{v:V}{d:D}(h:Rep K O H v d)(s:Step O O' H H'):Rep K O' H' v d:=h.conv s.conv
theorem Reps.mono{v:List V}{d:List D}(h:Reps K O H v d)(s:Step O O' H H'):Reps K O' H' v d:=h.conv s.conv
abbrev Own.hide(O:Own)(p:Addr):Own:=⟨O.A,p::O.B⟩
theorem Conv.hide(h:H p=none)(o:HO):Conv O (O.hide p) H (upd H p o):=
 ⟨λ a u n t=>by
  have ne:a≠p:=aH t h
  refine⟨λ z=>?_,by rw[aA ne];exact t⟩
  rcases z with z | z
  . exact n (.inl z)
  . rcases List.mem_cons.mp z with z | z
    . exact ne z
    . exact n (.inr z),λ _ _ h=>h⟩
theorem Conv.unhide{A:List (Addr×Bool)}{B:List Addr}:Conv ⟨A,p::B⟩ ⟨A,B⟩ H H:=
 ⟨λ a u n t=>⟨λ z=>n (z.elim .inl λ z=>.inr (y9 _ z)),t⟩,λ _ _ h=>h⟩
theorem Conv.updHid(h:p∈O.B)(o:HO):Conv O O H (upd H p o):=
 ⟨λ a u n t=>⟨n,by rw[aA (λ e=>n (.inr (by rw[e];exact h)))];exact t⟩,λ _ _ h=>h⟩
theorem Reps.length{K:PySem.W.Frag}{O:Own}{H:Hp}:∀{vs:List V}{ds:List D},Reps K O H vs ds->vs.length=ds.length
 | _,_,.nil=>rfl
 | _,_,.cons _ t=>by simp[Reps.length t]
theorem Reps.get{K:PySem.W.Frag}{O:Own}{H:Hp}:∀{vs:List V}{ds:List D}{i:Nat}{d:D},Reps K O H vs ds->ds[i]? =some d->∃v,vs[i]? =some v/\Rep K O H v d
 | _,_,_,_,.nil,e=>by simp at e
 | _,_,0,_,.cons r _,e=>by simp at e;subst e;exact⟨_,rfl,r⟩
 | _,_,i+1,d,.cons _ t,e=>by
   obtain⟨v,h1,h2⟩:=Reps.get (i:=i) (d:=d) t (by simpa using e)
   exact⟨v,by simpa using h1,h2⟩
theorem Reps.append{K:PySem.W.Frag}{O:Own}{H:Hp}:∀{vs ws:List V}{ds es:List D},Reps K O H vs ds->Reps K O H ws es->Reps K O H (vs++ws) (ds++es)
 | _,_,_,_,.nil,s=>s
 | _,_,_,_,.cons r t,s=>.cons r (Reps.append t s)
theorem Reps.take{K:PySem.W.Frag}{O:Own}{H:Hp}:∀{vs:List V}{ds:List D}(n:Nat),Reps K O H vs ds->Reps K O H (vs.take n) (ds.take n)
 | _,_,0,_=>.nil
 | _,_,_+1,.nil=>.nil
 | _,_,n+1,.cons r t=>.cons r (Reps.take n t)
theorem Reps.drop{K:PySem.W.Frag}{O:Own}{H:Hp}:∀{vs:List V}{ds:List D}(n:Nat),Reps K O H vs ds->Reps K O H (vs.drop n) (ds.drop n)
 | _,_,0,r=>r
 | _,_,_+1,.nil=>.nil
 | _,_,n+1,.cons _ t=>Reps.drop n t
theorem Reps.set{K:PySem.W.Frag}{O:Own}{H:Hp}{v:V}{d:D}(r:Rep K O H v d):∀{vs:List V}{ds:List D}(i:Nat),Reps K O H vs ds->Reps K O H (vs.set i v) (ds.set i d)
 | _,_,_,.nil=>.nil
 | _,_,0,.cons _ t=>.cons r t
 | _,_,i+1,.cons q t=>.cons q (Reps.set r i t)
theorem Reps.ints{K:PySem.W.Frag}{O:Own}{H:Hp}:∀{vs:List V}{ns:List Int},Reps K O H vs (ns.map D.int)->vs=ns.map V.int
 | _,[],.nil=>rfl
 | _,_::_,.cons r t=>by cases r;simp[Reps.ints t]
theorem Reps.of_ints{K:PySem.W.Frag}{O:Own}{H:Hp}:∀ns:List Int,Reps K O H (ns.map V.int) (ns.map D.int)
 | []=>.nil
 | n::ns=>.cons (.int n) (Reps.of_ints ns)
theorem Reps.bools{K:PySem.W.Frag}{O:Own}{H:Hp}:∀{vs:List V}{ns:List Bool},Reps K O H vs (ns.map D.bl)->vs=ns.map V.bl
 | _,[],.nil=>rfl
 | _,_::_,.cons r t=>by cases r;simp[Reps.bools t]
def SX(ns:List Int):List Key:=ns.map Sum.inl
inductive Kps(K:PySem.W.Frag)(O:Own)(H:Hp):List (List Key×V)->List D->Prop
 | nil:Kps K O H [] []
 | cons{ns:List Int}{v:V}{d:D}{kvs:List (List Key×V)}{ds:List D}(r:Rep K O H v d)(t:Kps K O H kvs ds):Kps K O H ((SX ns,v)::kvs) (.tup [.tup (ns.map .int),d]::ds)
theorem Kps.conv{K:PySem.W.Frag}{O O':Own}{H H':Hp}(s:Conv O O' H H'):∀{kvs:List (List Key×V)}{ds:List D},Kps K O H kvs ds->Kps K O' H' kvs ds
 | _,_,.nil=>.nil
 | _,_,.cons r t=>.cons (r.conv s) (Kps.conv s t)
def hC0(c:Int×List Int):Int:=reduceHash (Builtin.Tuple.tupleHashOf [hashInt c.1,reduceHash (Builtin.Tuple.tupleHashOf (c.2.map hashInt))])
abbrev Cy:=List ((Int×List Int)×Addr×Value)
def Nr(a:Addr)(ys:Cy)(h:Heap):Prop:=ys.length≤sizeLine/\(a==sysModules)=false/\(ys.map (·.1)).Nodup/\
 ∃o es ep,h.get? a=some o/\o.ExactDict/\o.data=.dict es ep/\es.toList=ys.map λ y=>(⟨hC0 y.1,.ref y.2.1,y.2.2⟩:DictEntry)
def Py(a:Addr)(ys:Cy)(h:Heap):Prop:=ys.length≤sizeLine/\(a==sysModules)=false/\(ys.map (·.1)).Nodup/\
 ∃o es,h.get? a=some o/\o.ExactDict/\o.data=.dict es ys.length/\es.toList=ys.map λ y=>(⟨hC0 y.1,.ref y.2.1,y.2.2⟩:DictEntry)
inductive Kcs(K:PySem.W.Frag)(O:Own)(H:Hp):Cy->List D->Prop
 | nil:Kcs K O H [] []
 | cons{c:Int×List Int}{b:Addr}{u:Value}{v:V}{k d:D}{ys:Cy}{ds:List D}(e:k=.tup [.int c.1,.tup (c.2.map .int)])(rk:Rep K O H (.ref b) k)(rv:RelV v u)(r:Rep K O H v d)(t:Kcs K O H ys ds):Kcs K O H ((c,b,u)::ys) (.tup [k,d]::ds)
theorem Kcs.conv{K:PySem.W.Frag}{O O':Own}{H H':Hp}(s:Conv O O' H H'):∀{ys:Cy}{ds:List D},Kcs K O H ys ds->Kcs K O' H' ys ds
 | _,_,.nil=>.nil
 | _,_,.cons e rk rv r t=>.cons e (rk.conv s) rv (r.conv s) (Kcs.conv s t)
def isO:Option Int->Value->Bool
 | some i,.int j _=>decide (i=j)
 | none,.none=>true
 | _,_=>false
def hO0:Option Int->Int
 | some i=>hashInt i
 | none=>4238894112
abbrev Oy:=List (Option Int×Value)
inductive OEs:List DictEntry->Oy->Prop
 | nil:OEs [] []
 | cons{e:DictEntry}{k:Option Int}{v:Value}{es:List DictEntry}{ys:Oy}(i:isO k e.key=true)(h:e.hash=hO0 k)(q:e.val=v)(t:OEs es ys):OEs (e::es) ((k,v)::ys)
def Nt(a:Addr)(ys:Oy)(h:Heap):Prop:=ys.length≤sizeLine/\(a==sysModules)=false/\(ys.map (·.1)).Nodup/\
 ∃o es ep,h.get? a=some o/\o.ExactDict/\o.data=.dict es ep/\OEs es.toList ys
def oD:Option Int->D
 | some i=>.int i
 | none=>.non
inductive Kos(K:PySem.W.Frag)(O:Own)(H:Hp):Oy->List D->Prop
 | nil:Kos K O H [] []
 | cons{c:Option Int}{u:Value}{v:V}{k d:D}{ys:Oy}{ds:List D}(e:k=oD c)(rv:RelV v u)(r:Rep K O H v d)(t:Kos K O H ys ds):Kos K O H ((c,u)::ys) (.tup [k,d]::ds)
theorem Kos.conv{K:PySem.W.Frag}{O O':Own}{H H':Hp}(s:Conv O O' H H'):∀{ys:Oy}{ds:List D},Kos K O H ys ds->Kos K O' H' ys ds
 | _,_,.nil=>.nil
 | _,_,.cons e rv r t=>.cons e rv (r.conv s) (Kos.conv s t)
abbrev tbD(b:Bool)(l c:Nat)(q:Str)(z:Nat):List D:=[.bl b,.int l,.int c,.str q,.int z,.tup (List.replicate (sizeLine+1) .non)]
def Rr(K:PySem.W.Frag)(z a:Addr):Prop:=∃o vs,K.lookup z=some o/\o.data=.fields vs/\vs[11]? =some (.ref a)
def Sd(x:Addr)(q:Str)(h:Heap):Prop:=h.CodeRec (.ref x) q
inductive DOb(K:PySem.W.Frag)(O:Own)(H:Hp)(a:Addr)(ds:List D):Prop
 | t(kvs:List (List Key×V))(e:H a=some (.dT kvs))(r:Kps K O H kvs ds):DOb K O H a ds
 | c(ys:Cy)(n:ys≠[])(e:H a=some (.ext (Nr a ys)))(r:Kcs K O H ys ds):DOb K O H a ds
 | o(ys:Oy)(n:ys≠[])(e:H a=some (.ext (Nt a ys)))(r:Kos K O H ys ds):DOb K O H a ds
 | m(ys:Cy)(ds':List D)(hd:ds=.non::ds')(e:H a=some (.ext (Py a ys)))(r:Kcs K O H ys ds'):DOb K O H a ds
 | p(ps:Array Value)(n:¬Abv K a)(b:Bool)(l c z:Nat)(q:Str)(k:Rr K z a)(e:H a=some (.tbl ps))(hd:ds=tbD b l c q z)
   (g:(b=false/\ps=#[])∨(b=true/\∃x,ps=#[rawInt l,rawInt c,.ref x]/\¬O.has x/\H x=some (.ext (Sd x q)))):DOb K O H a ds
theorem DOb.move{ds:List D}(s:Conv O O' H H')(b:DOb K O H a ds)(h:∀o,H a=some o->H' a=some o):DOb K O' H' a ds:=by
 cases b with
 | t kvs e r=>exact .t kvs (h _ e) (r.conv s)
 | c ys n e r=>exact .c ys n (h _ e) (r.conv s)
 | o ys n e r=>exact .o ys n (h _ e) (r.conv s)
 | m ys d' hd e r=>exact .m ys d' hd (h _ e) (r.conv s)
 | p ps n b l c z q k e hd g=>exact .p ps n b l c z q k (h _ e) hd (g.imp id λ⟨g1,x,g2,g3,g4⟩=>⟨g1,x,g2,s.tr _ _ g3 g4⟩)
theorem DOb.there{ds:List D}(b:DOb K O H a ds):H a≠none:=by
 cases b with
 | t kvs e r=>rw[e];simp
 | c ys n e r=>rw[e];simp
 | o ys n e r=>rw[e];simp
 | m ys d' hd e r=>rw[e];simp
 | p ps n b l c z q k e hd g=>rw[e];simp
structure StOk(K:PySem.W.Frag)(O:Own)(H:Hp)(S:Store):Prop where
 nd:(adr O.A).Nodup
 len:O.A.length=S.length
 obj:∀(k:Nat)(a:Addr)(ds:List D),O.A[k]? =some (a,false)->S[k]? =some ds->∃xs,H a=some (.lst xs)/\Reps K O H xs ds
 dob:∀(k:Nat)(a:Addr)(ds:List D),O.A[k]? =some (a,true)->S[k]? =some ds->DOb K O H a ds
 apart:∀a∈adr O.A,a∉O.B
 hidden:∀b∈O.B,H b≠none
structure EnvOk(K:PySem.W.Frag)(O:Own)(H:Hp)(σ:St)(Γ:Gam):Prop where
 len:σ.length=Γ.length
 at_:∀(i:Nat)(d:D),Γ[i]? =some (some d)->∃v,σ[i]? =some (some v)/\Rep K O H v d
theorem EnvOk.mono{σ:St}{Γ:Gam}(e:EnvOk K O H σ Γ)(s:Step O O' H H'):EnvOk K O' H' σ Γ:=
 ⟨e.len,λ i d h=>let ⟨v,a,b⟩:=e.at_ i d h;⟨v,a,b.mono s⟩⟩
theorem EnvOk.set{σ:St}{Γ:Gam}(e:EnvOk K O H σ Γ){v:V}{d:D}(r:Rep K O H v d)(i:Nat):EnvOk K O H (σ.set i (some v)) (Γ.set i (some d)):=by
 refine⟨by simp[e.len],λ j c h=>?_⟩
 by_cases hj:i=j
 . subst hj
   have hl:i<Γ.length:=by
    have:=(z0.mp h).1
    simpa using this
   rw[List.getElem?_set_self hl]at h
   cases h
   exact⟨v,List.getElem?_set_self (by rw[e.len];exact hl),r⟩
 . rw[List.getElem?_set_ne hj]at h
   rw[List.getElem?_set_ne hj]
   exact e.at_ j c h
theorem StOk.tracked(s:StOk K O H S){a:Addr}(h:O.has a):H a≠none:=by
 rcases h with h | h
 . obtain⟨⟨a',c⟩,hm,rfl⟩:=List.mem_map.mp h
   obtain⟨k,hk⟩:=List.getElem?_of_mem hm
   have hl:k<S.length:=by rw[←s.len];exact(z0.mp hk).1
   cases c with
   | false=>
     obtain⟨xs,q,_⟩:=s.obj k a' S[k] hk (y0 hl)
     rw[show(a',false).1=a' from rfl,q];simp
   | true=>
     exact(s.dob k a' S[k] hk (y0 hl)).there
 . exact s.hidden a h
theorem Step.fresh(h:H p=none)(o:HO):Step O O H (upd H p o):=
 ⟨λ b u _ q=>by rw[aA (aH q h)];exact q,λ b q=>by
  by_cases e:b=p
  . subst e;rw[aP];simp
  . rw[aA e];exact q,⟨[],by simp,λ _ z=>nomatch z⟩,rfl⟩
theorem Step.same(h:dG H H'):Step O O H H':=
 ⟨λ b o _ q=>h b o q,λ b q=>by
  cases e:H b with
  | none=>exact absurd e q
  | some o=>rw[h b o e];simp,⟨[],by simp,λ _ z=>nomatch z⟩,rfl⟩
theorem dG.fresh(h:H p=none)(o:HO):dG H (upd H p o):=λ b u q=>by rw[aA (aH q h)];exact q
theorem StOk.same(s:StOk K O H S)(h:dG H H'):StOk K O H' S:=
 ⟨s.nd,s.len,λ k a ds e1 e2=>let ⟨xs,q,r⟩:=s.obj k a ds e1 e2;⟨xs,h _ _ q,r.mono (Step.same h)⟩,λ k a ds e1 e2=>(s.dob k a ds e1 e2).move (Step.same h).conv λ o q=>h _ _ q,s.apart,λ b hb=>(Step.same (O:=O) h).dom b (s.hidden b hb)⟩
theorem StOk.fresh_not(s:StOk K O H S){p:Addr}(h:H p=none):¬O.has p:=λ z=>s.tracked z h
theorem StOk.fresh(s:StOk K O H S){p:Addr}(h:H p=none)(o:HO):StOk K O (upd H p o) S:=s.same (dG.fresh h o)
abbrev Own.more(O:Own)(p:Addr)(q:Bool:=false):Own:=⟨O.A++[(p,q)],O.B⟩
theorem Step.own(h:H p=none)(o:HO)(q:Bool:=false):Step O (O.more p q) H (upd H p o):=
 ⟨(Step.fresh (O:=O) h o).kept,(Step.fresh (O:=O) h o).dom,⟨[(p,q)],rfl,λ b z=>by rw[List.mem_singleton.mp z];exact h⟩,rfl⟩
theorem qM{A:List (Addr×Bool)}{p:Addr×Bool}{k:Nat}{x:Addr×Bool}(h:(A++[p])[k]? =some x):A[k]? =some x∨(k=A.length/\x=p):=by
 by_cases hk:k<A.length
 . rw[x9 hk]at h;exact .inl h
 . rw[List.getElem?_append_right (by omega)]at h
   have hk0:k-A.length=0:=by
    have:=(z0.mp h).1
    simp at this;omega
   rw[hk0]at h
   exact .inr ⟨by omega,(Option.some.inj h).symm⟩
theorem FP{A:List (Addr×Bool)}{q:Bool}(h:(adr A).Nodup)(n:p∉adr A):(adr (A++[(p,q)])).Nodup:=by
 rw[eN]
 refine List.nodup_append.mpr ⟨h,by simp,λ a ha b hb e=>?_⟩
 rw[List.mem_singleton.mp hb]at e;rw[e]at ha;exact n ha
theorem StOk.own(s:StOk K O H S){p:Addr}(h:H p=none){xs:List V}{ds:List D}(r:Reps K O H xs ds):
 StOk K (O.more p) (upd H p (.lst xs)) (S++[ds]):=by
 have st:=Step.own (O:=O) h (.lst xs)
 have np:=s.fresh_not h
 refine⟨FP s.nd λ z=>np (.inl z),by simp[s.len],λ k a es e1 e2=>?_,λ k a es e1 e2=>?_,λ a ha=>?_,λ b hb=>st.dom b (s.hidden b hb)⟩
 . rcases qM e1 with e1 | ⟨rfl,e⟩
   . have hk:=(z0.mp e1).1
     rw[x9 (by rw[←s.len];exact hk)]at e2
     obtain⟨ys,q,r'⟩:=s.obj k a es e1 e2
     exact⟨ys,by rw[aA (aH q h)];exact q,r'.mono st⟩
   . cases e
     rw[List.getElem?_append_right (by rw[s.len];exact y8 _),s.len,Nat.sub_self]at e2
     cases e2
     exact⟨xs,aP,r.mono st⟩
 . rcases qM e1 with e1 | ⟨rfl,e⟩
   . have hk:=(z0.mp e1).1
     rw[x9 (by rw[←s.len];exact hk)]at e2
     exact(s.dob k a es e1 e2).move st.conv λ o q=>by rw[aA (aH q h)];exact q
   . cases e
 . rw[eN]at ha
   rcases List.mem_append.mp ha with z | z
   . exact s.apart a z
   . rw[List.mem_singleton.mp z];exact λ q=>np (.inr q)
theorem Step.put(h:a∈adr O.A)(o:HO):Step O O H (upd H a o):=
 ⟨λ b u hb q=>by rw[aA (λ e=>hb (by rw[e];exact h))];exact q,λ b q=>by
  by_cases e:b=a
  . subst e;rw[aP];simp
  . rw[aA e];exact q,⟨[],by simp,λ _ z=>nomatch z⟩,rfl⟩
theorem Dh{A:List (Addr×Bool)}(nd:(adr A).Nodup){k j:Nat}{a b:Addr}{p q:Bool}(h:A[k]? =some (a,p))(h2:A[j]? =some (b,q))(hj:k≠j):b≠a:=λ e=>hj (by
 have g1:(adr A)[k]? =some a:=by rw[y7,h];rfl
 have g2:(adr A)[j]? =some b:=by rw[y7,h2];rfl
 obtain⟨h1,e1'⟩:=z0.mp g1
 obtain⟨h2,e2'⟩:=z0.mp g2
 exact(List.getElem_inj nd).mp (e1'.trans (e.symm.trans e2'.symm)))
theorem StOk.put(s:StOk K O H S){k:Nat}{a:Addr}(h:O.A[k]? =some (a,false)){xs:List V}{ds:List D}(r:Reps K O H xs ds):
 StOk K O (upd H a (.lst xs)) (S.set k ds):=by
 have st:=Step.put (O:=O) (H:=H) (gA h) (.lst xs)
 refine⟨s.nd,by simp[s.len],λ j b es e1 e2=>?_,λ j b es e1 e2=>?_,s.apart,λ b hb=>st.dom b (s.hidden b hb)⟩
 . by_cases hj:k=j
   . subst hj
     rw[h]at e1;cases e1
     have hl:=(z0.mp e2).1
     rw[List.getElem?_set_self (by simpa using hl)]at e2
     cases e2
     exact⟨xs,aP,r.mono st⟩
   . rw[List.getElem?_set_ne hj]at e2
     obtain⟨ys,q,r'⟩:=s.obj j b es e1 e2
     exact⟨ys,by rw[aA (Dh s.nd h e1 hj)];exact q,r'.mono st⟩
 . have hj:k≠j:=λ e=>by subst e;rw[h]at e1;cases e1
   rw[List.getElem?_set_ne hj]at e2
   exact(s.dob j b es e1 e2).move st.conv λ o q=>by rw[aA (Dh s.nd h e1 hj)];exact q
theorem StOk.hide(s:StOk K O H S){p:Addr}(h:H p=none)(o:HO):StOk K (O.hide p) (upd H p o) S:=by
 have st:=Step.fresh (O:=O) h o
 refine⟨s.nd,s.len,λ k a ds e1 e2=>?_,λ k a ds e1 e2=>?_,λ a ha z=>?_,λ b hb=>?_⟩
 . obtain⟨xs,q,r⟩:=s.obj k a ds e1 e2
   exact⟨xs,by rw[aA (aH q h)];exact q,r.conv (Conv.hide h o)⟩
 . exact(s.dob k a ds e1 e2).move (Conv.hide h o) λ o q=>by rw[aA (aH q h)];exact q
 . rcases List.mem_cons.mp z with z | z
   . exact s.tracked (.inl ha) (z▸h)
   . exact s.apart a ha z
 . rcases List.mem_cons.mp hb with z | z
   . subst z;rw[aP];simp
   . exact st.dom b (s.hidden b z)
theorem StOk.unhide{A:List (Addr×Bool)}{B:List Addr}(s:StOk K ⟨A,p::B⟩ H S):StOk K ⟨A,B⟩ H S:=
 ⟨s.nd,s.len,λ k a ds e1 e2=>let ⟨xs,q,r⟩:=s.obj k a ds e1 e2;⟨xs,q,r.conv Conv.unhide⟩,λ k a ds e1 e2=>(s.dob k a ds e1 e2).move Conv.unhide λ _ q=>q,λ a ha z=>s.apart a ha (y9 _ z),λ b hb=>s.hidden b (y9 _ hb)⟩
theorem StOk.updHid(s:StOk K O H S){p:Addr}(h:p∈O.B)(o:HO):StOk K O (upd H p o) S:=
 ⟨s.nd,s.len,λ k a ds e1 e2=>by
  obtain⟨xs,q,r⟩:=s.obj k a ds e1 e2
  have ne:a≠p:=λ e=>s.apart a (gA e1) (e▸h)
  exact⟨xs,by rw[aA ne];exact q,r.conv (Conv.updHid h o)⟩,λ k a ds e1 e2=>by
  have ne:a≠p:=λ e=>s.apart a (gA e1) (e▸h)
  exact(s.dob k a ds e1 e2).move (Conv.updHid h o) λ _ q=>by rw[aA ne];exact q,s.apart,λ b hb=>by
  by_cases e:b=p
  . subst e;rw[aP];simp
  . rw[aA e];exact s.hidden b hb⟩
theorem Step.adopt{A:List (Addr×Bool)}(s:Step O ⟨A,O.B⟩ H H')(h:H p=none):Step O ⟨A++[(p,false)],O.B⟩ H H':=by
 obtain⟨N,e,f⟩:=s.ext
 refine⟨s.kept,s.dom,⟨N++[(p,false)],?_,λ b hb=>?_⟩,rfl⟩
 . show A++[(p,false)]=_
   rw[show A=O.A++N from e,List.append_assoc]
 . rw[eN]at hb
   rcases List.mem_append.mp hb with z | z
   . exact f b z
   . rw[List.mem_singleton.mp z];exact h
theorem Conv.adopt{A:List (Addr×Bool)}{B:List Addr}:Conv ⟨A,p::B⟩ ⟨A++[(p,false)],B⟩ H H:=
 ⟨λ a u n t=>⟨λ z=>n (z.elim (λ z=>(List.mem_append.mp (by rw[←eN];exact z)).elim .inl λ z=>.inr (by rw[List.mem_singleton.mp z];exact x6)) λ z=>.inr (y9 _ z)),t⟩,
  λ k a h=>by
   show(A++[(p,false)])[k]? =some a
   rw[x9 (z0.mp h).1];exact h⟩
theorem StOk.adopt{A:List (Addr×Bool)}{B:List Addr}{ds:List D}(s:StOk K ⟨A,p::B⟩ H S)(hp:p∉B)(h:H p=some (.lst xs))(r:Reps K ⟨A,p::B⟩ H xs ds):StOk K ⟨A++[(p,false)],B⟩ H (S++[ds]):=by
 have np:p∉adr A:=λ z=>s.apart p z x6
 have sl:A.length=S.length:=s.len
 refine⟨FP s.nd np,by simp[sl],λ k a es e1 e2=>?_,λ k a es e1 e2=>?_,λ a ha=>?_,λ b hb=>s.hidden b (y9 _ hb)⟩
 . rcases qM e1 with e1 | ⟨rfl,e⟩
   . have hk:=(z0.mp e1).1
     rw[x9 (by omega)]at e2
     obtain⟨ys,q,r'⟩:=s.obj k a es e1 e2
     exact⟨ys,q,r'.conv Conv.adopt⟩
   . cases e
     rw[List.getElem?_append_right (by omega),sl,Nat.sub_self]at e2
     cases e2
     exact⟨xs,h,r.conv Conv.adopt⟩
 . rcases qM e1 with e1 | ⟨rfl,e⟩
   . have hk:=(z0.mp e1).1
     rw[x9 (by omega)]at e2
     exact(s.dob k a es e1 e2).move Conv.adopt λ _ q=>q
   . cases e
 . have ha:a∈adr (A++[(p,false)]):=ha
   rw[eN]at ha
   rcases List.mem_append.mp ha with z | z
   . exact λ q=>s.apart a z (y9 _ q)
   . rw[List.mem_singleton.mp z];exact hp
theorem Step.inner{A1 A2:List (Addr×Bool)}{B:List Addr}{H1 H2:Hp}(a:Step O ⟨A1,B⟩ H H1)(b:Step ⟨A1,p::B⟩ ⟨A2,p::B⟩ H1 H2)(h:H p=none)(o:HO):Step O ⟨A2,B⟩ H (upd H2 p o):=by
 have b':Step ⟨A1,B⟩ ⟨A2,B⟩ H1 H2:=⟨b.kept,b.dom,b.ext,rfl⟩
 have c:=a.trans b'
 refine⟨λ x u hx t=>?_,λ x t=>?_,c.ext,c.hid⟩
 . rw[aA (aH t h)];exact c.kept x u hx t
 . by_cases e:x=p
   . subst e;rw[aP];simp
   . rw[aA e];exact c.dom x t
end DL
namespace DL
open PySem PySem.Spec L2
open PyProof.Rows
variable {K : PySem.W.Frag} {O : Own} {H : Hp} {x : D} {ds : List D} {i j : Int} {p : Addr} {xs : List V}
abbrev Pins:=List (Addr×Obj)
abbrev WD:=D->Store->Prop
def QG(K:PySem.W.Frag)(O:Own)(H:Hp)(W:WD):VK:=λ v H'=>∃O' d S',W d S'/\Step O O' H H'/\StOk K O' H' S'/\Rep K O' H' v d
def QA(K:PySem.W.Frag)(O:Own)(H:Hp)(W:List D->Store->Prop):List V->Hp->Prop:=λ vs H'=>∃O' ds S',W ds S'/\Step O O' H H'/\StOk K O' H' S'/\Reps K O' H' vs ds
def QT(K:PySem.W.Frag)(O:Own)(H:Hp)(W:Bool->Store->Prop):Bool->Hp->Prop:=λ b H'=>∃O' S',W b S'/\Step O O' H H'/\StOk K O' H' S'
def Ev(X:Cx)(Γ:Gam)(S:Store)(e:Expr)(W:WD):Prop:=
 ∀ (pins:Pins)(s:Shared)(σ:St)(H:Hp)(O:Own),Inv X pins σ H s->EnvOk X.K O H σ Γ->StOk X.K O H S->
   wpAny (model X.prog X.w) X.A (eval e X.env) (EP X pins σ (QG X.K O H W)) X.xe s
def EvA(X:Cx)(Γ:Gam)(S:Store)(es:List Expr)(W:List D->Store->Prop):Prop:=
 ∀ (pos:Pos)(pins:Pins)(s:Shared)(σ:St)(H:Hp)(O:Own),Inv X pins σ H s->EnvOk X.K O H σ Γ->StOk X.K O H S->
   wpAny (model X.prog X.w) X.A (spliced (backTo pos (starEach es X.env))) (AP X pins σ (QA X.K O H W)) X.xe s
def TsW(X:Cx)(Γ:Gam)(S:Store)(e:Expr)(W:Bool->Store->Prop):Prop:=
 ∀ (whole:Sem Value)(pins:Pins)(s:Shared)(σ:St)(H:Hp)(O:Own),Inv X pins σ H s->EnvOk X.K O H σ Γ->StOk X.K O H S->
   wpAny (model X.prog X.w) X.A (isTrue e X.env whole) (TP X pins σ (QT X.K O H W)) X.xe s
def Ts(X:Cx)(Γ:Gam)(S:Store)(e:Expr)(W:Bool->Store->Prop):Prop:=
 ∀ (pins:Pins)(s:Shared)(σ:St)(H:Hp)(O:Own),Inv X pins σ H s->EnvOk X.K O H σ Γ->StOk X.K O H S->
   wpAny (model X.prog X.w) X.A (isTrue e X.env (eval e X.env)) (TP X pins σ (QT X.K O H W)) X.xe s
def OpW(X:Cx)(f:Value->Value->Sem Value)(x y:D)(S:Store)(W:WD):Prop:=
 ∀ (pins:Pins)(s:Shared)(σ:St)(H:Hp)(O:Own)(v w:V)(u u':Value),Inv X pins σ H s->StOk X.K O H S->Rep X.K O H v x->Rep X.K O H w y->RelV v u->RelV w u'->
   wpAny (model X.prog X.w) X.A (f u u') (EP X pins σ (QG X.K O H W)) X.xe s
def cB(X:Cx)(f:Value)(ds:List D)(S:Store)(W:WD):Prop:=
 ∀ (pins:Pins)(s:Shared)(σ:St)(H:Hp)(O:Own)(vs:List V)(us:List Value),Inv X pins σ H s->StOk X.K O H S->Reps X.K O H vs ds->Vals vs us->
   wpAny (model X.prog X.w) X.A (call f us) (EP X pins σ (QG X.K O H W)) X.xe s
abbrev dj(X:Cx)(op:Operator):=OpW X (binaryOp op)
abbrev aY(X:Cx)(op:CmpOp):=OpW X (compareOp op)
section
variable {X : Cx} {Γ : Gam} {S S1 : Store} {W : WD} {a b e : Expr} {es rest : List Expr} {pos : Pos}
theorem QG.pre{O1:Own}{H1:Hp}(st:Step O O1 H H1){v:V}{H':Hp}(q:QG K O1 H1 W v H'):QG K O H W v H':=by
 obtain⟨O',d,S',w,s',ok,r⟩:=q
 exact⟨O',d,S',w,st.trans s',ok,r⟩
theorem d9{pins:Pins}{σ:St}{O1:Own}{H1:Hp}(st:Step O O1 H H1){u:Value}{s':Shared}(q:EP X pins σ (QG X.K O1 H1 W) u s'):EP X pins σ (QG X.K O H W) u s':=by
 obtain⟨v,H',I,r,q⟩:=q
 exact⟨v,H',I,r,q.pre st⟩
theorem J9{pins:Pins}{σ:St}{O1:Own}{H1:Hp}(st:Step O O1 H H1){W:Bool->Store->Prop}{u:Bool}{s':Shared}(q:TP X pins σ (QT X.K O1 H1 W) u s'):TP X pins σ (QT X.K O H W) u s':=by
 obtain⟨H',I,O',S',w,s2,ok⟩:=q
 exact⟨H',I,O',S',w,st.trans s2,ok⟩
theorem Ev.mono{W':WD}(h:Ev X Γ S e W)(k:∀d S',W d S'->W' d S'):Ev X Γ S e W':=λ pins s σ H O I env st=>
 thn (h pins s σ H O I env st) λ _ _ hq_=>by obtain⟨v,H',I',r,O',d,S',w,q⟩:=hq_;exact⟨v,H',I',r,O',d,S',k d S' w,q⟩
theorem OpW.mono{f:Value->Value->Sem Value}{y:D}{W':WD}(h:OpW X f x y S W)(k:∀d S',W d S'->W' d S'):OpW X f x y S W':=λ pins s σ H O v w u u' I st r1 r2 r3 r4=>
 thn (h pins s σ H O v w u u' I st r1 r2 r3 r4) λ _ _ hq_=>by obtain⟨v,H',I',r,O',d,S',w,q⟩:=hq_;exact⟨v,H',I',r,O',d,S',k d S' w,q⟩
theorem dZ{f:Value->Value->Sem Value}{r:R2}{y:D}(ho:OpR X f r)(h:∀O H v w,StOk X.K O H S->Rep X.K O H v x->Rep X.K O H w y->r v w H (QG X.K O H W)):OpW X f x y S W:=
 λ pins s σ H O v w u u' I st r1 r2 r3 r4=>ho pins s σ H v w u u' _ I r3 r4 (h O H v w st r1 r2)
theorem eV{f:Value}{r:List V->Hp->VK->Prop}(hc:gM X f r)(h:∀O H vs,StOk X.K O H S->Reps X.K O H vs ds->r vs H (QG X.K O H W)):cB X f ds S W:=
 λ pins s σ H O vs us I st r1 r2=>hc pins s σ H vs us _ I r2 (h O H vs st r1)
theorem QG.here{v:V}{d:D}(w:W d S)(st:StOk K O H S)(r:Rep K O H v d):QG K O H W v H:=⟨O,d,S,w,Step.refl O H,st,r⟩
theorem PP(i:Nat){x:Str}{d:D}(hΓ:Γ[i]? =some (some d))(w:W d S)(hN:X.N[i]? =some x:=by rfl)
 (hv:Vis X.env.scope x:=by first | exact Or.inl rfl | exact Or.inr (Or.inl rfl) | exact Or.inr (Or.inr rfl))(hd:(x==("__debug__":Str))=false:=by decide)(hcd:(x==("__classdict__":Str))=false:=by decide):
 Ev X Γ S (.Name x pos) W:=by
 intro pins s σ H O I env st
 obtain⟨v,e,r⟩:=env.at_ i d hΓ
 exact NT hN hv hd hcd pins s σ H _ I ⟨v,e,QG.here w st r⟩
theorem M3{j}(w:W (.int i) S):Ev X Γ S (.Constant (.int i) j pos) W:=λ pins s σ H O I _ st=>Nv pins s σ H _ I (QG.here w st (.int i))
theorem Ra{i:Bool}{j}(w:W (.bl i) S):Ev X Γ S (.Constant (.bool i) j pos) W:=λ pins s σ H O I _ st=>QJ pins s σ H _ I (QG.here w st (.bl i))
theorem G4{x:Str}{j}(w:W (.str x) S):Ev X Γ S (.Constant (.str x) j pos) W:=λ pins s σ H O I _ st=>M4 pins s σ H _ I (QG.here w st (.str x))
theorem Ih{x:Str}{t:Tok}(hm:X.mg x=some (.int i t))(w:W (.int i) S)(hg:Gl X x:=by rfl)(hd:(x==("__debug__":Str))=false:=by decide):Ev X Γ S (.Name x pos) W:=
 λ pins s σ H O I _ st=>jN hg hm (v:=.int i) ⟨t,rfl⟩ hd pins s σ H _ I (QG.here w st (.int i))
theorem tu{op:Operator}(h:Ev X Γ S a λ x S1=>Ev X Γ S1 b λ y S2=>dj X op x y S2 W):Ev X Γ S (.BinOp a op b pos) W:=by
 intro pins s σ H O I env st
 refine wpAny_BinOp (thn (h pins s σ H O I env st) λ u s1 hq_=>?_)
 obtain⟨v,H1,I1,r1,O1,x,S1,hb,st1,ok1,rep1⟩:=hq_
 refine thn (hb pins s1 σ H1 O1 I1 (env.mono st1) ok1) λ u' s2 hq_=>?_
 obtain⟨w,H2,I2,r2,O2,y,S2,hw,st2,ok2,rep2⟩:=hq_
 exact thn (hw pins s2 σ H2 O2 v w u u' I2 ok2 (rep1.mono st2) rep2 r1 r2) λ _ _ q=>d9 (st1.trans st2) q
theorem Gr{op:CmpOp}(h:Ev X Γ S a λ x S1=>Ev X Γ S1 b λ y S2=>aY X op x y S2 W)(hm:behindInMarks op b=false:=by first | exact nomark _ | (with_unfolding_all rfl)):Ev X Γ S (.Compare a [op] [b] pos) W:=by
 intro pins s σ H O I env st
 refine wpAny_Compare1 (thn (h pins s σ H O I env st) λ u s1 hq_=>?_) hm
 obtain⟨v,H1,I1,r1,O1,x,S1,hb,st1,ok1,rep1⟩:=hq_
 refine thn (hb pins s1 σ H1 O1 I1 (env.mono st1) ok1) λ u' s2 hq_=>?_
 obtain⟨w,H2,I2,r2,O2,y,S2,hw,st2,ok2,rep2⟩:=hq_
 exact thn (hw pins s2 σ H2 O2 v w u u' I2 ok2 (rep1.mono st2) rep2 r1 r2) λ _ _ q=>d9 (st1.trans st2) q
abbrev asB(W:Bool->Store->Prop):WD:=λ d S=>∃c,d=.bl c/\W c S
theorem O9{op:CmpOp}{W:Bool->Store->Prop}(h:Ev X Γ S a λ x S1=>Ev X Γ S1 b λ y S2=>aY X op x y S2 (asB W))(hm:behindInMarks op b=false:=by first | exact nomark _ | (with_unfolding_all rfl)):Ts X Γ S (.Compare a [op] [b] pos) W:=by
 intro pins s σ H O I env st
 refine wpAny_isTrue_Compare1 (thn (h pins s σ H O I env st) λ u s1 hq_=>?_) hm
 obtain⟨v,H1,I1,r1,O1,x,S1,hb,st1,ok1,rep1⟩:=hq_
 refine thn (hb pins s1 σ H1 O1 I1 (env.mono st1) ok1) λ u' s2 hq_=>?_
 obtain⟨w,H2,I2,r2,O2,y,S2,hw,st2,ok2,rep2⟩:=hq_
 refine thn (hw pins s2 σ H2 O2 v w u u' I2 ok2 (rep1.mono st2) rep2 r1 r2) λ _ _ hq_=>?_
 obtain⟨z,H3,I3,r3,O3,d,S3,⟨c,hd,wc⟩,st3,ok3,rep3⟩:=hq_
 subst hd
 cases rep3
 cases r3
 exact wpAny_truthy_bool ⟨H3,I3,O3,S3,wc,(st1.trans st2).trans st3,ok3⟩
theorem Px{W:Bool->Store->Prop}(h:Ev X Γ S e (asB W))(he:∀whole,isTrue e X.env whole=(do let v ←whole;standAt e.pos;holding [v] (truthy v)):=by intro _;rfl):Ts X Γ S e W:=by
 intro pins s σ H O I env st
 refine isTrue_plain (thn (h pins s σ H O I env st) λ _ _ hq_=>?_) (he _)
 obtain⟨z,H3,I3,r3,O3,d,S3,⟨c,hd,wc⟩,st3,ok3,rep3⟩:=hq_
 subst hd
 cases rep3
 cases r3
 exact wpAny_truthy_bool ⟨H3,I3,O3,S3,wc,st3,ok3⟩
theorem TsW.ts{W:Bool->Store->Prop}(h:TsW X Γ S e W):Ts X Γ S e W:=λ pins s σ H O I env st=>h _ pins s σ H O I env st
theorem tw_and1{W:Bool->Store->Prop}(h:Ts X Γ S a W):TsW X Γ S (.BoolOp .And [a] pos) W:=by
 intro wh pins s σ H O I env st
 refine isTrue_and (thn (h pins s σ H O I env st) λ c s1 e=>?_)
 cases c with
 | true=>exact isTrue_and_nil e
 | false=>exact e
theorem tw_or1{W:Bool->Store->Prop}(h:Ts X Γ S a W):TsW X Γ S (.BoolOp .Or [a] pos) W:=by
 intro wh pins s σ H O I env st
 refine isTrue_or (thn (h pins s σ H O I env st) λ c s1 e=>?_)
 cases c with
 | false=>exact isTrue_or_nil e
 | true=>exact e
theorem tw_and{W:Bool->Store->Prop}(h:Ts X Γ S a λ c S1=>(c=true->TsW X Γ S1 (.BoolOp .And (b::rest) pos) W)/\(c=false->W false S1)):TsW X Γ S (.BoolOp .And (a::b::rest) pos) W:=by
 intro wh pins s σ H O I env st
 refine isTrue_and (thn (h pins s σ H O I env st) λ c s1 hq_=>?_)
 obtain⟨H1,I1,O1,S1,w1,st1,ok1⟩:=hq_
 cases c with
 | true=>exact thn (w1.1 rfl wh pins s1 σ H1 O1 I1 (env.mono st1) ok1) λ _ _ q=>J9 st1 q
 | false=>exact⟨H1,I1,O1,S1,w1.2 rfl,st1,ok1⟩
theorem tw_or{W:Bool->Store->Prop}(h:Ts X Γ S a λ c S1=>(c=true->W true S1)/\(c=false->TsW X Γ S1 (.BoolOp .Or (b::rest) pos) W)):TsW X Γ S (.BoolOp .Or (a::b::rest) pos) W:=by
 intro wh pins s σ H O I env st
 refine isTrue_or (thn (h pins s σ H O I env st) λ c s1 hq_=>?_)
 obtain⟨H1,I1,O1,S1,w1,st1,ok1⟩:=hq_
 cases c with
 | false=>exact thn (w1.2 rfl wh pins s1 σ H1 O1 I1 (env.mono st1) ok1) λ _ _ q=>J9 st1 q
 | true=>exact⟨H1,I1,O1,S1,w1.1 rfl,st1,ok1⟩
theorem Np{W:Bool->Store->Prop}(h:Ts X Γ S a λ c S1=>W (!c) S1):Ts X Γ S (.UnaryOp .Not a pos) W:=by
 intro pins s σ H O I env st
 exact isTrue_not (thn (h pins s σ H O I env st) λ c s1 ⟨H1,I1,O1,S1,w1,st1,ok1⟩=>⟨H1,I1,O1,S1,w1,st1,ok1⟩)
theorem FQ{op}(h:Ev X Γ S a W):Ev X Γ S (.BoolOp op [a] pos) W:=λ pins s σ H O I env st=>BoolOp_one (h pins s σ H O I env st)
theorem Pj(h:Ev X Γ S a λ x S1=>∃c,x=.bl c/\(c=true->Ev X Γ S1 (.BoolOp .And (b::rest) pos) W)/\(c=false->W (.bl false) S1)):Ev X Γ S (.BoolOp .And (a::b::rest) pos) W:=by
 intro pins s σ H O I env st
 refine BoolOp_and (thn (h pins s σ H O I env st) λ u s1 hq_=>?_)
 obtain⟨v,H1,I1,r1,O1,x,S1,⟨c,hx,h1,h2⟩,st1,ok1,rep1⟩:=hq_
 subst hx
 cases rep1
 cases r1
 refine wpAny_truthy_bool ?_
 cases c with
 | true=>exact thn (h1 rfl pins s1 σ H1 O1 I1 (env.mono st1) ok1) λ _ _ q=>d9 st1 q
 | false=>exact⟨.bl false,H1,I1,rfl,O1,.bl false,S1,h2 rfl,st1,ok1,.bl false⟩
theorem RV(h:Ev X Γ S a λ x S1=>∃c,x=.bl c/\(c=true->W (.bl true) S1)/\(c=false->Ev X Γ S1 (.BoolOp .Or (b::rest) pos) W)):Ev X Γ S (.BoolOp .Or (a::b::rest) pos) W:=by
 intro pins s σ H O I env st
 refine BoolOp_or (thn (h pins s σ H O I env st) λ u s1 hq_=>?_)
 obtain⟨v,H1,I1,r1,O1,x,S1,⟨c,hx,h1,h2⟩,st1,ok1,rep1⟩:=hq_
 subst hx
 cases rep1
 cases r1
 refine wpAny_truthy_bool ?_
 cases c with
 | false=>exact thn (h2 rfl pins s1 σ H1 O1 I1 (env.mono st1) ok1) λ _ _ q=>d9 st1 q
 | true=>exact⟨.bl true,H1,I1,rfl,O1,.bl true,S1,h1 rfl,st1,ok1,.bl true⟩
theorem NP(h:Ev X Γ S a λ x S1=>∃c,x=.bl c/\W (.bl (!c)) S1):Ev X Γ S (.UnaryOp .Not a pos) W:=by
 intro pins s σ H O I env st
 refine UnaryOp_ (thn (h pins s σ H O I env st) λ u s1 hq_=>?_)
 obtain⟨v,H1,I1,r1,O1,x,S1,⟨c,hx,h1⟩,st1,ok1,rep1⟩:=hq_
 subst hx
 cases rep1
 cases r1
 exact not_of (wpAny_truthy_bool ⟨.bl (!c),H1,I1,rfl,O1,.bl (!c),S1,h1,st1,ok1,.bl (!c)⟩)
theorem Ou(h:Ev X Γ S a λ x S1=>∃i,x=.int i/\W (.int (-i)) S1):Ev X Γ S (.UnaryOp .USub a pos) W:=by
 intro pins s σ H O I env st
 refine UnaryOp_ (thn (h pins s σ H O I env st) λ u s1 hq_=>?_)
 obtain⟨v,H1,I1,r1,O1,x,S1,⟨c,hx,h1⟩,st1,ok1,rep1⟩:=hq_
 subst hx
 cases rep1
 exact Ow pins s1 σ H1 _ _ _ I1 r1 ⟨c,rfl,O1,.int (-c),S1,h1,st1,ok1,.int (-c)⟩
theorem Ip{c:Expr}(h:Ts X Γ S c λ k S1=>(k=true->Ev X Γ S1 a W)/\(k=false->Ev X Γ S1 b W)):Ev X Γ S (.IfExp c a b pos) W:=by
 intro pins s σ H O I env st
 refine wpAny_IfExp (thn (h pins s σ H O I env st) λ d s1 hq_=>?_)
 obtain⟨H1,I1,O1,S1,w1,st1,ok1⟩:=hq_
 cases d with
 | true=>exact thn (w1.1 rfl pins s1 σ H1 O1 I1 (env.mono st1) ok1) λ _ _ q=>d9 st1 q
 | false=>exact thn (w1.2 rfl pins s1 σ H1 O1 I1 (env.mono st1) ok1) λ _ _ q=>d9 st1 q
theorem JV{c:Expr}{op op':CmpOp}(h:Ev X Γ S a λ x S1=>Ev X Γ S1 b λ y S2=>aY X op x y S2 λ z S3=>∃k,z=.bl k/\(k=false->W (.bl false) S3)/\(k=true->Ev X Γ S3 c λ t S4=>aY X op' y t S4 W))
 (hm:lastMarks [op,op'] [b,c]=false:=by with_unfolding_all rfl):Ev X Γ S (.Compare a [op,op'] [b,c] pos) W:=by
 intro pins s σ H O I env st
 refine Compare_chain (thn (h pins s σ H O I env st) λ u s1 hq_=>?_) hm
 obtain⟨v,H1,I1,r1,O1,x,S1,hb,st1,ok1,rep1⟩:=hq_
 refine chain_link (thn (hb pins s1 σ H1 O1 I1 (env.mono st1) ok1) λ u' s2 hq_=>?_)
 obtain⟨w,H2,I2,r2,O2,y,S2,hw,st2,ok2,rep2⟩:=hq_
 refine thn (hw pins s2 σ H2 O2 v w u u' I2 ok2 (rep1.mono st2) rep2 r1 r2) λ _ s3 hq_=>?_
 obtain⟨z,H3,I3,r3,O3,d,S3,⟨k,hd,k1,k2⟩,st3,ok3,rep3⟩:=hq_
 subst hd
 cases rep3
 cases r3
 refine wpAny_truthy_bool ?_
 cases k with
 | false=>exact ite_ff ⟨.bl false,H3,I3,rfl,O3,.bl false,S3,k1 rfl,(st1.trans st2).trans st3,ok3,.bl false⟩
 | true=>
   refine ite_tt (chain_last (thn (k2 rfl pins s3 σ H3 O3 I3 (((env.mono st1).mono st2).mono st3) ok3) λ u4 s4 hq_=>?_))
   obtain⟨w4,H4,I4,r4,O4,t,S4,h4,st4,ok4,rep4⟩:=hq_
   exact thn (h4 pins s4 σ H4 O4 w w4 u' u4 I4 ok4 ((rep2.mono st3).mono st4) rep4 r2 r4) λ _ _ q=>d9 (((st1.trans st2).trans st3).trans st4) q
theorem gR{W:List D->Store->Prop}(w:W [] S):EvA X Γ S [] W:=λ _ pins s σ H O I _ st=>Calls.spliced_nil ⟨[],H,I,.nil,O,[],S,w,Step.refl O H,st,.nil⟩
theorem dw{W:List D->Store->Prop}(h:Ev X Γ S e λ d S1=>EvA X Γ S1 es λ ds S2=>W (d::ds) S2)(hs:starEach (e::es) X.env=(false,eval e X.env)::starEach es X.env:=by rfl):EvA X Γ S (e::es) W:=by
 intro pos pins s σ H O I env st
 rw[hs]
 show wpAny _ _ (spliced ((false,eval e X.env)::backTo pos (starEach es X.env))) _ _ s
 refine Calls.spliced_cons (thn (h pins s σ H O I env st) λ u s1 hq_=>?_)
 obtain⟨v,H1,I1,r1,O1,x,S1,hb,st1,ok1,rep1⟩:=hq_
 exact thn (hb pos pins s1 σ H1 O1 I1 (env.mono st1) ok1) λ us s2 hq_=>by obtain⟨xs,H2,I2,r2,O2,ds,S2,w,st2,ok2,rep2⟩:=hq_;exact⟨v::xs,H2,I2,.cons r1 r2,O2,x::ds,S2,w,st1.trans st2,ok2,.cons (rep1.mono st2) rep2⟩
theorem small{n:Nat}(h:n≤1000000):n≤sizeLine:=Nat.le_trans h (by decide)
theorem N8(st:StOk K O H S)(h:H p=none):Tp K O (upd H p (.tup xs)) p xs:=⟨st.fresh_not h,aP⟩
theorem MP(st:StOk K O H S)(h:H p=none):Ls K O (upd H p (.lst xs)) p xs:=.inl ⟨st.fresh_not h,.inl aP⟩
theorem jC(w:W (.tup ds) S)(st:StOk K O H S)(h:H p=none)(r:Reps K O H xs ds):QG K O H W (.ref p) (upd H p (.tup xs)):=
 ⟨O,.tup ds,S,w,Step.fresh h _,st.fresh h _,.tup (N8 st h) (r.mono (Step.fresh h _))⟩
theorem jw(w:W (.lst ds) S)(st:StOk K O H S)(h:H p=none)(r:Reps K O H xs ds):QG K O H W (.ref p) (upd H p (.lst xs)):=
 ⟨O,.lst ds,S,w,Step.fresh h _,st.fresh h _,.lst (MP st h) (r.mono (Step.fresh h _))⟩
theorem qz(w:W (.loc S.length) (S++[ds]))(st:StOk K O H S)(h:H p=none)(r:Reps K O H xs ds):QG K O H W (.ref p) (upd H p (.lst xs)):=
 ⟨O.more p,.loc S.length,S++[ds],w,Step.own h _,st.own h r,.loc (by show(O.A++[(p,false)])[S.length]? =some (p,false);rw[←st.len];simp)⟩
theorem PB{x1}(h:EvA X Γ S es λ ds S1=>ds.length≤1000000/\W (.tup ds) S1):Ev X Γ S (.Tuple es x1 pos) W:=by
 intro pins s σ H O I env st
 refine wpAny_Tuple_spliced (thn (h pos pins s σ H O I env st) λ us s1 hq_=>?_)
 obtain⟨xs,H1,I1,r,O1,ds,S1,⟨z,w⟩,st1,ok1,rep⟩:=hq_
 refine⟨by rw[←r.length,rep.length];exact small z,?_⟩
 have hf:H1 s1.heap.objs.size=none:=I1.hok.fresh (y8 _)
 refine⟨.ref s1.heap.objs.size,upd H1 s1.heap.objs.size (.tup xs),I1.laid (t':=s1.toks) (λ b u e=>Heap.get?_push_of_some _ e) (y8 _) ?_,rfl,(jC w ok1 hf rep).pre st1⟩
 exact⟨by rw[rep.length];exact small z,us,r,⟨_,Heap.get?_push_size _ rfl,rfl,_,rfl⟩⟩
theorem Oi(h:EvA X Γ S es λ ds S1=>ds.length≤1000000/\W (.lst ds) S1):Ev X Γ S (.List es pos) W:=by
 intro pins s σ H O I env st
 refine wpAny_List_spliced (thn (h pos pins s σ H O I env st) λ us s1 hq_=>?_)
 obtain⟨xs,H1,I1,r,O1,ds,S1,⟨z,w⟩,st1,ok1,rep⟩:=hq_
 refine⟨by rw[←r.length,rep.length];exact small z,?_⟩
 have hf:H1 s1.heap.objs.size=none:=I1.hok.fresh (y8 _)
 refine⟨.ref s1.heap.objs.size,upd H1 s1.heap.objs.size (.lst xs),I1.laid (t':=s1.toks) (λ b u e=>Heap.get?_push_of_some _ e) (y8 _) ?_,rfl,(jw w ok1 hf rep).pre st1⟩
 exact⟨by rw[rep.length];exact small z,us,0,r,Heap.get?_push_size _ rfl⟩
theorem Mp(h:EvA X Γ S es λ ds S1=>ds.length≤1000000/\W (.loc S1.length) (S1++[ds])):Ev X Γ S (.List es pos) W:=by
 intro pins s σ H O I env st
 refine wpAny_List_spliced (thn (h pos pins s σ H O I env st) λ us s1 hq_=>?_)
 obtain⟨xs,H1,I1,r,O1,ds,S1,⟨z,w⟩,st1,ok1,rep⟩:=hq_
 refine⟨by rw[←r.length,rep.length];exact small z,?_⟩
 have hf:H1 s1.heap.objs.size=none:=I1.hok.fresh (y8 _)
 refine⟨.ref s1.heap.objs.size,upd H1 s1.heap.objs.size (.lst xs),I1.laid (t':=s1.toks) (λ b u e=>Heap.get?_push_of_some _ e) (y8 _) ?_,rfl,(qz w ok1 hf rep).pre st1⟩
 exact⟨by rw[rep.length];exact small z,us,0,r,Heap.get?_push_size _ rfl⟩
theorem jA{op:Operator}{C:Int->Int->Prop}{g:Int->Int->Int}(ho:OpR X (binaryOp op) (rI C λ i j=>.int (g i j))){i j:Int}(c:C i j)(w:W (.int (g i j)) S):dj X op (.int i) (.int j) S W:=
 dZ ho λ O H v w' st r1 r2=>by cases r1;cases r2;exact⟨i,j,rfl,rfl,c,QG.here w st (.int _)⟩
theorem yK{op:Operator}{g:Int->Int->Int}(ho:OpR X (binaryOp op) (rI0 λ i j=>.int (g i j))){i j:Int}(w:W (.int (g i j)) S):dj X op (.int i) (.int j) S W:=
 dZ ho λ O H v w' st r1 r2=>by cases r1;cases r2;exact⟨i,j,rfl,rfl,QG.here w st (.int _)⟩
theorem Rc(w:W (.int (i+j)) S):dj X .Add (.int i) (.int j) S W:=yK Qv w
theorem RW(w:W (.int (i-j)) S):dj X .Sub (.int i) (.int j) S W:=yK N7 w
theorem Rp(c:CMul i j)(w:W (.int (i*j)) S):dj X .Mult (.int i) (.int j) S W:=jA M5 c w
theorem Rw(c:0<j)(w:W (.int (i % j)) S):dj X .Mod (.int i) (.int j) S W:=jA MJ c w
theorem Ov(c:0<j/\j<1073741824)(w:W (.int (i/j)) S):dj X .FloorDiv (.int i) (.int j) S W:=jA K7 c w
theorem Q8(c:CPow i j)(w:W (.int (i ^ j.toNat)) S):dj X .Pow (.int i) (.int j) S W:=jA PX c w
theorem mV{op:CmpOp}{g:Int->Int->Bool}(ho:OpR X (compareOp op) (rI0 λ i j=>.bl (g i j))){i j:Int}(w:W (.bl (g i j)) S):aY X op (.int i) (.int j) S W:=
 dZ ho λ O H v w' st r1 r2=>by cases r1;cases r2;exact⟨i,j,rfl,rfl,QG.here w st (.bl _)⟩
theorem SQ(w:W (.bl (decide (i<j))) S):aY X .Lt (.int i) (.int j) S W:=mV QQ w
theorem Sx(w:W (.bl (decide (i≤j))) S):aY X .LtE (.int i) (.int j) S W:=mV RJ w
theorem S9(w:W (.bl (decide (j<i))) S):aY X .Gt (.int i) (.int j) S W:=mV RL w
theorem R0(w:W (.bl (decide (j≤i))) S):aY X .GtE (.int i) (.int j) S W:=mV Rj w
theorem Rx(w:W (.bl (decide (i=j))) S):aY X .Eq (.int i) (.int j) S W:=
 dZ J0 λ O H v w' st r1 r2=>by
  cases r1;cases r2
  have e:decide (V.int i=V.int j)=decide (i=j):=by rw[mU];exact(Bool.beq_eq_decide_eq i j)
  exact⟨rfl,by rw[e];exact QG.here w st (.bl _)⟩
theorem Ri(w:W (.bl (!decide (i=j))) S):aY X .NotEq (.int i) (.int j) S W:=
 dZ Kc λ O H v w' st r1 r2=>by
  cases r1;cases r2
  have e:decide (V.int i=V.int j)=decide (i=j):=by rw[mU];exact(Bool.beq_eq_decide_eq i j)
  exact⟨rfl,by rw[e];exact QG.here w st (.bl _)⟩
theorem QS{i j:Bool}(w:W (.bl (i==j)) S):aY X .Eq (.bl i) (.bl j) S W:=
 dZ J0 λ O H v w' st r1 r2=>by
  cases r1;cases r2
  exact⟨rfl,by rw[sr];exact QG.here w st (.bl _)⟩
theorem Q5{i j:Bool}(w:W (.bl (!(i==j))) S):aY X .NotEq (.bl i) (.bl j) S W:=
 dZ Kc λ O H v w' st r1 r2=>by
  cases r1;cases r2
  exact⟨rfl,by rw[sr];exact QG.here w st (.bl _)⟩
theorem Q0(w:W (.bl (match x with | .non=>true | _=>false)) S):aY X .Is x .non S W:=
 dZ Oh λ O H v w' st r1 r2=>by
  cases r2
  refine⟨rfl,?_⟩
  cases r1<;>exact QG.here w st (.bl _)
theorem K4(w:W (.bl (match x with | .non=>false | _=>true)) S):aY X .IsNot x .non S W:=
 dZ KC λ O H v w' st r1 r2=>by
  cases r2
  refine⟨rfl,?_⟩
  cases r1<;>exact QG.here w st (.bl _)
theorem Oe{es:List D}(hz:ds.length+es.length≤1000000)(w:W (.tup (ds++es)) S):dj X .Add (.tup ds) (.tup es) S W:=by
 intro pins s σ H O v w' u u' I st r1 r2 r3 r4
 cases r1 with
 | @tup a xs _ h1 q1=>
   cases r2 with
   | @tup b ys _ h2 q2=>
     by_cases hx:xs=[]
     . subst hx
       have e:ds=[]:=by have:=q1.length;simpa using this.symm
       subst e
       cases r3
       cases r4
       obtain⟨its,v1,p1,_⟩:=I.tuple h1.sq
       obtain⟨its2,v2,p2,_⟩:=I.tuple h2.sq
       cases v1
       obtain⟨⟨cls,dd,data,sl⟩,ho,hc,n,hd⟩:=id p1
       obtain⟨⟨cls2,dd2,data2,sl2⟩,ho2,hc2,n2,hd2⟩:=id p2
       simp only at hc hd hc2 hd2
       subst hc hd hc2 hd2
       exact concat_meets ⟨_,ho,rfl⟩ ⟨_,ho2,rfl⟩ noFill_tuple_add seq_tuple_add PySem.F.slot_tuple_add PySem.F.entry_tuple_add (PySem.F.args_tuple_add_2 _ _)
        (tuple_addW0 a b ([]:List Value).toArray its2.toArray n n2 dd dd2 sl sl2 rfl) ⟨ho,ho2,⟨.ref b,H,I,rfl,QG.here w st (.tup h2 q2)⟩⟩
     . refine K1 pins s σ H _ _ u u' _ I r3 r4 ⟨a,b,xs,ys,rfl,rfl,h1.sq,h2.sq,hx,by rw[q1.length,q2.length];exact small hz,λ e=>?_,λ _ p hp=>jC w st hp (q1.append q2)⟩
       subst e
       have e:es=[]:=by have:=q2.length;simpa using this.symm
       subst e
       rw[List.append_nil]at w
       exact QG.here w st (.tup h1 q1)
theorem MN{es:List D}(hz:ds.length+es.length≤1000000)(w:W (.lst (ds++es)) S):dj X .Add (.lst ds) (.lst es) S W:=by
 intro pins s σ H O v w' u u' I st r1 r2 r3 r4
 cases r1 with
 | @lst a xs _ h1 q1=>
   cases r2 with
   | @lst b ys _ h2 q2=>
     cases r3
     cases r4
     obtain⟨its,v1,p1,_⟩:=I.list h1.sq
     obtain⟨its2,v2,p2,_⟩:=I.list h2.sq
     obtain⟨⟨cls,dd,data,sl⟩,n,ho,hc,hdd,hd⟩:=id p1
     obtain⟨⟨cls2,dd2,data2,sl2⟩,n2,ho2,hc2,hdd2,hd2⟩:=id p2
     simp only at hc hd hc2 hd2
     subst hc hd hc2 hd2
     have z:its.length+its2.length≤sizeLine:=by rw[←v1.length,←v2.length,q1.length,q2.length];exact small hz
     refine concat_meets ⟨_,ho,rfl⟩ ⟨_,ho2,rfl⟩ noFill_list_add seq_list_add PySem.F.slot_list_add PySem.F.entry_list_add (PySem.F.args_list_add_2 _ _)
      (list_addW a b its.toArray its2.toArray n n2 dd dd2 sl sl2 (by simpa using z)) ⟨ho,ho2,?_⟩
     have ea:its.toArray++its2.toArray=(its++its2).toArray:=by simp
     rw[ea]
     refine⟨.ref s.heap.objs.size,_,I.lnew (t':=s.toks) (v1.append v2) (by rw[x8,q1.length,q2.length];exact small hz),rfl,jw w st I.fresh (q1.append q2)⟩
end
end DL
namespace DL
open PySem PySem.Spec L2
open PyProof.Rows
variable {K : PySem.W.Frag} {O : Own} {H : Hp} {xs : List V} {ds : List D} {i : Int} {d : D} {k : Nat} {x : Str} {p : Pos}
section
variable {X : Cx} {Γ : Gam} {S : Store} {W : WD} {a b e : Expr} {es : List Expr} {pos : Pos}
def IxW(X:Cx)(a b:Expr)(x y:D)(S:Store)(W:WD):Prop:=
 ∀ (pins:Pins)(s:Shared)(σ:St)(H:Hp)(O:Own)(v w:V)(u u':Value),Inv X pins σ H s->StOk X.K O H S->Rep X.K O H v x->Rep X.K O H w y->RelV v u->RelV w u'->
   subscripted b false u u'=operate [u,u'] (getItem u u')->wpAny (model X.prog X.w) X.A (subscriptTail a b u u') (EP X pins σ (QG X.K O H W)) X.xe s
theorem Kd(h:Ev X Γ S a λ x S1=>Ev X Γ S1 b λ y S2=>IxW X a b x y S2 W)(hs:uc b:=by intro _ _;rfl):Ev X Γ S (.Subscript a b pos) W:=by
 intro pins s σ H O I env st
 refine Subscript_ (thn (h pins s σ H O I env st) λ u s1 hq_=>?_)
 obtain⟨v,H1,I1,r1,O1,x,S1,hb,st1,ok1,rep1⟩:=hq_
 refine thn (hb pins s1 σ H1 O1 I1 (env.mono st1) ok1) λ u' s2 hq_=>?_
 obtain⟨w,H2,I2,r2,O2,y,S2,hw,st2,ok2,rep2⟩:=hq_
 exact thn (hw pins s2 σ H2 O2 v w u u' I2 ok2 (rep1.mono st2) rep2 r1 r2 (hs _ _)) λ _ _ q=>d9 (st1.trans st2) q
theorem uL(r:Reps K O H xs ds)(h:atI ds i=some d):∃v,atI xs i=some v/\Rep K O H v d:=by
 unfold atI at h ⊢
 rw[r.length]
 cases e:ixN ds.length i with
 | none=>rw[e]at h;cases h
 | some j=>
   rw[e]at h
   exact r.get (i:=j) h
theorem Ro(h:atI ds i=some d)(w:W d S):IxW X a b (.tup ds) (.int i) S W:=by
 intro pins s σ H O v w' u u' I st r1 r2 r3 r4 hs
 cases r2
 cases r1 with
 | @tup p xs _ h1 q1=>
   obtain⟨z,hz,rz⟩:=uL q1 h
   exact Gz a b pins s σ H _ _ u u' _ I r3 r4 ⟨p,xs,i,z,rfl,rfl,h1.sq,hz,QG.here w st rz⟩ hs
theorem RD(h:atI ds i=some d)(w:W d S):IxW X a b (.lst ds) (.int i) S W:=by
 intro pins s σ H O v w' u u' I st r1 r2 r3 r4 hs
 cases r2
 cases r1 with
 | @lst p xs _ h1 q1=>
   obtain⟨z,hz,rz⟩:=uL q1 h
   exact BR a b pins s σ H _ _ u u' _ I r3 r4 ⟨p,xs,i,z,rfl,rfl,h1.sq,hz,QG.here w st rz⟩ hs
theorem RX(hk:S[k]? =some ds)(h:atI ds i=some d)(w:W d S):IxW X a b (.loc k) (.int i) S W:=by
 intro pins s σ H O v w' u u' I st r1 r2 r3 r4 hs
 cases r2
 cases r1 with
 | @loc p _ h1=>
   obtain⟨xs,hx,q1⟩:=st.obj k p ds h1 hk
   obtain⟨z,hz,rz⟩:=uL q1 h
   exact BR a b pins s σ H _ _ u u' _ I r3 r4 ⟨p,xs,i,z,rfl,rfl,SqL.of hx,hz,QG.here w st rz⟩ hs
def PoD(X:Cx)(Γ:Gam)(S:Store)(o:Option Expr)(W:Option Int->Store->Prop):Prop:=match o with
 | none=>W none S
 | some e=>Ev X Γ S e λ d S1=>∃i,d=.int i/\W (some i) S1
def SlW(X:Cx)(x:D)(lo hi:Option Int)(S:Store)(W:WD):Prop:=
 ∀ (pins:Pins)(s:Shared)(σ:St)(H:Hp)(O:Own)(v:V)(u vl vu:Value)(sl:Addr),Inv X pins σ H s->StOk X.K O H S->Rep X.K O H v x->RelV v u->s.heap.IsSliceOf sl vl vu .none->IsPart vl lo->IsPart vu hi->
   ∃T id,typeLookup (.type T) "__getitem__"=pure (some (.builtin id))/\s.TypeIs u T/\wpAny (model X.prog X.w) X.A (getItem u (.ref sl)) (EP X pins σ (QG X.K O H W)) X.xe s
theorem GQ{W:Option Int->Store->Prop}{o:Option Expr}(h:PoD X Γ S o W){pins:Pins}{s:Shared}{σ:St}{H:Hp}{O:Own}(I:Inv X pins σ H s)(env:EnvOk X.K O H σ Γ)(st:StOk X.K O H S):
 wpAny (model X.prog X.w) X.A (evalPart o X.env) (λ u s'=>∃p H' O' S',Inv X pins σ H' s'/\IsPart u p/\W p S'/\Step O O' H H'/\StOk X.K O' H' S') X.xe s:=by
 cases o with
 | none=>
   rw[evalPart_none]
   exact wpAny_pure ⟨none,H,O,S,I,.none,h,Step.refl O H,st⟩
 | some e=>
   rw[evalPart_some]
   refine thn (h pins s σ H O I env st) λ u s1 hq_=>?_
   obtain⟨v,H1,I1,r1,O1,x,S1,⟨i,hx,w⟩,st1,ok1,rep1⟩:=hq_
   subst hx
   cases rep1
   obtain⟨t,rfl⟩:=r1
   exact⟨some i,H1,O1,S1,I1,.int i t,w,st1,ok1⟩
theorem qp{lo hi:Option Expr}{p2:Pos}(h:Ev X Γ S e λ x S1=>PoD X Γ S1 lo λ l S2=>PoD X Γ S2 hi λ r S3=>SlW X x l r S3 W):Ev X Γ S (.Subscript e (.Slice lo hi none p2) pos) W:=by
 intro pins s σ H O I env st
 refine Subscript_ (thn (h pins s σ H O I env st) λ v s1 hq_=>?_)
 obtain⟨y,H1,I1,r1,O1,x,S1,hb,st1,ok1,rep1⟩:=hq_
 refine wpAny_Slice (thn (GQ hb I1 (env.mono st1) ok1) λ vl s2 hq_=>?_)
 obtain⟨l,H2,O2,S2,I2,pl,hc,st2,ok2⟩:=hq_
 refine thn (GQ hc I2 ((env.mono st1).mono st2) ok2) λ vu s3 hq_=>?_
 obtain⟨r,H3,O3,S3,I3,pu,hd,st3,ok3⟩:=hq_
 rw[evalPart_none]
 refine wpAny_pure ?_
 have I4:Inv X pins σ H3 {s3 with heap:=s3.heap.push {cls:=.type "slice",data:=.fields #[vl,vu,.none]}}:=I3.kept (t':=s3.toks) λ b ob q=>Heap.get?_push_of_some _ q
 obtain⟨T,id,hT,ht,hg⟩:=hd pins {s3 with heap:=s3.heap.push {cls:=.type "slice",data:=.fields #[vl,vu,.none]}} σ H3 O3 y v vl vu s3.heap.objs.size I4 ok3 ((rep1.mono st2).mono st3) r1 (Heap.IsSliceOf.new ..) pl pu
 show wpAny (model X.prog X.w) X.A (subscriptTail e (.Slice lo hi none p2) v (.ref s3.heap.objs.size)) _ X.xe {s3 with heap:=s3.heap.push {cls:=.type "slice",data:=.fields #[vl,vu,.none]}}
 exact tail_any (ops:=[.ref s3.heap.objs.size,v]) ht hT (thn hg λ _ _ q=>d9 ((st1.trans st2).trans st3) q) (by with_unfolding_all rfl)
def cutD(ds:List D)(lo hi:Option Int):List D:=(ds.drop (HT.sIx ds.length 0 lo)).take (HT.sIx ds.length ds.length hi-HT.sIx ds.length 0 lo)
theorem m5(r:Reps K O H xs ds)(lo hi:Option Int):Reps K O H (mF xs lo hi) (cutD ds lo hi):=by
 unfold mF cutD
 rw[r.length]
 exact(r.drop _).take _
theorem Bj{prog:Program}{w:World}{A:Around}{E:Value->Shared->Prop}{s:Shared}{t sl:Addr}{items:Array Value}{vl vu:Value}{lo hi:Option Int}{Q:Value->Shared->Prop}(ht:IsTup s.heap t items)(hs:s.heap.IsSliceOf sl vl vu .none)(pl:IsPart vl lo)(pu:IsPart vu hi)
 (h0:HT.sIx items.size 0 lo=0)(h1:HT.sIx items.size items.size hi=items.size)(h:Q (.ref t) s):wpAny (model prog w) A (getItem (.ref t) (.ref sl)) Q E s:=by
 obtain⟨os,hos,hcs,hds⟩:=id hs
 have isS:s.TypeIs (.ref sl) "slice":=⟨os,hos,hcs⟩
 unfold getItem
 try with_reducible refine wpAny_holding ?_
 first | refine wpAny_bind (wpAny_pure ?_) | skip
 refine wpAny_bind (wpAny_sequenceKey ht.typeIs (by decide) ?_)
 refine wpAny_bind (wpAny_callSpecial?_slot (name:=Str.ofString "__getitem__") ht.typeIs PyProof.Rows.slot_tuple_getitem
  (wpAny_call_entry PyProof.Rows.slot_tuple_getitem ht.typeIs entry_tuple_getitem ?_ (args_tuple_getitem _ _)))
 show wpAny _ _ (Builtin.Tuple.tupleItemsOf (.ref t)>>=_) _ _ s
 refine wpAny_bind (tupleItemsOf_ ht (wpAny_bind (wpAny_typeOf isS ?_)))
 rw[if_pos (by decide)]
 refine wpAny_bind (HT.sliceApplied_gen hs pl pu ?_)
 rw[h0,h1]
 show wpAny _ _ (if(((0:Nat):Int)==0&&(1:Int)==1&&(items.size-0)==items.size)=true then _ else _) _ _ s
 rw[if_pos (by simp)]
 unfold Builtin.Tuple.tupleIsExact
 first
  | exact wpAny_bind (wpAny_bind (wpAny_typeOf ht.typeIs (wpAny_pure (by rw[if_pos (by decide)];exact wpAny_bind (wpAny_rule (wpAny_pure ⟨_,rfl,wpAny_pure h⟩))))))
  | (refine wpAny_bind (wpAny_bind (wpAny_typeOf ht.typeIs (wpAny_pure ?_)))
     simp only[beq_self_eq_true,if_true]
     exact wpAny_bind (wpAny_rule (wpAny_pure ⟨_,rfl,wpAny_pure h⟩)))
theorem QZ{lo hi:Option Int}(w:W (.tup (cutD ds lo hi)) S):SlW X (.tup ds) lo hi S W:=by
 intro pins s σ H O v u vl vu sl I st r1 r3 hs pl pu
 cases r1 with
 | @tup p xs _ h1 q1=>
   by_cases hw:HT.sIx xs.length 0 lo=0/\HT.sIx xs.length xs.length hi=xs.length
   . cases r3
     obtain⟨its,r,ht,hz⟩:=I.tuple h1.sq
     have hlen:its.toArray.size=xs.length:=by rw[x5];exact r.length.symm
     refine⟨"tuple",_,PyProof.Rows.slot_tuple_getitem.lookup,ht.typeIs,Bj ht hs pl pu (by rw[hlen];exact hw.1) (by rw[hlen];exact hw.2) ⟨.ref p,H,I,rfl,?_⟩⟩
     have e:cutD ds lo hi=ds:=by
      unfold cutD
      rw[←q1.length,hw.1,hw.2,List.drop_zero,List.take_of_length_le (by rw[←q1.length];omega)]
     rw[e]at w
     exact QG.here w st (.tup h1 q1)
   . exact Oa pins s σ H _ u vl vu lo hi sl _ I r3 hs pl pu ⟨p,xs,rfl,h1.sq,hw,λ p' hp=>jC w st hp (m5 q1 lo hi)⟩
theorem Q4{lo hi:Option Int}(w:W (.lst (cutD ds lo hi)) S):SlW X (.lst ds) lo hi S W:=by
 intro pins s σ H O v u vl vu sl I st r1 r3 hs pl pu
 cases r1 with
 | @lst p xs _ h1 q1=>exact vz pins s σ H _ u vl vu lo hi sl _ I r3 hs pl pu ⟨p,xs,rfl,h1.sq,λ p' hp=>jw w st hp (m5 q1 lo hi)⟩
theorem Iu{id:String}(h:EvA X Γ S (e::es) λ ds S1=>cB X (.builtin id) ds S1 W)(hm:X.mg x=none)(hv:bootBuiltins x=some (.builtin id))(hg:Gl X x:=by rfl)(hn:x≠"__name__":=by decide)(hdb:(x==("__debug__":Str))=false:=by decide)
 (he:starEach (e::es) X.env=(false,eval e X.env)::starEach es X.env:=by rfl)(hpl:(backTo pos (starEach es X.env)).any (·.1)=false:=by rfl):Ev X Γ S (.Call (.Name x p) (e::es) [] pos) W:=by
 intro pins s σ H O I env st
 refine wpAny_Call_Name_kw (gm I hg hm hv ?_ hn hdb)
 exact PyProof.Rows.callWith_builtin1 (thn (h pos pins s σ H O I env st) λ us s1 hq_=>by obtain⟨vs,H1,I1,r1,O1,ds,S1,w,st1,ok1,rep⟩:=hq_;exact thn (w pins s1 σ H1 O1 vs us I1 ok1 rep r1) λ _ _ q=>d9 st1 q) he hpl
theorem HJ{T:String}(h:EvA X Γ S (e::es) λ ds S1=>cB X (.type T) ds S1 W)(hm:X.mg x=none)(hv:bootBuiltins x=some (.type T))(hg:Gl X x:=by rfl)(hn:x≠"__name__":=by decide)(hdb:(x==("__debug__":Str))=false:=by decide)
 (he:starEach (e::es) X.env=(false,eval e X.env)::starEach es X.env:=by rfl)(hpl:(backTo pos (starEach es X.env)).any (·.1)=false:=by rfl):Ev X Γ S (.Call (.Name x p) (e::es) [] pos) W:=by
 intro pins s σ H O I env st
 refine wpAny_Call_Name_kw (gm I hg hm hv ?_ hn hdb)
 exact PyProof.Rows.callWith_type1 (thn (h pos pins s σ H O I env st) λ us s1 hq_=>by obtain⟨vs,H1,I1,r1,O1,ds,S1,w,st1,ok1,rep⟩:=hq_;exact thn (w pins s1 σ H1 O1 vs us I1 ok1 rep r1) λ _ _ q=>d9 st1 q) he hpl
theorem gj{vs:List V}(r:Reps K O H vs [d]):∃v,vs=[v]/\Rep K O H v d:=by
 cases r with
 | cons a t=>cases t;exact⟨_,rfl,a⟩
theorem MK(w:W (.int ds.length) S):cB X (.builtin "len") [.tup ds] S W:=eV ie λ O H vs st r=>by
 obtain⟨v,rfl,r'⟩:=gj r
 cases r' with
 | @tup p xs _ h1 q1=>exact⟨p,xs,rfl,.inr h1.sq,by rw[q1.length];exact QG.here w st (.int _)⟩
theorem Od(w:W (.int ds.length) S):cB X (.builtin "len") [.lst ds] S W:=eV ie λ O H vs st r=>by
 obtain⟨v,rfl,r'⟩:=gj r
 cases r' with
 | @lst p xs _ h1 q1=>exact⟨p,xs,rfl,.inl h1.sq,by rw[q1.length];exact QG.here w st (.int _)⟩
theorem Oq(hk:S[k]? =some ds)(w:W (.int ds.length) S):cB X (.builtin "len") [.loc k] S W:=eV ie λ O H vs st r=>by
 obtain⟨v,rfl,r'⟩:=gj r
 cases r' with
 | @loc p _ h1=>
   obtain⟨xs,hx,q1⟩:=st.obj k p ds h1 hk
   exact⟨p,xs,rfl,.inl (SqL.of hx),by rw[q1.length];exact QG.here w st (.int _)⟩
theorem Pu(w:W (.tup ds) S):cB X (.type "tuple") [.lst ds] S W:=eV lA λ O H vs st r=>by
 obtain⟨v,rfl,r'⟩:=gj r
 cases r' with
 | @lst p xs _ h1 q1=>exact⟨p,xs,rfl,.inl ⟨h1.sq,λ l hl=>jC w st hl q1⟩⟩
theorem Nz(hk:S[k]? =some ds)(w:W (.tup ds) S):cB X (.type "tuple") [.loc k] S W:=eV lA λ O H vs st r=>by
 obtain⟨v,rfl,r'⟩:=gj r
 cases r' with
 | @loc p _ h1=>
   obtain⟨xs,hx,q1⟩:=st.obj k p ds h1 hk
   exact⟨p,xs,rfl,.inl ⟨SqL.of hx,λ l hl=>jC w st hl q1⟩⟩
abbrev Ct:=List D->Store->WD->Prop
def spC(K:PySem.W.Frag)(n:Nat)(F:Ct):Sp:=λ vs H Q _=>∃O ds S W,ds.length=n/\Reps K O H vs ds/\StOk K O H S/\F ds S W/\∀v H',QG K O H W v H'->Q v H'
structure Callee(P:Program)(w:World)(K:PySem.W.Frag)(mg:Str->Option Value)(base:Heap)(x:Str)(k n:Nat)(F:Ct):Prop where
 ex:∃f fd ps,FnOk P w K mg base CX0 k f fd ps (spC K n F)/\mg x=some (.ref f)/\PySem.W.keepIn K (.ref f)=true/\Binds K fd ps []
theorem Mt{n:Nat}{F:Ct}(C:Callee X.prog X.w X.K X.mg X.base x k n F)(hr:Room k X.A)(h:EvA X Γ S (e::es) λ ds S1=>ds.length=n/\F ds S1 W)(hg:Gl X x:=by rfl)(hdb:(x==("__debug__":Str))=false:=by decide)
 (he:starEach (e::es) X.env=(false,eval e X.env)::starEach es X.env:=by rfl)(hpl:(backTo pos (starEach es X.env)).any (·.1)=false:=by rfl):Ev X Γ S (.Call (.Name x p) (e::es) [] pos) W:=by
 intro pins s σ H O I env st
 obtain⟨f,fd,ps,hF,hm,hk,hb⟩:=C.ex
 refine wpAny_Call_Name_kw (ni I hg hm ?_ hdb)
 refine PySem.W.callWith_K (h₀:=X.base) I.ok.mod.kin hk (thn (h pos pins s σ H O I env st) λ us s1 hq_=>?_) he hpl
 obtain⟨vs,H1,I1,r1,O1,ds,S1,⟨hl,w⟩,st1,ok1,rep⟩:=hq_
 refine⟨I1.kIn,?_⟩
 refine Qs hF hr hb .nil QF I1 r1 ?_
 rw[List.append_nil]
 exact⟨O1,ds,S1,W,hl,rep,ok1,w,λ v H' q=>q.pre st1⟩
structure Fin where
 nx:Gam->Store->Prop
 rt:WD
 bk:Gam->Store->Prop:=λ _ _=>False
 ct:Gam->Store->Prop:=λ _ _=>False
def QN(K:PySem.W.Frag)(O:Own)(H:Hp)(W:Gam->Store->Prop):St->Hp->Prop:=λ σ' H'=>∃O' Γ' S',W Γ' S'/\Step O O' H H'/\StOk K O' H' S'/\EnvOk K O' H' σ' Γ'
def ends(K:PySem.W.Frag)(O:Own)(H:Hp)(W:Fin):Ends:={nx:=QN K O H W.nx,rt:=QG K O H W.rt,bk:=QN K O H W.bk,ct:=QN K O H W.ct}
def Rn(X:Cx)(Γ:Gam)(S:Store)(st:Stmt)(W:Fin):Prop:=
 ∀ (pins:Pins)(s:Shared)(σ:St)(H:Hp)(O:Own),Inv X pins σ H s->EnvOk X.K O H σ Γ->StOk X.K O H S->
   wpAny (model X.prog X.w) X.A (exec st X.env) (SP X pins (ends X.K O H W)) X.xe s
def Rns(X:Cx)(Γ:Gam)(S:Store)(sts:List Stmt)(W:Fin):Prop:=
 ∀ (pins:Pins)(s:Shared)(σ:St)(H:Hp)(O:Own),Inv X pins σ H s->EnvOk X.K O H σ Γ->StOk X.K O H S->
   wpAny (model X.prog X.w) X.A (execs sts X.env) (SP X pins (ends X.K O H W)) X.xe s
theorem QN.pre{O1:Own}{H1:Hp}(st:Step O O1 H H1){W:Gam->Store->Prop}{v:St}{H':Hp}(q:QN K O1 H1 W v H'):QN K O H W v H':=by
 obtain⟨O',d,S',w,s',ok,r⟩:=q
 exact⟨O',d,S',w,st.trans s',ok,r⟩
theorem rG{pins:Pins}{O1:Own}{H1:Hp}{W:Fin}(st:Step O O1 H H1){f:Flow}{s':Shared}(q:SP X pins (ends X.K O1 H1 W) f s'):SP X pins (ends X.K O H W) f s':=by
 cases f with
 | next=>obtain⟨σ,H',I,q⟩:=q;exact⟨σ,H',I,QN.pre st q⟩
 | brk=>obtain⟨σ,H',I,q⟩:=q;exact⟨σ,H',I,QN.pre st q⟩
 | cont=>obtain⟨σ,H',I,q⟩:=q;exact⟨σ,H',I,QN.pre st q⟩
 | ret u=>obtain⟨v,σ,H',I,r,q⟩:=q;exact⟨v,σ,H',I,r,QG.pre st q⟩
variable {W : Fin} {st : Stmt} {sts : List Stmt}
theorem PQ(w:W.nx Γ S):Rns X Γ S [] W:=λ pins s σ H O I env st=>wpAny_execs_nil ⟨σ,H,I,O,Γ,S,w,Step.refl O H,st,env⟩
theorem Kw(h:Rn X Γ S st {W with nx:=λ Γ1 S1=>Rns X Γ1 S1 sts W}):Rns X Γ S (st::sts) W:=by
 intro pins s σ H O I env ok
 refine wpAny_execs_cons (thn (h pins s σ H O I env ok) λ f s1 q=>?_)
 cases f with
 | next=>
   obtain⟨σ',H',I',O1,Γ1,S1,w,st1,ok1,env1⟩:=q
   exact thn (w pins s1 σ' H' O1 I' env1 ok1) λ _ _ q=>rG st1 q
 | ret v=>exact q
 | brk=>exact q
 | cont=>exact q
theorem QD(h:Ev X Γ S e W.rt):Rn X Γ S (.Return (some e) pos) W:=by
 intro pins s σ H O I env ok
 exact wpAny_Return_some (thn (h pins s σ H O I env ok) λ v s1 ⟨x,H1,I1,r1,q1⟩=>⟨x,σ,H1,I1,r1,q1⟩)
theorem R7{c:Expr}{xs ys:List Stmt}(h:Ts X Γ S c λ k S1=>(k=true->Rns X Γ S1 xs W)/\(k=false->Rns X Γ S1 ys W)):Rn X Γ S (.If c xs ys pos) W:=by
 intro pins s σ H O I env ok
 refine wpAny_If (thn (h pins s σ H O I env ok) λ d s1 hq_=>?_)
 obtain⟨H1,I1,O1,S1,w,st1,ok1⟩:=hq_
 cases d with
 | true=>exact thn (w.1 rfl pins s1 σ H1 O1 I1 (env.mono st1) ok1) λ _ _ q=>rG st1 q
 | false=>exact thn (w.2 rfl pins s1 σ H1 O1 I1 (env.mono st1) ok1) λ _ _ q=>rG st1 q
theorem Ka(i:Nat){x:Str}{pos':Pos}(h:Ev X Γ S e λ d S1=>W.nx (Γ.set i (some d)) S1)(hN:X.N.Nodup)(hi:X.N[i]? =some x:=by rfl)(hx:Loc X.env.scope x:=by first | exact Or.inl rfl | exact Or.inr rfl)
 (hs:swapsWith e (some (.Name x pos')) pos.line X.env=pure false:=by rfl)(hf:X.fn x=true∨X.env.scope.names.lookup x=some .local:=by first | exact .inl rfl | exact .inr rfl):Rn X Γ S (.Assign [.Name x pos'] e pos) W:=by
 intro pins s σ H O I env ok
 refine wpAny_Assign_Name (thn (h pins s σ H O I env ok) λ v s1 hq_=>?_) hs
 obtain⟨y,H1,I1,r1,O1,d,S1,w,st1,ok1,rep1⟩:=hq_
 exact zO I1 hN hi hx r1 (λ s2 I2=>⟨_,H1,I2,O1,_,S1,w,st1,ok1,(env.mono st1).set rep1 i⟩) hf
theorem Nu(h:Ev X Γ S e λ d S1=>W.nx Γ S1)(hs:swapsWith e none pos.line X.env=pure false:=by rfl):Rn X Γ S (.Expr e pos) W:=by
 intro pins s σ H O I env ok
 exact wpAny_Expr_any (thn (h pins s σ H O I env ok) λ v s1 hq_=>by obtain⟨x,H1,I1,r1,O1,d,S1,w,st1,ok1,rep1⟩:=hq_;exact⟨σ,H1,I1,O1,Γ,S1,w,st1,ok1,env.mono st1⟩) I.quiet hs
def tE(K:PySem.W.Frag)(Γ:Gam)(S:Store)(W:WD):TE:=λ σ H Q=>∃O,EnvOk K O H σ Γ/\StOk K O H S/\∀v H',QG K O H W v H'->Q v H'
theorem Ni{pins:Pins}{σ:St}{Q Q':VK}{u:Value}{s':Shared}(q:EP X pins σ Q u s')(k:∀v H',Q v H'->Q' v H'):EP X pins σ Q' u s':=by
 obtain⟨v,H',I,r,q⟩:=q
 exact⟨v,H',I,r,k v H' q⟩
theorem Ev.pe{W:WD}(h:Ev X Γ S e W):PE X e (tE X.K Γ S W):=λ pins s σ H Q I ⟨O,env,st,k⟩=>thn (h pins s σ H O I env st) λ _ _ q=>Ni q k
def tEA(K:PySem.W.Frag)(Γ:Gam)(S:Store)(W:List D->Store->Prop):TA:=λ σ H Q=>∃O,EnvOk K O H σ Γ/\StOk K O H S/\∀v H',QA K O H W v H'->Q v H'
theorem EvA.pa{W:List D->Store->Prop}(h:EvA X Γ S es W):PA X es (tEA X.K Γ S W):=λ pos pins s σ H Q I ⟨O,env,st,k⟩=>thn (h pos pins s σ H O I env st) λ _ _ ⟨v,H',I',r,q⟩=>⟨v,H',I',r,k v H' q⟩
theorem LR{o i:Expr}{tpos:Pos}(h:Ev X Γ S e λ d S1=>Ev X Γ S1 o λ x S2=>Ev X Γ S2 i λ y S3=>∃k n ds j,x=.loc k/\y=.int n/\S3[k]? =some ds/\ixN ds.length n=some j/\W.nx Γ (S3.set k (ds.set j d)))
 (ha:∀v,assign (.Subscript o i tpos) X.env v=(do
  let ov ←holding [v] (eval o X.env)
  let iv ←holding [v,ov] (eval i X.env)
  standAt tpos
  holding [v,ov,iv] (setItem ov iv v)
  release [v,ov,iv] []):=by intro _;rfl)(hs:swapsWithSole [.Subscript o i tpos] e pos.line X.env=pure false:=by rfl)(hw:swappedStores [.Subscript o i tpos] e X.env=pure none:=by rfl)
 (h1:(assignEach [.Subscript o i tpos] X.env).map (·.2)=[assign (.Subscript o i tpos) X.env]:=by rfl):Rn X Γ S (.Assign [.Subscript o i tpos] e pos) W:=by
 intro pins s σ H O I env ok
 refine wpAny_Assign_stores (thn (h pins s σ H O I env ok) λ u s1 hq_=>?_) hs hw
 obtain⟨v,H1,I1,r1,O1,d,S1,w1,st1,ok1,rep1⟩:=hq_
 rw[h1]
 show wpAny _ _ (assign (.Subscript o i tpos) X.env u) _ _ _
 rw[ha]
 refine wpAny_bind (wpAny_holding (thn (w1 pins s1 σ H1 O1 I1 (env.mono st1) ok1) λ ov s2 hq_=>?_))
 obtain⟨x,H2,I2,r2,O2,dx,S2,w2,st2,ok2,rep2⟩:=hq_
 refine wpAny_bind (wpAny_holding (thn (w2 pins s2 σ H2 O2 I2 ((env.mono st1).mono st2) ok2) λ iv s3 hq_=>?_))
 obtain⟨y,H3,I3,r3,O3,dy,S3,⟨k,n,ds,j,ex,ey,hk,hj,w⟩,st3,ok3,rep3⟩:=hq_
 subst ex
 subst ey
 have rx:=rep2.mono st3
 cases rx with
 | @loc p _ hp=>
   cases rep3
   obtain⟨xs,hx,q⟩:=ok3.obj k p ds hp hk
   have rd:=(rep1.mono st2).mono st3
   refine wpAny_bind (wpAny_standAt (wpAny_bind (wpAny_holding (thn (set_list pins s3 σ H3 _ _ v ov iv u (λ H'=>H'=upd H3 p (.lst (xs.set j v))) I3 r2 r3 r1 ⟨p,xs,n,j,rfl,rfl,hx,by rw[q.length];exact hj,rfl⟩) λ _ s4 hq_=>?_))))
   obtain⟨H4,I4,e4⟩:=hq_
   subst e4
   refine wpAny_release ⟨σ,_,I4,O3,Γ,_,w,((st1.trans st2).trans st3).trans (Step.put (gA hp) _),ok3.put hp (q.set rd j),(((env.mono st1).mono st2).mono st3).mono (Step.put (gA hp) _)⟩
def BdW(X:Cx)(tg:Expr)(d:D)(Γ:Gam)(S:Store)(W:Gam->Store->Prop):Prop:=
 ∀ (pins:Pins)(s:Shared)(σ:St)(H:Hp)(O:Own)(v:V)(u:Value),Inv X pins σ H s->EnvOk X.K O H σ Γ->StOk X.K O H S->Rep X.K O H v d->RelV v u->
   wpAny (model X.prog X.w) X.A (assign tg X.env u) (λ _ s'=>∃σ' H',Inv X pins σ' H' s'/\QN X.K O H W σ' H') X.xe s
def yF(X:Cx)(ts:List Expr)(ds:List D)(Γ:Gam)(S:Store)(W:Gam->Store->Prop):Prop:=
 ∀ (pins:Pins)(s:Shared)(σ:St)(H:Hp)(O:Own)(vs:List V)(us:List Value),Inv X pins σ H s->EnvOk X.K O H σ Γ->StOk X.K O H S->Reps X.K O H vs ds->Vals vs us->
   wpAny (model X.prog X.w) X.A (assignInOrder ((assignEach ts X.env).map (·.2)) us) (λ _ s'=>∃σ' H',Inv X pins σ' H' s'/\QN X.K O H W σ' H') X.xe s
theorem KH(i:Nat){x:Str}{d:D}{W:Gam->Store->Prop}(w:W (Γ.set i (some d)) S)(hN:X.N.Nodup)(hi:X.N[i]? =some x:=by rfl)(hx:Loc X.env.scope x:=by first | exact Or.inl rfl | exact Or.inr rfl)
 (hf:X.fn x=true∨X.env.scope.names.lookup x=some .local:=by first | exact .inl rfl | exact .inr rfl):BdW X (.Name x pos) d Γ S W:=λ pins s σ H O v u I env st r ru=>
 wpAny_assign_Name (zO I hN hi hx ru (λ s' I'=>⟨_,H,I',O,_,S,w,Step.refl O H,st,env.set r i⟩) hf)
theorem Kz{W:Gam->Store->Prop}(w:W Γ S):yF X [] [] Γ S W:=λ pins s σ H O vs us I env st r ru=>by
 cases r
 cases ru
 exact assignInOrder_nil ⟨σ,H,I,O,Γ,S,w,Step.refl O H,st,env⟩
theorem JS{t:Expr}{ts:List Expr}{W:Gam->Store->Prop}(h:BdW X t d Γ S λ Γ1 S1=>yF X ts ds Γ1 S1 W)
 (hs:(assignEach (t::ts) X.env).map (·.2)=assign t X.env::(assignEach ts X.env).map (·.2):=by rfl):yF X (t::ts) (d::ds) Γ S W:=λ pins s σ H O vs us I env st r ru=>by
 cases r with
 | cons r rr=>
   cases ru with
   | cons ru rru=>
     rw[hs]
     refine assignInOrder_cons (thn (h pins s σ H O _ _ I env st r ru) λ _ s1 hq_=>?_)
     obtain⟨σ1,H1,I1,O1,Γ1,S1,w,st1,ok1,env1⟩:=hq_
     refine thn (w pins s1 σ1 H1 O1 _ _ I1 env1 ok1 (rr.mono st1) rru) λ _ s2 hq_=>by obtain⟨σ2,H2,I2,q⟩:=hq_;exact⟨σ2,H2,I2,QN.pre st1 q⟩
theorem Pz{ts:List Expr}{W:Gam->Store->Prop}(h:yF X ts ds Γ S W)(hc:X.calm=true:=by rfl)(hn:(assignEach ts X.env).length=ds.length:=by rfl)(hst:(assignEach ts X.env).findIdx? (·.1)=none:=by rfl):BdW X (.Tuple ts k pos) (.tup ds) Γ S W:=λ pins s σ H O v u I env st r ru=>by
 cases r with
 | @tup p xs _ h1 q1=>
   cases ru
   obtain⟨its,rv,ht,hz⟩:=I.tuple h1.sq
   refine assign_Tuple_tuple (I.ok.hd hc) ht (by simp[hn,←q1.length,rv.length]) hst λ h' hx=>?_
   have I1:Inv X pins σ H {s with heap:=h'}:=I.kept (t':=s.toks) λ b o e=>hx b o (v3 (Heap.lt_size e)) e
   exact h pins _ σ H O xs _ I1 env st q1 (by simpa using rv)
def gq(K:PySem.W.Frag)(J:It)(O:Own)(H:Hp)(ds:List D):Prop:=
 ∀(O':Own)(H':Hp),Conv O O' H H'->(∀a,O'.has a->H' a≠none)->∀i:Nat,(∀d,ds[i]? =some d->J.go i H'/\∀x H'',J.yld i H' x H''->dG H' H''/\Rep K O' H'' x d)/\(i=ds.length->J.stop i H')
def QI(K:PySem.W.Frag)(O:Own)(H:Hp)(W:List D->Store->Prop):It->Hp->Prop:=λ J H'=>∃O' ds S',W ds S'/\Step O O' H H'/\StOk K O' H' S'/\gq K J O' H' ds
def ItW(X:Cx)(Γ:Gam)(S:Store)(tg iter:Expr)(W:List D->Store->Prop):Prop:=
 ∀ (pins:Pins)(s:Shared)(σ:St)(H:Hp)(O:Own),Inv X pins σ H s->EnvOk X.K O H σ Γ->StOk X.K O H S->
   wpAny (model X.prog X.w) X.A (eval iter X.env) (λ v s1=>wpAny (model X.prog X.w) X.A (pyIter v) (PIE X pins σ tg (QI X.K O H W)) X.xe s1) X.xe s
theorem nO{a:Addr}(h:Ls K O H a xs)(r:Reps K O H xs ds):gq K (Itl K a) O H ds:=by
 intro O' H' st _ i
 have hq:=(h.conv st).sq
 refine⟨λ d hd=>?_,λ hi=>⟨xs,hq,by rw[r.length];exact Nat.le_of_eq hi.symm⟩⟩
 obtain⟨v,hv,rv⟩:=r.get hd
 refine⟨⟨xs,v,hq,hv⟩,λ x H'' y=>?_⟩
 obtain⟨e,y⟩:=y
 subst e
 have e:=y xs hq
 rw[hv]at e
 cases e
 exact⟨dG.refl _,rv.conv st⟩
theorem rZ{a:Addr}(h:Tp K O H a xs)(r:Reps K O H xs ds):gq K (Itt K a) O H ds:=by
 intro O' H' st _ i
 have hq:=(h.conv st).sq
 refine⟨λ d hd=>?_,λ hi=>⟨xs,hq,by rw[r.length];exact Nat.le_of_eq hi.symm⟩⟩
 obtain⟨v,hv,rv⟩:=r.get hd
 refine⟨⟨xs,v,hq,hv⟩,λ x H'' y=>?_⟩
 obtain⟨e,y⟩:=y
 subst e
 have e:=y xs hq
 rw[hv]at e
 cases e
 exact⟨dG.refl _,rv.conv st⟩
def upTo(lo:Int)(n:Nat):List D:=(List.range n).map λ(k:Nat)=>D.int (lo+(k:Int))
theorem aC(lo:Int)(n:Nat):(upTo lo n).length=n:=by simp[upTo]
theorem fP{lo:Int}{n i:Nat}(h:(upTo lo n)[i]? =some d):i<n/\d=.int (lo+i):=by
 unfold upTo at h
 rw[y7]at h
 cases e:(List.range n)[i]? with
 | none=>rw[e]at h;cases h
 | some k=>
   rw[e]at h
   obtain⟨hl,hk⟩:=z0.mp e
   simp at hl hk
   subst hk
   cases h
   exact⟨hl,rfl⟩
theorem mG(lo:Int)(n:Nat):gq K (Itr lo n) O H (upTo lo n):=by
 intro O' H' st _ i
 refine⟨λ d hd=>?_,λ hi=>by rw[aC]at hi;exact Nat.le_of_eq hi.symm⟩
 obtain⟨hi,ed⟩:=fP hd
 subst ed
 refine⟨hi,λ x H'' y=>?_⟩
 obtain⟨e,ex⟩:=y
 subst e
 subst ex
 exact⟨dG.refl _,.int _⟩
theorem FT{tg a:Expr}{W:List D->Store->Prop}(h:Ev X Γ S a λ d S1=>∃j:Int,d=.int j/\ -(2 ^ 62)≤j/\j<2 ^ 62/\W (upTo 0 j.toNat) S1)(hm:X.mg "range"=none)(hg:Gl X "range":=by rfl)(hs:starEach [a] X.env=[(false,eval a X.env)]:=by rfl):
 ItW X Γ S tg (.Call (.Name "range" p) [a] [] pos) W:=by
 intro pins s σ H O I env st
 refine Fv hg hm (gU h.pe su hs) hs pins s σ H _ I ⟨O,env,st,λ v H' q=>?_⟩
 obtain⟨O',d,S',⟨j,ed,h1,h2,w⟩,st1,ok1,rep⟩:=q
 subst ed
 cases rep
 exact⟨j,rfl,h1,h2,O',_,S',w,st1,ok1,mG 0 _⟩
theorem Gd{tg a b:Expr}{W:List D->Store->Prop}(h:Ev X Γ S a λ d S1=>Ev X Γ S1 b λ d' S2=>∃i j:Int,d=.int i/\d'=.int j/\(-(2 ^ 62)≤i/\i<2 ^ 62/\ -(2 ^ 62)≤j/\j<2 ^ 62)/\W (upTo i (j-i).toNat) S2)(hm:X.mg "range"=none)(hg:Gl X "range":=by rfl)
 (hs:starEach [a,b] X.env=[(false,eval a X.env),(false,eval b X.env)]:=by rfl)(hs2:starEach [b] X.env=[(false,eval b X.env)]:=by rfl):
 ItW X Γ S tg (.Call (.Name "range" p) [a,b] [] pos) W:=by
 intro pins s σ H O I env st
 have hA:EvA X Γ S [a,b] λ ds S2=>∃i j:Int,ds=[.int i,.int j]/\(-(2 ^ 62)≤i/\i<2 ^ 62/\ -(2 ^ 62)≤j/\j<2 ^ 62)/\W (upTo i (j-i).toNat) S2:=
  dw (h.mono λ d S1 h1=>dw (h1.mono λ d' S2 ⟨i,j,e1,e2,hb,w⟩=>gR ⟨i,j,by rw[e1,e2],hb,w⟩) hs2) (by rw[hs,hs2])
 refine Fg hg hm hA.pa hs hs2 pins s σ H _ I ⟨O,env,st,λ v H' q=>?_⟩
 obtain⟨O',ds,S',⟨i,j,ed,hb,w⟩,st1,ok1,rep⟩:=q
 subst ed
 cases rep with
 | cons r1 r2=>
   cases r2 with
   | cons r2 r3=>
     cases r3
     cases r1
     cases r2
     exact⟨i,j,rfl,hb,O',_,S',w,st1,ok1,mG i _⟩
theorem RC{tg iter:Expr}{body:List Stmt}(h:ItW X Γ S tg iter λ ds S1=>∃Pv:Nat->Gam->Store->Prop,Pv 0 Γ S1/\
 (∀i d Γ' S',ds[i]? =some d->Pv i Γ' S'->BdW X tg d Γ' S' λ Γ2 S2=>Rns X Γ2 S2 body {W with nx:=Pv (i+1),ct:=Pv (i+1),bk:=W.nx})/\(∀Γ' S',Pv ds.length Γ' S'->W.nx Γ' S'))
 (hp:PassesOwn (model X.prog X.w) X.A X.env X.xe:=by exact PassesOwn.never)(hc:X.calm=true:=by rfl)(hs:∀x,foldedSetIterable iter X.env x=pure x:=by intro _;rfl):Rn X Γ S (.For tg iter body [] pos) W:=by
 intro pins s σ H O I env ok
 let WI:List D->Store->Prop:=λ ds S1=>∃Pv:Nat->Gam->Store->Prop,Pv 0 Γ S1/\
     (∀i d Γ' S',ds[i]? =some d->Pv i Γ' S'->BdW X tg d Γ' S' λ Γ2 S2=>Rns X Γ2 S2 body {W with nx:=Pv (i+1),ct:=Pv (i+1),bk:=W.nx})/\(∀Γ' S',Pv ds.length Γ' S'->W.nx Γ' S')
 have hI:PI X tg iter (λ σ H R=>∃O,EnvOk X.K O H σ Γ/\StOk X.K O H S/\∀J H',QI X.K O H WI J H'->R J H'):=λ pins s σ H R I hh=>by
  obtain⟨O,env,st,k⟩:=hh
  refine thn (h pins s σ H O I env st) λ _ _ q=>thn q λ _ _ q2=>?_
  obtain⟨it,fp,tn,J,H',e1,e2,e3,e4,e5,e6⟩:=q2
  exact⟨it,fp,tn,J,H',e1,e2,e3,e4,e5,k J H' e6⟩
 have hG:PG X tg (λ v σ H Q=>∃O d Γ S W',EnvOk X.K O H σ Γ/\StOk X.K O H S/\Rep X.K O H v d/\BdW X tg d Γ S W'/\∀σ' H',QN X.K O H W' σ' H'->Q σ' H'):=λ pins s σ H v u Q I ru hh=>by
  obtain⟨O,d,Γ,S,W',env,st,r,b,k⟩:=hh
  refine thn (b pins s σ H O v u I env st r ru) λ _ _ q2=>?_
  obtain⟨σ',H',I',q⟩:=q2
  exact⟨σ',H',I',k σ' H' q⟩
 have hB:PSs X body (λ D σ H=>∃O Γ S W',EnvOk X.K O H σ Γ/\StOk X.K O H S/\Rns X Γ S body W'/\(∀σ' H',QN X.K O H W'.nx σ' H'->D.nx σ' H')/\(∀v H',QG X.K O H W'.rt v H'->D.rt v H')/\(∀σ' H',QN X.K O H W'.bk σ' H'->D.bk σ' H')/\∀σ' H',QN X.K O H W'.ct σ' H'->D.ct σ' H'):=
  λ pins s σ H D I hh=>by
   obtain⟨O,Γ,S,W',env,st,b,k1,k2,k3,k4⟩:=hh
   refine thn (b pins s σ H O I env st) λ f s' q=>?_
   cases f with
   | next=>obtain⟨σ',H',I',q⟩:=q;exact⟨σ',H',I',k1 σ' H' q⟩
   | brk=>obtain⟨σ',H',I',q⟩:=q;exact⟨σ',H',I',k3 σ' H' q⟩
   | cont=>obtain⟨σ',H',I',q⟩:=q;exact⟨σ',H',I',k4 σ' H' q⟩
   | ret u=>obtain⟨v,σ',H',I',r,q⟩:=q;exact⟨v,σ',H',I',r,k2 v H' q⟩
 refine Hs hp hc hI hG hB hs pins s σ H _ I ⟨O,env,ok,λ J H1 q=>?_⟩
 obtain⟨O1,ds,S1,⟨Pv,p0,pt,pe⟩,st1,ok1,yl⟩:=q
 refine⟨λ i m σ' H'=>m=ds.length-i/\i≤ds.length/\∃O' Γ' S',Pv i Γ' S'/\Step O1 O' H1 H'/\StOk X.K O' H' S'/\EnvOk X.K O' H' σ' Γ',⟨ds.length,by simp,Nat.zero_le _,O1,Γ,S1,p0,Step.refl _ _,ok1,env.mono st1⟩,?_⟩
 rintro i m σ2 H2 ⟨rfl,hi,O2,Γ2,S2,p2,st2,ok2,env2⟩
 obtain⟨y1,y2⟩:=yl O2 H2 st2.conv (λ a ha=>ok2.tracked ha) i
 by_cases hlt:i<ds.length
 . obtain⟨go,yy⟩:=y1 ds[i] (y0 hlt)
   refine .inr ⟨go,λ σ' H'=>i+1≤ds.length/\∃O' Γ' S',Pv (i+1) Γ' S'/\Step O1 O' H1 H'/\StOk X.K O' H' S'/\EnvOk X.K O' H' σ' Γ',λ σ' H' q=>⟨ds.length-(i+1),by omega,rfl,q.1,q.2⟩,λ x H3 y=>?_⟩
   obtain⟨sm,rx⟩:=yy x H3 y
   have st3:=Step.same (O:=O2) sm
   refine⟨O2,ds[i],Γ2,S2,_,env2.mono st3,ok2.same sm,rx,pt i ds[i] Γ2 S2 (y0 hlt) p2,λ σ4 H4 q4=>?_⟩
   obtain⟨O4,Γ4,S4,w4,st4,ok4,env4⟩:=q4
   have stA:=(st2.trans st3).trans st4
   refine⟨O4,Γ4,S4,_,env4,ok4,w4,?_,?_,?_,?_⟩
   . rintro σ5 H5 ⟨O5,Γ5,S5,w5,st5,ok5,env5⟩
     exact⟨hlt,O5,Γ5,S5,w5,stA.trans st5,ok5,env5⟩
   . exact λ v H' q=>QG.pre (st1.trans stA) q
   . exact λ σ' H' q=>QN.pre (st1.trans stA) q
   . rintro σ5 H5 ⟨O5,Γ5,S5,w5,st5,ok5,env5⟩
     exact⟨hlt,O5,Γ5,S5,w5,stA.trans st5,ok5,env5⟩
 . have e:i=ds.length:=by omega
   subst e
   exact .inl ⟨y2 rfl,O2,Γ2,S2,pe Γ2 S2 p2,st1.trans st2,ok2,env2⟩
theorem Rb {P:Program}{w:World}{mg:Str->Option Value}{base:Heap}{qual:Str}{sm:Stmt}{f:Addr}{fd:FuncData}{N ps:List Str}{F:Ct}(FF:Fun K x qual sm f fd)(SC:FnScope N ps (aj sm))
 (body:∀(cdv:Value)(A:Around)(outer:List Env)(s:Shared)(H:Hp)(E:XK)(ds:List D)(S:Store)(W:WD),fd.code=cdv->Room k (A.deeper (envOfC qual (aj sm) s.heap.objs.size f cdv))->ds.length=ps.length->F ds S W->
  Rns (cC CX0 P w K mg base N qual (aj sm) f cdv A outer s H E).nox (ds.map some++List.replicate (N.length-ds.length) none) S (ak sm) {nx:=λ _ S1=>W .non S1,rt:=W}):FnOk P w K mg base CX0 (k+1) f fd ps (spC K ps.length F):=by
 obtain⟨oc,od,kV,doc,pm,an,cdv,ct,osl,rfl,lk,hcd⟩:=FF.ex
 refine J6 lk hcd SC (λ vs H Q E h=>?_) λ A outer s H vs Q E hr h=>?_
 . obtain⟨O,ds,S,W,hl,r,_⟩:=h
   rw[r.length,hl]
 . obtain ⟨O,ds,S,W,hl,r,st,hF,q⟩:=h
   have hB:=body cdv A outer s H E ds S W rfl hr hl hF
   suffices key:∃t,PSs (cC CX0 P w K mg base N qual (aj sm) f cdv A outer s H E).nox (ak sm) t/\t {nx:=λ _ H'=>Q .non H',rt:=Q} (L2.start N vs) H from let ⟨t,h,q⟩:=key;⟨t,h.nox,q⟩
   refine⟨λ D σ H'=>∃O Γ S W',EnvOk K O H' σ Γ/\StOk K O H' S/\Rns (cC CX0 P w K mg base N qual (aj sm) f cdv A outer s H E).nox Γ S (ak sm) W'/\(∀σ' H2,QN K O H' W'.nx σ' H2->D.nx σ' H2)/\(∀v H2,QG K O H' W'.rt v H2->D.rt v H2)/\(∀σ' H2,QN K O H' W'.bk σ' H2->D.bk σ' H2)/\∀σ' H2,QN K O H' W'.ct σ' H2->D.ct σ' H2,?_,?_⟩
   . intro pins s σ H' D I ⟨O,Γ,S,W',env,st,b,k1,k2,k3,k4⟩
     refine thn (b pins s σ H' O I env st) λ f s' q=>?_
     cases f with
     | next=>obtain⟨σ',H',I',q⟩:=q;exact⟨σ',H',I',k1 σ' H' q⟩
     | brk=>obtain⟨σ',H',I',q⟩:=q;exact⟨σ',H',I',k3 σ' H' q⟩
     | cont=>obtain⟨σ',H',I',q⟩:=q;exact⟨σ',H',I',k4 σ' H' q⟩
     | ret u=>obtain⟨v,σ',H',I',r,q⟩:=q;exact⟨v,σ',H',I',r,k2 v H' q⟩
   . refine⟨O,_,S,_,?_,st,hB,?_,?_,?_,?_⟩
     . have hv:vs.length=ds.length:=r.length
       refine⟨by simp[L2.start,hv],λ i d h=>?_⟩
       by_cases hi:i<ds.length
       . rw[x9 (by simpa using hi),y7]at h
         cases e:ds[i]? with
         | none=>rw[e]at h;cases h
         | some d'=>
           rw[e]at h
           cases h
           obtain⟨v,hv',rv⟩:=r.get e
           refine⟨v,?_,rv⟩
           unfold L2.start
           rw[x9 (by rw[y6,hv];exact hi),y7,hv']
           rfl
       . rw[List.getElem?_append_right (by simpa using hi),List.getElem?_replicate]at h
         split at h<;>cases h
     . rintro σ' H2 ⟨O',Γ',S',w,st',ok',_⟩
       exact q _ _ ⟨O',.non,S',w,st',ok',.non⟩
     . exact λ v H2 z=>q v H2 z
     . rintro σ' H2 ⟨_,_,_,w,_⟩
       exact w.elim
     . rintro σ' H2 ⟨_,_,_,w,_⟩
       exact w.elim
end
end DL
namespace DL
open PySem PySem.Spec L2
open PyProof.Rows
variable {K : PySem.W.Frag} {O : Own} {H : Hp} {s : Shared}
def rk(env:Env)(n:Str)(k:NameKind):NameKind:=if(k==NameKind.free&&env.scope.kind==.function&&env.kindOf n==some .cell)=true then .cell else k
theorem j9(sc:Scope)(env:Env):(relabel sc env).names=sc.names.map λ p=>(p.1,rk env p.1 p.2):=by
 show sc.names.map _=_
 congr 1
 funext p
 obtain⟨n,k⟩:=p
 unfold rk
 by_cases h:(k==NameKind.free&&env.scope.kind==.function&&env.kindOf n==some .cell)=true
 . simp only[h,if_true]
 . simp only[h,if_false,Bool.false_eq_true]
theorem fB(g:Str->NameKind->NameKind)(x:Str):∀names:List (Str×NameKind),(names.map λ p=>(p.1,g p.1 p.2)).lookup x=(names.lookup x).map (g x)
 | []=>rfl
 | (n,k)::r=>by
   have ih:=fB g x r
   rw[List.map_cons,List.lookup_cons,List.lookup_cons]
   cases hx:x==n with
   | true=>rw[eq_of_beq hx];rfl
   | false=>exact ih
theorem pJ(env:Env)(n:Str)(k:NameKind):rk env n k=k∨(k=.free/\rk env n k=.cell):=by
 unfold rk
 by_cases h:(k==NameKind.free&&env.scope.kind==.function&&env.kindOf n==some .cell)=true
 . rw[if_pos h]
   rw[Bool.and_eq_true,Bool.and_eq_true]at h
   exact .inr ⟨eq_of_beq h.1.1,rfl⟩
 . rw[if_neg h];exact .inl rfl
theorem jV{env:Env}{sc:Scope}{x:Str}{k:NameKind}(h:(relabel sc env).names.lookup x=some k):∃k0,sc.names.lookup x=some k0/\(k=k0∨(k0=.free/\k=.cell)):=by
 rw[j9,fB]at h
 cases e:sc.names.lookup x with
 | none=>rw[e]at h;cases h
 | some k0=>
   rw[e]at h
   have h':rk env x k0=k:=Option.some.inj h
   refine⟨k0,rfl,?_⟩
   rcases pJ env x k0 with q | ⟨q1,q2⟩
   . exact .inl (h'.symm.trans q)
   . exact .inr ⟨q1,h'.symm.trans q2⟩
theorem zB{env:Env}{sc:Scope}{x:Str}(h:sc.names.lookup x=some .free):(relabel sc env).names.lookup x=some .cell∨(relabel sc env).names.lookup x=some .free:=by
 rw[j9,fB,h]
 rcases pJ env x .free with q | ⟨_,q⟩
 . exact .inr (congrArg some q)
 . exact .inl (congrArg some q)
def closes(env:Env):List (Str×NameKind)->List (Str×Addr)->List (Str×Addr)
 | [],cs=>cs
 | (n,k)::r,cs=>closes env r (if k==.free then(n,(env.cells.lookup n).getD 0)::cs else cs)
theorem nY{env:Env}:∀(names:List (Str×NameKind))(cs:List (Str×Addr)),(∀y∈names,y.2=.free->∃c,env.cells.lookup y.1=some c)->
 (forIn (m:=Sem) names cs λ x r=>if(x.2==.free)=true then do let a ←cellOf env x.1;pure (ForInStep.yield ((x.1,a)::r))else pure (ForInStep.yield r))=pure (closes env names cs)
 | [],cs,_=>by rw[List.forIn_nil];rfl
 | (n,k)::r,cs,h=>by
   rw[List.forIn_cons]
   have ih:=λ cs=>nY (env:=env) r cs λ y hy=>h y (y9 _ hy)
   by_cases hk:(k==NameKind.free)=true
   . obtain⟨c,hc⟩:=h (n,k) x6 (eq_of_beq hk)
     have hc':env.cells.lookup n=some c:=hc
     have e:cellOf env n=pure c:=by unfold cellOf;rw[hc']
     have q:=ih ((n,c)::cs)
     simp only[hk,if_true,e,pure_bind]
     rw[q]
     simp[closes,hk,hc']
   . have q:=ih cs
     simp only[hk,if_false,pure_bind,Bool.false_eq_true]
     rw[q]
     simp[closes,hk]
theorem lw{env:Env}{sc:Scope}(h:∀y∈sc.names,y.2=.free->∃c,env.cells.lookup y.1=some c):closureFor sc env=pure (closes env sc.names []):=by
 have q:=nY (env:=env) sc.names [] h
 unfold closureFor
 first
  | (simp only[bind_pure];exact q)
  | (rw[show(forIn sc.names ([]:List (Str×Addr)) _:Sem _)=_ from q];rfl)
  | (refine Eq.trans (congrArg (λ t=>t>>=pure) q) ?_;simp)
theorem n6{env:Env}{x:Str}{c:Addr}:∀(names:List (Str×NameKind))(cs:List (Str×Addr)),(∀y∈names,y.2=.free->∃c,env.cells.lookup y.1=some c)->(∀c,cs.lookup x=some c->env.cells.lookup x=some c)->(closes env names cs).lookup x=some c->env.cells.lookup x=some c
 | [],cs,_,hc,h=>hc c h
 | (n, k)::r,cs,hf,hc,h=>by
   refine n6 r _ (λ y hy=>hf y (y9 _ hy)) ?_ h
   intro c' h'
   by_cases hk:(k==NameKind.free)=true
   . rw[if_pos hk]at h'
     obtain⟨c2,h2⟩:=hf (n,k) x6 (eq_of_beq hk)
     have h2:env.cells.lookup n=some c2:=h2
     rw[List.lookup_cons]at h'
     cases hx:x==n with
     | true=>
       rw[hx,h2]at h'
       have e:x=n:=eq_of_beq hx
       subst e
       simp only[Option.getD_some]at h'
       cases h'
       exact h2
     | false=>rw[hx]at h';exact hc c' h'
   . rw[if_neg hk]at h'
     exact hc c' h'
theorem gP{env:Env}{x:Str}:∀(names:List (Str×NameKind))(cs:List (Str×Addr)),((∃c,cs.lookup x=some c)∨names.lookup x=some .free)->∃c,(closes env names cs).lookup x=some c
 | [],cs,h=>by
   rcases h with h | h
   . exact h
   . simp at h
 | (n, k)::r,cs,h=>by
   refine gP r _ ?_
   rcases h with⟨c,h⟩ | h
   . refine .inl ?_
     by_cases hk:(k==NameKind.free)=true
     . rw[if_pos hk,List.lookup_cons]
       cases hx:x==n with
       | true=>exact⟨_,rfl⟩
       | false=>exact⟨c,h⟩
     . rw[if_neg hk];exact⟨c,h⟩
   . rw[List.lookup_cons]at h
     cases hx:x==n with
     | true=>
       rw[hx]at h
       simp only at h
       cases h
       refine .inl ⟨(env.cells.lookup n).getD 0,?_⟩
       simp[List.lookup_cons,hx]
     | false=>rw[hx]at h;exact .inr h
def gb(X:Cx)(sc:Scope)(N:List Str)(C:Addr)(s:Shared)(H:Hp)(ex:List Addr)(cl:List (Str×Addr)):Cx:=
 {X with N:=N,s₀:=s,H₀:=H,env:=compEnvC sc cl C X.env,outer:=X.stack,stack:=X.stack,ex:=ex,fn:=λ x=>sc.names.lookup x==some .cell,pn:=[]}
def capt{α:Type}(cap:List (Option Nat))(xs:List (Option α)):List (Option α):=cap.map λ o=>o.bind λ j=>(xs[j]?).join
def aX(N:List Str)(names:List (Str×NameKind))(N':List Str)(names':List (Str×NameKind)):List (Option Nat)->List Str->Bool
 | [],[]=>true
 | none::r,_::t=>aX N names N' names' r t
 | some j::r,x::t=>(N[j]? ==some x)&&(names.lookup x==some .cell||names.lookup x==some .free)&&(names'.lookup x==some .free)&&aX N names N' names' r t
 | _,_=>false
theorem mj{N:List Str}{names:List (Str×NameKind)}{N':List Str}{names':List (Str×NameKind)}:∀{cap:List (Option Nat)}{t:List Str},aX N names N' names' cap t=true->cap.length=t.length
 | [],[],_=>rfl
 | [],_::_,h=>by simp[aX]at h
 | _::_,[],h=>by
   rename_i o r
   cases o<;>simp[aX]at h
 | none::r,_::t,h=>by simp only[aX]at h;simp[mj h]
 | some j::r,x::t,h=>by
   simp only[aX,Bool.and_eq_true]at h
   simp[mj h.2]
theorem pX{N:List Str}{names:List (Str×NameKind)}{N':List Str}{names':List (Str×NameKind)}:∀{cap:List (Option Nat)}{t:List Str}{i j:Nat},aX N names N' names' cap t=true->cap[i]? =some (some j)->
 ∃x,t[i]? =some x/\N[j]? =some x/\(names.lookup x=some .cell∨names.lookup x=some .free)/\names'.lookup x=some .free
 | [],_,_,_,_,h=>by simp at h
 | none::r,[],_,_,h,_=>by simp[aX]at h
 | some _::r,[],_,_,h,_=>by simp[aX]at h
 | none::r,x::t,0,j,_,h=>by simp at h
 | none::r,x::t,i+1,j,h,e=>by
   simp only[aX]at h
   obtain⟨y,a,b⟩:=pX (i:=i) h (by simpa using e)
   exact⟨y,by simpa using a,b⟩
 | some k::r,x::t,0,j,h,e=>by
   simp only[aX,Bool.and_eq_true,Bool.or_eq_true,beq_iff_eq]at h
   simp at e
   subst e
   exact⟨x,rfl,h.1.1.1,h.1.1.2,h.1.2⟩
 | some k::r,x::t,i+1,j,h,e=>by
   simp only[aX,Bool.and_eq_true]at h
   obtain⟨y,a,b⟩:=pX (i:=i) h.2 (by simpa using e)
   exact⟨y,by simpa using a,b⟩
theorem BZ{α:Type}{cap:List (Option Nat)}{xs:List (Option α)}{i:Nat}{d:α}(h:(capt cap xs)[i]? =some (some d)):∃j,cap[i]? =some (some j)/\xs[j]? =some (some d):=by
 unfold capt at h
 rw[y7]at h
 cases e:cap[i]? with
 | none=>rw[e]at h;cases h
 | some o=>
   rw[e]at h
   cases o with
   | none=>simp at h
   | some j=>
     simp at h
     refine⟨j,rfl,?_⟩
     cases q:xs[j]? with
     | none=>rw[q]at h;cases h
     | some z=>rw[q]at h;simp at h;rw[h]
theorem EnvOk.capt{σ:St}{Γ:Gam}(e:EnvOk K O H σ Γ)(cap:List (Option Nat)):EnvOk K O H (capt cap σ) (capt cap Γ):=by
 refine⟨by simp[DL.capt],λ i d h=>?_⟩
 obtain⟨j,hj,hd⟩:=BZ h
 obtain⟨v,hv,r⟩:=e.at_ j d hd
 refine⟨v,?_,r⟩
 unfold DL.capt
 rw[y7,hj]
 simp[hv]
def Sub(Γ Γ':Gam):Prop:=Γ.length=Γ'.length/\∀(i:Nat)(d:D),Γ[i]? =some (some d)->Γ'[i]? =some (some d)
theorem Sub.refl(Γ:Gam):Sub Γ Γ:=⟨rfl,λ _ _ h=>h⟩
theorem Sub.set{Γ Γ':Gam}(s:Sub Γ Γ')(i:Nat)(d:Option D)(h:Γ[i]? =some none:=by rfl):Sub Γ (Γ'.set i d):=⟨by rw[List.length_set];exact s.1,λ j c hj=>by
 have ne:i≠j:=λ e=>by subst e;rw[h]at hj;cases hj
 rw[List.getElem?_set_ne ne];exact s.2 j c hj⟩
theorem EnvOk.sub{σ:St}{Γ Γ':Gam}(e:EnvOk K O H σ Γ')(s:Sub Γ Γ'):EnvOk K O H σ Γ:=⟨e.len.trans s.1.symm,λ i d h=>e.at_ i d (s.2 i d h)⟩
theorem EnvOk.conv{O':Own}{H':Hp}{σ:St}{Γ:Gam}(e:EnvOk K O H σ Γ)(s:Conv O O' H H'):EnvOk K O' H' σ Γ:=
 ⟨e.len,λ i d h=>let ⟨v,a,b⟩:=e.at_ i d h;⟨v,a,b.conv s⟩⟩
def freeOk(names names':List (Str×NameKind)):Bool:=names'.all λ y=>!(y.2==.free)||(names.lookup y.1==some .cell||names.lookup y.1==some .free)
theorem lO{names names':List (Str×NameKind)}(h:freeOk names names'=true):∀y∈names',y.2=.free->names.lookup y.1=some .cell∨names.lookup y.1=some .free:=λ y hy e=>by
 have q:=List.all_eq_true.mp h y hy
 simp only[e,beq_self_eq_true,Bool.not_true,Bool.false_or,Bool.or_eq_true,beq_iff_eq]at q
 exact q
def z7(names:List (Str×NameKind)):Bool:=match names.filter (λ y=>y.2==.cell)with
 | []=>true
 | [y]=>names.lookup y.1==some .cell
 | _=>false
theorem z8{names:List (Str×NameKind)}(h:names.filter (λ y=>y.2==.cell)=[])(n:Nat)(acc:List (Str×Addr))(hp:Heap):cellsFrom n names acc=acc/\pushCells hp names=hp:=by
 induction names with
 | nil=>exact⟨rfl,rfl⟩
 | cons y r ih=>
   obtain⟨x,k⟩:=y
   rw[List.filter_cons]at h
   by_cases hk:(k==NameKind.cell)=true
   . rw[if_pos hk]at h;cases h
   . rw[if_neg hk]at h
     obtain⟨i1,i2⟩:=ih h
     unfold cellsFrom pushCells
     rw[if_neg hk,if_neg hk]
     exact⟨i1,i2⟩
theorem vO{names:List (Str×NameKind)}{t:Str×NameKind}(h:names.filter (λ y=>y.2==.cell)=[t])(n:Nat)(acc:List (Str×Addr))(hp:Heap):cellsFrom n names acc=(t.1,n)::acc/\pushCells hp names=hp.push {cls:=.type "cell",data:=.cell none}:=by
 induction names with
 | nil=>cases h
 | cons y r ih=>
   obtain⟨x,k⟩:=y
   rw[List.filter_cons]at h
   by_cases hk:(k==NameKind.cell)=true
   . rw[if_pos hk]at h
     have e:=List.cons.inj h
     obtain⟨i1,i2⟩:=z8 e.2 (n+1) ((x,n)::acc) (hp.push {cls:=.type "cell",data:=.cell none})
     unfold cellsFrom pushCells
     rw[if_pos hk,if_pos hk,i1,i2,←e.1]
     exact⟨rfl,rfl⟩
   . rw[if_neg hk]at h
     obtain⟨i1,i2⟩:=ih h
     unfold cellsFrom pushCells
     rw[if_neg hk,if_neg hk]
     exact⟨i1,i2⟩
theorem My{M:Model}{A:Around}{E:Value->Shared->Prop}{scope:Scope}{globals:Addr}{closure:List (Str×Addr)}{qual:Str}{outer:Env}{Q:Env->Shared->Prop}
 (hQ:Q (newEnv scope s.heap.objs.size globals (cellsFrom (s.heap.objs.size+1) scope.names closure) qual none .none (some outer) builtinsNs) {s with heap:=pushCells (s.heap.push {cls:=.type "dict",data:=.dict #[]}) scope.names}):
 wpAny M A (newFunctionEnv scope globals closure [] qual none .none (some outer)) Q E s:=by
 simp only[newFunctionEnv,Option.isSome_some,if_true]
 refine wpAny_bind (wpAny_alloc ?_)
 refine wpAny_bind (wpAny_layCells _ (λ name kind cells=>by cases hkc:kind==NameKind.cell<;>simp[hkc]) _ _ _ _ ?_)
 rw[show({s with heap:=s.heap.push {cls:=.type "dict",data:=.dict #[]}}:Shared).heap.objs.size=s.heap.objs.size+1 from Heap.size_push ..]
 rw[List.forIn_nil]
 exact wpAny_bind (wpAny_pure (wpAny_pure hQ))
structure CelsB(X:Cx)(sc:Scope)(cl:List (Str×Addr))(z:Nat)(h1:Heap):Prop where
 lk:∀x c,cl.lookup x=some c->X.env.cells.lookup x=some c∨(c=z/\sc.names.lookup x=some .cell/\h1.IsCell c none/\∀y,cl.lookup y=some c->y=x)
 has:∀x,sc.names.lookup x=some .cell∨sc.names.lookup x=some .free->∃c,cl.lookup x=some c
 cp:∀x c,sc.names.lookup x=some .free->X.env.cells.lookup x=some c->cl.lookup x=some c
 ow:∀x c,sc.names.lookup x=some .cell->cl.lookup x=some c->z≤c
section
variable {X : Cx}
theorem Lq{pins:Pins}{σ:St}{sc:Scope}{N':List Str}{cap:List (Option Nat)}{fp:List Addr}{h1:Heap}{t:Nat}(I:Inv X pins σ H s)(hfp:∀b∈fp,fC X pins H b)(hob:∀b∈fp,∃o,s.heap.get? b=some o)
 {cl:List (Str×Addr)}(hkind:sc.kind=.function)(hcl:CelsB X sc cl (s.heap.objs.size+2) h1)(hfree:∀y∈sc.names,y.2=.free->X.env.kindOf y.1=some .cell∨X.env.kindOf y.1=some .free)(hcap:aX X.N X.env.scope.names N' sc.names cap N'=true)
 (k:∀b u,s.heap.get? b=some u->h1.get? b=some u)(hD:h1.get? s.heap.objs.size=some {cls:=.type "list",data:=.seq #[] 0})(hC:∃m,h1.Ns (s.heap.objs.size+1) m):
 Inv (gb X sc N' (s.heap.objs.size+1) s H fp cl) [] (capt cap σ) (upd H s.heap.objs.size (.lst [])) {s with heap:=h1,toks:=t}:=by
 have fr0:H s.heap.objs.size=none:=I.hok.fresh (y8 _)
 have fr1:H (s.heap.objs.size+1)=none:=I.hok.fresh (Nat.le_succ _)
 have fr2:H (s.heap.objs.size+2)=none:=I.hok.fresh (by omega)
 have lt:∀b∈fp,b<s.heap.objs.size:=λ b hb=>let ⟨o,e⟩:=hob b hb;Heap.lt_size e
 have clt:∀{x c},X.env.cells.lookup x=some c->c<s.heap.objs.size:=λ{x c} h=>by
  obtain⟨v,q⟩:=I.cell x c h
  exact q.lt
 refine⟨⟨I.ok.mod,hkind,I.ok.glob,I.ok.blt,Nat.le_succ _,λ x y c a b=>?_,λ x hx=>?_,λ x c z e=>?_,I.ok.hd,I.ok.frames,.inl rfl,λ b hb=>⟨v3 (Nat.lt_succ_of_lt (lt b hb)),λ x c h=>?_⟩,
  I.bs,Nat.le_trans I.ok.bsz I.sz,λ b o e hb=>?_,λ b hb z=>?_,I.stack,I.stkFree⟩,rfl,I.bare,Un.laid k (y8 _) fr0,?_,λ x c h=>?_,?_,λ x c h=>?_,λ p hp=>absurd (show p∈([]:Pins)from hp) (by simp),I.hok.laid k (y8 _) ⟨Nat.zero_le _,[],0,.nil,hD⟩,?_⟩
 . rcases hcl.lk x c a with q | ⟨_,_,_,q⟩
   . rcases hcl.lk y c b with q' | ⟨_,_,_,q'⟩
     . exact I.ok.inj x y c q q'
     . exact q' x a
   . exact(q y b).symm
 . have hx':(relabel sc X.env).names.lookup x=some .cell∨(relabel sc X.env).names.lookup x=some .free:=hx
   have z:sc.names.lookup x=some .cell∨sc.names.lookup x=some .free:=by
    rcases hx' with q | q
    . obtain⟨k0,e,r⟩:=jV q
      rcases r with r | r
      . exact .inl (by rw[e,r])
      . exact .inr (by rw[e,r.1])
    . obtain⟨k0,e,r⟩:=jV q
      rcases r with r | r
      . exact .inr (by rw[e,r])
      . exact absurd r.2 (by decide)
   exact hcl.has x z
 . have z':sc.names.lookup x=some .cell:=eq_of_beq z
   have:=hcl.ow x c z' e
   show s.heap.objs.size≤c
   omega
 . rcases hcl.lk x c h with q | ⟨q,_⟩
   . exact(hfp b hb).2.2.2.2.1 x c q
   . exact λ e=>Nat.lt_irrefl _ (w9 (lt b hb) (by rw[←e,q];exact Nat.le_add_right _ _))
 . rcases(hfp b hb).2.2.2.1 with z | z
   . exact I.ok.noex b o e z
   . exact absurd (w9 (Heap.lt_size e) (Nat.le_trans I.ok.bsz z)) (Nat.lt_irrefl _)
 . rcases List.mem_cons.mp (I.stkSub b z)with q | q
   . exact(hfp b hb).2.1 q
   . exact(hfp b hb).2.2.1 q
 . obtain⟨m,hm⟩:=hC
   refine⟨m,hm,λ i x v e1 e2 e3=>?_⟩
   obtain⟨j,hj,hv⟩:=BZ e2
   obtain⟨y,a,b,c,d⟩:=pX hcap hj
   have e1':N'[i]? =some x:=e1
   rw[a]at e1'
   cases e1'
   obtain⟨m0,hn0,hl⟩:=I.loc
   have vis:Vis X.env.scope x:=by
    rcases c with c | c
    . exact .inr (.inl c)
    . exact .inr (.inr c)
   obtain⟨u,r,l⟩:=hl j x v b hv vis
   refine⟨u,r,?_⟩
   rcases l with⟨q,_⟩ | ⟨q,cc,hc,hcell'⟩
   . exfalso
     have q':X.env.scope.names.lookup x=some .local:=q
     rcases c with c | c<;>· rw[c]at q';cases q'
   . have h2:=hcl.cp x cc d hc
     obtain⟨o,ho,hd⟩:=hcell'
     refine .inr ⟨?_,cc,h2,⟨o,k _ _ ho,hd⟩⟩
     exact zB d
 . rcases hcl.lk x c h with q | ⟨_,_,q,_⟩
   . obtain⟨v,o,ho,hd⟩:=I.cell x c q
     exact⟨v,o,k _ _ ho,hd⟩
   . exact⟨_,q⟩
 . show upd H s.heap.objs.size (.lst []) (s.heap.objs.size+1)=none
   rw[aA (Nat.succ_ne_self _)];exact fr1
 . rcases hcl.lk x c h with q | ⟨q,_⟩
   . rw[aA (v3 (clt q))];exact I.freeC x c q
   . subst q
     rw[aA (Nat.ne_of_gt (Nat.lt_add_of_pos_right (by decide)))];exact fr2
 . show(capt cap σ).length=N'.length
   rw[←mj hcap]
   simp[capt]
theorem uV{α:Type}{t:Sem α}{Q:α->Shared->Prop}{M:Model}{A:Around}{E E':Value->Shared->Prop}(hx:E=λ _ _=>False)(h:wpAny M A t Q E s):wpAny M A t Q E' s:=wpAny_mono h (λ _ _ q=>q) λ _ _ z=>by rw[hx]at z;exact z.elim
def TsA(X:Cx)(Γ:Gam)(S:Store):List Expr->(Bool->Store->Prop)->Prop
 | [],W=>W true S
 | [c],W=>Ts X Γ S c W
 | _,_=>False
theorem Kp{X:Cx}{Γ:Gam}{S:Store}{ifs:List Expr}{W:Bool->Store->Prop}(h:TsA X Γ S ifs W){pins:Pins}{s:Shared}{σ:St}{H:Hp}{O:Own}(I:Inv X pins σ H s)(env:EnvOk X.K O H σ Γ)(st:StOk X.K O H S):
 wpAny (model X.prog X.w) X.A (forIn ifs true λ c r=>if r=true then do let ok ←isTrue c X.env (eval c X.env);pure (ForInStep.yield ok)else pure (ForInStep.yield r)) (TP X pins σ (QT X.K O H W)) X.xe s:=by
 match ifs,h with
 | [],h=>exact wpAny_tests_nil ⟨H,I,O,S,h,Step.refl O H,st⟩
 | [c],h=>exact wpAny_tests_one (h pins s σ H O I env st)
 | _::_::_,h=>exact h.elim
def uo(K:PySem.W.Frag)(J:It)(O:Own)(H:Hp)(C:Store->Prop)(ds:List D):Prop:=
 ∀(O':Own)(H':Hp)(S':Store),Conv O O' H H'->StOk K O' H' S'->C S'->∀i:Nat,(∀d,ds[i]? =some d->J.go i H'/\∀x H'',J.yld i H' x H''->dG H' H''/\Rep K O' H'' x d)/\(i=ds.length->J.stop i H')
def QIc(K:PySem.W.Frag)(O:Own)(H:Hp)(W:List D->(Store->Prop)->Store->Prop):It->Hp->Prop:=λ J H'=>∃O' ds C S',W ds C S'/\Step O O' H H'/\StOk K O' H' S'/\uo K J O' H' C ds
def ItC(X:Cx)(Γ:Gam)(S:Store)(tg iter:Expr)(W:List D->(Store->Prop)->Store->Prop):Prop:=
 ∀ (pins:Pins)(s:Shared)(σ:St)(H:Hp)(O:Own),Inv X pins σ H s->EnvOk X.K O H σ Γ->StOk X.K O H S->
   wpAny (model X.prog X.w) X.A (eval iter X.env) (λ v s1=>wpAny (model X.prog X.w) X.A (pyIter v) (PIE X pins σ tg (QIc X.K O H W)) X.xe s1) X.xe s
theorem pL{J:It}{ds:List D}(y:gq K J O H ds):uo K J O H (λ _=>True) ds:=λ O' H' S' st ok _ i=>y O' H' st (λ a ha=>ok.tracked ha) i
theorem ItW.toC{X:Cx}{Γ:Gam}{S:Store}{tg iter:Expr}{W:List D->(Store->Prop)->Store->Prop}(h:ItW X Γ S tg iter λ ds S1=>W ds (λ _=>True) S1):ItC X Γ S tg iter W:=λ pins s σ H O I env st=>
 thn (h pins s σ H O I env st) λ _ _ q=>thn q λ _ _ hq_=>by
  obtain⟨it,fp,tn,J,H',e1,e2,e3,e4,e5,O',ds,S',w,z1,z2,z3⟩:=hq_
  exact⟨it,fp,tn,J,H',e1,e2,e3,e4,e5,O',ds,_,S',w,z1,z2,pL z3⟩
abbrev yd(X:Cx)(sc:Scope)(N':List Str)(cap:List (Option Nat))(Γ:Gam)(elt tg:Expr)(ifs:List Expr)(W:WD):List D->(Store->Prop)->Store->Prop:=λ ds C0 S1=>
 ds.length≤1000000/\∃Pv:Nat->List D->Store->Prop,Pv 0 [] S1/\(∀i acc S',Pv i acc S'->C0 S')/\
  (∀i d acc S',ds[i]? =some d->Pv i acc S'->∀(C:Addr)(s:Shared)(H:Hp)(ex:List Addr)(cl:List (Str×Addr)),BdW (gb X sc N' C s H ex cl) tg d (capt cap Γ) S' λ Γ2 S2=>Sub (capt cap Γ) Γ2/\
   TsA (gb X sc N' C s H ex cl) Γ2 S2 ifs λ ok S3=>(ok=true->Ev (gb X sc N' C s H ex cl) Γ2 S3 elt λ y S4=>Pv (i+1) (acc++[y]) S4)/\(ok=false->Pv (i+1) acc S3))/\
  ∀acc S',Pv ds.length acc S'->W (.lst acc) S'∨W (.loc S'.length) (S'++[acc])
theorem vQ{Γ:Gam}{S:Store}{elt tg iter:Expr}{ifs:List Expr}{sc:Scope}{cpos:Pos}{N':List Str}{cap:List (Option Nat)}{W:WD}{E:Value->Shared->Prop}{pins:Pins}{σ:St}
 {RR:Value->Addr->Result->Shared->Prop}
 (hx:X.xe=λ _ _=>False)(hc:X.calm=true)(hkind:sc.kind=.function)(hcell:z7 sc.names=true)(hfree:∀y∈sc.names,y.2=.free->X.env.kindOf y.1=some .cell∨X.env.kindOf y.1=some .free)
 (hcap:aX X.N X.env.scope.names N' sc.names cap N'=true)(h:ItC X Γ S tg iter (yd X sc N' cap Γ elt tg ifs W))(I:Inv X pins σ H s)(env:EnvOk X.K O H σ Γ)(st:StOk X.K O H S)
 (fin:∀(s':Shared)(Hc:Hp)(D0 C:Addr)(m:Str->Option Value),Inv X pins σ Hc s'->s'.heap.Ns C m->fC X pins Hc C->D0≠C->QG X.K O H W (.ref D0) Hc->RR (.ref D0) C (.ok .next) s'):
 wpAny (model X.prog X.w) X.A (eval iter X.env) (λ x s₁=>wpAny (model X.prog X.w) X.A (pyIter x) (λ it s₂=>wpAny (model X.prog X.w) X.A (newList []) (λ acc s₃=>
  wpAny (model X.prog X.w) X.A (newFunctionEnv sc X.env.globals (closes X.env sc.names []) [] X.env.qual none .none (some X.env)) (λ cenv s₄=>
   codeAny (model X.prog X.w) X.A (.compStart (.ListComp elt [⟨tg,iter,ifs,0⟩] sc cpos) 0 it acc {cenv with scope:=relabel sc X.env}) (RR acc cenv.locals) s₄) E s₃) E s₂) E s₁) E s:=by
 refine thn (uV hx (h pins s σ H O I env st)) λ xv s1 h1=>thn (uV hx h1) λ itv s2 h2=>?_
 obtain⟨it,fp,tn,J,H2,e,I2,T,st2,f2,O2,ds,C0,S2,⟨hz,Pv,p0,pC,pt,pe⟩,stp,ok2,yl⟩:=h2
 subst e
 refine wpAny_newObj_type (My ?_)
 dsimp only
 have hD0:H2 s2.heap.objs.size=none:=I2.hok.fresh (y8 _)
 have hsz:(s2.heap.push {cls:=.type "list",dict:=none,data:=.seq ([]:List Value).toArray}).objs.size=s2.heap.objs.size+1:=Heap.size_push ..
 rw[hsz]
 have ns0:=Heap.Ns.new (s2.heap.push {cls:=.type "list",dict:=none,data:=.seq ([]:List Value).toArray}) (.type "dict")
 rw[hsz]at ns0
 obtain⟨cl,hcleq⟩:∃cl,cellsFrom (s2.heap.objs.size+1+1) sc.names (closes X.env sc.names [])=cl:=⟨_,rfl⟩
 obtain⟨h₁,hh1⟩:∃h₁,pushCells ((s2.heap.push {cls:=.type "list",dict:=none,data:=.seq ([]:List Value).toArray}).push {cls:=.type "dict",data:=.dict #[]}) sc.names=h₁:=⟨_,rfl⟩
 have hns₁:h₁.Ns (s2.heap.objs.size+1) (λ _=>none):=by rw[←hh1];exact ns0.keeps (pushCells_keeps _ _)
 have kp0:∀b u,(s2.heap.push {cls:=.type "list",dict:=none,data:=.seq ([]:List Value).toArray}).get? b=some u->h₁.get? b=some u:=λ b u e=>by rw[←hh1];exact pushCells_keeps _ _ b u (Heap.get?_push_of_some _ e)
 have kp:∀b u,s2.heap.get? b=some u->h₁.get? b=some u:=λ b u e=>kp0 b u (Heap.get?_push_of_some _ e)
 have hD1:h₁.get? s2.heap.objs.size=some {cls:=.type "list",data:=.seq #[] 0}:=kp0 _ _ (Heap.get?_push_size _ rfl)
 have hf:∀y∈sc.names,y.2=.free->∃c,X.env.cells.lookup y.1=some c:=λ y hy e=>I.ok.has y.1 (hfree y hy e)
 have hcl :CelsB X sc cl (s2.heap.objs.size+2) h₁:=by
  have look:∀{x c},(closes X.env sc.names []).lookup x=some c->X.env.cells.lookup x=some c:=λ{x c} h=>n6 sc.names [] hf (λ c h=>by simp at h) h
  have cpy:∀x c,sc.names.lookup x=some .free->X.env.cells.lookup x=some c->(closes X.env sc.names []).lookup x=some c:=λ x c d hc=>by
   obtain⟨c2,h2⟩:=gP (env:=X.env) sc.names [] (.inr d)
   have e:=look h2
   rw[hc]at e
   cases e
   exact h2
  unfold z7 at hcell
  split at hcell
  . rename_i hfl
    have e1:=(z8 hfl (s2.heap.objs.size+1+1) (closes X.env sc.names []) s2.heap).1
    rw[hcleq]at e1
    have no:∀x,sc.names.lookup x≠some .cell:=λ x z=>by
     have:(x,NameKind.cell)∈sc.names.filter (λ y=>y.2==.cell):=List.mem_filter.mpr ⟨PySem.mem_of_lookup z,rfl⟩
     rw[hfl]at this
     cases this
    rw[e1]
    exact⟨λ x c h=>.inl (look h),λ x hx=>hx.elim (λ z=>absurd z (no x)) λ z=>gP sc.names [] (.inr z),cpy,λ x c z=>absurd z (no x)⟩
  . rename_i y hfl
    have hy:sc.names.lookup y.1=some .cell:=eq_of_beq hcell
    obtain⟨e1,_⟩:=vO hfl (s2.heap.objs.size+1+1) (closes X.env sc.names []) s2.heap
    rw[hcleq]at e1
    have e2:=(vO hfl 0 [] ((s2.heap.push {cls:=.type "list",dict:=none,data:=.seq ([]:List Value).toArray}).push {cls:=.type "dict",data:=.dict #[]})).2
    rw[hh1]at e2
    have e3:((s2.heap.push {cls:=.type "list",dict:=none,data:=.seq ([]:List Value).toArray}).push {cls:=.type "dict",data:=.dict #[]}).objs.size=s2.heap.objs.size+2:=by rw[Heap.size_push,hsz]
    have cel:h₁.IsCell (s2.heap.objs.size+2) none:=by
     rw[e2,←e3]
     exact⟨_,Heap.get?_push_size _ rfl,rfl⟩
    have only:∀x,sc.names.lookup x=some .cell->x=y.1:=λ x z=>by
     have:(x,NameKind.cell)∈sc.names.filter (λ y=>y.2==.cell):=List.mem_filter.mpr ⟨PySem.mem_of_lookup z,rfl⟩
     rw[hfl]at this
     have:=List.mem_singleton.mp this
     rw[←this]
    have lt0:∀{x c},(closes X.env sc.names []).lookup x=some c->c<s2.heap.objs.size:=λ{x c} h=>by
     obtain⟨v,q⟩:=I2.cell x c (look h)
     exact q.lt
    have lk2:∀x,cl.lookup x=if x=y.1 then some (s2.heap.objs.size+1+1)else(closes X.env sc.names []).lookup x:=λ x=>by
     rw[e1,List.lookup_cons]
     by_cases z:x=y.1
     . subst z;simp
     . rw[if_neg z,beq_eq_false_iff_ne.mpr z]
    refine⟨λ x c h=>?_,λ x hx=>?_,λ x c d hc=>?_,λ x c z h=>?_⟩
    . rw [lk2]at h
      by_cases z:x=y.1
      . rw[if_pos z]at h
        cases h
        refine .inr ⟨rfl,by rw[z];exact hy,cel,λ u hu=>?_⟩
        rw[lk2]at hu
        by_cases z2:u=y.1
        . rw[z2,z]
        . rw[if_neg z2]at hu
          exact(Nat.lt_irrefl _ (Nat.lt_of_le_of_lt (Nat.le_add_right _ 2) (lt0 hu))).elim
      . rw[if_neg z]at h
        exact .inl (look h)
    . rw[lk2]
      by_cases z:x=y.1
      . exact⟨_,if_pos z⟩
      . rw[if_neg z]
        exact hx.elim (λ q=>absurd (only x q) z) λ q=>gP sc.names [] (.inr q)
    . rw[lk2,if_neg (λ z=>by rw[z,hy]at d;cases d)]
      exact cpy x c d hc
    . rw[lk2,if_pos (only x z)]at h
      cases h
      exact y8 _
  . cases hcell
 rw[hcleq,hh1]
 have hob:∀b∈fp,∃o,s2.heap.get? b=some o:=λ b hb=>let ⟨o,e,_⟩:=T.obj _ _ st2 b hb;⟨o,e⟩
 have I4:=Lq (t:=s2.toks) (h1:=h₁) I2 f2 hob hkind hcl hfree hcap kp hD1 ⟨_,hns₁⟩
 generalize hX':gb X sc N' (s2.heap.objs.size+1) s2 H2 fp cl=X' at I4
 have pt':=λ i d acc S' a b=>pt i d acc S' a b (s2.heap.objs.size+1) s2 H2 fp cl
 rw[hX']at pt'
 have eP:X'.prog=X.prog:=by rw[←hX'];rfl
 have ew:X'.w=X.w:=by rw[←hX'];rfl
 have eK:X'.K=X.K:=by rw[←hX'];rfl
 have eA:X'.A=X.A:=by rw[←hX'];rfl
 have ec:X'.calm=true:=by rw[←hX'];exact hc
 have ex':X'.xe=λ _ _=>False:=by rw[←hX'];exact hx
 have eenv:X'.env=compEnvC sc cl (s2.heap.objs.size+1) X.env:=by rw[←hX'];rfl
 have eex:X'.ex=fp:=by rw[←hX'];rfl
 have eout:X'.outer=X.stack:=by rw[←hX'];rfl
 have es0:X'.s₀=s2:=by rw[←hX'];rfl
 have eH0:X'.H₀=H2:=by rw[←hX'];rfl
 have epn:X'.pn=[]:=by rw[←hX'];rfl
 have stat:∀{H':Hp},(∀b∈fp,H' b=none)->∀b∈fp,fC X' [] H' b:=λ hn b hb=>by
  refine⟨hn b hb,(I4.ok.exf b (by rw[eex];exact hb)).1,I4.ok.exfs b (by rw[eex];exact hb),.inl (by rw[eex];exact hb),(I4.ok.exf b (by rw[eex];exact hb)).2,λ p hp=>?_⟩
  rw[epn]at hp
  exact absurd hp (by simp)
 have loop:∀s₃:Shared,s₃={s2 with heap:=h₁}->
  codeAny (model X.prog X.w) X.A (.compLoop (.ListComp elt [⟨tg,iter,ifs,0⟩] sc cpos) 0 (.ref it) (.ref s2.heap.objs.size) (compEnvC sc cl (s2.heap.objs.size+1) X.env))
   (RR (.ref s2.heap.objs.size) (s2.heap.objs.size+1)) s₃:=by
  intro s₃ es
  rw[←eenv]
  refine codeAny_loop rfl (λ n s'=>∃i acc xs Hc Ac Sc σc,n=ds.length-i/\i≤ds.length/\Inv X' [] σc Hc s'/\tn i s'.heap/\(∀b∈fp,Hc b=none)/\Pv i acc Sc/\Hc s2.heap.objs.size=some (.lst xs)/\xs.length≤i/\
   Reps X.K ⟨Ac,s2.heap.objs.size::O2.B⟩ Hc xs acc/\Step O2 ⟨Ac,O2.B⟩ H2 Hc/\StOk X.K ⟨Ac,s2.heap.objs.size::O2.B⟩ Hc Sc/\EnvOk X.K ⟨Ac,s2.heap.objs.size::O2.B⟩ Hc σc (capt cap Γ)) ?_ ds.length ?_
  . rintro n s' ⟨i,acc,xs,Hc,Ac,Sc,σc,rfl,hi,Ic,stc,frc,pc,hxs,hxl,rc,sc',okc,envc⟩
    show wpAny _ _ ((compTurn (.ListComp elt [⟨tg,iter,ifs,0⟩] sc cpos) 0 (.ref it) (.ref s2.heap.objs.size) X'.env).onRaise (λ x=>do noteFrame x X'.env;theTreesLotGoes x)) _ _ s'
    refine wpAny_noted ?_
    rw[compTurn_list]
    refine wpAny_bind (wpAny_standAt (wpAny_bind ?_))
    have cv:Conv O2 ⟨Ac,s2.heap.objs.size::O2.B⟩ H2 Hc:=by
     refine⟨λ a u n t=>?_,sc'.conv.lc⟩
     obtain⟨x1,x2⟩:=sc'.conv.tr a u n t
     refine⟨λ z=>?_,x2⟩
     rcases z with z | z
     . exact x1 (.inl z)
     . rcases List.mem_cons.mp z with z | z
       . subst z;rw[hD0]at t;cases t
       . exact x1 (.inr z)
    obtain⟨y1,y2⟩:=yl _ _ _ cv okc (pC _ _ _ pc) i
    by_cases hlt:i<ds.length
    . obtain⟨go,yy⟩:=y1 ds[i] (y0 hlt)
      have it1:=T.item X' eP ew eK ec i [] s' σc Hc (λ _ _=>False) Ic (stat frc) stc go
      rw[eA]at it1
      refine wpAny_mono it1 (λ r s3 hq_=>?_) λ _ _ z=>z.elim
      obtain⟨u,hr,h3⟩:=hq_
      subst hr
      refine wpAny_bind (wpAny_mono h3 (λ _ s5 hq_=>?_) λ _ _ z=>z.elim)
      obtain⟨x,H5,I5,r5,y5,st5,fr5⟩:=hq_
      obtain⟨sm,rx⟩:=yy x H5 y5
      have I5':=I5.pinned (stat fr5) (T.obj _ _ st5)
      have st35:=Step.same (O:=⟨Ac,s2.heap.objs.size::O2.B⟩) sm
      have bd:=pt' i ds[i] acc Sc (y0 hlt) pc _ s5 σc H5 ⟨Ac,s2.heap.objs.size::O2.B⟩ x u I5' (by rw[eK];exact envc.mono st35) (by rw[eK];exact okc.same sm) (by rw[eK];exact rx) r5
      rw[eP,ew,eA]at bd
      refine wpAny_bind (wpAny_mono (uV (E':=λ _ _=>False) ex' bd) (λ _ s6 hq_=>?_) λ _ _ z=>z.elim)
      obtain⟨σ6,H6,I6,O6,Γ6,S6,⟨sub6,w6⟩,st6,ok6,env6⟩:=hq_
      have tst:=Kp w6 I6 env6 ok6
      rw[eP,ew,eA]at tst
      refine wpAny_bind (wpAny_mono (uV (E':=λ _ _=>False) ex' tst) (λ ok s7 hq_=>?_) λ _ _ z=>z.elim)
      obtain⟨H7,I7,O7,S7,w7,st7,ok7⟩:=hq_
      have st57:Step ⟨Ac,s2.heap.objs.size::O2.B⟩ O7 Hc H7:=st35.trans (st6.trans st7)
      have eB7:O7.B=s2.heap.objs.size::O2.B:=st57.hid
      have next:∀(s9:Shared)(H8:Hp)(O8:Own)(S8:Store)(ys:List V)(acc':List D),Step ⟨Ac,s2.heap.objs.size::O2.B⟩ O8 Hc H8->
       StOk X.K O8 H8 S8->EnvOk X.K O8 H8 σ6 (capt cap Γ)->Pv (i+1) acc' S8->Inv X' ([]++lN fp s5.heap) σ6 (upd H8 s2.heap.objs.size (.lst ys)) s9->Reps X.K O8 H8 ys acc'->ys.length≤i+1->
       ∃ m,m<ds.length-i/\∃i acc xs Hc Ac Sc σc,m=ds.length-i/\i≤ds.length/\Inv X' [] σc Hc s9/\tn i s9.heap/\(∀b∈fp,Hc b=none)/\Pv i acc Sc/\Hc s2.heap.objs.size=some (.lst xs)/\xs.length≤i/\
         Reps X.K ⟨Ac,s2.heap.objs.size::O2.B⟩ Hc xs acc/\Step O2 ⟨Ac,O2.B⟩ H2 Hc/\StOk X.K ⟨Ac,s2.heap.objs.size::O2.B⟩ Hc Sc/\EnvOk X.K ⟨Ac,s2.heap.objs.size::O2.B⟩ Hc σc (capt cap Γ):=by
       intro s9 H8 O8 S8 ys acc' st8 ok8 env8 p8 I8 r8 hl8
       have eB:O8.B=s2.heap.objs.size::O2.B:=st8.hid
       obtain⟨A8,B8⟩:=O8
       have eB':B8=s2.heap.objs.size::O2.B:=eB
       subst eB'
       have mem:s2.heap.objs.size∈(⟨A8,s2.heap.objs.size::O2.B⟩:Own).B:=x6
       refine⟨ds.length-(i+1),by omega,i+1,acc',ys,_,A8,S8,σ6,rfl,hlt,I8.unpinned,T.keep _ _ _ st5 λ b hb o e=>(I8.pin (b,o) (List.mem_append_right _ (List.mem_append_right _ (gQ hb e)))).1,λ b hb=>?_,p8,aP,hl8,
        r8.conv (Conv.updHid mem _),sc'.inner st8 hD0 _,ok8.updHid mem _,env8.conv (Conv.updHid mem _)⟩
       obtain⟨o,e,d⟩:=T.obj _ _ st5 b hb
       exact(I8.pin (b,o) (List.mem_append_right _ (List.mem_append_right _ (gQ hb e)))).2.1
      rw[eK]at ok7 env6 ok6
      have hid:∀{O':Own}{H':Hp}{S':Store},Step ⟨Ac,s2.heap.objs.size::O2.B⟩ O' Hc H'->H' s2.heap.objs.size=some (.lst xs):=λ st'=>
       st'.kept _ _ (λ z=>okc.apart _ z x6) hxs
      cases ok with
      | false=>
        refine wpAny_pure ⟨rfl,?_⟩
        have hx7:=hid (S':=S7) st57
        have eq7:upd H7 s2.heap.objs.size (.lst xs)=H7:=by
         funext b
         by_cases hb:b=s2.heap.objs.size
         . subst hb;rw[aP];exact hx7.symm
         . exact aA hb
        exact next s7 H7 O7 S7 xs acc st57 ok7 ((env6.mono st7).sub sub6) (w7.2 rfl) (by rw[eq7];exact I7) (rc.mono st57) (Nat.le_succ_of_le hxl)
      | true=>
        have el:=w7.1 rfl _ s7 σ6 H7 O7 I7 (by rw[eK];exact env6.mono st7) (by rw[eK];exact ok7)
        rw[eP,ew,eA]at el
        refine wpAny_bind (wpAny_bind (wpAny_mono (uV (E':=λ _ _=>False) ex' el) (λ xe s8 hq_=>?_) λ _ _ z=>z.elim))
        obtain⟨v8,H8,I8,r8,O8,y,S8,w8,st8,ok8,rep8⟩:=hq_
        rw[eK]at ok8 rep8
        have st58:=st57.trans st8
        have hx8:=hid (S':=S8) st58
        have ap:=v9 (X:=X') _ s8 σ6 H8 (.ref s2.heap.objs.size) [v8] (.ref s2.heap.objs.size) [xe] (λ v H'=>H'=upd H8 s2.heap.objs.size (.lst (xs++[v8]))) I8 rfl (.cons r8 .nil)
         ⟨s2.heap.objs.size,xs,v8,rfl,rfl,hx8,Nat.lt_of_le_of_lt (Nat.le_trans hxl (Nat.le_trans hi hz)) (by decide),rfl⟩
        rw[eP,ew,eA]at ap
        refine wpAny_bind (wpAny_mono (uV (E':=λ _ _=>False) ex' ap) (λ _ s9 hq_=>wpAny_pure (wpAny_pure ⟨rfl,?_⟩)) λ _ _ z=>z.elim)
        obtain⟨_,H9,I9,_,e9⟩:=hq_
        subst e9
        exact next s9 H8 O8 S8 (xs++[v8]) (acc++[y]) st58 ok8 (((env6.mono st7).mono st8).sub sub6) w8 I9 ((rc.mono st58).append (.cons rep8 .nil)) (by rw[x8,List.length_singleton];omega)
    . have e:i=ds.length:=by omega
      subst e
      have dn:=T.done X' eP ew eK ec ds.length [] s' σc Hc (λ _ _=>False) Ic (stat frc) stc (y2 rfl)
      rw[eA]at dn
      refine wpAny_mono dn (λ r s3 hq_=>?_) λ _ _ z=>z.elim
      obtain⟨hr,I3⟩:=hq_
      subst hr
      refine wpAny_pure ?_
      obtain⟨m,hm,_⟩:=I3.loc
      have un:Un (frs X.stack) fp H2 Hc s2.heap s3.heap:=by
       have:=I3.base
       rw[eex,eH0,es0]at this
       show Un (frs X.stack) fp H2 Hc s2.heap s3.heap
       rw[←eout]
       exact this
      have os:s3.os=s2.os:=by
       have:=I3.os
       rw[es0]at this
       exact this
      have hok3:HOk X.prog X.w Hc s3.heap:=by
       have:=I3.hok
       rw[eP,ew]at this
       exact this
      have IX:Inv X pins σ Hc s3:=I2.call' os un hok3 I3.bare (λ b hb=>⟨(f2 b hb).2.2.2.1,(f2 b hb).2.1,(f2 b hb).2.2.2.2.1,(f2 b hb).2.2.2.2.2⟩)
      have hCn:Hc (s2.heap.objs.size+1)=none:=by
       have:=I3.free
       rw[eenv]at this
       exact this
      refine fin s3 Hc _ _ m IX (by rw[eenv]at hm;exact hm) (I2.fpOk (Nat.le_succ _) hCn) (v3 (Nat.lt_succ_self _)) ?_
      rcases pe acc Sc pc with w | w
      . refine⟨⟨Ac,O2.B⟩,.lst acc,Sc,w,stp.trans sc',okc.unhide,.lst (.inl ⟨λ z=>?_,.inl hxs⟩) (rc.conv Conv.unhide)⟩
        rcases z with z | z
        . exact okc.apart _ z x6
        . exact ok2.hidden _ z hD0
      . refine⟨⟨Ac++[(s2.heap.objs.size,false)],O2.B⟩,.loc Sc.length,Sc++[acc],w,stp.trans (sc'.adopt hD0),okc.adopt (λ z=>ok2.hidden _ z hD0) hxs rc,.loc ?_⟩
        have el:Ac.length=Sc.length:=okc.len
        show(Ac++[(s2.heap.objs.size,false)])[Sc.length]? =some _
        rw[←el];simp
  . refine⟨0,[],[],upd H2 s2.heap.objs.size (.lst []),O2.A,S2,capt cap σ,rfl,Nat.zero_le _,by rw[es];exact I4,by rw[es];exact T.keep 0 s2.heap h₁ st2 λ b hb o e=>kp b o e,λ b hb=>?_,p0,aP,y8 0,.nil,Step.fresh hD0 _,ok2.hide hD0 _,((env.mono stp).capt cap).conv (Conv.hide hD0 _)⟩
    obtain⟨o,e⟩:=hob b hb
    rw[aA (v3 (Heap.lt_size e))]
    exact(f2 b hb).1
 exact codeAny_compStart_list (loop _ rfl) (T.self _ 0 _ _ _ (T.keep 0 s2.heap h₁ st2 λ b hb o e=>kp b o e) (loop _ rfl))
variable {Γ : Gam} {S : Store} {elt tg iter : Expr} {ifs : List Expr} {sc : Scope} {pos : Pos} {N' : List Str} {cap : List (Option Nat)}
theorem La(N':List Str)(cap:List (Option Nat)){W:WD}(h:ItC X Γ S tg iter (yd X sc N' cap Γ elt tg ifs W))(hx:X.xe=λ _ _=>False:=by rfl)(hc:X.calm=true:=by rfl)(hkind:sc.kind=.function:=by rfl)
 (hcell:z7 sc.names=true:=by rfl)(hfr:freeOk X.env.scope.names sc.names=true:=by rfl)
 (hnames:∀y∈sc.names,y.2=.local->sc.names.lookup y.1=some .local:=by decide+kernel)(hcap:aX X.N X.env.scope.names N' sc.names cap N'=true:=by rfl)(hs:∀x,foldedSetIterable iter X.env x=pure x:=by intro _;rfl):
 Ev X Γ S (.ListComp elt [⟨tg,iter,ifs,0⟩] sc pos) W:=by
 intro pins s σ H O I env st
 have hfree:∀y∈sc.names,y.2=.free->X.env.kindOf y.1=some .cell∨X.env.kindOf y.1=some .free:=lO hfr
 have hf:∀y∈sc.names,y.2=.free->∃c,X.env.cells.lookup y.1=some c:=λ y hy e=>I.ok.has y.1 (hfree y hy e)
 rw[eval_ListComp]
 refine wpAny_comprehension_free (use:=none) (g:=⟨tg,iter,ifs,0⟩) (gs:=[]) rfl hs (lw hf) hkind hnames ?_
 refine vQ (RR:=λ acc C=>compPost (model X.prog X.w) X.A X.xe none (EP X pins σ (QG X.K O H W)) acc C) hx hc hkind hcell hfree hcap h I env st ?_
 intro s' Hc D0 C m I' hm fp ne q
 refine⟨m,hm,λ h' sb=>⟨.ref D0,Hc,?_,rfl,q⟩⟩
 obtain⟨f0,f1,f2,f3,f4,f5⟩:=fp
 exact I'.turned (t':=s'.toks) (λ b o hb e=>(sb.2 b hb).trans e) f0 f1 f3 f4 f5
theorem Gi(i:Nat){x:Str}{pos' spos:Pos}{W:Fin}(N':List Str)(cap:List (Option Nat))(h:ItC X Γ S tg iter (yd X sc N' cap Γ elt tg ifs λ d S1=>W.nx (Γ.set i (some d)) S1))(hN:X.N.Nodup)(hi:X.N[i]? =some x:=by rfl)
 (hl:Loc X.env.scope x:=by first | exact Or.inl rfl | exact Or.inr rfl)(hsw:swapsWith (.ListComp elt [⟨tg,iter,ifs,0⟩] sc pos) (some (.Name x pos')) spos.line X.env=pure true:=by rfl)
 (hfn:X.fn x=true∨X.env.scope.names.lookup x=some .local:=by first | exact .inl rfl | exact .inr rfl)(hx:X.xe=λ _ _=>False:=by rfl)(hc:X.calm=true:=by rfl)(hkind:sc.kind=.function:=by rfl)
 (hcell:z7 sc.names=true:=by rfl)(hfr:freeOk X.env.scope.names sc.names=true:=by rfl)
 (hnames:∀y∈sc.names,y.2=.local->sc.names.lookup y.1=some .local:=by decide+kernel)(hcap:aX X.N X.env.scope.names N' sc.names cap N'=true:=by rfl)(hs:∀x,foldedSetIterable iter X.env x=pure x:=by intro _;rfl):
 Rn X Γ S (.Assign [.Name x pos'] (.ListComp elt [⟨tg,iter,ifs,0⟩] sc pos) spos) W:=by
 intro pins s σ H O I env st
 have hfree:∀y∈sc.names,y.2=.free->X.env.kindOf y.1=some .cell∨X.env.kindOf y.1=some .free:=lO hfr
 have hf:∀y∈sc.names,y.2=.free->∃c,X.env.cells.lookup y.1=some c:=λ y hy e=>I.ok.has y.1 (hfree y hy e)
 rw[exec_Assign_Name_used _ _ _ _ hsw]
 refine wpAny_bind (wpAny_standAt (wpAny_bind ?_))
 show wpAny _ X.A (do let _ ←comprehension (.ListComp elt [⟨tg,iter,ifs,0⟩] sc pos) sc X.env _ (newList []) false (eval iter X.env) (some (assign (.Name x pos') X.env))) _ _ s
 refine wpAny_bind (wpAny_mono (wpAny_comprehension_free (use:=some (assign (.Name x pos') X.env)) (g:=⟨tg,iter,ifs,0⟩) (gs:=[]) (Q:=λ _ s'=>SP X pins (ends X.K O H W) .next s') rfl hs (lw hf) hkind hnames ?_) (λ _ s' hq=>wpAny_pure (wpAny_pure hq)) λ _ _ e=>e)
 refine vQ (RR:=λ acc C=>compPost (model X.prog X.w) X.A X.xe (some (assign (.Name x pos') X.env)) (λ _ s'=>SP X pins (ends X.K O H W) .next s') acc C) hx hc hkind hcell hfree hcap h I env st ?_
 intro s' Hc D0 C m I' hm fp ne q
 show wpAny _ X.A (assign (.Name x pos') X.env (.ref D0)) _ _ _
 refine wpAny_assign_Name (vX I' hN hi hl (show RelV (.ref D0) (.ref D0)from rfl) (λ s2 I2 hq_=>?_) hfn)
 obtain⟨a,sa,ha⟩:=hq_
 obtain⟨f0,f1,f2,f3,f4,f5⟩:=fp
 have neC:C≠a:=by
  rcases ha with z | z
  . rw[z];exact f1
  . exact(f4 x a z).symm
 refine⟨m,hm.sameBut sa neC,λ h' sb=>?_⟩
 obtain⟨O',d,S',w,stp,okp,rep⟩:=q
 exact⟨_,Hc,I2.turned (t':=s2.toks) (λ b o hb e=>(sb.2 b hb).trans e) f0 f1 f3 f4 f5,O',_,S',w,stp,okp,(env.mono stp).set rep i⟩
end
end DL
namespace DL
open PySem PySem.Spec L2
open PyProof.Rows
def tyD:D->String
 | .non=>"NoneType" | .bl _=>"bool" | .int _=>"int" | .str _=>"str" | .tup _=>"tuple" | .lst _=>"list" | .loc _=>"list" | .dic=>"dict" | .dlo _=>"dict"
def isi(t c:String):Bool:=t==c||(t=="bool"&&c=="int")
def isT(c:String):Bool:=c=="int"||c=="bool"||c=="tuple"||c=="list"||c=="str"
theorem kit_at(K:PySem.W.Frag)(d:D){c:String}(hc:isT c=true):PySem.W.kitOne K (.type (tyD d)) (.type c)=some (isi (tyD d) c):=by
 simp only[isT,Bool.or_eq_true,beq_iff_eq]at hc
 rcases hc with(((h | h) | h) | h) | h<;>subst h<;>cases d<;>kernel_rfl
section
variable {X : Cx} {Γ : Gam} {S : Store} {W : WD} {a b e : Expr} {es : List Expr} {pos : Pos}
theorem Ca{pins:Pins}{s:Shared}{σ:St}{H:Hp}{O:Own}{v:V}{u c:Value}{d:D}{A:Around}{E:Value->Shared->Prop}{Q:Value->Shared->Prop}(I:Inv X pins σ H s)(st:StOk X.K O H S)(r:Rep X.K O H v d)(ru:RelV v u)
 (go:∀{x t:Value}{Hh:Heap->Prop},PySem.W.KitX X.K x t Hh->t=.type (tyD d)->Hh s.heap->x≠.builtin "__main__.__loader__#opaque"->wpAny (model X.prog X.w) A (call (.builtin "isinstance") [x,c]) Q E s):
 wpAny (model X.prog X.w) A (call (.builtin "isinstance") [u,c]) Q E s:=by
 cases r with
 | non=>cases ru;exact go PySem.W.kitx_none rfl True.intro (λ z=>nomatch z)
 | bl y=>cases ru;exact go PySem.W.kitx_bool rfl True.intro (λ z=>nomatch z)
 | int y=>obtain⟨t,rfl⟩:=ru;exact go PySem.W.kitx_int rfl True.intro (λ z=>nomatch z)
 | str y=>obtain⟨t,rfl⟩:=ru;exact go PySem.W.kitx_str rfl True.intro (λ z=>nomatch z)
 | tup h1 q1=>
   cases ru
   obtain⟨its,_,⟨o,h2,h3,_⟩,_⟩:=I.tuple h1.sq
   exact go PySem.W.kitx_tuple rfl ⟨o,h2,h3⟩ (λ z=>nomatch z)
 | lst h1 q1=>
   cases ru
   obtain⟨its,_,pl,_⟩:=I.list h1.sq
   obtain⟨o,h2,h3,_⟩:=pl.isList
   exact go PySem.W.kitx_list rfl ⟨o,h2,h3⟩ (λ z=>nomatch z)
 | @loc p k hk=>
   cases ru
   have hl:k<S.length:=by rw[←st.len];exact(z0.mp hk).1
   obtain⟨xs,hx,_⟩:=st.obj k p S[k] hk (y0 hl)
   obtain⟨its,_,pl,_⟩:=I.list (SqL.of hx)
   obtain⟨o,h2,h3,_⟩:=pl.isList
   exact go PySem.W.kitx_list rfl ⟨o,h2,h3⟩ (λ z=>nomatch z)
 | @dic p h1 h2=>
   cases ru
   obtain⟨_,_,vs,_,o,es,ep,h3,h4,_⟩:=(show bz X.prog X.w H s.heap p (.dK [])from I.hok p _ h2)
   exact go PySem.W.kitx_dict rfl ⟨o,h3,h4.1⟩ (λ z=>nomatch z)
 | @dlo p k hk nk=>
   cases ru
   have hl:k<S.length:=by rw[←st.len];exact(z0.mp hk).1
   cases st.dob k p S[k] hk (y0 hl)with
   | t kvs hx _=>
     obtain⟨_,_,xs,_,o,es,ep,h3,h4,_⟩:=(show bz X.prog X.w H s.heap p (.dT kvs)from I.hok p _ hx)
     exact go PySem.W.kitx_dict rfl ⟨o,h3,h4.1⟩ (λ z=>nomatch z)
   | c ys _ hx _=>
     obtain⟨⟨_,_,_,o,es,ep,h3,h4,_⟩,_,_⟩:=(show bz X.prog X.w H s.heap p (.ext (Nr p ys))from I.hok p _ hx)
     exact go PySem.W.kitx_dict rfl ⟨o,h3,h4.1⟩ (λ z=>nomatch z)
   | o ys _ hx _=>
     obtain⟨⟨_,_,_,o,es,ep,h3,h4,_⟩,_,_⟩:=(show bz X.prog X.w H s.heap p (.ext (Nt p ys))from I.hok p _ hx)
     exact go PySem.W.kitx_dict rfl ⟨o,h3,h4.1⟩ (λ z=>nomatch z)
   | m ys _ _ hx _=>
     obtain⟨⟨_,_,_,o,es,h3,h4,_⟩,_,_⟩:=(show bz X.prog X.w H s.heap p (.ext (Py p ys))from I.hok p _ hx)
     exact go PySem.W.kitx_dict rfl ⟨o,h3,h4.1⟩ (λ z=>nomatch z)
   | p _ n=>exact absurd nk n
theorem Pn{T:Str}{Tn:String}{p q:Pos}(h:Ev X Γ S a λ x S1=>W (.bl (isi (tyD x) Tn)) S1)(hT:isT Tn=true)(hb:bootBuiltins T=some (.type Tn))(hm1:X.mg "isinstance"=none)(hm:X.mg T=none)(hg1:Gl X "isinstance":=by rfl)(hg:Gl X T:=by rfl)
 (hn:T≠"__name__":=by decide)(hdb:(T==("__debug__":Str))=false:=by decide)(hs1:starEach [a,.Name T q] X.env=(false,eval a X.env)::starEach [.Name T q] X.env:=by rfl)(hs2:starEach [.Name T q] X.env=[(false,eval (.Name T q) X.env)]:=by rfl):
 Ev X Γ S (.Call (.Name "isinstance" p) [a,.Name T q] [] pos) W:=by
 intro pins s σ H O I env st
 have hc:gM X (.builtin "isinstance") (λ xs H' Q=>∃v,xs=[v,.ty Tn]/\∃O' d S',StOk X.K O' H' S'/\Rep X.K O' H' v d/\Q (.bl (isi (tyD d) Tn)) H'):=by
  intro pins s σ H xs us Q I r h
  obtain⟨v,rfl,O',d,S',st',rep,q⟩:=h
  obtain⟨u,u2,rfl,r1,r2⟩:=vals2 r
  cases r2
  refine Ca I st' rep r1 λ Z e p ne=>?_
  subst e
  exact PySem.W.kia_one Z I.kIn p (kit_at X.K d hT) ne λ tk=>⟨.bl _,H,I.tok tk,rfl,q⟩
 refine za hc hg1 hm1 PyProof.Rows.boot_isinstance (gU h.pe (gU (Ci hg hm hb (v:=.ty Tn) rfl hn hdb) su hs2) hs1) (by decide) (by decide) hs1 (by rw[hs2];rfl) pins s σ H _ I ⟨O,env,st,λ v H' q=>?_⟩
 obtain⟨O',d,S',w,st1,ok1,rep⟩:=q
 exact⟨v,rfl,O',d,S',ok1,rep,O',_,S',w,st1,ok1,.bl _⟩
theorem range_all{α:Type}(f:α->Bool)(d:α):∀(bs:List α)(k:Nat),((List.range' k bs.length).all λ i=>f ((List.replicate k d++bs).getD i d))=bs.all f
 | [],_=>by simp
 | b ::bs,k=>by
   have ih:=range_all f d bs (k+1)
   rw[List.length_cons,List.range'_succ,List.all_cons,List.all_cons]
   congr 1
   . simp[List.getD]
   . rw[←ih]
     have e:List.replicate k d++b::bs=(List.replicate k d++[b])++bs:=by simp
     rw[List.all_eq,List.all_eq]
     congr 1
     apply propext
     constructor
     . intro h i hi
       have:=h i hi
       rw[List.mem_range']at hi
       obtain⟨j,hj,rfl⟩:=hi
       simp only[List.getD,List.getElem?_append,List.length_replicate]at this ⊢
       have g1:¬(k+1+1*j<k):=by omega
       have g2:¬(k+1+1*j<k+1):=by omega
       rw[if_neg g1]at this
       rw[if_neg g2]
       have e1:k+1+1*j-k=(k+1+1*j-(k+1))+1:=by omega
       rw[e1,List.getElem?_cons_succ]at this
       exact this
     . intro h i hi
       have:=h i hi
       rw[List.mem_range']at hi
       obtain⟨j,hj,rfl⟩:=hi
       simp only[List.getD,List.getElem?_append,List.length_replicate]at this ⊢
       have g1:¬(k+1+1*j<k):=by omega
       have g2:¬(k+1+1*j<k+1):=by omega
       rw[if_neg g2]at this
       rw[if_neg g1]
       have e1:k+1+1*j-k=(k+1+1*j-(k+1))+1:=by omega
       rw[e1,List.getElem?_cons_succ]
       exact this
theorem De(bs:List Bool):((List.range bs.length).all λ i=>bs.getD i false)=bs.all id:=by
 have:=range_all id false bs 0
 simpa[List.range_eq_range']using this
theorem k_all{bs:List Bool}(w:W (.bl (bs.all id)) S)(hc:X.calm=true:=by rfl):cB X (.builtin "all") [.lst (bs.map .bl)] S W:=by
 intro pins s σ H O vs us I st r ru
 obtain⟨v,rfl,r'⟩:=gj r
 obtain⟨u,rfl,ru'⟩:=vals1 ru
 cases r' with
 | @lst a xs _ h1 q1=>
   cases ru'
   obtain⟨its,rv,pl,hz⟩:=I.list h1.sq
   have ex:=q1.bools
   subst ex
   have hlen:its.length=bs.length:=by rw[←rv.length];simp
   refine call_all_walk (wpAny_pyIter_list pl.isList ?_)
   have ne:a≠s.heap.objs.size:=by
    obtain⟨o,e,_⟩:=pl.isList
    exact v3 (Heap.lt_size e)
   refine⟨_,_,_,_,_,_,λ i=>bs.getD i false,rfl,Walks.list (A:=X.A.in1) (I.ok.hd hc) _ a ne its.toArray,⟨⟨_,Heap.get?_push_size _ rfl,rfl,rfl⟩,pl.isList.push _⟩,λ i v s' Q' E' hv hq=>?_,λ h' tk hk=>?_⟩
   . have hv:its[i]? =some v:=by simpa using hv
     have hi:i<bs.length:=by rw[←hlen];exact(z0.mp hv).1
     obtain⟨z,hz',rz⟩:=rv.get (i:=i) (x:=V.bl bs[i]) (by rw[y7,y0 hi];rfl)
     rw[hv]at hz'
     cases hz'
     cases rz
     have e:bs.getD i false=bs[i]:=by simp[List.getD,hi]
     have hq':Q' (bs.getD i false) s':=hq
     rw[e]at hq'
     exact wpAny_truthy_bool hq'
   . have e:(List.range its.toArray.size).all (λ i=>bs.getD i false)=bs.all id:=by rw[x5,hlen];exact De bs
     rw[e]
     refine⟨.bl _,H,I.kept (λ b o q=>hk b o (λ z=>?_) (Heap.get?_push_of_some _ q)),rfl,QG.here w st (.bl _)⟩
     have z':b=s.heap.objs.size:=by simpa using z
     exact absurd (Heap.lt_size q) (by rw[z'];exact Nat.lt_irrefl _)
theorem QM{ns:List Int}(w:W (.int ns.sum) S)(hc:X.calm=true:=by rfl):cB X (.builtin "sum") [.lst (ns.map .int)] S W:=by
 intro pins s σ H O vs us I st r ru
 obtain⟨v,rfl,r'⟩:=gj r
 obtain⟨u,rfl,ru'⟩:=vals1 ru
 cases r' with
 | @lst a xs _ h1 q1=>
   cases ru'
   obtain⟨its,rv,pl,hz⟩:=I.list h1.sq
   have ex:=q1.ints
   subst ex
   have hi:IntsAre its ns:=intsAre_of rv
   obtain⟨zs,ez⟩:=hi.allInts.items
   have hL:=pl.isList
   rw[ez]at hL
   refine sum_intListG (I.ok.hd hc) hL λ h' tk t' hk=>?_
   have e:preSum (numAt zs) zs.size=ns.sum:=by
    rw[preSum_eq,List.take_of_length_le (by simp),←nums_intItems,←ez]
    exact congrArg List.sum hi.numsOf
   rw[e]
   exact⟨.int _,H,I.kept hk,⟨_,rfl⟩,QG.here w st (.int _)⟩
mutual
def deep:D->Nat
 | .tup ds=>bc ds+1
 | .lst ds=>bc ds+1
 | .dic=>1
 | _=>0
def bc:List D->Nat
 | []=>0
 | d::ds=>max (deep d) (bc ds)
end
mutual
def aB:D->Bool
 | .tup ds=>az ds
 | .lst ds=>az ds
 | .loc _=>false
 | .dlo _=>false
 | _=>true
def az:List D->Bool
 | []=>true
 | d::ds=>aB d&&az ds
end
theorem eF{d:D}:∀{ds:List D}{i:Nat},ds[i]? =some d->deep d≤bc ds
 | [],_,h=>by simp at h
 | c::ds,0,h=>by simp at h;subst h;simp[bc];omega
 | c::ds,i+1,h=>by
   have:=eF (ds:=ds) (i:=i) (by simpa using h)
   simp[bc];omega
theorem gD{d:D}:∀{ds:List D}{i:Nat},az ds=true->ds[i]? =some d->aB d=true
 | [],_,_,h=>by simp at h
 | c::ds,0,n,h=>by simp at h;subst h;simp[az]at n;exact n.1
 | c::ds,i+1,n,h=>by
   simp[az]at n
   exact gD (ds:=ds) (i:=i) n.2 (by simpa using h)
theorem jZ{pins:Pins}{s:Shared}{σ:St}{H:Hp}{a:Addr}(I:Inv X pins σ H s)(h:H a=some (.dK [])):(a==sysModules)=false/\s.heap.DictOf (eO X.prog X.w) a []:=by
 obtain⟨_,h2,vs,h3,h4⟩:=(show bz X.prog X.w H s.heap a (.dK [])from I.hok a _ h)
 cases h3
 exact⟨h2,h4⟩
theorem J8{P P':Program}{w w':World}{h:Heap}{a:Addr}(d:h.DictOf (eO P w) a []):h.DictOf (eO P' w') a []:=by
 obtain⟨o,es,ep,h1,h2,h3,h4,h5,h6⟩:=d
 have e:es=#[]:=by
  have q0:∀l,Pairs (eO P w) l ([]:List (Key×Value))->l=[]:=by
   intro l hl
   cases hl
   rfl
  have q:es.toList=[]:=q0 _ h5
  exact Array.toList_eq_nil_iff.mp q
 subst e
 exact⟨o,#[],ep,h1,h2,h3,λ _ he=>by simp at he,Pairs.nil,List.nodup_nil⟩
theorem Hb (n:Nat):∀(x:D),deep x≤n->aB x=true->∀{pins:Pins}{s:Shared}{σ:St}{H:Hp}{O:Own}{v w:V}{u u':Value}{A:Around},Inv X pins σ H s->Rep X.K O H v x->Rep X.K O H w x->RelV v u->RelV w u'->A.units+n<cLine->SeqAt.EqAt A s u u' true:=by
 induction n with
 | zero=>
   intro x hx hn pins s σ H O v w u u' A I r1 r2 ru ru' hu
   cases r1 with
   | non=>cases r2;cases ru;cases ru';exact SeqAt.EqAt.same _
   | bl b=>cases r2;cases ru;cases ru';exact SeqAt.EqAt.same _
   | int i=>
     cases r2;obtain⟨t,rfl⟩:=ru;obtain⟨t',rfl⟩:=ru'
     have:=SeqAt.EqAt.int_int (A:=A) (s:=s) i t i t'
     rw[beq_self_eq_true]at this
     exact this
   | str i=>
     cases r2;obtain⟨t,rfl⟩:=ru;obtain⟨t',rfl⟩:=ru'
     have:=SeqAt.EqAt.str_str (A:=A) (s:=s) i t i t'
     rw[beq_self_eq_true]at this
     exact this
   | tup _ _=>simp[deep]at hx
   | lst _ _=>simp[deep]at hx
   | loc _=>simp[aB]at hn
   | dlo _=>simp[aB]at hn
   | dic _ _=>simp[deep]at hx
 | succ n ih=>
   intro x hx hn pins s σ H O v w u u' A I r1 r2 ru ru' hu
   cases r1 with
   | non=>cases r2;cases ru;cases ru';exact SeqAt.EqAt.same _
   | bl b=>cases r2;cases ru;cases ru';exact SeqAt.EqAt.same _
   | int i=>
     cases r2;obtain⟨t,rfl⟩:=ru;obtain⟨t',rfl⟩:=ru'
     have:=SeqAt.EqAt.int_int (A:=A) (s:=s) i t i t'
     rw[beq_self_eq_true]at this
     exact this
   | str i=>
     cases r2;obtain⟨t,rfl⟩:=ru;obtain⟨t',rfl⟩:=ru'
     have:=SeqAt.EqAt.str_str (A:=A) (s:=s) i t i t'
     rw[beq_self_eq_true]at this
     exact this
   | @tup a xs ds h1 q1=>
     cases r2 with
     | @tup b ys _ h2 q2=>
       cases ru;cases ru'
       by_cases e:a=b
       . subst e;exact SeqAt.EqAt.same _
       . obtain⟨its,v1,p1,_⟩:=I.tuple h1.sq
         obtain⟨its2,v2,p2,_⟩:=I.tuple h2.sq
         have l1:its.length=ds.length:=by rw[←v1.length,q1.length]
         have l2:its2.length=ds.length:=by rw[←v2.length,q2.length]
         have rc:=SeqAt.RcAt.tuples (A:=A) (e:=λ _=>true) (show s.heap.IsTuple a its.toArray from p1) (show s.heap.IsTuple b its2.toArray from p2) (by omega) (λ j j1 j2=>?_)
         . have e2:((List.range (min its.toArray.size its2.toArray.size)).all (λ _=>true)&&its.toArray.size==its2.toArray.size)=true:=by simp[l1,l2]
           rw[e2]at rc
           exact SeqAt.EqAt.of_refs e rc
         . have hj:j<ds.length:=by simpa[l1]using j1
           obtain⟨z1,a1,b1⟩:=q1.get (y0 hj)
           obtain⟨z2,a2,b2⟩:=q2.get (y0 hj)
           obtain⟨u1,c1,d1⟩:=v1.get a1
           obtain⟨u2,c2,d2⟩:=v2.get a2
           have e1:its.toArray[j]=u1:=by have:=(z0.mp c1).2;simpa using this
           have e2:its2.toArray[j]=u2:=by have:=(z0.mp c2).2;simpa using this
           rw[e1,e2]
           have hd:=eF (y0 hj)
           exact ih ds[j] (by simp[deep]at hx;omega) (gD (by simpa[aB]using hn) (y0 hj)) I b1 b2 d1 d2 (by show A.units+1+n<cLine;omega)
   | @lst a xs ds h1 q1=>
     cases r2 with
     | @lst b ys _ h2 q2=>
       cases ru;cases ru'
       by_cases e:a=b
       . subst e;exact SeqAt.EqAt.same _
       . obtain⟨its,v1,p1,_⟩:=I.list h1.sq
         obtain⟨its2,v2,p2,_⟩:=I.list h2.sq
         have l1:its.length=ds.length:=by rw[←v1.length,q1.length]
         have l2:its2.length=ds.length:=by rw[←v2.length,q2.length]
         have rc:=SeqAt.RcAt.lists (A:=A) (e:=λ _=>true) p1.isList p2.isList (by simp[l1,l2]) (by omega) (λ j j1 j2=>?_)
         . have e2:(List.range its.toArray.size).all (λ _=>true)=true:=by simp
           rw[e2]at rc
           exact SeqAt.EqAt.of_refs e rc
         . have hj:j<ds.length:=by simpa[l1]using j1
           obtain⟨z1,a1,b1⟩:=q1.get (y0 hj)
           obtain⟨z2,a2,b2⟩:=q2.get (y0 hj)
           obtain⟨u1,c1,d1⟩:=v1.get a1
           obtain⟨u2,c2,d2⟩:=v2.get a2
           have e1:its.toArray[j]=u1:=by have:=(z0.mp c1).2;simpa using this
           have e2:its2.toArray[j]=u2:=by have:=(z0.mp c2).2;simpa using this
           rw[e1,e2]
           have hd:=eF (y0 hj)
           exact ih ds[j] (by simp[deep]at hx;omega) (gD (by simpa[aB]using hn) (y0 hj)) I b1 b2 d1 d2 (by show A.units+1+n<cLine;omega)
   | loc _=>simp[aB]at hn
   | dlo _=>simp[aB]at hn
   | @dic a h1 e1=>
     cases r2 with
     | @dic b h2 e2=>
       cases ru;cases ru'
       by_cases e:a=b
       . subst e;exact SeqAt.EqAt.same _
       . obtain⟨z1,d1⟩:=jZ I e1
         obtain⟨z2,d2⟩:=jZ I e2
         refine SeqAt.EqAt.of_refs e λ prog w' E Q hq=>?_
         exact PySem.W.keq_eq (knd:=eO prog w') z1 z2 (J8 d1) (J8 d2) (by omega) (λ _=>.nil) (by simpa using hq)
end
end DL
namespace DL
open PySem PySem.Spec L2
open PyProof.Rows
variable {pins : Pins} {H : Hp} {s : Shared}
section
variable {X : Cx} {Γ : Gam} {S : Store} {W : WD} {a b e : Expr} {es : List Expr} {pos : Pos}
theorem HN{x:D}(hu:X.A.units+60<cLine)(hn:aB x=true)(hd:deep x≤50)(w:W (.bl false) S):aY X .NotEq x x S W:=by
 intro pins s σ H O v w' u u' I st r1 r2 r3 r4
 have fin:∀{k:Bool},SeqAt.RcNeAt X.A s u u' k->k=false->wpAny (model X.prog X.w) X.A (compareOp .NotEq u u') (EP X pins σ (QG X.K O H W)) X.xe s:=λ h e=>by
  subst e
  exact h _ _ _ _ ⟨.bl false,H,I,rfl,QG.here w st (.bl false)⟩
 cases r1 with
 | non=>cases r2;cases r3;cases r4;exact fin SeqAt.RcNeAt.none_none rfl
 | bl y=>cases r2;cases r3;cases r4;exact fin (SeqAt.RcNeAt.bool_bool y y) (by simp)
 | int y=>cases r2;obtain⟨t,rfl⟩:=r3;obtain⟨t',rfl⟩:=r4;exact fin (SeqAt.RcNeAt.int_int y t y t') (by simp)
 | str y=>cases r2;obtain⟨t,rfl⟩:=r3;obtain⟨t',rfl⟩:=r4;exact fin (SeqAt.RcNeAt.str_str y t y t') (by simp)
 | @tup a xs ds h1 q1=>
   cases r2 with
   | @tup b ys _ h2 q2=>
     cases r3;cases r4
     obtain⟨its,v1,p1,_⟩:=I.tuple h1.sq
     obtain⟨its2,v2,p2,_⟩:=I.tuple h2.sq
     have l1:its.length=ds.length:=by rw[←v1.length,q1.length]
     have l2:its2.length=ds.length:=by rw[←v2.length,q2.length]
     refine fin (SeqAt.RcNeAt.tuples (e:=λ _=>true) (show s.heap.IsTuple a its.toArray from p1) (show s.heap.IsTuple b its2.toArray from p2) (by omega) (λ j j1 j2=>?_)) (by simp[l1,l2])
     have hj:j<ds.length:=by simpa[l1]using j1
     obtain⟨z1,a1,b1⟩:=q1.get (y0 hj)
     obtain⟨z2,a2,b2⟩:=q2.get (y0 hj)
     obtain⟨u1,c1,d1⟩:=v1.get a1
     obtain⟨u2,c2,d2⟩:=v2.get a2
     have e1:its.toArray[j]=u1:=by have:=(z0.mp c1).2;simpa using this
     have e2:its2.toArray[j]=u2:=by have:=(z0.mp c2).2;simpa using this
     rw[e1,e2]
     have hd':=eF (y0 hj)
     exact Hb 49 ds[j] (by simp[deep]at hd;omega) (gD (by simpa[aB]using hn) (y0 hj)) I b1 b2 d1 d2 (by show X.A.units+1+49<cLine;omega)
 | @lst a xs ds h1 q1=>
   cases r2 with
   | @lst b ys _ h2 q2=>
     cases r3;cases r4
     obtain⟨its,v1,p1,_⟩:=I.list h1.sq
     obtain⟨its2,v2,p2,_⟩:=I.list h2.sq
     have l1:its.length=ds.length:=by rw[←v1.length,q1.length]
     have l2:its2.length=ds.length:=by rw[←v2.length,q2.length]
     refine fin (SeqAt.RcNeAt.lists (e:=λ _=>true) p1.isList p2.isList (by simp[l1,l2]) (by omega) (λ j j1 j2=>?_)) (by simp)
     have hj:j<ds.length:=by simpa[l1]using j1
     obtain⟨z1,a1,b1⟩:=q1.get (y0 hj)
     obtain⟨z2,a2,b2⟩:=q2.get (y0 hj)
     obtain⟨u1,c1,d1⟩:=v1.get a1
     obtain⟨u2,c2,d2⟩:=v2.get a2
     have e1:its.toArray[j]=u1:=by have:=(z0.mp c1).2;simpa using this
     have e2:its2.toArray[j]=u2:=by have:=(z0.mp c2).2;simpa using this
     rw[e1,e2]
     have hd':=eF (y0 hj)
     exact Hb 49 ds[j] (by simp[deep]at hd;omega) (gD (by simpa[aB]using hn) (y0 hj)) I b1 b2 d1 d2 (by show X.A.units+1+49<cLine;omega)
 | loc _=>simp[aB]at hn
 | dlo _=>simp[aB]at hn
 | @dic a h1 e1=>
   cases r2 with
   | @dic b h2 e2=>
     cases r3;cases r4
     obtain⟨z1,d1⟩:=jZ I e1
     obtain⟨z2,d2⟩:=jZ I e2
     exact PySem.W.keq_ne (knd:=eO X.prog X.w) z1 z2 d1 d2 (by omega) (λ _=>.nil) ⟨.bl false,H,I,rfl,QG.here w st (.bl false)⟩
end
set_option genInjectivity false in
structure SqKind(P:Program)(w:World)(K:PySem.W.Frag) where
 Sq:Hp->Addr->List V->Prop
 It:Heap->Addr->Addr->Nat->Prop
 Ob:Heap->Addr->Array Value->Prop
 itObj:∀{h it a i},It h it a i->∃o vs,h.get? it=some o/\o.data=.fields vs
 itAt:∀{h h' it a i},It h it a i->(∀o,h.get? it=some o->h'.get? it=some o)->It h' it a i
 obObj:∀{h a its},Ob h a its->∃o n,h.get? a=some o/\o.data=.seq its n
 draws:∀(A:Around),A.handled=none->∀(it a:Addr),a≠it->∀items:Array Value,Draws P w A it [it,a] items.size (λ i v=>items[i]? =some v) (λ i h=>It h it a i/\Ob h a items)
 get:∀{X:Cx}{pins:Pins}{σ:St}{H:Hp}{s:Shared}{a:Addr}{xs:List V},X.prog=P->X.w=w->X.K=K->Inv X pins σ H s->Sq H a xs->∃its:List Value,Vals xs its/\Ob s.heap a its.toArray
 inj:∀{X:Cx}{pins:Pins}{σ:St}{H:Hp}{s:Shared}{a:Addr}{xs ys:List V},X.prog=P->X.w=w->X.K=K->Inv X pins σ H s->Sq H a xs->Sq H a ys->xs=ys
 far:∀{X:Cx}{pins:Pins}{σ:St}{H:Hp}{s:Shared}{a b:Addr}{xs:List V},X.K=K->Inv X pins σ H s->Sq H a xs->fC X pins H b->a≠b
section
variable {P : Program} {w : World} {K : PySem.W.Frag}
theorem SqKind.ne(q:SqKind P w K){h:Heap}{it a:Addr}{i:Nat}{its:Array Value}(x:q.It h it a i)(y:q.Ob h a its):a≠it:=λ e=>by
 obtain⟨o,vs,h1,h2⟩:=q.itObj x
 obtain⟨o',n,h3,h4⟩:=q.obObj y
 rw[e,h1]at h3
 cases h3
 rw[h2]at h4
 cases h4
theorem Qh{X:Cx}{σ:St}{a b:Addr}{o:Obj}(I:Inv X pins σ H s)(h:X.K.lookup a=some o)(f:fC X pins H b):a≠b:=λ z=>by
 have e:=I.ok.mod.kin a o h
 rw[z]at e
 rcases f.2.2.2.1 with q | q
 . exact I.ok.noex b o e q
 . exact absurd (w9 (Heap.lt_size e) (Nat.le_trans I.ok.bsz q)) (Nat.lt_irrefl _)
def Ru(P:Program)(w:World)(K:PySem.W.Frag):SqKind P w K where
 Sq:=SqL K
 It:=λ h it a i=>h.IsListIter it a i
 Ob:=λ h a its=>h.IsList a its
 itObj:=λ x=>let ⟨o,e,_,d⟩:=x;⟨o,_,e,d⟩
 itAt:=λ x k=>x.at k
 obObj:=λ x=>let ⟨o,e,_,n,d⟩:=x;⟨o,n,e,d⟩
 draws:=λ A hh it a ne items=>Draws.list hh it a ne items
 get:=λ hP hw hK I h=>by
  subst hP hw hK
  obtain⟨its,rv,p,_⟩:=I.list h
  exact⟨its,rv,p.isList⟩
 inj:=λ hP hw hK I h h'=>by
  subst hP hw hK
  exact I.list_inj h h'
 far:=λ hK I h f=>by
  subst hK
  rcases h with(h | ⟨_,h⟩) | ⟨o,_,_,h,_⟩
  . exact aH h f.1
  . exact aH h f.1
  . exact Qh I h f
theorem Nf{prog:Program}{w:World}{A:Around}{E:Value->Shared->Prop}{it t:Addr}{i:Nat}{items:Array Value}{x:Value}{Q:Value->Shared->Prop}(hi:s.heap.IsTupleIter it t i)(ht:s.heap.IsTuple t items)(hx:items[i]? =some x)
 (hQ:∀h',h'.IsTupleIter it t (i+1)->Heap.SameBut it s.heap h'->Q x {s with heap:=h'}):wpAny (model prog w) A (Builtin.SmallTypes.nextOf (.ref it)) Q E s:=by
 obtain⟨o,ho,hc,hd⟩:=id hi
 obtain⟨o2,ho2,_,n2,hd2⟩:=ht
 unfold Builtin.SmallTypes.nextOf
 refine wpAny_bind (wpAny_callSpecial?_slot (name:=Str.ofString "__next__") hi.typeIs F.slot_tuple_iterator_next (wpAny_call_entry F.slot_tuple_iterator_next hi.typeIs F.entry_tuple_iterator_next ?_ (F.args_tuple_iterator_next_1 _)))
 refine wpAny_bind (m:=field (.ref it) 0) (wpAny_field ho hd (x:=.ref t) rfl ?_)
 rw[if_neg (show ¬((Value.ref t==Value.none)=true)from y4)]
 refine wpAny_bind (m:=field (.ref it) 1) (wpAny_field ho hd (x:=.int i 0) rfl ?_)
 refine wpAny_bind (m:=seqItems? (.ref t)) (wpAny_seqItems ho2 hd2 ?_)
 simp only[Int.toNat_natCast,hx]
 refine wpAny_bind (wpAny_setField ho hd (by simp) (wpAny_pure ⟨x,rfl,wpAny_pure (hQ _ ⟨_,Heap.get?_update_self _ ho (Obj.isFreed_of_fields (Obj.data_mapFields hd _)),(Obj.cls_mapFields ..).trans hc,by rw[Obj.data_mapFields hd];simp[rawInt]⟩ (Heap.SameBut.update ..))⟩))
theorem Ff{prog:Program}{w:World}{A:Around}{E:Value->Shared->Prop}{it t:Addr}{i:Nat}{items:Array Value}{Q:Value->Shared->Prop}(hh:A.handled=none)(hi:s.heap.IsTupleIter it t i)(ht:s.heap.IsTuple t items)(hx:items[i]? =none)
 (hE:∀h' e,Heap.ExtBut it s.heap h'->(∃o,h'.get? e=some o/\o.cls=.type "StopIteration")->E (.ref e) {s with heap:=h'}):wpAny (model prog w) A (Builtin.SmallTypes.nextOf (.ref it)) Q E s:=by
 obtain⟨o,ho,hc,hd⟩:=id hi
 obtain⟨o2,ho2,_,n2,hd2⟩:=ht
 unfold Builtin.SmallTypes.nextOf
 refine wpAny_bind (wpAny_callSpecial?_slot (name:=Str.ofString "__next__") hi.typeIs F.slot_tuple_iterator_next (wpAny_call_entry F.slot_tuple_iterator_next hi.typeIs F.entry_tuple_iterator_next ?_ (F.args_tuple_iterator_next_1 _)))
 refine wpAny_bind (m:=field (.ref it) 0) (wpAny_field ho hd (x:=.ref t) rfl ?_)
 rw[if_neg (show ¬((Value.ref t==Value.none)=true)from y4)]
 refine wpAny_bind (m:=field (.ref it) 1) (wpAny_field ho hd (x:=.int i 0) rfl ?_)
 refine wpAny_bind (m:=seqItems? (.ref t)) (wpAny_seqItems ho2 hd2 ?_)
 simp only[Int.toNat_natCast,hx]
 refine wpAny_bind (wpAny_rule (wpAny_bind (wpAny_setField ho hd (by simp) (wpAny_bind (m:=newExc (.type "StopIteration") []) ?_))))
 simp only[newExc,newTuple]
 refine wpAny_bind (wpAny_newObj_type (wpAny_bind (m:=firstArgMember _ _) (wpAny_of_eq (a:=Value.none) (by first | rfl | (simp only[firstArgMember];rfl)) (wpAny_newObj_type ?_ (by size_fits)))) (by size_fits))
 simp only[raiseNew]
 refine wpAny_bind (wpAny_handled ?_)
 first | rw[show A.in1.handled=none from hh] | rw[hh]
 exact wpAny_bind (wpAny_pure (wpAny_throw (hE _ _ (((Heap.SameBut.update ..).extBut.push _).push _) ⟨_,Heap.get?_push_size _ rfl,rfl⟩)))
theorem IV{prog:Program}{w:World}{A:Around}(hh:A.handled=none)(it t:Addr)(ne:t≠it)(items:Array Value):
 Draws prog w A it [it,t] items.size (λ i v=>items[i]? =some v) (λ i h=>h.IsTupleIter it t i/\h.IsTuple t items) where
 live:=λ i h x=>let ⟨o,e,_⟩:=x.1;⟨o,e⟩
 frame:=λ i h h' x k=>by
  obtain⟨⟨o,e,r⟩,⟨o2,e2,r2⟩⟩:=x
  exact⟨⟨o,k it (by simp) o e,r⟩,⟨o2,k t (by simp) o2 e2,r2⟩⟩
 item:=λ i s Q E hi x hQ=>Nf x.1 x.2 (x:=items[i]) (by simp[hi]) λ h' y sb=>hQ _ h' s.toks (by simp[hi]) ⟨y,x.2.extBut sb.extBut ne⟩ sb
 done:=λ s Q E x hE=>Ff hh x.1 x.2 (by simp) hE
def Jt(P:Program)(w:World)(K:PySem.W.Frag):SqKind P w K where
 Sq:=SqT K
 It:=λ h it a i=>h.IsTupleIter it a i
 Ob:=λ h a its=>h.IsTuple a its
 itObj:=λ x=>let ⟨o,e,_,d⟩:=x;⟨o,_,e,d⟩
 itAt:=λ x k=>let ⟨o,e,r⟩:=x;⟨o,k o e,r⟩
 obObj:=λ x=>let ⟨o,e,_,n,d⟩:=x;⟨o,n,e,d⟩
 draws:=λ A hh it a ne items=>IV hh it a ne items
 get:=λ hP hw hK I h=>by
  subst hP hw hK
  obtain⟨its,rv,p,_⟩:=I.tuple h
  exact⟨its,rv,p⟩
 inj:=λ hP hw hK I h h'=>by
  subst hP hw hK
  exact I.tuple_inj h h'
 far:=λ hK I h f=>by
  subst hK
  rcases h with(h | ⟨_,h⟩) | ⟨o,_,_,h,_⟩
  . exact aH h f.1
  . exact aH h f.1
  . exact Qh I h f
theorem t6{X:Cx}{σ:St}{h':Heap}{t:Nat}{ch:List Addr}(I:Inv X pins σ H s)(hf:∀b∈ch,fC X pins H b)(k:∀b o,b∉ch->s.heap.get? b=some o->h'.get? b=some o):Inv X pins σ H {s with heap:=h',toks:=t}:=by
 have nch:∀b u,H b=some u->b∉ch:=λ b u e z=>by rw[(hf b z).1]at e;cases e
 refine I.step (g':=s.gens) (d':=s.drawn) (ch:=ch) (λ b hb=>⟨(hf b hb).2.2.2.1,(hf b hb).2.1,(hf b hb).2.2.2.2.1,(hf b hb).2.2.2.2.2⟩) (λ b o _ _ hc e _=>k b o hc e) (λ b o _ _ hc e _=>⟨o.slots,k b o hc e⟩) (λ _ _ _ _ n=>n) (λ b o hc e=>⟨o,k b o hc e⟩)
  (λ _ _ e=>e) (λ _ _ _ e=>e) (λ b ps e=>⟨#[],by rw[e];simp⟩) (λ m hm=>?_) (λ b u e=>?_) I.bare
 . obtain⟨o,es,ep,ho,r⟩:=hm
   exact⟨o,es,ep,k _ o (λ z=>(hf _ z).2.1 rfl) ho,r⟩
 . refine(I.hok b u e).stay (λ c v hc q=>k c v ?_ q) (λ _ q=>q) λ _ _ q=>q
   rcases hc with z | z
   . rw[z];exact nch b u e
   . exact nch c _ z
theorem zp{X:Cx}{σ:St}{s':Shared}{p:Addr}{o:HO}(I:Inv X pins σ H s)(I':Inv X pins σ H s')(hp:s.heap.objs.size≤p)(ob:bz X.prog X.w (upd H p o) s'.heap p o):Inv X pins σ (upd H p o) s':=by
 have hn:H p=none:=I.hok.fresh hp
 have nt:∀b u,H b=some u->b≠p:=λ b u e=>aH e hn
 refine⟨I'.ok,I'.os,I'.bare,⟨I'.base.keep,I'.base.slot,λ b ob e n hx=>?_,I'.base.there,λ b xs e=>?_,λ b ob u e=>?_,λ b ps e=>?_⟩,I'.loc,I'.cell,?_,λ x c e=>?_,λ q hq=>?_,λ b u e=>?_,I'.len⟩
 . have lt:b<s.heap.objs.size:=w9 (Heap.lt_size e) I.sz
   rw[aA (v3 (w9 lt hp))]
   exact I'.base.free b ob e n hx
 . have:=I'.base.tups b xs e
   rw[aA (nt b _ this)];exact this
 . have:=I'.base.frzs b ob u e
   rw[aA (nt b _ this)];exact this
 . obtain⟨m,e'⟩:=I'.base.tbls b ps e
   exact⟨m,by rw[aA (nt b _ e')];exact e'⟩
 . rw[aA (v3 (w9 I.lt hp))];exact I'.free
 . obtain⟨v,z⟩:=I.cell x c e
   rw[aA (v3 (w9 z.lt hp))];exact I'.freeC x c e
 . obtain⟨e1,_⟩:=I.pin q hq
   obtain⟨a1,a2,a3⟩:=I'.pin q hq
   exact⟨a1,by rw[aA (v3 (w9 (Heap.lt_size e1) hp))];exact a2,a3⟩
 . by_cases hb:b=p
   . subst hb;rw[aP]at e;cases e;exact ob
   . rw[aA hb]at e
     exact(I'.hok b u e).stay (λ c v _ q=>q) (λ c q=>by rw[aA (nt c _ q)];exact q) λ c xs q=>by rw[aA (nt c _ q)];exact q
def Ite(q:SqKind P w K)(a:Addr):It:=
 ⟨λ i H=>∃xs x,q.Sq H a xs/\xs[i]? =some x,λ i H x H'=>∃p y,H p=none/\H'=upd H p (.tup [.int i,y])/\x=.ref p/\∀xs,q.Sq H a xs->xs[i]? =some y,λ i H=>∃xs,q.Sq H a xs/\i=xs.length⟩
theorem Fb(q:SqKind P w K){elts:List Expr}{k:Nat}{pos:Pos}(a e it:Addr)(hne:e≠it):Turn P w K (.Tuple elts k pos) (Ite q a) [e,it] e (λ i h=>(∃old,IsEnum h e it i old)/\q.It h it a i) where
 mem:=by simp
 obj:=λ i h st b hb=>by
  obtain⟨⟨old,he⟩,hi⟩:=st
  rcases List.mem_cons.mp hb with rfl | hb
  . exact⟨_,he,λ v z=>nomatch z⟩
  . rw[List.mem_singleton.mp hb]
    obtain⟨o,vs,h1,h2⟩:=q.itObj hi
    exact⟨o,h1,λ v z=>by rw[h2]at z;cases z⟩
 keep:=λ i h h' st k=>⟨let ⟨old,he⟩:=st.1;⟨old,k e (by simp) _ he⟩,q.itAt st.2 λ o e=>k it (by simp) o e⟩
 item :=by
  intro X hP hw hK hc i pins s σ H E I hf st hg
  obtain⟨xs,x,hq,hx⟩:=hg
  obtain⟨its,rv,ob⟩:=q.get hP hw hK I hq
  obtain⟨u,hu,ru⟩:=rv.get hx
  obtain⟨⟨old,he⟩,hi⟩:=st
  have ne:=q.ne hi ob
  have hea:e≠a:=λ z=>by
   obtain⟨o,n,h1,h2⟩:=q.obObj ob
   rw[←z,he]at h1
   cases h1
   cases h2
  have hlt:i<its.toArray.size:=by simpa using(z0.mp hu).1
  have uq:∀ys,q.Sq H a ys->ys[i]? =some x:=λ ys hy=>by rw[q.inj hP hw hK I hy hq];exact hx
  subst hP hw
  refine wpAny_pyNext_enum_itemD (q.draws X.A.in1 (I.ok.hd hc) it a ne its.toArray) he ⟨hi,ob⟩ hlt hne (by simp[hne,hea]) λ x' h' tk hPx ho hs' hT hsz hk=>?_
  have ex:x'=u:=by
   have:its.toArray[i]? =some u:=by simpa using hu
   rw[this]at hPx
   exact(Option.some.inj hPx).symm
  subst ex
  refine⟨_,rfl,wpAny_letOwnedTupleGo_enum ho λ h2 he2 sb=>?_⟩
  have I1:Inv X pins σ H {s with heap:=h2,toks:=tk+1}:=t6 (ch:=[e,it]) I hf λ b o hb q'=>(sb.2 b (λ z=>hb (by simp[z]))).trans (hk b o (λ z=>hb (by simp[z])) (λ z=>hb (by simp[z])) q')
  have hp:H s.heap.objs.size=none:=I.hok.fresh (y8 _)
  have elt:e<s.heap.objs.size:=Heap.lt_size he
  have hT2:h2.get? s.heap.objs.size=some {cls:=.type "tuple",data:=.seq #[.int i tk,x']}:=(sb.2 _ (Nat.ne_of_gt elt)).trans hT
  have I2:Inv X pins σ (upd H s.heap.objs.size (.tup [.int i,x])) {s with heap:=h2,toks:=tk+1}:=zp I I1 (y8 _) ⟨by show 2≤sizeLine;decide,[.int i tk,x'],.cons ⟨tk,rfl⟩ (.cons ru .nil),_,hT2,rfl,_,rfl⟩
  refine⟨.ref s.heap.objs.size,_,I2,rfl,⟨_,x,hp,rfl,rfl,uq⟩,⟨⟨_,by simpa using he2⟩,q.itAt hs'.1 λ o q'=>(sb.2 it hne.symm).trans q'⟩,λ b hb=>?_⟩
  rw[aA (v3 ?_)]
  . exact(hf b hb).1
  . rcases List.mem_cons.mp hb with rfl | hb
    . exact elt
    . rw[List.mem_singleton.mp hb]
      obtain⟨o,vs,h1,_⟩:=q.itObj hi
      exact Heap.lt_size h1
 done:=by
  intro X hP hw hK hc i pins s σ H E I hf st hg
  obtain⟨xs,hq,hx⟩:=hg
  obtain⟨its,rv,ob⟩:=q.get hP hw hK I hq
  obtain⟨⟨old,he⟩,hi⟩:=st
  have ne:=q.ne hi ob
  subst hP hw
  obtain⟨f0,f1,f2,f3,f4,f5⟩:=hf it (by simp)
  have hn:i=its.toArray.size:=by rw[hx,rv.length];simp
  have st':q.It s.heap it a its.toArray.size/\q.Ob s.heap a its.toArray:=⟨hn▸hi,ob⟩
  exact wpAny_pyNext_enum_endD (q.draws X.A.in1 (I.ok.hd hc) it a ne its.toArray) he st' λ h' ext=>⟨rfl,I.turned (t':=s.toks) (λ b o hb e=>ext b o hb e) f0 f1 f3 f4 f5⟩
 self:=λ _ _ _ _ _ st h=>let ⟨old,he⟩:=st.1;wpAny_pyIter_enum he h
theorem nR(q:SqKind P w K){O:Own}{H:Hp}{a:Addr}{ds:List D}(h:∀O' H',Conv O O' H H'->∃xs,q.Sq H' a xs/\Reps K O' H' xs ds):gq K (Ite q a) O H (ds.mapIdx λ i d=>.tup [.int i,d]):=by
 intro O' H' cv tr i
 obtain⟨xs,hq,r⟩:=h O' H' cv
 refine⟨λ d hd=>?_,λ hi=>⟨xs,hq,by rw[hi,r.length];simp⟩⟩
 rw[List.getElem?_mapIdx]at hd
 cases e:ds[i]? with
 | none=>rw[e]at hd;cases hd
 | some d0=>
   rw[e]at hd
   cases hd
   obtain⟨v,hv,rv⟩:=r.get e
   refine⟨⟨xs,v,hq,hv⟩,λ x H'' y=>?_⟩
   obtain⟨p,y,hp,rfl,rfl,hy⟩:=y
   have ey:=hy xs hq
   rw[hv]at ey
   cases ey
   have np:¬O'.has p:=λ z=>tr p z hp
   exact⟨dG.fresh hp _,.tup ⟨np,aP⟩ (.cons (.int _) (.cons (rv.mono (Step.fresh hp _)) .nil))⟩
section
variable {X : Cx} {Γ : Gam} {S : Store} {e : Expr} {pos : Pos}
theorem Cp{σ:St}{elts:List Expr}{k:Nat}{tp:Pos}{R:It->Hp->Prop}{E:Value->Shared->Prop}{h':Heap}(q:SqKind X.prog X.w X.K){a:Addr}(I:Inv X pins σ H s)(he:IsEnum h' (s.heap.objs.size+1) s.heap.objs.size 0 .none)(hi:q.It h' s.heap.objs.size a 0)
 (kp:∀b o,s.heap.get? b=some o->h'.get? b=some o)(r:R (Ite q a) H):wpAny (model X.prog X.w) X.A (pyIter (.ref (s.heap.objs.size+1))) (PIE X pins σ (.Tuple elts k tp) R) E {s with heap:=h'}:=by
 refine wpAny_pyIter_enum he ?_
 refine⟨s.heap.objs.size+1,[s.heap.objs.size+1,s.heap.objs.size],_,_,H,rfl,I.kept (t':=s.toks) kp,Fb q a (s.heap.objs.size+1) s.heap.objs.size (Nat.succ_ne_self _),⟨⟨_,he⟩,hi⟩,λ b hb=>?_,r⟩
 rcases List.mem_cons.mp hb with rfl | hb
 . exact I.fpOk (Nat.le_succ _) (I.hok.fresh (Nat.le_succ _))
 . rw[List.mem_singleton.mp hb]
   exact I.fpOk (y8 _) (I.hok.fresh (y8 _))
theorem GP(l:Addr)(items:Array Value)(n:Nat)(dct:Option Addr)(sl:Array (Option Value)):
 Meets (Builtin.«enumerate.__new__» ⟨[.type "enumerate",.ref l],[]⟩) (λ _ R s=>s.heap.get? l=some {cls:=.type "tuple",dict:=dct,data:=.seq items n,slots:=sl}/\
  R (.ok (.ret (.ref (s.heap.push {cls:=.type "tuple_iterator",data:=.fields #[.ref l,.int 0 0]}).objs.size)))
    {s with heap:=(s.heap.push {cls:=.type "tuple_iterator",data:=.fields #[.ref l,.int 0 0]}).push {cls:=.type "enumerate",data:=.fields #[.none,.bool false,.ref s.heap.objs.size,rawInt 0,.none,.none]}}):=
 .of_wp λ prog w A R s h=>by
  obtain⟨hp,g,d,tk,os⟩:=s;obtain⟨hl,h⟩:=h
  have hsub:=sub_enumerate
  have hT:Heap.IsTuple (Shared.heap ⟨hp,g,d,tk,os⟩) l items:=⟨_,hl,rfl,n,rfl⟩
  wp_walk using AutoSeq1.wpAny_loadPart' hl
  refine wpAny_stack_any λ st=>wpAny_pure ?_
  split
  . rename_i c _ _ _ _ _
    cases (c==Value.type "enumerate")<;>(wp_walk using AutoSeq1.wpAny_loadPart' hl,wpAny_pyIter_tuple hT;exact⟨_,rfl,h⟩)
  . wp_walk using AutoSeq1.wpAny_loadPart' hl,wpAny_pyIter_tuple hT
    exact⟨_,rfl,h⟩
end
end
end DL
namespace DL
open PySem PySem.Spec L2
open PyProof.Rows
structure Zd(z TI TO i1 i2:Addr)(f1 f2:List Addr):Prop where
 a:TI≠z
 b:TO≠z
 c:TI≠TO
 d:TI≠i1
 e:TI≠i2
 f:TO≠i1
 g:TO≠i2
 h:i1≠z
 i:i2≠z
 j:z∉f1
 k:z∉f2
 l:TO∉f1
 m:TO∉f2
 n:i1∉f2
 o:i2∉f1
section
variable {prog : Program} {w : World} {A : Around} {E : Value -> Shared -> Prop} {s : Shared} {z TI TO i1 i2 : Addr} {f1 f2 : List Addr} {n1 n2 k : Nat} {P1 P2 : Nat -> Value -> Prop} {T1 T2 : Nat -> Heap -> Prop} {va vb : Value}
theorem M6{Q:Value->Shared->Prop}(D1:Draws prog w A i1 f1 n1 P1 T1)(D2:Draws prog w A i2 f2 n2 P2 T2)(Z:Zd z TI TO i1 i2 f1 f2)(hz:IsZip s.heap z TI TO .none)(hTI:IsPair s.heap TI (.ref i1) (.ref i2))(hTO:IsPair s.heap TO va vb)(t1:T1 k s.heap)(t2:T2 k s.heap)(k1:k<n1)(k2:k<n2)
 (hQ:∀x y h' tk,P1 k x->P2 k y->IsZip h' z TI TO (rawInt s.heap.objs.size)->IsPair h' TO x y->T1 (k+1) h'->T2 (k+1) h'->IsPair h' s.heap.objs.size x y->
  (∀c o,c≠z->c≠TO->c≠i1->c≠i2->s.heap.get? c=some o->h'.get? c=some o)->Q (.ref s.heap.objs.size) {s with heap:=h',toks:=tk}):
 wpAny (model prog w) A (Builtin.«zip.__next__» ⟨[.ref z],[]⟩) (λ fin s'=>∃v,fin=.done (.ret v)/\Q v s') E s:=by
 obtain⟨hp,g,d,tk0,os⟩:=s
 refine wpAny_bind (m:=field (.ref z) 2) (wpAny_field hz rfl (x:=.bool false) rfl (wpAny_bind (m:=field (.ref z) 3) (wpAny_field hz rfl (x:=.ref TI) rfl (wpAny_bind (wpAny_seqItems hTI rfl ?_)))))
 refine wpAny_bind (m:=Builtin.SmallTypes.ownedTupleIsFree (.ref z)) ?_
 unfold Builtin.SmallTypes.ownedTupleIsFree
 refine wpAny_bind (wpAny_field hz rfl (x:=.none) rfl (wpAny_pure ?_))
 simp only[if_true]
 refine wpAny_bind (wpAny_rule (wpAny_bind (wpAny_field hz rfl (x:=.ref TO) rfl (wpAny_bind (wpAny_setField_rec hz (by simp) λ h1 hz1 s1=>?_)))))
 replace hz1:IsZip h1 z TI TO .ellipsis:=hz1
 refine wpAny_bind ?_
 simp only[List.zipIdx_cons,List.zipIdx_nil,List.forIn_cons,List.forIn_nil]
 refine wpAny_bind (wpAny_bind (wpAny_onRaise (wpAny_bind (m:=Builtin.SmallTypes.nextOf (.ref i1)) ?_)))
 refine D1.item k _ _ _ k1 (D1.frame _ _ _ t1 λ b hb o e=>s1.extBut b o (λ q=>Z.j (q▸hb)) e) λ x h2 tk1 p1 t1' s2=>wpAny_pure ?_
 replace s2:Heap.SameBut i1 h1 h2:=s2
 have o2:IsPair h2 TO va vb:=s2.extBut _ _ Z.f (s1.extBut _ _ Z.b hTO)
 refine wpAny_bind (wpAny_seqItems o2 rfl (wpAny_bind (wpAny_updateSeq_pair o2 λ h3 o3 s3=>wpAny_bind (wpAny_letGo (wpAny_pure ?_)))))
 replace o3:IsPair h3 TO x vb:=o3
 refine wpAny_bind (wpAny_bind (wpAny_onRaise (wpAny_bind (m:=Builtin.SmallTypes.nextOf (.ref i2)) ?_)))
 have t2':T2 k h3:=D2.frame _ _ _ t2 λ b hb o e=>s3.extBut b o (λ q=>Z.m (q▸hb)) (s2.extBut b o (λ q=>Z.n (q▸hb)) (s1.extBut b o (λ q=>Z.k (q▸hb)) e))
 refine D2.item k _ _ _ k2 t2' λ y h4 tk2 p2 t2'' s4=>wpAny_pure ?_
 replace s4:Heap.SameBut i2 h3 h4:=s4
 have o4:IsPair h4 TO x vb:=s4.extBut _ _ Z.g o3
 refine wpAny_bind (wpAny_seqItems o4 rfl (wpAny_bind (wpAny_updateSeq_pair o4 λ h5 o5 s5=>wpAny_bind (wpAny_letGo (wpAny_pure (wpAny_pure ?_))))))
 replace o5:IsPair h5 TO x y:=o5
 refine wpAny_bind (wpAny_seqItems o5 rfl (wpAny_bind (wpAny_newTuple ?_)))
 have sz:h5.objs.size=hp.objs.size:=by rw[s5.1,s4.1,s3.1,s2.1,s1.1]
 have hz5:IsZip h5 z TI TO .ellipsis:=s5.extBut _ _ Z.b.symm (s4.extBut _ _ Z.i.symm (s3.extBut _ _ Z.b.symm (s2.extBut _ _ Z.h.symm hz1)))
 have k5:∀c o,c≠z->c≠TO->c≠i1->c≠i2->hp.get? c=some o->h5.get? c=some o:=λ c o c1 c2 c3 c4 q=>s5.extBut _ _ c2 (s4.extBut _ _ c4 (s3.extBut _ _ c2 (s2.extBut _ _ c3 (s1.extBut _ _ c1 q))))
 have zlt:z<h5.objs.size:=Heap.lt_size hz5
 refine wpAny_bind (m:=Builtin.SmallTypes.ownedTupleHandOut (.ref z) (.ref h5.objs.size)) ?_
 unfold Builtin.SmallTypes.ownedTupleHandOut
 have hz6:IsZip (h5.push {cls:=.type "tuple",data:=.seq #[x,y]}) z TI TO .ellipsis:=Heap.get?_push_of_some _ hz5
 refine wpAny_bind (wpAny_setField_rec hz6 (by simp) λ h7 hz7 s7=>?_)
 replace hz7:IsZip h7 z TI TO (rawInt h5.objs.size):=hz7
 refine wpAny_setField_rec hz7 (by simp) λ h8 hz8 s8=>?_
 replace hz8:IsZip h8 z TI TO (rawInt h5.objs.size):=hz8
 have up:∀c o,c≠z->h5.get? c=some o->h8.get? c=some o:=λ c o c1 q=>s8.extBut _ _ c1 (s7.extBut _ _ c1 (Heap.get?_push_of_some _ q))
 have p8:IsPair h8 h5.objs.size x y:=s8.extBut _ _ (Nat.ne_of_gt zlt) (s7.extBut _ _ (Nat.ne_of_gt zlt) (Heap.get?_push_size _ rfl))
 rw[sz]at hz8 p8
 refine wpAny_pure ⟨_,rfl,?_⟩
 show Q (.ref h5.objs.size) _
 rw[sz]
 have u1:T1 (k+1) h8:=D1.frame _ _ _ t1' λ b hb o q=>up b o (λ r=>Z.j (r▸hb)) (s5.extBut b o (λ r=>Z.l (r▸hb)) (s4.extBut b o (λ r=>Z.o (r▸hb)) (s3.extBut b o (λ r=>Z.l (r▸hb)) q)))
 have u2:T2 (k+1) h8:=D2.frame _ _ _ t2'' λ b hb o q=>up b o (λ r=>Z.k (r▸hb)) (s5.extBut b o (λ r=>Z.m (r▸hb)) q)
 exact hQ x y h8 tk2 p1 p2 hz8 (up _ _ Z.b o5) u1 u2 p8 λ c o c1 c2 c3 c4 q=>up c o c1 (k5 c o c1 c2 c3 c4 q)
theorem Jx{Q:PySem.Fin->Shared->Prop}(D1:Draws prog w A i1 f1 n1 P1 T1)(D2:Draws prog w A i2 f2 n2 P2 T2)(Z:Zd z TI TO i1 i2 f1 f2)(hz:IsZip s.heap z TI TO .none)(hTI:IsPair s.heap TI (.ref i1) (.ref i2))(hTO:IsPair s.heap TO va vb)(t1:T1 k s.heap)(t2:T2 k s.heap)(hk:k=n1∨(k<n1/\k=n2))
 (hE:∀h' tk e,(∀c o,c≠z->c≠TO->c≠i1->c≠i2->s.heap.get? c=some o->h'.get? c=some o)->(∃o,h'.get? e=some o/\o.cls=.type "StopIteration")->E (.ref e) {s with heap:=h',toks:=tk}):
 wpAny (model prog w) A (Builtin.«zip.__next__» ⟨[.ref z],[]⟩) Q E s:=by
 obtain⟨hp,g,d,tk0,os⟩:=s
 refine wpAny_bind (m:=field (.ref z) 2) (wpAny_field hz rfl (x:=.bool false) rfl (wpAny_bind (m:=field (.ref z) 3) (wpAny_field hz rfl (x:=.ref TI) rfl (wpAny_bind (wpAny_seqItems hTI rfl ?_)))))
 refine wpAny_bind (m:=Builtin.SmallTypes.ownedTupleIsFree (.ref z)) ?_
 unfold Builtin.SmallTypes.ownedTupleIsFree
 refine wpAny_bind (wpAny_field hz rfl (x:=.none) rfl (wpAny_pure ?_))
 simp only[if_true]
 refine wpAny_bind (wpAny_rule (wpAny_bind (wpAny_field hz rfl (x:=.ref TO) rfl (wpAny_bind (wpAny_setField_rec hz (by simp) λ h1 hz1 s1=>?_)))))
 replace hz1:IsZip h1 z TI TO .ellipsis:=hz1
 refine wpAny_bind ?_
 simp only[List.zipIdx_cons,List.zipIdx_nil,List.forIn_cons,List.forIn_nil]
 refine wpAny_bind (wpAny_bind (wpAny_onRaise (wpAny_bind (m:=Builtin.SmallTypes.nextOf (.ref i1)) ?_)))
 have t1':T1 k h1:=D1.frame _ _ _ t1 λ b hb o e=>s1.extBut b o (λ q=>Z.j (q▸hb)) e
 rcases hk with rfl | ⟨k1,rfl⟩
 . refine D1.done _ _ _ t1' λ h2 e s2 hq_=>?_
   obtain⟨oe,he,ce⟩:=hq_
   replace s2:Heap.ExtBut i1 h1 h2:=s2
   have hz2:IsZip h2 z TI TO .ellipsis:=s2 _ _ Z.h.symm hz1
   have ez:e≠z:=λ q=>by subst q;rw[hz2]at he;cases he;simp at ce
   exact wpAny_setField_rec hz2 (by simp) λ h3 _ s3=>hE h3 _ e (λ c o c1 _ c3 _ q=>s3.extBut _ _ c1 (s2 _ _ c3 (s1.extBut _ _ c1 q))) ⟨oe,s3.extBut _ _ ez he,ce⟩
 . refine D1.item k _ _ _ k1 t1' λ x h2 tk1 p1 _ s2=>wpAny_pure ?_
   replace s2:Heap.SameBut i1 h1 h2:=s2
   have o2:IsPair h2 TO va vb:=s2.extBut _ _ Z.f (s1.extBut _ _ Z.b hTO)
   refine wpAny_bind (wpAny_seqItems o2 rfl (wpAny_bind (wpAny_updateSeq_pair o2 λ h3 o3 s3=>wpAny_bind (wpAny_letGo (wpAny_pure ?_)))))
   refine wpAny_bind (wpAny_bind (wpAny_onRaise (wpAny_bind (m:=Builtin.SmallTypes.nextOf (.ref i2)) ?_)))
   have t2':T2 k h3:=D2.frame _ _ _ t2 λ b hb o e=>s3.extBut b o (λ q=>Z.m (q▸hb)) (s2.extBut b o (λ q=>Z.n (q▸hb)) (s1.extBut b o (λ q=>Z.k (q▸hb)) e))
   refine D2.done _ _ _ t2' λ h4 e s4 hq_=>?_
   obtain⟨oe,he,ce⟩:=hq_
   replace s4:Heap.ExtBut i2 h3 h4:=s4
   have hz4:IsZip h4 z TI TO .ellipsis:=s4 _ _ Z.i.symm (s3.extBut _ _ Z.b.symm (s2.extBut _ _ Z.h.symm hz1))
   have ez:e≠z:=λ q=>by subst q;rw[hz4]at he;cases he;simp at ce
   exact wpAny_setField_rec hz4 (by simp) λ h5 _ s5=>hE h5 _ e (λ c o c1 c2 c3 c4 q=>s5.extBut _ _ c1 (s4 _ _ c4 (s3.extBut _ _ c2 (s2.extBut _ _ c3 (s1.extBut _ _ c1 q))))) ⟨oe,s5.extBut _ _ ez he,ce⟩
end
section
variable {P : Program} {w : World} {K : PySem.W.Frag}
def Itz(q r:SqKind P w K)(a b:Addr):It:=
 ⟨λ i H=>∃xs ys x y,q.Sq H a xs/\r.Sq H b ys/\xs[i]? =some x/\ys[i]? =some y,
  λ i H v H'=>∃p x y,H p=none/\H'=upd H p (.tup [x,y])/\v=.ref p/\(∀xs,q.Sq H a xs->xs[i]? =some x)/\∀ys,r.Sq H b ys->ys[i]? =some y,
  λ i H=>∃xs ys,q.Sq H a xs/\r.Sq H b ys/\i=min xs.length ys.length⟩
structure Zr(z TI TO i1 i2:Addr):Prop where
 a:TI≠z
 b:TO≠z
 c:TI≠TO
 d:TI≠i1
 e:TI≠i2
 f:TO≠i1
 g:TO≠i2
 h:i1≠z
 i:i2≠z
 j:i1≠i2
theorem Zr.zd(q r:SqKind P w K){X:Cx}{pins:Pins}{σ:St}{H:Hp}{s:Shared}{z TI TO i1 i2 a b:Addr}{xs ys:List V}(Z:Zr z TI TO i1 i2)(hK:X.K=K)(I:Inv X pins σ H s)(hf:∀c∈[z,TI,TO,i1,i2],fC X pins H c)(hq:q.Sq H a xs)(hr:r.Sq H b ys):Zd z TI TO i1 i2 [i1,a] [i2,b]:=by
 have fa:∀c∈[z,TI,TO,i1,i2],c≠a:=λ c hc=>(q.far hK I hq (hf c hc)).symm
 have fb:∀c∈[z,TI,TO,i1,i2],c≠b:=λ c hc=>(r.far hK I hr (hf c hc)).symm
 refine⟨Z.a,Z.b,Z.c,Z.d,Z.e,Z.f,Z.g,Z.h,Z.i,?_,?_,?_,?_,?_,?_⟩
 . simp[Z.h.symm,fa z (by simp)]
 . simp[Z.i.symm,fb z (by simp)]
 . simp[Z.f,fa TO (by simp)]
 . simp[Z.g,fb TO (by simp)]
 . simp[Z.j,fb i1 (by simp)]
 . simp[Z.j.symm,fa i2 (by simp)]
theorem HW(q r:SqKind P w K){elts:List Expr}{k:Nat}{pos:Pos}(a b z TI TO i1 i2:Addr)(Z:Zr z TI TO i1 i2):Turn P w K (.Tuple elts k pos) (Itz q r a b) [z,TI,TO,i1,i2] z
 (λ i h=>IsZip h z TI TO .none/\IsPair h TI (.ref i1) (.ref i2)/\(∃va vb,IsPair h TO va vb)/\q.It h i1 a i/\r.It h i2 b i) where
 mem:=by simp
 obj:=λ i h st c hc=>by
  obtain⟨hz,hTI,⟨va,vb,hTO⟩,hi,hj⟩:=st
  obtain⟨o,vs,h1,h2⟩:=q.itObj hi
  obtain⟨o',vs',h1',h2'⟩:=r.itObj hj
  simp only[List.mem_cons,List.not_mem_nil,or_false]at hc
  rcases hc with rfl | rfl | rfl | rfl | rfl
  . exact⟨_,hz,λ v z=>nomatch z⟩
  . exact⟨_,hTI,λ v z=>nomatch z⟩
  . exact⟨_,hTO,λ v z=>nomatch z⟩
  . exact⟨o,h1,λ v z=>by rw[h2]at z;cases z⟩
  . exact⟨o',h1',λ v z=>by rw[h2']at z;cases z⟩
 keep:=λ i h h' st k=>by
  obtain⟨hz,hTI,⟨va,vb,hTO⟩,hi,hj⟩:=st
  exact⟨k z (by simp) _ hz,k TI (by simp) _ hTI,⟨va,vb,k TO (by simp) _ hTO⟩,q.itAt hi λ o e=>k i1 (by simp) o e,r.itAt hj λ o e=>k i2 (by simp) o e⟩
 item:=by
  intro X hP hw hK hc i pins s σ H E I hf st hg
  obtain⟨xs,ys,x,y,hq,hr,hx,hy⟩:=hg
  obtain⟨its,rv,ob⟩:=q.get hP hw hK I hq
  obtain⟨its2,rv2,ob2⟩:=r.get hP hw hK I hr
  obtain⟨u,hu,ru⟩:=rv.get hx
  obtain⟨u2,hu2,ru2⟩:=rv2.get hy
  obtain⟨hz,hTI,⟨va,vb,hTO⟩,hi,hj⟩:=st
  have ux:∀zs,q.Sq H a zs->zs[i]? =some x:=λ zs h=>by rw[q.inj hP hw hK I h hq];exact hx
  have uy:∀zs,r.Sq H b zs->zs[i]? =some y:=λ zs h=>by rw[r.inj hP hw hK I h hr];exact hy
  have Z2:=Z.zd q r hK I hf hq hr
  have l1:i<its.toArray.size:=by simpa using(z0.mp hu).1
  have l2:i<its2.toArray.size:=by simpa using(z0.mp hu2).1
  subst hP hw
  have hT:s.TypeIs (.ref z) "zip":=⟨_,hz,rfl⟩
  unfold pyNext
  refine wpAny_bind (wpAny_attempt (wpAny_callSpecial?_slot (name:=Str.ofString "__next__") hT F.slot_zip_next (wpAny_call_entry F.slot_zip_next hT F.entry_zip_next ?_ (F.args_zip_next_1 _))))
  refine M6 (q.draws X.A.in1 (I.ok.hd hc) i1 a (q.ne hi ob) its.toArray) (r.draws X.A.in1 (I.ok.hd hc) i2 b (r.ne hj ob2) its2.toArray) Z2 hz hTI hTO ⟨hi,ob⟩ ⟨hj,ob2⟩ l1 l2 λ x' y' h' tk px py hz' hTO' t1 t2 hp' kp=>wpAny_pure ?_
  have ex:x'=u:=by
   have e1:its.toArray[i]? =some u:=by simpa using hu
   rw[e1]at px
   exact(Option.some.inj px).symm
  have ey:y'=u2:=by
   have e1:its2.toArray[i]? =some u2:=by simpa using hu2
   rw[e1]at py
   exact(Option.some.inj py).symm
  subst ex
  subst ey
  refine⟨_,rfl,wpAny_letOwnedTupleGo_zip hz' λ h2 hz2 sb=>?_⟩
  have I1:Inv X pins σ H {s with heap:=h2,toks:=tk}:=t6 (ch:=[z,TI,TO,i1,i2]) I hf λ c o hb q'=>(sb.2 c (λ z=>hb (by simp[z]))).trans (kp c o (λ z=>hb (by simp[z])) (λ z=>hb (by simp[z])) (λ z=>hb (by simp[z])) (λ z=>hb (by simp[z])) q')
  have hp:H s.heap.objs.size=none:=I.hok.fresh (y8 _)
  have elt:z<s.heap.objs.size:=Heap.lt_size hz
  have hT2:h2.get? s.heap.objs.size=some {cls:=.type "tuple",data:=.seq #[x',y']}:=(sb.2 _ (Nat.ne_of_gt elt)).trans hp'
  have I2:Inv X pins σ (upd H s.heap.objs.size (.tup [x,y])) {s with heap:=h2,toks:=tk}:=zp I I1 (y8 _) ⟨by show 2≤sizeLine;decide,[x',y'],.cons ru (.cons ru2 .nil),_,hT2,rfl,_,rfl⟩
  have hTI':IsPair h2 TI (.ref i1) (.ref i2):=(sb.2 _ Z.a).trans (kp _ _ Z.a Z.c Z.d Z.e hTI)
  refine⟨.ref s.heap.objs.size,_,I2,rfl,⟨_,x,y,hp,rfl,rfl,ux,uy⟩,⟨hz2,hTI',⟨_,_,(sb.2 _ Z.b).trans hTO'⟩,q.itAt t1.1 λ o q'=>(sb.2 i1 Z.h).trans q',r.itAt t2.1 λ o q'=>(sb.2 i2 Z.i).trans q'⟩,λ c hb=>?_⟩
  rw[aA (v3 ?_)]
  . exact(hf c hb).1
  . obtain⟨o,vs,h1,_⟩:=q.itObj hi
    obtain⟨o',vs',h1',_⟩:=r.itObj hj
    simp only[List.mem_cons,List.not_mem_nil,or_false]at hb
    rcases hb with rfl | rfl | rfl | rfl | rfl
    . exact elt
    . exact Heap.lt_size hTI
    . exact Heap.lt_size hTO
    . exact Heap.lt_size h1
    . exact Heap.lt_size h1'
 done:=by
  intro X hP hw hK hc i pins s σ H E I hf st hg
  obtain⟨xs,ys,hq,hr,hn⟩:=hg
  obtain⟨its,rv,ob⟩:=q.get hP hw hK I hq
  obtain⟨its2,rv2,ob2⟩:=r.get hP hw hK I hr
  obtain⟨hz,hTI,⟨va,vb,hTO⟩,hi,hj⟩:=st
  have Z2:=Z.zd q r hK I hf hq hr
  subst hP hw
  have hT:s.TypeIs (.ref z) "zip":=⟨_,hz,rfl⟩
  have hk:i=its.toArray.size∨(i<its.toArray.size/\i=its2.toArray.size):=by
   have e1:=rv.length
   have e2:=rv2.length
   simp only[x5]
   omega
  unfold pyNext
  refine wpAny_bind (wpAny_attempt (wpAny_callSpecial?_slot (name:=Str.ofString "__next__") hT F.slot_zip_next (wpAny_call_entry F.slot_zip_next hT F.entry_zip_next ?_ (F.args_zip_next_1 _))))
  refine Jx (q.draws X.A.in1 (I.ok.hd hc) i1 a (q.ne hi ob) its.toArray) (r.draws X.A.in1 (I.ok.hd hc) i2 b (r.ne hj ob2) its2.toArray) Z2 hz hTI hTO ⟨hi,ob⟩ ⟨hj,ob2⟩ hk λ h' tk e kp hq_=>?_
  obtain⟨o,he,ce⟩:=hq_
  refine wpAny_bind (wpAny_isInstance (T:="StopIteration") (b:=true) ⟨o,he,ce⟩ isSubtype_stop (wpAny_pure ⟨rfl,?_⟩))
  exact t6 (ch:=[z,TI,TO,i1,i2]) I hf λ c o hb q'=>kp c o (λ z=>hb (by simp[z])) (λ z=>hb (by simp[z])) (λ z=>hb (by simp[z])) (λ z=>hb (by simp[z])) q'
 self:=λ _ _ _ _ _ st h=>wpAny_pyIter_zip st.1 h
theorem DR(q r:SqKind P w K){O:Own}{H:Hp}{a b:Addr}{ds es:List D}(h:∀O' H',Conv O O' H H'->∃xs ys,q.Sq H' a xs/\Reps K O' H' xs ds/\r.Sq H' b ys/\Reps K O' H' ys es):gq K (Itz q r a b) O H (List.zipWith (λ x y=>.tup [x,y]) ds es):=by
 intro O' H' cv tr i
 obtain⟨xs,ys,hq,r1,hr,r2⟩:=h O' H' cv
 refine⟨λ d hd=>?_,λ hi=>⟨xs,ys,hq,hr,by rw[hi,r1.length,r2.length,List.length_zipWith]⟩⟩
 rw[List.getElem?_zipWith]at hd
 cases e1:ds[i]? with
 | none=>rw[e1]at hd;cases hd
 | some d1=>
   cases e2:es[i]? with
   | none=>rw[e1,e2]at hd;cases hd
   | some d2=>
     rw[e1,e2]at hd
     cases hd
     obtain⟨v1,hv1,rv1⟩:=r1.get e1
     obtain⟨v2,hv2,rv2⟩:=r2.get e2
     refine⟨⟨xs,ys,v1,v2,hq,hr,hv1,hv2⟩,λ x H'' y=>?_⟩
     obtain⟨p,x',y',hp,rfl,rfl,hx,hy⟩:=y
     have ex:=hx xs hq
     have ey:=hy ys hr
     rw[hv1]at ex
     rw[hv2]at ey
     cases ex
     cases ey
     have np:¬O'.has p:=λ z=>tr p z hp
     exact⟨dG.fresh hp _,.tup ⟨np,aP⟩ (.cons (rv1.mono (Step.fresh hp _)) (.cons (rv2.mono (Step.fresh hp _)) .nil))⟩
abbrev zh(h:Heap)(c1 c2:String)(l1 l2:Addr):Heap:=
 ((((h.push {cls:=.type c1,data:=.fields #[.ref l1,.int 0 0]}).push {cls:=.type c2,data:=.fields #[.ref l2,.int 0 0]}).push {cls:=.type "tuple",data:=.seq #[.ref h.objs.size,.ref (h.push {cls:=.type c1,data:=.fields #[.ref l1,.int 0 0]}).objs.size]}).push {cls:=.type "tuple",data:=.seq #[.none,.none]})
abbrev zhz(h:Heap)(c1 c2:String)(l1 l2:Addr):Heap:=
 (zh h c1 c2 l1 l2).push {cls:=.type "zip",data:=.fields #[.none,.bool false,.bool false,.ref ((h.push {cls:=.type c1,data:=.fields #[.ref l1,.int 0 0]}).push {cls:=.type c2,data:=.fields #[.ref l2,.int 0 0]}).objs.size,
  .ref (((h.push {cls:=.type c1,data:=.fields #[.ref l1,.int 0 0]}).push {cls:=.type c2,data:=.fields #[.ref l2,.int 0 0]}).push {cls:=.type "tuple",data:=.seq #[.ref h.objs.size,.ref (h.push {cls:=.type c1,data:=.fields #[.ref l1,.int 0 0]}).objs.size]}).objs.size]}
theorem Gw(l1 l2:Addr)(xs ys:Array Value):
 Meets (Builtin.«zip.__new__» ⟨[.type "zip",.ref l1,.ref l2],[]⟩) (λ _ R s=>s.heap.IsTuple l1 xs/\s.heap.IsTuple l2 ys/\
  R (.ok (.ret (.ref (zh s.heap "tuple_iterator" "tuple_iterator" l1 l2).objs.size))) {s with heap:=zhz s.heap "tuple_iterator" "tuple_iterator" l1 l2}):=
 .of_wp λ prog w A R s h=>by
  obtain⟨hp,g,d,tk,os⟩:=s;obtain⟨a1,a2,h⟩:=h
  have hsub:=sub_zip
  have b1:Heap.IsTuple (Shared.heap ⟨hp,g,d,tk,os⟩) l1 xs:=a1
  have b2:Heap.IsTuple (Shared.heap ⟨hp.push {cls:=.type "tuple_iterator",data:=.fields #[.ref l1,.int 0 0]},g,d,tk,os⟩) l2 ys:=Heap.IsTuple.push a2 _
  wp_walk using wpAny_pyIter_tuple b1,wpAny_pyIter_tuple b2
  exact⟨_,rfl,h⟩
end
section
variable {X : Cx} {Γ : Gam} {S : Store} {pos : Pos}
theorem zip_parts(h:Heap)(c1 c2:String)(l1 l2:Addr):(zh h c1 c2 l1 l2).objs.size=h.objs.size+4/\IsZip (zhz h c1 c2 l1 l2) (h.objs.size+4) (h.objs.size+2) (h.objs.size+3) .none/\IsPair (zhz h c1 c2 l1 l2) (h.objs.size+2) (.ref h.objs.size) (.ref (h.objs.size+1))/\IsPair (zhz h c1 c2 l1 l2) (h.objs.size+3) .none .none/\
 (zhz h c1 c2 l1 l2).get? h.objs.size=some {cls:=.type c1,data:=.fields #[.ref l1,.int 0 0]}/\(zhz h c1 c2 l1 l2).get? (h.objs.size+1)=some {cls:=.type c2,data:=.fields #[.ref l2,.int 0 0]}/\∀b o,h.get? b=some o->(zhz h c1 c2 l1 l2).get? b=some o:=by
 have z1:(h.push {cls:=.type c1,data:=.fields #[.ref l1,.int 0 0]}).objs.size=h.objs.size+1:=Heap.size_push ..
 have z2:((h.push {cls:=.type c1,data:=.fields #[.ref l1,.int 0 0]}).push {cls:=.type c2,data:=.fields #[.ref l2,.int 0 0]}).objs.size=h.objs.size+2:=by rw[Heap.size_push,z1]
 have z3:(((h.push {cls:=.type c1,data:=.fields #[.ref l1,.int 0 0]}).push {cls:=.type c2,data:=.fields #[.ref l2,.int 0 0]}).push {cls:=.type "tuple",data:=.seq #[.ref h.objs.size,.ref (h.push {cls:=.type c1,data:=.fields #[.ref l1,.int 0 0]}).objs.size]}).objs.size=h.objs.size+3:=by rw[Heap.size_push,z2]
 have z4:(zh h c1 c2 l1 l2).objs.size=h.objs.size+4:=by rw[Heap.size_push,z3]
 have g5:=Heap.get?_push_size (zh h c1 c2 l1 l2) (o:={cls:=.type "zip",data:=.fields #[.none,.bool false,.bool false,.ref ((h.push {cls:=.type c1,data:=.fields #[.ref l1,.int 0 0]}).push {cls:=.type c2,data:=.fields #[.ref l2,.int 0 0]}).objs.size,
  .ref (((h.push {cls:=.type c1,data:=.fields #[.ref l1,.int 0 0]}).push {cls:=.type c2,data:=.fields #[.ref l2,.int 0 0]}).push {cls:=.type "tuple",data:=.seq #[.ref h.objs.size,.ref (h.push {cls:=.type c1,data:=.fields #[.ref l1,.int 0 0]}).objs.size]}).objs.size]}) rfl
 have g4:(zhz h c1 c2 l1 l2).get? (((h.push {cls:=.type c1,data:=.fields #[.ref l1,.int 0 0]}).push {cls:=.type c2,data:=.fields #[.ref l2,.int 0 0]}).push {cls:=.type "tuple",data:=.seq #[.ref h.objs.size,.ref (h.push {cls:=.type c1,data:=.fields #[.ref l1,.int 0 0]}).objs.size]}).objs.size=some {cls:=.type "tuple",data:=.seq #[.none,.none]}:=Heap.get?_push_of_some _ (Heap.get?_push_size _ rfl)
 have g3:(zhz h c1 c2 l1 l2).get? ((h.push {cls:=.type c1,data:=.fields #[.ref l1,.int 0 0]}).push {cls:=.type c2,data:=.fields #[.ref l2,.int 0 0]}).objs.size=some {cls:=.type "tuple",data:=.seq #[.ref h.objs.size,.ref (h.push {cls:=.type c1,data:=.fields #[.ref l1,.int 0 0]}).objs.size]}:=Heap.get?_push_of_some _ (Heap.get?_push_of_some _ (Heap.get?_push_size _ rfl))
 have g2:(zhz h c1 c2 l1 l2).get? (h.push {cls:=.type c1,data:=.fields #[.ref l1,.int 0 0]}).objs.size=some {cls:=.type c2,data:=.fields #[.ref l2,.int 0 0]}:=Heap.get?_push_of_some _ (Heap.get?_push_of_some _ (Heap.get?_push_of_some _ (Heap.get?_push_size _ rfl)))
 have g1:(zhz h c1 c2 l1 l2).get? h.objs.size=some {cls:=.type c1,data:=.fields #[.ref l1,.int 0 0]}:=Heap.get?_push_of_some _ (Heap.get?_push_of_some _ (Heap.get?_push_of_some _ (Heap.get?_push_of_some _ (Heap.get?_push_size _ rfl))))
 rw[z2,z3,z4]at g5
 rw[z3]at g4
 rw[z1,z2]at g3
 rw[z1]at g2
 refine⟨z4,?_,g3,g4,g1,g2,λ b o e=>Heap.get?_push_of_some _ (Heap.get?_push_of_some _ (Heap.get?_push_of_some _ (Heap.get?_push_of_some _ (Heap.get?_push_of_some _ e))))⟩
 show(zhz h c1 c2 l1 l2).get? _=_
 unfold zhz
 rw[z2,z3]
 exact g5
theorem Nb{pins:Pins}{σ:St}{H:Hp}{s:Shared}{elts:List Expr}{k:Nat}{tp:Pos}{R:It->Hp->Prop}{E:Value->Shared->Prop}{c1 c2:String}{l1 l2:Addr}(q r:SqKind X.prog X.w X.K)(I:Inv X pins σ H s)
 (hi:q.It (zhz s.heap c1 c2 l1 l2) s.heap.objs.size l1 0)(hj:r.It (zhz s.heap c1 c2 l1 l2) (s.heap.objs.size+1) l2 0)(rr:R (Itz q r l1 l2) H):
 wpAny (model X.prog X.w) X.A (pyIter (.ref (s.heap.objs.size+4))) (PIE X pins σ (.Tuple elts k tp) R) E {s with heap:=zhz s.heap c1 c2 l1 l2}:=by
 obtain⟨_,p1,p2,p3,_,_,kp⟩:=zip_parts s.heap c1 c2 l1 l2
 refine wpAny_pyIter_zip p1 ?_
 refine⟨s.heap.objs.size+4,[s.heap.objs.size+4,s.heap.objs.size+2,s.heap.objs.size+3,s.heap.objs.size,s.heap.objs.size+1],_,_,H,rfl,I.kept (t':=s.toks) kp,HW q r l1 l2 (s.heap.objs.size+4) (s.heap.objs.size+2) (s.heap.objs.size+3) s.heap.objs.size (s.heap.objs.size+1) ?_,⟨p1,p2,⟨_,_,p3⟩,hi,hj⟩,λ b hb=>?_,rr⟩
 . constructor<;>exact λ z=>by have z':(_:Nat)=_:=z;omega
 . have hb':s.heap.objs.size≤b:=by
    simp only[List.mem_cons,List.not_mem_nil,or_false]at hb
    rcases hb with rfl | rfl | rfl | rfl | rfl
    . exact Nat.le_add_right _ _
    . exact Nat.le_add_right _ _
    . exact Nat.le_add_right _ _
    . exact y8 _
    . exact Nat.le_add_right _ _
   exact I.fpOk hb' (I.hok.fresh hb')
theorem HS{e1 e2:Expr}{elts:List Expr}{k:Nat}{tp p:Pos}{W:List D->Store->Prop}(h:Ev X Γ S e1 λ d S1=>Ev X Γ S1 e2 λ d' S2=>∃ds es,d=.tup ds/\d'=.tup es/\W (List.zipWith (λ x y=>.tup [x,y]) ds es) S2)(hm:X.mg "zip"=none)(hg:Gl X "zip":=by rfl)
 (hs:starEach [e1,e2] X.env=(false,eval e1 X.env)::starEach [e2] X.env:=by rfl)(hs2:starEach [e2] X.env=[(false,eval e2 X.env)]:=by rfl):
 ItW X Γ S (.Tuple elts k tp) (.Call (.Name "zip" p) [e1,e2] [] pos) W:=by
 intro pins s σ H O I env st
 have hA:EvA X Γ S [e1,e2] λ dd S2=>∃ds es,dd=[.tup ds,.tup es]/\W (List.zipWith (λ x y=>.tup [x,y]) ds es) S2:=
  dw (h.mono λ d S1 h1=>dw (h1.mono λ d' S2 ⟨ds,es,a,b,w⟩=>gR ⟨ds,es,by rw[a,b],w⟩) hs2) hs
 refine Call_ (gm I hg hm boot_zip (PyProof.Rows.callWith_type1 (thn (hA pos pins s σ H O I env st) λ us s1 hq_=>?_) hs (by rw[hs2];rfl)))
 obtain⟨vs,H1,I1,r1,O1,dd,S1,⟨ds,es,ed,w⟩,st1,ok1,rep⟩:=hq_
 subst ed
 cases rep with
 | cons ra rb=>
   cases rb with
   | cons rb rc=>
     cases rc
     obtain⟨u,u2,rfl,ru,ru2⟩:=vals2 r1
     cases ra with
     | @tup a xs _ h1 q1=>
       cases rb with
       | @tup b ys _ h2 q2=>
         cases ru
         cases ru2
         obtain⟨its,rv,pl,hz⟩:=I1.tuple h1.sq
         obtain⟨its2,rv2,pl2,hz2⟩:=I1.tuple h2.sq
         obtain⟨z4,p1,p2,p3,p4,p5,kp⟩:=zip_parts s1.heap "tuple_iterator" "tuple_iterator" a b
         refine callType_new F.called_zip (by decide) (F.typeCall_zip_2 _ _) (F.newCall_zip_2 _ _) (λ obj=>F.args_object_init_3 obj _ _) F.entry_zip_new (Gw a b its.toArray its2.toArray) ⟨pl,pl2,?_⟩
         show _/\_
         rw[z4]
         refine⟨⟨_,p1,rfl⟩,Nb (Jt X.prog X.w X.K) (Jt X.prog X.w X.K) I1 ⟨_,p4,rfl,rfl⟩ ⟨_,p5,rfl,rfl⟩ ⟨O1,_,S1,w,st1,ok1,DR _ _ λ O' H' cv=>⟨xs,ys,(h1.conv cv).sq,q1.conv cv,(h2.conv cv).sq,q2.conv cv⟩⟩⟩
end
variable {k : Nat}
section
variable {X : Cx} {Γ : Gam} {S : Store} {e : Expr}
theorem R8{W:Option Int->Store->Prop}(h:Ev X Γ S e λ d S1=>∃i,d=.int i/\W (some i) S1):PoD X Γ S (some e) W:=h
theorem Td{W:Option Int->Store->Prop}(h:W none S):PoD X Γ S none W:=h
end
theorem bA{α:Type}{xs:List α}{i:Nat}{x:α}(h:xs[i]? =some x):xs.take (i+1)=xs.take i++[x]:=by rw[List.take_add_one,h];rfl
theorem eH(d:D)(ds:List D):cutD (d::ds) (some 1) none=ds:=by
 unfold cutD
 have h1:HT.sIx (d::ds).length 0 (some 1)=1:=by
  have:=HT.sIx_nat (d::ds).length 0 1
  simp only[List.length_cons]at this ⊢
  have h2:((1:Nat):Int)=1:=rfl
  rw[h2]at this
  rw[this];omega
 rw[h1,HT.sIx_none]
 simp
theorem tB(ds:List D)(lo hi:Option Int):(cutD ds lo hi).length≤ds.length:=by
 unfold cutD
 rw[List.length_take,List.length_drop];omega
theorem Ko{ds:List D}{lo hi:Option Int}{x:D}(h:x∈cutD ds lo hi):x∈ds:=by
 unfold cutD at h
 exact List.mem_of_mem_drop (List.mem_of_mem_take h)
theorem yD{ds:List D}{k:Int}(h:0≤k):cutD ds none (some k)=ds.take k.toNat:=by
 unfold cutD
 rw[HT.sIx_none]
 have e:HT.sIx ds.length ds.length (some k)=min k.toNat ds.length:=by
  have:=HT.sIx_nat ds.length ds.length k.toNat
  rwa[Int.toNat_of_nonneg h]at this
 rw[e,List.drop_zero,Nat.sub_zero]
 rcases Nat.le_total k.toNat ds.length with q | q
 . rw[Nat.min_eq_left q]
 . rw[Nat.min_eq_right q,List.take_of_length_le (y8 _),List.take_of_length_le q]
theorem Jc{ds:List D}{k:Int}(h:0≤k):cutD ds (some k) none=ds.drop k.toNat:=by
 unfold cutD
 rw[HT.sIx_none]
 have e:HT.sIx ds.length 0 (some k)=min k.toNat ds.length:=by
  have:=HT.sIx_nat ds.length 0 k.toNat
  rwa[Int.toNat_of_nonneg h]at this
 rw[e]
 rcases Nat.le_total k.toNat ds.length with q | q
 . rw[Nat.min_eq_left q,List.take_of_length_le (by rw[List.length_drop];omega)]
 . rw[Nat.min_eq_right q,List.drop_eq_nil_of_le (y8 _),List.drop_eq_nil_of_le q];simp
theorem Hm{α:Type}{ds:List α}{v:Int}(h0:0≤v)(h1:v<ds.length):∃x,atI ds v=some x/\ds[v.toNat]? =some x:=by
 have hk:v.toNat<ds.length:=by omega
 refine⟨ds[v.toNat],?_,y0 hk⟩
 have q:=dz (xs:=ds) (j:=v.toNat) (y0 hk)
 rwa[Int.toNat_of_nonneg h0]at q
theorem oF{α:Type}(x:α)(xs:List α):atI (x::xs) 0=some x:=dz (xs:=x::xs) (j:=0) rfl
theorem set_get{S:Store}{l l':List D}(h:S[k]? =some l):(S.set k l')[k]? =some l':=List.getElem?_set_self (z0.mp h).1
def ik(ns:List Int)(a c n m z:Int):List D:=[.lst (ns.map .int),.int a,.int c,.int n,.int m,.int z]
def Pen(S:Store)(k:Nat):Prop:=∃ns a c n m z,S[k]? =some (ik ns a c n m z)/\0≤a
def Upd(S:Store)(k:Nat)(S':Store):Prop:=∃ns a c n m z,S'=S.set k (ik ns a c n m z)/\0≤a
theorem Upd.pen{S S':Store}(p:Pen S k)(u:Upd S k S'):Pen S' k:=by
 obtain⟨_,_,_,_,_,_,h,_⟩:=p
 obtain⟨ns,a,c,n,m,z,rfl,ha⟩:=u
 exact⟨ns,a,c,n,m,z,set_get h,ha⟩
theorem Upd.trans{S S1 S2:Store}(a:Upd S k S1)(b:Upd S1 k S2):Upd S k S2:=by
 obtain⟨_,_,_,_,_,_,rfl,_⟩:=a
 obtain⟨ns,x,c,n,m,z,rfl,ha⟩:=b
 exact⟨ns,x,c,n,m,z,by rw[List.set_set],ha⟩
theorem Upd.len{S S':Store}(u:Upd S k S'):S'.length=S.length:=by
 obtain⟨_,_,_,_,_,_,rfl,_⟩:=u
 simp
end DL
namespace RF
open PySem PySem.Spec L2 DL
open PyProof.Rows
open Builtin
theorem pq:fillsNumberSlot (.type "tuple") "mul"=pure false:=
 PySem.fillsNumberSlot_seq (id:="tuple.__mul__") (r:=some (.builtin "tuple.__rmul__")) F.slot_tuple_mul.lookup (by decide+kernel) F.slot_tuple_rmul.lookup (by decide+kernel)
theorem zu:seqRepeat? (.type "tuple")=pure (some (.builtin "tuple.__mul__")):=by
 unfold seqRepeat?
 rw[PySem.seqSlot_of (T:="tuple") (name:="__mul__") (id:="tuple.__mul__") F.slot_tuple_mul.lookup (by decide+kernel),PySem.seqSlot_of (T:="tuple") (name:="__rmul__") (id:="tuple.__rmul__") F.slot_tuple_rmul.lookup (by decide+kernel)]
 rfl
theorem vC(a:Int)(t:Tok)(l:Addr)(items:Array Value)(n:Nat)(dct:Option Addr)(sl:Array (Option Value)):
 Meets (Builtin.«int.__rmul__» ⟨[.int a t,.ref l],[]⟩) (λ _ R s=>s.heap.get? l=some {cls:=.type "tuple",dict:=dct,data:=.seq items n,slots:=sl}/\R (.ok (.ret Value.notImplemented)) s):=
 .of_wp λ prog w A R s h=>by obtain⟨hp,g,d,tk,os⟩:=s;obtain⟨hl,h⟩:=h;wp_walk;exact⟨_,rfl,h⟩
theorem tM(l:Addr)(items:Array Value)(n:Nat)(dct:Option Addr)(sl:Array (Option Value))(x:Int)(u:Tok)(h1:¬(decide (x< -(2 ^ 63))||decide (x≥2 ^ 63))=true)(hc:(items.isEmpty||x==1)=true):
 Meets (Builtin.«tuple.__mul__» ⟨[.ref l,.int x u],[]⟩) (λ _ R s=>s.heap.get? l=some {cls:=.type "tuple",dict:=dct,data:=.seq items n,slots:=sl}/\R (.ok (.ret (.ref l))) s):=
 .of_wp λ prog w A R s h=>by
  obtain⟨hp,g,d,tk,os⟩:=s;obtain⟨hl,h⟩:=h
  unfold Builtin.«tuple.__mul__»
  wp_walk
  rw[if_neg h1]
  wp_walk using AutoSeq1.wpAny_loadPart' hl
  try rw[if_pos hc]
  wp_walk using AutoSeq1.wpAny_loadPart' hl
  exact⟨_,rfl,h⟩
theorem uI(l:Addr)(items:Array Value)(n:Nat)(dct:Option Addr)(sl:Array (Option Value))(x:Int)(u:Tok)(h1:¬(decide (x< -(2 ^ 63))||decide (x≥2 ^ 63))=true)(hc:¬(items.isEmpty||x==1)=true)(h2:(decide (x≤0)||items.isEmpty)=true):
 Meets (Builtin.«tuple.__mul__» ⟨[.ref l,.int x u],[]⟩) (λ _ R s=>s.heap.get? l=some {cls:=.type "tuple",dict:=dct,data:=.seq items n,slots:=sl}/\R (.ok (.ret (.ref s.heap.objs.size))) {s with heap:=s.heap.push {cls:=.type "tuple",data:=.seq #[]}}):=
 .of_wp λ prog w A R s h=>by
  obtain⟨hp,g,d,tk,os⟩:=s;obtain⟨hl,h⟩:=h
  unfold Builtin.«tuple.__mul__»
  wp_walk
  rw[if_neg h1]
  wp_walk using AutoSeq1.wpAny_loadPart' hl
  try rw[if_neg hc]
  wp_walk using AutoSeq1.wpAny_loadPart' hl
  try rw[if_pos h2]
  wp_walk using AutoSeq1.wpAny_loadPart' hl
  exact⟨_,rfl,h⟩
theorem tO(l:Addr)(items:Array Value)(n:Nat)(dct:Option Addr)(sl:Array (Option Value))(x:Int)(u:Tok)(h1:¬(decide (x< -(2 ^ 63))||decide (x≥2 ^ 63))=true)(hc:¬(items.isEmpty||x==1)=true)(h2:¬(decide (x≤0)||items.isEmpty)=true)
 (h3:¬((items.size:Int)*x>(2 ^ 63-1)/8))(h4:¬Builtin.Tuple.tupleTooMany ((items.size:Int)*x)=true)(h5:((List.replicate x.toNat items).foldl (· ++·) #[]).size≤sizeLine):
 Meets (Builtin.«tuple.__mul__» ⟨[.ref l,.int x u],[]⟩) (λ _ R s=>s.heap.get? l=some {cls:=.type "tuple",dict:=dct,data:=.seq items n,slots:=sl}/\R (.ok (.ret (.ref s.heap.objs.size))) {s with heap:=s.heap.push {cls:=.type "tuple",data:=.seq ((List.replicate x.toNat items).foldl (· ++·) #[])}}):=
 .of_wp λ prog w A R s h=>by
  obtain⟨hp,g,d,tk,os⟩:=s;obtain⟨hl,h⟩:=h
  unfold Builtin.«tuple.__mul__»
  wp_walk
  rw[if_neg h1]
  wp_walk using AutoSeq1.wpAny_loadPart' hl
  try rw[if_neg hc]
  wp_walk using AutoSeq1.wpAny_loadPart' hl
  try rw[if_neg h2]
  wp_walk using AutoSeq1.wpAny_loadPart' hl
  try rw[if_neg h3]
  wp_walk using AutoSeq1.wpAny_loadPart' hl
  try rw[if_neg h4]
  wp_walk using AutoSeq1.wpAny_loadPart' hl
  exact⟨_,rfl,h⟩
theorem Reps.rep{K:PySem.W.Frag}{O:Own}{H:Hp}{vs:List V}{ds:List D}(r:Reps K O H vs ds):∀k:Nat,Reps K O H (List.replicate k vs).flatten (List.replicate k ds).flatten
 | 0=>.nil
 | k+1=>by
   rw[List.replicate_succ,List.replicate_succ,List.flatten_cons,List.flatten_cons]
   exact r.append (Reps.rep r k)
theorem PK{X:Cx}{S:Store}{W:WD}{ds:List D}{k:Int}(hk: -(2 ^ 63)≤k/\k<2 ^ 63)(hz:ds.length*k.toNat≤1000000)(w:W (.tup (List.replicate k.toNat ds).flatten) S):dj X .Mult (.tup ds) (.int k) S W:=by
 intro pins s σ H O v w' u u' I st r1 r2 r3 r4
 cases r1 with
 | @tup a xs _ h1 q1=>
   cases r2
   cases r3
   obtain⟨t,rfl⟩:=r4
   obtain⟨its,v1,p1,_⟩:=I.tuple h1.sq
   obtain⟨⟨cls,dd,data,sl⟩,ho,hc,n,hd⟩:=id p1
   simp only at hc hd
   subst hc hd
   have l1:its.length=ds.length:=by rw[←v1.length,q1.length]
   have c1:¬(decide (k< -(2 ^ 63))||decide (k≥2 ^ 63))=true:=by
    rw[decide_eq_false (by omega),decide_eq_false (by omega)];decide
   have new:∀m:Nat,m=k.toNat->EP X pins σ (QG X.K O H W) (.ref s.heap.objs.size) {s with heap:=s.heap.push {cls:=.type "tuple",data:=.seq (List.replicate m its).flatten.toArray}}:=by
    rintro m rfl
    refine⟨.ref s.heap.objs.size,upd H s.heap.objs.size (.tup (List.replicate k.toNat xs).flatten),I.laid (t':=s.toks) (λ b u e=>Heap.get?_push_of_some _ e) (y8 _) ?_,rfl,jC w st I.fresh (Reps.rep q1 _)⟩
    exact⟨by rw[len_rep,q1.length,Nat.mul_comm];exact small hz,_,v1.rep _,⟨_,Heap.get?_push_size _ rfl,rfl,_,rfl⟩⟩
   refine PySem.wpAny_binaryOp_repeat_ref (T:="tuple") (U:="int") (by decide) ⟨_,ho,rfl⟩ (λ s'=>typeIs_int s' k t) pq F.fills_int_mul F.slot_int_rmul zu F.slot_int_index.lookup
    (call_meets F.slot_int_rmul (typeIs_int s k t) F.entry_int_rmul (F.args_int_rmul_2 _ _) (vC k t a its.toArray n dd sl) ⟨ho,rfl,⟨_,ho,rfl⟩,?_⟩)
   by_cases b1:(its.toArray.isEmpty||k==1)=true
   . refine call_meets F.slot_tuple_mul ⟨_,ho,rfl⟩ F.entry_tuple_mul (F.args_tuple_mul_2 _ _) (tM a its.toArray n dd sl k t c1 b1) ⟨ho,.ref a,H,I,rfl,?_⟩
     have e:(List.replicate k.toNat ds).flatten=ds:=by
      rw[Bool.or_eq_true]at b1
      rcases b1 with z | z
      . have:its=[]:=by simpa using z
        have:ds=[]:=by rw[this]at l1;simpa using l1.symm
        subst this
        simp
      . have:k=1:=eq_of_beq z
        subst this
        simp
     rw[e]at w
     exact QG.here w st (.tup h1 q1)
   . by_cases b2:(decide (k≤0)||its.toArray.isEmpty)=true
     . refine call_meets F.slot_tuple_mul ⟨_,ho,rfl⟩ F.entry_tuple_mul (F.args_tuple_mul_2 _ _) (uI a its.toArray n dd sl k t c1 b1 b2) ⟨ho,?_⟩
       have h0:k.toNat=0:=by
        rw[Bool.or_eq_true]at b2
        rcases b2 with z | z
        . have:=of_decide_eq_true z;omega
        . exact absurd (by rw[z];rfl) b1
       have:=new 0 h0.symm
       exact this
     . have h0:0<k:=by
        cases z:decide (k≤0)with
        | true=>exact absurd (by rw[z];rfl) b2
        | false=>have:=of_decide_eq_false z;omega
       have ek:(its.toArray.size:Int)*k=((its.length*k.toNat:Nat):Int):=by
        rw[x5,Int.natCast_mul,Int.toNat_of_nonneg (by omega)]
       have fz:List.foldl (λ x1 x2=>x1++x2) #[] (List.replicate k.toNat its.toArray)=(List.replicate k.toNat its).flatten.toArray:=by
        have:=foldl_rep its k.toNat []
        rw[List.nil_append]at this
        exact this
       have big:its.length*k.toNat≤1000000:=by rw[l1];exact hz
       refine call_meets F.slot_tuple_mul ⟨_,ho,rfl⟩ F.entry_tuple_mul (F.args_tuple_mul_2 _ _) (tO a its.toArray n dd sl k t c1 b1 b2 (by rw[ek];omega) ?_ ?_) ⟨ho,?_⟩
       . rw[ek]
         have:(1000000:Nat)≤sizeLine:=by decide
         unfold Builtin.Tuple.tupleTooMany
         rw[decide_eq_true_eq]
         omega
       . rw[fz,x5,len_rep,Nat.mul_comm];exact small big
       . rw[fz]
         exact new _ rfl
variable {W : WD}
set_option genInjectivity false in
structure Wd where
 P:Program
 w:World
 K:PySem.W.Frag
 mg:Str->Option Value
 base:Heap
 cd:Option (Value×Str):=none
abbrev Nm:=List (Str×NameKind)
structure At(Ω:Wd)(X:Cx)(r:Nat)(top:Bool)(N:List Str)(nm:Nm):Prop where
 p:X.prog=Ω.P
 w:X.w=Ω.w
 k:X.K=Ω.K
 g:X.mg=Ω.mg
 b:X.base=Ω.base
 room:Room r X.A
 xe:X.xe=λ _ _=>False
 calm:X.calm=true
 n:X.N=N
 nd:N.Nodup
 kind:X.env.scope.kind=.function
 look:∀x k,nm.lookup x=some k->X.env.kindOf x=some k∨(k=.free/\X.env.kindOf x=some .cell)
 fn:∀x,nm.lookup x=some .cell->X.fn x=true
 cd:top=true->∀p,Ω.cd=some p->X.env.code=p.1/\X.env.qual=p.2
def vis(nm:Nm)(x:Str):Bool:=match nm.lookup x with | some .local=>true | some .cell=>true | some .free=>true | _=>false
def lcl(top:Bool)(nm:Nm)(x:Str):Bool:=match nm.lookup x with | some .local=>true | some .cell=>true | _=>false
def glb(nm:Nm)(x:Str):Bool:=nm.lookup x==some .globalImplicit
def okN(x:Str):Bool:=!(x==("__debug__":Str))&&(!(x==("__classdict__":Str))&& !(x==("__name__":Str)))
def okE:Expr->Bool
 | .Starred .. =>false | .Set .. =>false | .Slice .. =>false | _=>true
def noC:Expr->Bool
 | .ListComp .. =>false | .SetComp .. =>false | .DictComp .. =>false | _=>true
def Ds:Expr->Bool
 | .UnaryOp .. =>false | .BoolOp .. =>false | .IfExp .. =>false | .Compare .. =>false | _=>true
theorem aa{a b:Bool}(h:(a&&b)=true):a=true/\b=true:=by cases a<;>cases b<;>first | exact⟨rfl,rfl⟩ | exact(y4 h).elim
theorem nt{a:Bool}(h:(!a)=true):a=false:=by cases a<;>first | rfl | exact(y4 h).elim
theorem bY{x:Str}(h:okN x=true):(x==("__debug__":Str))=false/\(x==("__classdict__":Str))=false/\x≠"__name__":=by
 obtain⟨h1,h2⟩:=aa h
 obtain⟨h2,h3⟩:=aa h2
 exact⟨nt h1,nt h2,λ e=>by rw[e]at h3;simp at h3⟩
section
variable {Ω : Wd} {X : Cx} {r : Nat} {top : Bool} {N : List Str} {nm : Nm} {x : Str}
theorem At.vis(A:At Ω X r top N nm)(h:RF.vis nm x=true):Vis X.env.scope x:=by
 unfold RF.vis at h
 cases e:nm.lookup x with
 | none=>rw[e]at h;cases h
 | some k=>
   rw[e]at h
   have q:=A.look x k e
   cases k with
   | «local»=>rcases q with q | ⟨q,_⟩;exact .inl q;exact nomatch q
   | cell=>rcases q with q | ⟨q,_⟩;exact .inr (.inl q);exact nomatch q
   | free=>rcases q with q | ⟨_,q⟩;exact .inr (.inr q);exact .inr (.inl q)
   | _=>exact(y4 h).elim
theorem At.lcl(A:At Ω X r top N nm)(h:RF.lcl top nm x=true):Loc X.env.scope x/\(X.fn x=true∨X.env.scope.names.lookup x=some .local):=by
 unfold RF.lcl at h
 cases e:nm.lookup x with
 | none=>rw[e]at h;cases h
 | some k=>
   rw[e]at h
   have q:=A.look x k e
   cases k with
   | «local»=>rcases q with q | ⟨q,_⟩;exact⟨.inl q,.inr q⟩;exact nomatch q
   | cell=>rcases q with q | ⟨q,_⟩;exact⟨.inr q,.inl (A.fn x e)⟩;exact nomatch q
   | _=>exact(y4 h).elim
theorem At.glb(A:At Ω X r top N nm)(h:RF.glb nm x=true):Gl X x:=by
 have e:nm.lookup x=some .globalImplicit:=eq_of_beq h
 rcases A.look x _ e with q | ⟨q,_⟩
 . exact q
 . exact nomatch q
end
theorem aL{e:Expr}(h:okE e=true)(es:List Expr)(env:Env):starEach (e::es) env=(false,eval e env)::starEach es env:=by
 cases e<;>first | rfl | exact(y4 h).elim
theorem lW:∀{es:List Expr}(_:es.all okE=true)(pos:Pos)(env:Env),(backTo pos (starEach es env)).any (·.1)=false
 | [],_,_,_=>rfl
 | e::es,h,pos,env=>by
   rw[List.all_cons]at h
   obtain⟨h1,h2⟩:=aa h
   rw[aL h1]
   show(false||(backTo pos (starEach es env)).any (·.1))=false
   rw[lW h2];rfl
theorem fQ{op:CmpOp}{e:Expr}(h:okE e=true):behindInMarks op e=false:=by
 cases e<;>first | rfl | exact(y4 h).elim
theorem ph{e:Expr}(h:okE e=true):uc e:=by
 intro _ _
 cases e<;>first | rfl | exact(y4 h).elim
theorem nA{e:Expr}(h:okE e=true)(env:Env):∀x,foldedSetIterable e env x=pure x:=by
 intro x
 cases e<;>first | rfl | exact(y4 h).elim
theorem qg{e:Expr}(h:noC e=true)(t:Option Expr)(l:Nat)(env:Env):swapsWith e t l env=pure false:=by
 cases e<;>first | rfl | exact(y4 h).elim
theorem zU{e:Expr}(h:Ds e=true)(env:Env):∀whole,isTrue e env whole=(do let v ←whole;standAt e.pos;holding [v] (truthy v)):=by
 intro w
 cases e<;>first | rfl | exact(y4 h).elim
section
variable {X : Cx} {Γ : Gam} {S : Store} {e : Expr} {es : List Expr}
theorem EvA.mono{W W':List D->Store->Prop}(h:EvA X Γ S es W)(k:∀ds S',W ds S'->W' ds S'):EvA X Γ S es W':=λ pos pins s σ H O I env st=>
 thn (h pos pins s σ H O I env st) λ _ _ hq_=>by obtain⟨v,H',I',r,O',d,S',w,q⟩:=hq_;exact⟨v,H',I',r,O',d,S',k d S' w,q⟩
theorem Ts.mono{W W':Bool->Store->Prop}(h:Ts X Γ S e W)(k:∀c S',W c S'->W' c S'):Ts X Γ S e W':=λ pins s σ H O I env st=>
 thn (h pins s σ H O I env st) λ _ _ hq_=>by obtain⟨H',I',O',S',w,q⟩:=hq_;exact⟨H',I',O',S',k _ S' w,q⟩
theorem BdW.mono{d:D}{W W':Gam->Store->Prop}(h:BdW X e d Γ S W)(k:∀G S',W G S'->W' G S'):BdW X e d Γ S W':=λ pins s σ H O v u I env st r ru=>
 thn (h pins s σ H O v u I env st r ru) λ _ _ q=>by
  obtain⟨σ',H',I',O',G,S',w,q⟩:=q
  exact⟨σ',H',I',O',G,S',k G S' w,q⟩
theorem ItW.mono{tg:Expr}{W W':List D->Store->Prop}(h:ItW X Γ S tg e W)(k:∀ds S',W ds S'->W' ds S'):ItW X Γ S tg e W':=λ pins s σ H O I env st=>
 thn (h pins s σ H O I env st) λ _ _ q=>thn q λ _ _ q=>by
  obtain⟨it,fp,tn,J,H',e1,e2,e3,e4,e5,O',ds,S',w,z⟩:=q
  exact⟨it,fp,tn,J,H',e1,e2,e3,e4,e5,O',ds,S',k ds S' w,z⟩
theorem PT{pins:Pins}{O:Own}{H:Hp}{W W':DL.Fin}(h1:∀G S,W.nx G S->W'.nx G S)(h2:∀d S,W.rt d S->W'.rt d S)(h3:∀G S,W.bk G S->W'.bk G S)(h4:∀G S,W.ct G S->W'.ct G S){f:Flow}{s':Shared}(q:SP X pins (ends X.K O H W) f s'):SP X pins (ends X.K O H W') f s':=by
 cases f with
 | next=>obtain⟨σ,H',I,O',G,S',w,q⟩:=q;exact⟨σ,H',I,O',G,S',h1 _ _ w,q⟩
 | brk=>obtain⟨σ,H',I,O',G,S',w,q⟩:=q;exact⟨σ,H',I,O',G,S',h3 _ _ w,q⟩
 | cont=>obtain⟨σ,H',I,O',G,S',w,q⟩:=q;exact⟨σ,H',I,O',G,S',h4 _ _ w,q⟩
 | ret u=>obtain⟨v,σ,H',I,r,O',d,S',w,q⟩:=q;exact⟨v,σ,H',I,r,O',d,S',h2 _ _ w,q⟩
theorem Rn.mono{st:Stmt}{W W':DL.Fin}(h:Rn X Γ S st W)(h1:∀G S,W.nx G S->W'.nx G S)(h2:∀d S,W.rt d S->W'.rt d S)(h3:∀G S,W.bk G S->W'.bk G S)(h4:∀G S,W.ct G S->W'.ct G S):Rn X Γ S st W':=λ pins s σ H O I env ok=>
 thn (h pins s σ H O I env ok) λ _ _ q=>PT h1 h2 h3 h4 q
theorem GC{a b c:Expr}{op op':CmpOp}{pos:Pos}{W:Bool->Store->Prop}(h:Ev X Γ S a λ x S1=>Ev X Γ S1 b λ y S2=>aY X op x y S2 (asB λ k S3=>(k=false->W false S3)/\(k=true->Ev X Γ S3 c λ t S4=>aY X op' y t S4 (asB W))))
 (hm:lastMarks [op,op'] [b,c]=false):Ts X Γ S (.Compare a [op,op'] [b,c] pos) W:=by
 intro pins s σ H O I env st
 refine isTrue_chain (rs:=[]) (thn (h pins s σ H O I env st) λ u s1 hq_=>?_) hm
 obtain⟨v,H1,I1,r1,O1,x,S1,hb,st1,ok1,rep1⟩:=hq_
 refine test_link (thn (hb pins s1 σ H1 O1 I1 (env.mono st1) ok1) λ u' s2 hq_=>?_)
 obtain⟨w,H2,I2,r2,O2,y,S2,hw,st2,ok2,rep2⟩:=hq_
 refine thn (hw pins s2 σ H2 O2 v w u u' I2 ok2 (rep1.mono st2) rep2 r1 r2) λ _ s3 hq_=>?_
 obtain⟨z,H3,I3,r3,O3,d3,S3,⟨k,hd,k1,k2⟩,st3,ok3,rep3⟩:=hq_
 subst hd
 cases rep3
 cases r3
 refine wpAny_truthy_bool ?_
 cases k with
 | false=>exact ite_ff ⟨H3,I3,O3,S3,k1 rfl,(st1.trans st2).trans st3,ok3⟩
 | true=>
   refine ite_tt (test_last (thn (k2 rfl pins s3 σ H3 O3 I3 (((env.mono st1).mono st2).mono st3) ok3) λ u4 s4 hq_=>?_))
   obtain⟨w4,H4,I4,r4,O4,t,S4,h4,st4,ok4,rep4⟩:=hq_
   refine thn (h4 pins s4 σ H4 O4 w w4 u' u4 I4 ok4 ((rep2.mono st3).mono st4) rep4 r2 r4) λ _ s5 hq_=>?_
   obtain⟨z5,H5,I5,r5,O5,d5,S5,⟨k,hd,w5⟩,st5,ok5,rep5⟩:=hq_
   subst hd
   cases rep5
   cases r5
   exact wpAny_truthy_bool ⟨H5,I5,O5,S5,w5,(((st1.trans st2).trans st3).trans st4).trans st5,ok5⟩
end
def bII(x y:D)(k:Int->Int->Prop):Prop:=match x with
 | .int i=>(match y with
   | .int j=>k i j
   | _=>False)
 | _=>False
theorem eQ{x y:D}{k:Int->Int->Prop}(h:bII x y k):∃i j,x=.int i/\y=.int j/\k i j:=by
 cases x<;>first | exact h.elim | (cases y<;>first | exact h.elim | exact⟨_,_,rfl,rfl,h⟩)
def bTu(x:D)(k:List D->Prop):Prop:=match x with
 | .tup a=>k a
 | _=>False
theorem vg{x:D}{k:List D->Prop}(h:bTu x k):∃a,x=.tup a/\k a:=by cases x<;>first | exact h.elim | exact⟨_,rfl,h⟩
def bLs(x:D)(k:List D->Prop):Prop:=match x with
 | .lst a=>k a
 | _=>False
theorem Cm{x:D}{k:List D->Prop}(h:bLs x k):∃a,x=.lst a/\k a:=by cases x<;>first | exact h.elim | exact⟨_,rfl,h⟩
def bIn(x:D)(k:Int->Prop):Prop:=match x with
 | .int a=>k a
 | _=>False
theorem Lz{x:D}{k:Int->Prop}(h:bIn x k):∃a,x=.int a/\k a:=by cases x<;>first | exact h.elim | exact⟨_,rfl,h⟩
def JR(x:D)(a b c:Prop):Prop:=match x with
 | .int _=>a
 | .tup _=>b
 | _=>c
theorem zA{x:D}{a b c:Prop}(h:JR x a b c):a∨b∨c:=by cases x<;>first | exact .inl h | exact .inr (.inl h) | exact .inr (.inr h)
def J2(op:Operator)(x y:D)(S:Store)(W:WD):Prop:=match op with
 | .Add=>JR x (bII x y λ i j=>W (.int (i+j)) S) (bTu x λ a=>bTu y λ b=>a.length+b.length≤1000000/\W (.tup (a++b)) S) (bLs x λ a=>bLs y λ b=>a.length+b.length≤1000000/\W (.lst (a++b)) S)
 | .Sub=>bII x y λ i j=>W (.int (i-j)) S
 | .Mult=>JR x (bII x y λ i j=>CMul i j/\W (.int (i*j)) S) (bTu x λ a=>bIn y λ n=>(-(2 ^ 63)≤n/\n<2 ^ 63)/\a.length*n.toNat≤1000000/\W (.tup (List.replicate n.toNat a).flatten) S) False
 | .Mod=>bII x y λ i j=>0<j/\W (.int (i % j)) S
 | .FloorDiv=>bII x y λ i j=>(0<j/\j<1073741824)/\W (.int (i/j)) S
 | .Pow=>bII x y λ i j=>CPow i j/\W (.int (i ^ j.toNat)) S
 | _=>False
theorem Iz{X:Cx}{op:Operator}{x y:D}{S:Store}(h:J2 op x y S W):dj X op x y S W:=by
 cases op<;>first | exact(show False from h).elim | skip
 . rcases zA h with h | h | h
   . obtain⟨i,j,rfl,rfl,h⟩:=eQ h;exact Rc h
   . obtain⟨a,rfl,h1⟩:=vg h;obtain⟨b,rfl,h2⟩:=vg h1;exact Oe h2.1 h2.2
   . obtain⟨a,rfl,h1⟩:=Cm h;obtain⟨b,rfl,h2⟩:=Cm h1;exact MN h2.1 h2.2
 . obtain⟨i,j,rfl,rfl,h⟩:=eQ h;exact RW h
 . rcases zA h with h | h | h
   . obtain⟨i,j,rfl,rfl,h⟩:=eQ h;exact Rp h.1 h.2
   . obtain⟨a,rfl,h1⟩:=vg h;obtain⟨b,rfl,h2⟩:=Lz h1;exact PK h2.1 h2.2.1 h2.2.2
   . exact h.elim
 all_goals obtain⟨i,j,rfl,rfl,h⟩:=eQ h
 all_goals first | exact Rw h.1 h.2 | exact Ov h.1 h.2 | exact Q8 h.1 h.2
def Ja(x y:D)(S:Store)(W:WD):Prop:=match x,y with
 | .tup ds,.int i=>∃d,atI ds i=some d/\W d S
 | .lst ds,.int i=>∃d,atI ds i=some d/\W d S
 | .loc k,.int i=>∃ds d,S[k]? =some ds/\atI ds i=some d/\W d S
 | _,_=>False
theorem K5{X:Cx}{a b:Expr}{x y:D}{S:Store}(h:Ja x y S W):IxW X a b x y S W:=by
 unfold Ja at h
 split at h
 . obtain⟨d,h1,h2⟩:=h;exact Ro h1 h2
 . obtain⟨d,h1,h2⟩:=h;exact RD h1 h2
 . obtain⟨ds,d,h1,h2,h3⟩:=h;exact RX h1 h2 h3
 . exact h.elim
def HR(x:D)(l h:Option Int)(S:Store)(W:WD):Prop:=match x with
 | .tup ds=>W (.tup (cutD ds l h)) S
 | .lst ds=>W (.lst (cutD ds l h)) S
 | .loc k=>∃ds,S[k]? =some ds/\W (.lst (cutD ds l h)) S
 | _=>False
theorem Q3{X:Cx}{S:Store}{k:Nat}{ds:List D}{lo hi:Option Int}(hk:S[k]? =some ds)(w:W (.lst (cutD ds lo hi)) S):SlW X (.loc k) lo hi S W:=by
 intro pins s σ H O v u vl vu sl I st r1 r3 hs pl pu
 cases r1 with
 | @loc p _ h1=>
   obtain⟨xs,hx,q1⟩:=st.obj k p ds h1 hk
   exact vz pins s σ H _ u vl vu lo hi sl _ I r3 hs pl pu ⟨p,xs,rfl,SqL.of hx,λ p' hp=>jw w st hp (m5 q1 lo hi)⟩
theorem K3{X:Cx}{x:D}{l r:Option Int}{S:Store}(h:HR x l r S W):SlW X x l r S W:=by
 unfold HR at h
 split at h
 . exact QZ h
 . exact Q4 h
 . obtain⟨ds,h1,h2⟩:=h;exact Q3 h1 h2
 . exact h.elim
inductive Ty where
 | int | bool | tuple | list | str
 deriving DecidableEq
def Ty.id:Ty->String
 | .int=>"int" | .bool=>"bool" | .tuple=>"tuple" | .list=>"list" | .str=>"str"
def Ty.nm:Ty->Str
 | .int=>"int" | .bool=>"bool" | .tuple=>"tuple" | .list=>"list" | .str=>"str"
def isD:Ty->D->Bool
 | .int,.int _=>true | .int,.bl _=>true | .bool,.bl _=>true | .tuple,.tup _=>true | .list,.lst _=>true | .list,.loc _=>true | .str,.str _=>true | _,_=>false
theorem Pb(T:Ty)(x:D):isi (tyD x) T.id=isD T x:=by cases T<;>cases x<;>rfl
theorem Ty.isT(T:Ty):DL.isT T.id=true:=by cases T<;>rfl
theorem Ty.boot(T:Ty):bootBuiltins T.nm=some (.type T.id):=by cases T<;>decide+kernel
theorem Ty.ok(T:Ty):(T.nm==("__debug__":Str))=false/\T.nm≠"__name__":=by cases T<;>decide+kernel
end RF
set_option maxHeartbeats 1000000
namespace RF
open PySem PySem.Spec L2 DL
open PyProof.Rows
variable {e : Expr}
def nameV:Expr->Option Str
 | .Name x _=>some x
 | _=>none
theorem cW{x:Str}(h:nameV e=some x):∃p,e=.Name x p:=by
 unfold nameV at h
 split at h
 . cases h;exact⟨_,rfl⟩
 . cases h
def Ak:Expr->Option (Expr×List Expr×Bool)
 | .Call f es ks _=>some (f,es,ks.isEmpty)
 | _=>none
theorem Fj{f:Expr}{es:List Expr}(h:Ak e=some (f,es,true)):∃pos,e=.Call f es [] pos:=by
 unfold Ak at h
 split at h
 . rename_i f' es' ks pos
   have h:=Option.some.inj h
   have h1:=congrArg Prod.fst h
   have h2:=congrArg (λ z=>z.2.1) h
   have h3:ks.isEmpty=true:=congrArg (λ z=>z.2.2) h
   have h1:f'=f:=h1
   have h2:es'=es:=h2
   cases ks with
   | nil=>subst h1 h2;exact⟨pos,rfl⟩
   | cons=>cases h3
 . cases h
def anB{α:Type}(o:Option α)(k:α->Bool):Bool:=match o with
 | some a=>k a
 | none=>false
theorem bx{α:Type}{o:Option α}{k:α->Bool}(h:anB o k=true):∃a,o=some a/\k a=true:=by
 cases o with
 | none=>cases h
 | some a=>exact⟨a,rfl,h⟩
def jb(e:Expr)(k:Str->List Expr->Bool):Bool:=anB (Ak e) λ z=>z.2.2&&anB (nameV z.1) λ f=>k f z.2.1
theorem eG{k:Str->List Expr->Bool}(h:jb e k=true):∃f p es pos,e=.Call (.Name f p) es [] pos/\k f es=true:=by
 obtain⟨⟨f,es,b⟩,h1,h⟩:=bx h
 obtain⟨hb,h⟩:=aa h
 have hb:b=true:=hb
 subst hb
 obtain⟨x,h2,h⟩:=bx h
 obtain⟨pos,rfl⟩:=Fj h1
 obtain⟨p,e2⟩:=cW h2
 have e2:f=.Name x p:=e2
 subst e2
 exact⟨x,p,es,pos,rfl,h⟩
def gG{α:Type}(l:List α)(k:α->Bool):Bool:=match l with
 | [a]=>k a
 | _=>false
theorem cg{α:Type}{l:List α}{k:α->Bool}(h:gG l k=true):∃a,l=[a]/\k a=true:=by
 cases l with
 | nil=>cases h
 | cons a l=>cases l with
   | nil=>exact⟨a,rfl,h⟩
   | cons=>cases h
def two2{α:Type}(l:List α)(k:α->α->Bool):Bool:=match l with
 | [a,b]=>k a b
 | _=>false
theorem two2_of{α:Type}{l:List α}{k:α->α->Bool}(h:two2 l k=true):∃a b,l=[a,b]/\k a b=true:=by
 cases l with
 | nil=>cases h
 | cons a l=>cases l with
   | nil=>cases h
   | cons b l=>cases l with
     | nil=>exact⟨a,b,rfl,h⟩
     | cons=>cases h
def Eg:Expr->Bool
 | .Tuple .. =>true
 | _=>false
theorem BW(h:Eg e=true):∃es k p,e=.Tuple es k p:=by
 unfold Eg at h
 split at h
 . exact⟨_,_,_,rfl⟩
 . cases h
def yf:Expr->Option (Expr×Str×Pos)
 | .Attribute x m p=>some (x,m,p)
 | _=>none
theorem Ab{x:Expr}{m:Str}{p:Pos}(h:yf e=some (x,m,p)):e=.Attribute x m p:=by
 unfold yf at h
 split at h
 . cases h;rfl
 . cases h
def Jb:Stmt->Option (List Expr×Expr)
 | .Assign ts e _=>some (ts,e)
 | _=>none
theorem Mj{st:Stmt}{ts:List Expr}(h:Jb st=some (ts,e)):∃p,st=.Assign ts e p:=by
 unfold Jb at h
 split at h
 . cases h;exact⟨_,rfl⟩
 . cases h
def setB(st:Stmt)(k:Str->Expr->Bool):Bool:=anB (Jb st) λ z=>gG z.1 λ t=>anB (nameV t) λ x=>k x z.2
theorem K8{st:Stmt}{k:Str->Expr->Bool}(h:setB st k=true):∃x q e p,st=.Assign [.Name x q] e p/\k x e=true:=by
 obtain⟨⟨ts,e⟩,h1,h⟩:=bx h
 obtain⟨t,e1,h⟩:=cg h
 obtain⟨x,h2,h⟩:=bx h
 obtain⟨p,rfl⟩:=Mj h1
 obtain⟨q,rfl⟩:=cW h2
 have e1:ts=[Expr.Name x q]:=e1
 subst e1
 exact⟨x,q,e,p,rfl,h⟩
end RF
set_option maxHeartbeats 4000000
namespace RF
open PySem PySem.Spec L2 DL
open PyProof.Rows
variable {ds : List D} {S : Store} {x y : D} {W : Bool -> Store -> Prop}
mutual
def eqD:D->D->Bool
 | .non,.non=>true
 | .bl a,.bl b=>a==b
 | .int a,.int b=>a==b
 | .bl a,.int b=>(if a then 1 else 0)==b
 | .int a,.bl b=>a==(if b then 1 else 0)
 | .str a,.str b=>a==b
 | .tup a,.tup b=>fj a b
 | .lst a,.lst b=>fj a b
 | .dic,.dic=>true
 | _,_=>false
def fj:List D->List D->Bool
 | [],[]=>true
 | a::as,b::bs=>eqD a b&&fj as bs
 | _,_=>false
end
mutual
def okD:D->Bool
 | .tup ds=>cz ds
 | .lst ds=>cz ds
 | .loc _=>false
 | .dic=>false
 | .dlo _=>false
 | _=>true
def cz:List D->Bool
 | []=>true
 | d::ds=>okD d&&cz ds
end
mutual
inductive Sn(K:PySem.W.Frag)(H:Hp):V->D->Prop
 | non:Sn K H .non .non
 | bl(b:Bool):Sn K H (.bl b) (.bl b)
 | int(i:Int):Sn K H (.int i) (.int i)
 | str(x:Str):Sn K H (.str x) (.str x)
 | tup{a:Addr}{xs:List V}{ds:List D}(h:SqT K H a xs)(r:Sns K H xs ds):Sn K H (.ref a) (.tup ds)
 | lst{a:Addr}{xs:List V}{ds:List D}(h:SqL K H a xs)(r:Sns K H xs ds):Sn K H (.ref a) (.lst ds)
inductive Sns(K:PySem.W.Frag)(H:Hp):List V->List D->Prop
 | nil:Sns K H [] []
 | cons{v:V}{d:D}{vs:List V}{ds:List D}(r:Sn K H v d)(t:Sns K H vs ds):Sns K H (v::vs) (d::ds)
end
section
variable {K : PySem.W.Frag} {H : Hp} {O : Own}
theorem Sns.length:∀{vs:List V}{ds:List D},Sns K H vs ds->vs.length=ds.length
 | _,_,.nil=>rfl
 | _,_,.cons _ t=>by simp[Sns.length t]
theorem Sns.get:∀{vs:List V}{ds:List D}{i:Nat}{d:D},Sns K H vs ds->ds[i]? =some d->∃v,vs[i]? =some v/\Sn K H v d
 | _,_,_,_,.nil,e=>by simp at e
 | _,_,0,_,.cons r _,e=>by simp at e;subst e;exact⟨_,rfl,r⟩
 | _,_,i+1,d,.cons _ t,e=>by
   obtain⟨v,h1,h2⟩:=Sns.get (i:=i) (d:=d) t (by simpa using e)
   exact⟨v,by simpa using h1,h2⟩
mutual
theorem yW{v:V}{d:D}(h:okD d=true)(r:Rep K O H v d):Sn K H v d:=by
 cases r with
 | non=>exact .non
 | bl b=>exact .bl b
 | int i=>exact .int i
 | str x=>exact .str x
 | tup h1 r=>exact .tup h1.sq (mR h r)
 | lst h1 r=>exact .lst h1.sq (mR h r)
 | loc=>cases h
 | dic=>cases h
 | dlo=>cases h
theorem mR{vs:List V}{ds:List D}(h:cz ds=true)(r:Reps K O H vs ds):Sns K H vs ds:=by
 cases r with
 | nil=>exact .nil
 | cons r t=>
   obtain⟨h1,h2⟩:=aa h
   exact .cons (yW h1 r) (mR h2 t)
end
end
section
variable {X : Cx} {pins : Pins} {s : Shared} {σ : DL.St} {H : Hp}
mutual
theorem sI(I:Inv X pins σ H s){v:V}{x y:D}(a:Sn X.K H v x)(b:Sn X.K H v y):x=y:=by
 cases a with
 | non=>cases b;rfl
 | bl=>cases b;rfl
 | int=>cases b;rfl
 | str=>cases b;rfl
 | tup h r=>
   cases b with
   | tup h' r'=>
     have e:=I.tuple_inj h h'
     subst e
     rw[vH I r r']
   | lst h' r'=>
     exfalso
     obtain⟨its,_,⟨o,h2,h3,_⟩,_⟩:=I.tuple h
     obtain⟨its2,_,pl,_⟩:=I.list h'
     obtain⟨o',h2',h3',_⟩:=pl.isList
     rw[h2]at h2'
     cases h2'
     rw[h3]at h3'
     exact absurd h3' (by decide)
 | lst h r=>
   cases b with
   | lst h' r'=>
     have e:=I.list_inj h h'
     subst e
     rw[vH I r r']
   | tup h' r'=>
     exfalso
     obtain⟨its,_,⟨o,h2,h3,_⟩,_⟩:=I.tuple h'
     obtain⟨its2,_,pl,_⟩:=I.list h
     obtain⟨o',h2',h3',_⟩:=pl.isList
     rw[h2]at h2'
     cases h2'
     rw[h3]at h3'
     exact absurd h3' (by decide)
theorem vH(I:Inv X pins σ H s){vs:List V}{xs ys:List D}(a:Sns X.K H vs xs)(b:Sns X.K H vs ys):xs=ys:=by
 cases a with
 | nil=>cases b;rfl
 | cons r t=>
   cases b with
   | cons r' t'=>rw[sI I r r',vH I t t']
end
end
theorem KY(a b:List D):eqD (.tup a) (.tup b)=fj a b:=rfl
theorem Ml(a b:List D):eqD (.lst a) (.lst b)=fj a b:=rfl
mutual
theorem kJ:∀(x:D),aB x=true->eqD x x=true
 | .non,_=>rfl
 | .bl b,_=>beq_self_eq_true b
 | .int i,_=>beq_self_eq_true i
 | .str s,_=>beq_self_eq_true s
 | .tup ds,h=>lR ds h
 | .lst ds,h=>lR ds h
 | .loc _,h=>by cases h
 | .dlo _,h=>by cases h
 | .dic,_=>rfl
theorem lR:∀(xs:List D),az xs=true->fj xs xs=true
 | [],_=>rfl
 | d::ds,h=>by
   obtain⟨h1,h2⟩:=aa (show(aB d&&az ds)=true from h)
   show(eqD d d&&fj ds ds)=true
   rw[kJ d h1,lR ds h2]
   rfl
end
abbrev eqJ(ds es:List D)(j:Nat):Bool:=eqD (ds.getD j .non) (es.getD j .non)
theorem JH(d e:D)(ds es:List D):(eqJ (d::ds) (e::es)) ∘ Nat.succ=eqJ ds es:=by
 funext j;simp[eqJ,List.getD]
theorem j0:∀(ds es:List D),((List.range (min ds.length es.length)).all (eqJ ds es)&&ds.length==es.length)=fj ds es
 | [],[]=>by simp[fj]
 | [],e::es=>by simp[fj]
 | d::ds,[]=>by simp[fj]
 | d::ds,e::es=>by
   have ih:=j0 ds es
   have h1:min (d::ds).length (e::es).length=min ds.length es.length+1:=by simp only[List.length_cons];omega
   rw[h1,List.range_succ_eq_map,List.all_cons,List.all_map,JH]
   have h2:((d::ds).length==(e::es).length)=(ds.length==es.length):=by simp
   have h3:eqJ (d::ds) (e::es) 0=eqD d e:=by simp[eqJ,List.getD]
   rw[h2,h3,Bool.and_assoc,ih]
   simp only[fj]
theorem Ir{es:List D}(h:ds.length=es.length):(List.range ds.length).all (eqJ ds es)=fj ds es:=by
 rw[←j0 ds es,←h,Nat.min_self,beq_self_eq_true,Bool.and_true]
theorem Km{es:List D}(h:ds.length≠es.length):fj ds es=false:=by
 rw[←j0 ds es]
 have:(ds.length==es.length)=false:=by simpa using h
 rw[this,Bool.and_false]
section
variable {X : Cx}
theorem uD{n:Nat}(ih:∀(x y:D),deep x≤n->∀{pins:Pins}{s:Shared}{σ:DL.St}{H:Hp}{v w:V}{u u':Value}{A:Around},Inv X pins σ H s->Sn X.K H v x->Sn X.K H w y->RelV v u->RelV w u'->A.units+n<cLine->SeqAt.EqAt A s u u' (eqD x y))
 (x y:D)(hx:deep x≤n+1){pins:Pins}{s:Shared}{σ:DL.St}{H:Hp}{v w:V}{u u':Value}{A:Around}(I:Inv X pins σ H s)(r1:Sn X.K H v x)(r2:Sn X.K H w y)(ru:RelV v u)(ru':RelV w u')(hu:A.units+(n+1)<cLine):
 SeqAt.RcAt A s u u' (eqD x y)/\SeqAt.RcNeAt A s u u' (!eqD x y):=by
 have hu0:A.units<cLine:=by omega
 have part:∀{ds es:List D}{xs ys:List V}{its its2:List Value},bc ds≤n->Sns X.K H xs ds->Sns X.K H ys es->Vals xs its->Vals ys its2->∀j(h1:j<its.toArray.size)(h2:j<its2.toArray.size),SeqAt.EqAt A.in1 s its.toArray[j] its2.toArray[j] (eqJ ds es j):=by
  intro ds es xs ys its its2 hd q1 q2 v1 v2 j j1 j2
  have l1:its.length=ds.length:=by rw[←v1.length,q1.length]
  have l2:its2.length=es.length:=by rw[←v2.length,q2.length]
  have hj:j<ds.length:=by simpa[l1]using j1
  have hj2:j<es.length:=by simpa[l2]using j2
  obtain⟨z1,a1,b1⟩:=q1.get (y0 hj)
  obtain⟨z2,a2,b2⟩:=q2.get (y0 hj2)
  obtain⟨u1,c1,d1⟩:=v1.get a1
  obtain⟨u2,c2,d2⟩:=v2.get a2
  have e1:its.toArray[j]=u1:=by have:=(z0.mp c1).2;simpa using this
  have e2:its2.toArray[j]=u2:=by have:=(z0.mp c2).2;simpa using this
  rw[e1,e2]
  have e3:eqJ ds es j=eqD ds[j] es[j]:=by simp[eqJ,List.getD,hj,hj2]
  rw[e3]
  have hd':=eF (y0 hj)
  exact ih ds[j] es[j] (by omega) I b1 b2 d1 d2 (by show A.units+1+n<cLine;omega)
 cases r1 with
 | non=>
   cases ru
   cases r2 with
   | non=>cases ru';exact⟨SeqAt.RcAt.none_none,SeqAt.RcNeAt.none_none⟩
   | bl b=>cases ru';exact⟨SeqAt.RcAt.none_bool b,SeqAt.RcNeAt.none_bool b⟩
   | int i=>obtain⟨t',rfl⟩:=ru';exact⟨SeqAt.RcAt.none_int i t',SeqAt.RcNeAt.none_int i t'⟩
   | str i=>obtain⟨t',rfl⟩:=ru';exact⟨SeqAt.RcAt.none_str i t',SeqAt.RcNeAt.none_str i t'⟩
   | tup h2 q2=>
     cases ru';obtain⟨its2,v2,p2,_⟩:=I.tuple h2
     exact⟨SeqAt.RcAt.none_tuple (show s.heap.IsTuple _ its2.toArray from p2) hu0,SeqAt.RcNeAt.none_tuple (show s.heap.IsTuple _ its2.toArray from p2) hu0⟩
   | lst h2 q2=>
     cases ru';obtain⟨its2,v2,p2,_⟩:=I.list h2
     exact⟨SeqAt.RcAt.none_list p2.isList hu0,SeqAt.RcNeAt.none_list p2.isList hu0⟩
 | bl a=>
   cases ru
   cases r2 with
   | non=>cases ru';exact⟨SeqAt.RcAt.bool_none a,SeqAt.RcNeAt.bool_none a⟩
   | bl b=>cases ru';exact⟨SeqAt.RcAt.bool_bool a b,SeqAt.RcNeAt.bool_bool a b⟩
   | int i=>obtain⟨t',rfl⟩:=ru';exact⟨SeqAt.RcAt.bool_int a i t',SeqAt.RcNeAt.bool_int a i t'⟩
   | str i=>obtain⟨t',rfl⟩:=ru';exact⟨SeqAt.RcAt.bool_str a i t',SeqAt.RcNeAt.bool_str a i t'⟩
   | tup h2 q2=>
     cases ru';obtain⟨its2,v2,p2,_⟩:=I.tuple h2
     exact⟨SeqAt.RcAt.bool_tuple a (show s.heap.IsTuple _ its2.toArray from p2) hu0,SeqAt.RcNeAt.bool_tuple a (show s.heap.IsTuple _ its2.toArray from p2) hu0⟩
   | lst h2 q2=>
     cases ru';obtain⟨its2,v2,p2,_⟩:=I.list h2
     exact⟨SeqAt.RcAt.bool_list a p2.isList hu0,SeqAt.RcNeAt.bool_list a p2.isList hu0⟩
 | int a=>
   obtain⟨t,rfl⟩:=ru
   cases r2 with
   | non=>cases ru';exact⟨SeqAt.RcAt.int_none a t,SeqAt.RcNeAt.int_none a t⟩
   | bl b=>cases ru';exact⟨SeqAt.RcAt.int_bool a t b,SeqAt.RcNeAt.int_bool a t b⟩
   | int i=>obtain⟨t',rfl⟩:=ru';exact⟨SeqAt.RcAt.int_int a t i t',SeqAt.RcNeAt.int_int a t i t'⟩
   | str i=>obtain⟨t',rfl⟩:=ru';exact⟨SeqAt.RcAt.int_str a t i t',SeqAt.RcNeAt.int_str a t i t'⟩
   | tup h2 q2=>
     cases ru';obtain⟨its2,v2,p2,_⟩:=I.tuple h2
     exact⟨SeqAt.RcAt.int_tuple a t (show s.heap.IsTuple _ its2.toArray from p2) hu0,SeqAt.RcNeAt.int_tuple a t (show s.heap.IsTuple _ its2.toArray from p2) hu0⟩
   | lst h2 q2=>
     cases ru';obtain⟨its2,v2,p2,_⟩:=I.list h2
     exact⟨SeqAt.RcAt.int_list a t p2.isList hu0,SeqAt.RcNeAt.int_list a t p2.isList hu0⟩
 | str a=>
   obtain⟨t,rfl⟩:=ru
   cases r2 with
   | non=>cases ru';exact⟨SeqAt.RcAt.str_none a t,SeqAt.RcNeAt.str_none a t⟩
   | bl b=>cases ru';exact⟨SeqAt.RcAt.str_bool a t b,SeqAt.RcNeAt.str_bool a t b⟩
   | int i=>obtain⟨t',rfl⟩:=ru';exact⟨SeqAt.RcAt.str_int a t i t',SeqAt.RcNeAt.str_int a t i t'⟩
   | str i=>obtain⟨t',rfl⟩:=ru';exact⟨SeqAt.RcAt.str_str a t i t',SeqAt.RcNeAt.str_str a t i t'⟩
   | tup h2 q2=>
     cases ru';obtain⟨its2,v2,p2,_⟩:=I.tuple h2
     exact⟨SeqAt.RcAt.str_tuple a t (show s.heap.IsTuple _ its2.toArray from p2) hu0,SeqAt.RcNeAt.str_tuple a t (show s.heap.IsTuple _ its2.toArray from p2) hu0⟩
   | lst h2 q2=>
     cases ru';obtain⟨its2,v2,p2,_⟩:=I.list h2
     exact⟨SeqAt.RcAt.str_list a t p2.isList hu0,SeqAt.RcNeAt.str_list a t p2.isList hu0⟩
 | @tup a xs ds h1 q1=>
   cases ru
   obtain⟨its,v1,p1,_⟩:=I.tuple h1
   have p1:s.heap.IsTuple a its.toArray:=p1
   cases r2 with
   | non=>cases ru';exact⟨SeqAt.RcAt.tuple_none p1 hu0,SeqAt.RcNeAt.tuple_none p1 hu0⟩
   | bl b=>cases ru';exact⟨SeqAt.RcAt.tuple_bool b p1 hu0,SeqAt.RcNeAt.tuple_bool b p1 hu0⟩
   | int i=>obtain⟨t',rfl⟩:=ru';exact⟨SeqAt.RcAt.tuple_int i t' p1 hu0,SeqAt.RcNeAt.tuple_int i t' p1 hu0⟩
   | str i=>obtain⟨t',rfl⟩:=ru';exact⟨SeqAt.RcAt.tuple_str i t' p1 hu0,SeqAt.RcNeAt.tuple_str i t' p1 hu0⟩
   | @tup b ys es h2 q2=>
     cases ru'
     obtain⟨its2,v2,p2,_⟩:=I.tuple h2
     have p2:s.heap.IsTuple b its2.toArray:=p2
     have l1:its.toArray.size=ds.length:=by rw[x5,←v1.length,q1.length]
     have l2:its2.toArray.size=es.length:=by rw[x5,←v2.length,q2.length]
     have hd:bc ds≤n:=by simp[deep]at hx;exact hx
     have a1:=SeqAt.RcAt.tuples (e:=eqJ ds es) p1 p2 hu0 (part hd q1 q2 v1 v2)
     have a2:=SeqAt.RcNeAt.tuples (e:=eqJ ds es) p1 p2 hu0 (part hd q1 q2 v1 v2)
     rw[l1,l2,j0]at a1 a2
     rw[KY]
     exact⟨a1,a2⟩
   | lst h2 q2=>
     cases ru';obtain⟨its2,v2,p2,_⟩:=I.list h2
     exact⟨SeqAt.RcAt.tuple_list p1 p2.isList hu0,SeqAt.RcNeAt.tuple_list p1 p2.isList hu0⟩
 | @lst a xs ds h1 q1=>
   cases ru
   obtain⟨its,v1,p1,_⟩:=I.list h1
   have p1:=p1.isList
   cases r2 with
   | non=>cases ru';exact⟨SeqAt.RcAt.list_none p1 hu0,SeqAt.RcNeAt.list_none p1 hu0⟩
   | bl b=>cases ru';exact⟨SeqAt.RcAt.list_bool b p1 hu0,SeqAt.RcNeAt.list_bool b p1 hu0⟩
   | int i=>obtain⟨t',rfl⟩:=ru';exact⟨SeqAt.RcAt.list_int i t' p1 hu0,SeqAt.RcNeAt.list_int i t' p1 hu0⟩
   | str i=>obtain⟨t',rfl⟩:=ru';exact⟨SeqAt.RcAt.list_str i t' p1 hu0,SeqAt.RcNeAt.list_str i t' p1 hu0⟩
   | tup h2 q2=>
     cases ru';obtain⟨its2,v2,p2,_⟩:=I.tuple h2
     exact⟨SeqAt.RcAt.list_tuple p1 (show s.heap.IsTuple _ its2.toArray from p2) hu0,SeqAt.RcNeAt.list_tuple p1 (show s.heap.IsTuple _ its2.toArray from p2) hu0⟩
   | @lst b ys es h2 q2=>
     cases ru'
     obtain⟨its2,v2,p2,_⟩:=I.list h2
     have p2:=p2.isList
     have l1:its.toArray.size=ds.length:=by rw[x5,←v1.length,q1.length]
     have l2:its2.toArray.size=es.length:=by rw[x5,←v2.length,q2.length]
     have hd:bc ds≤n:=by simp[deep]at hx;exact hx
     rw[Ml]
     by_cases hl:ds.length=es.length
     . have a1:=SeqAt.RcAt.lists (e:=eqJ ds es) p1 p2 (by rw[l1,l2,hl]) hu0 (part hd q1 q2 v1 v2)
       have a2:=SeqAt.RcNeAt.lists (e:=eqJ ds es) p1 p2 (by rw[l1,l2,hl]) hu0 (part hd q1 q2 v1 v2)
       rw[l1,Ir hl]at a1 a2
       exact⟨a1,a2⟩
     . have z:(its.toArray.size !=its2.toArray.size)=true:=by rw[l1,l2];simpa using hl
       rw[Km hl]
       exact⟨SeqAt.RcAt.lists_lengths p1 p2 z hu0,SeqAt.RcNeAt.lists_lengths p1 p2 z hu0⟩
theorem yt:∀{K:PySem.W.Frag}{H:Hp}{v:V}{x:D},Sn K H v x->aB x=true:=by
 intro K H v x h
 refine Sn.rec (motive_1:=λ v x _=>aB x=true) (motive_2:=λ vs xs _=>az xs=true) ?_ ?_ ?_ ?_ ?_ ?_ ?_ ?_ h
 . simp[aB]
 . intro b;simp[aB]
 . intro b;simp[aB]
 . intro b;simp[aB]
 . intro a xs ds h r ih;simpa[aB]using ih
 . intro a xs ds h r ih;simpa[aB]using ih
 . simp[az]
 . intro v d vs ds r t ih1 ih2;simp[az,ih1,ih2]
theorem JC (n:Nat):∀(x y:D),deep x≤n->∀{pins:Pins}{s:Shared}{σ:DL.St}{H:Hp}{v w:V}{u u':Value}{A:Around},Inv X pins σ H s->Sn X.K H v x->Sn X.K H w y->RelV v u->RelV w u'->A.units+n<cLine->SeqAt.EqAt A s u u' (eqD x y):=by
 induction n with
 | zero=>
   intro x y hx pins s σ H v w u u' A I r1 r2 ru ru' hu
   cases r1 with
   | non=>
     cases ru
     cases r2 with
     | non=>cases ru';exact SeqAt.EqAt.same _
     | bl b=>cases ru';exact SeqAt.EqAt.none_bool b
     | int i=>obtain⟨t',rfl⟩:=ru';exact SeqAt.EqAt.none_int i t'
     | str i=>obtain⟨t',rfl⟩:=ru';exact SeqAt.EqAt.none_str i t'
     | tup h2 q2=>cases ru';obtain⟨its2,v2,p2,_⟩:=I.tuple h2;exact SeqAt.EqAt.none_tuple (show s.heap.IsTuple _ its2.toArray from p2) (by omega)
     | lst h2 q2=>cases ru';obtain⟨its2,v2,p2,_⟩:=I.list h2;exact SeqAt.EqAt.none_list p2.isList (by omega)
   | bl a=>
     cases ru
     cases r2 with
     | non=>cases ru';exact SeqAt.EqAt.bool_none a
     | bl b=>cases ru';exact SeqAt.EqAt.bool_bool a b
     | int i=>obtain⟨t',rfl⟩:=ru';exact SeqAt.EqAt.bool_int a i t'
     | str i=>obtain⟨t',rfl⟩:=ru';exact SeqAt.EqAt.bool_str a i t'
     | tup h2 q2=>cases ru';obtain⟨its2,v2,p2,_⟩:=I.tuple h2;exact SeqAt.EqAt.bool_tuple a (show s.heap.IsTuple _ its2.toArray from p2) (by omega)
     | lst h2 q2=>cases ru';obtain⟨its2,v2,p2,_⟩:=I.list h2;exact SeqAt.EqAt.bool_list a p2.isList (by omega)
   | int a=>
     obtain⟨t,rfl⟩:=ru
     cases r2 with
     | non=>cases ru';exact SeqAt.EqAt.int_none a t
     | bl b=>cases ru';exact SeqAt.EqAt.int_bool a t b
     | int i=>obtain⟨t',rfl⟩:=ru';exact SeqAt.EqAt.int_int a t i t'
     | str i=>obtain⟨t',rfl⟩:=ru';exact SeqAt.EqAt.int_str a t i t'
     | tup h2 q2=>cases ru';obtain⟨its2,v2,p2,_⟩:=I.tuple h2;exact SeqAt.EqAt.int_tuple a t (show s.heap.IsTuple _ its2.toArray from p2) (by omega)
     | lst h2 q2=>cases ru';obtain⟨its2,v2,p2,_⟩:=I.list h2;exact SeqAt.EqAt.int_list a t p2.isList (by omega)
   | str a=>
     obtain⟨t,rfl⟩:=ru
     cases r2 with
     | non=>cases ru';exact SeqAt.EqAt.str_none a t
     | bl b=>cases ru';exact SeqAt.EqAt.str_bool a t b
     | int i=>obtain⟨t',rfl⟩:=ru';exact SeqAt.EqAt.str_int a t i t'
     | str i=>obtain⟨t',rfl⟩:=ru';exact SeqAt.EqAt.str_str a t i t'
     | tup h2 q2=>cases ru';obtain⟨its2,v2,p2,_⟩:=I.tuple h2;exact SeqAt.EqAt.str_tuple a t (show s.heap.IsTuple _ its2.toArray from p2) (by omega)
     | lst h2 q2=>cases ru';obtain⟨its2,v2,p2,_⟩:=I.list h2;exact SeqAt.EqAt.str_list a t p2.isList (by omega)
   | tup _ _=>simp[deep]at hx
   | lst _ _=>simp[deep]at hx
 | succ n ih=>
   intro x y hx pins s σ H v w u u' A I r1 r2 ru ru' hu
   by_cases h0:deep x≤n
   . exact ih x y h0 I r1 r2 ru ru' (by omega)
   . have both:=uD ih x y hx I r1 r2 ru ru' hu
     cases r1 with
     | non=>simp[deep]at h0
     | bl b=>simp[deep]at h0
     | int b=>simp[deep]at h0
     | str b=>simp[deep]at h0
     | @tup a xs ds h1 q1=>
       cases ru
       obtain⟨its,v1,p1,_⟩:=I.tuple h1
       have p1:s.heap.IsTuple a its.toArray:=p1
       cases r2 with
       | non=>cases ru';exact SeqAt.EqAt.tuple_none p1 (by omega)
       | bl b=>cases ru';exact SeqAt.EqAt.tuple_bool b p1 (by omega)
       | int i=>obtain⟨t',rfl⟩:=ru';exact SeqAt.EqAt.tuple_int i t' p1 (by omega)
       | str i=>obtain⟨t',rfl⟩:=ru';exact SeqAt.EqAt.tuple_str i t' p1 (by omega)
       | @tup b ys es h2 q2=>
         cases ru'
         by_cases e:a=b
         . subst e
           have e2:=sI I (.tup h1 q1) (.tup h2 q2)
           rw[←e2,kJ _ (yt (.tup h1 q1))]
           exact SeqAt.EqAt.same _
         . exact SeqAt.EqAt.of_refs e both.1
       | @lst b ys es h2 q2=>
         cases ru';obtain⟨its2,v2,p2,_⟩:=I.list h2;exact SeqAt.EqAt.tuple_list p1 p2.isList (by omega)
     | @lst a xs ds h1 q1=>
       cases ru
       obtain⟨its,v1,p1,_⟩:=I.list h1
       have p1:=p1.isList
       cases r2 with
       | non=>cases ru';exact SeqAt.EqAt.list_none p1 (by omega)
       | bl b=>cases ru';exact SeqAt.EqAt.list_bool b p1 (by omega)
       | int i=>obtain⟨t',rfl⟩:=ru';exact SeqAt.EqAt.list_int i t' p1 (by omega)
       | str i=>obtain⟨t',rfl⟩:=ru';exact SeqAt.EqAt.list_str i t' p1 (by omega)
       | tup h2 q2=>cases ru';obtain⟨its2,v2,p2,_⟩:=I.tuple h2;exact SeqAt.EqAt.list_tuple p1 (show s.heap.IsTuple _ its2.toArray from p2) (by omega)
       | @lst b ys es h2 q2=>
         cases ru'
         by_cases e:a=b
         . subst e
           have e2:=sI I (.lst h1 q1) (.lst h2 q2)
           rw[←e2,kJ _ (yt (.lst h1 q1))]
           exact SeqAt.EqAt.same _
         . exact SeqAt.EqAt.of_refs e both.1
def vw(S:Store):D->D
 | .loc k=>match S[k]? with | some ds=>.lst ds | none=>.loc k
 | d=>d
def CN(S:Store)(x y:D):Prop:=okD (vw S x)=true/\okD (vw S y)=true/\deep (vw S x)≤50
theorem jc{K:PySem.W.Frag}{O:Own}{H:Hp}{v:V}(st:StOk K O H S)(r:Rep K O H v x)(h:okD (vw S x)=true):Sn K H v (vw S x):=by
 cases r with
 | @loc a k hk=>
   simp only[vw]at h ⊢
   have hl:k<S.length:=by rw[←st.len];exact(z0.mp hk).1
   obtain⟨xs,hx,q⟩:=st.obj k a S[k] hk (y0 hl)
   rw[y0 hl]at h ⊢
   exact .lst (SqL.of hx) (mR (by simpa[okD]using h) q)
 | non=>exact .non
 | bl b=>exact .bl b
 | int i=>exact .int i
 | str i=>exact .str i
 | tup h1 q1=>exact yW h (.tup h1 q1)
 | lst h1 q1=>exact yW h (.lst h1 q1)
 | dic h1 e1=>simp[vw,okD]at h
 | dlo h1 _=>simp[vw,okD]at h
theorem Ry(hu:X.A.units+60<cLine)(h:CN S x y)(w:W (eqD (vw S x) (vw S y)) S):aY X .Eq x y S (asB W):=by
 intro pins s σ H O v w' u u' I st r1 r2 r3 r4
 obtain⟨h1,h2,h3⟩:=h
 have:=(uD (n:=50) (A:=X.A) (JC 50) (vw S x) (vw S y) (by omega) I (jc st r1 h1) (jc st r2 h2) r3 r4 (by omega)).1
 exact this _ _ _ _ ⟨.bl _,H,I,rfl,QG.here ⟨_,rfl,w⟩ st (.bl _)⟩
theorem Rg(hu:X.A.units+60<cLine)(h:CN S x y)(w:W (!eqD (vw S x) (vw S y)) S):aY X .NotEq x y S (asB W):=by
 intro pins s σ H O v w' u u' I st r1 r2 r3 r4
 obtain⟨h1,h2,h3⟩:=h
 have:=(uD (n:=50) (A:=X.A) (JC 50) (vw S x) (vw S y) (by omega) I (jc st r1 h1) (jc st r2 h2) r3 r4 (by omega)).2
 exact this _ _ _ _ ⟨.bl _,H,I,rfl,QG.here ⟨_,rfl,w⟩ st (.bl _)⟩
theorem qd:∀{xs:List V}{its:List Value}{i:Nat}{v:V},Vals xs its->xs[i]? =some v->∃y,its[i]? =some y/\RelV v y
 | _,_,_,_,.nil,e=>by simp at e
 | _,_,0,_,.cons a _,e=>by simp at e;subst e;exact⟨_,rfl,a⟩
 | _,_,i+1,v,.cons _ t,e=>by
   obtain⟨y,h1,h2⟩:=qd (i:=i) (v:=v) t (by simpa using e)
   exact⟨y,by simpa using h1,h2⟩
theorem Cj{pins:Pins}{s:Shared}{σ:DL.St}{H:Hp}{v w':V}{u u':Value}(hu:X.A.units+60<cLine)(I:Inv X pins σ H s)(sx:Sn X.K H v x)(sy:Sn X.K H w' (.lst ds))(r3:RelV v u)(r4:RelV w' u')(h3:bc ds≤50):
 ∃(l:Addr) (its:List Value) (e:Value->Bool),u'=.ref l/\s.heap.IsList l its.toArray/\(∀y,y∈its.toArray->SeqAt.EqAt X.A.in1 s y u (e y))/\its.toArray.any e=ds.any λ d=>eqD d x:=by
 classical
 cases sy with
 | @lst a xs _ h1 q1=>
   cases r4
   obtain⟨its,rv,pl,hz⟩:=I.list h1
   let e:Value->Bool:=λ y=>decide (∃(v':V) (d:D),RelV v' y/\Sn X.K H v' d/\eqD d x=true)
   have ev:∀(y:Value)(v':V)(d:D),RelV v' y->Sn X.K H v' d->e y=eqD d x:=by
    intro y v' d hr hs
    cases hd:eqD d x with
    | true=>exact decide_eq_true ⟨v',d,hr,hs,hd⟩
    | false=>
      refine decide_eq_false ?_
      rintro⟨v2,d2,hr2,hs2,hd2⟩
      have ev':=hr2.inj hr
      subst ev'
      have:=sI I hs2 hs
      subst this
      rw[hd]at hd2;cases hd2
   refine⟨a,its,e,rfl,pl.isList,?_,?_⟩
   . intro y hy
     have hy':y∈its:=by simpa using hy
     obtain⟨i,hi⟩:=List.getElem?_of_mem hy'
     have hlt:i<xs.length:=by rw[rv.length];exact(z0.mp hi).1
     obtain⟨d,hd⟩:∃d,ds[i]? =some d:=⟨_,y0 (by rw[←q1.length];exact hlt)⟩
     obtain⟨v',hv',hs⟩:=q1.get hd
     obtain⟨y',hy2,hr⟩:=qd rv hv'
     rw[hi]at hy2;cases hy2
     rw[ev y v' d hr hs]
     exact JC 50 d x (Nat.le_trans (eF hd) h3) I hs sx hr r3 (by show X.A.units+1+50<cLine;omega)
   . have hlen:its.length=ds.length:=by rw[←rv.length,q1.length]
     have main:∀(xs:List V)(its:List Value)(ds:List D),Vals xs its->Sns X.K H xs ds->its.any e=ds.any λ d=>eqD d x:=by
      intro xs its ds rv q1
      induction rv generalizing ds with
      | nil=>cases q1;rfl
      | cons hr _ ih=>
        cases q1 with
        | cons hs ht=>rw[List.any_cons,List.any_cons,ev _ _ _ hr hs,ih _ ht]
     rw[List.any_toArray]
     exact main xs its ds rv q1
theorem Q6(hu:X.A.units+60<cLine)(hy:vw S y=.lst ds)(h1:okD (vw S x)=true)(h2:cz ds=true)(h3:bc ds≤50)(w:W (ds.any λ d=>eqD d (vw S x)) S):aY X .In x y S (asB W):=by
 intro pins s σ H O v w' u u' I st r1 r2 r3 r4
 have sy:=jc st r2 (by rw[hy];simpa[okD]using h2)
 rw[hy]at sy
 obtain⟨l,its,e,rfl,hl,he,ha⟩:=Cj hu I (jc st r1 h1) sy r3 r4 h3
 refine SeqAt.in_listAt e hl he ?_
 rw[ha]
 exact⟨.bl _,H,I,rfl,QG.here ⟨_,rfl,w⟩ st (.bl _)⟩
theorem Pk(hu:X.A.units+60<cLine)(hy:vw S y=.lst ds)(h1:okD (vw S x)=true)(h2:cz ds=true)(h3:bc ds≤50)(w:W (!(ds.any λ d=>eqD d (vw S x))) S):aY X .NotIn x y S (asB W):=by
 intro pins s σ H O v w' u u' I st r1 r2 r3 r4
 have sy:=jc st r2 (by rw[hy];simpa[okD]using h2)
 rw[hy]at sy
 obtain⟨l,its,e,rfl,hl,he,ha⟩:=Cj hu I (jc st r1 h1) sy r3 r4 h3
 refine SeqAt.notIn_listAt e hl he ?_
 rw[ha]
 exact⟨.bl _,H,I,rfl,QG.here ⟨_,rfl,w⟩ st (.bl _)⟩
end
end RF
namespace RF
open PySem PySem.Spec L2 DL
open PyProof.Rows
variable {X : Cx}
def isN:D->Bool
 | .non=>true
 | _=>false
theorem Qx{a b:Bool}{S:Store}{W:Bool->Store->Prop}(w:W (a==b) S):aY X .Is (.bl a) (.bl b) S (asB W):=by
 intro pins s σ H O v w' u u' I st r1 r2 r3 r4
 cases r1;cases r2;cases r3;cases r4
 refine wpAny_is_plain rfl ?_
 have e:(Value.bool a==Value.bool b)=(a==b):=by cases a<;>cases b<;>rfl
 rw[e]
 exact⟨.bl _,H,I,rfl,QG.here ⟨_,rfl,w⟩ st (.bl _)⟩
theorem GF{a b:Bool}{S:Store}{W:Bool->Store->Prop}(w:W (!(a==b)) S):aY X .IsNot (.bl a) (.bl b) S (asB W):=by
 intro pins s σ H O v w' u u' I st r1 r2 r3 r4
 cases r1;cases r2;cases r3;cases r4
 refine wpAny_isNot_plain rfl ?_
 have e:(Value.bool a==Value.bool b)=(a==b):=by cases a<;>cases b<;>rfl
 rw[e]
 exact⟨.bl _,H,I,rfl,QG.here ⟨_,rfl,w⟩ st (.bl _)⟩
def bEq(x y:D)(ki:Int->Int->Prop)(kb:Bool->Bool->Prop)(g:Prop):Prop:=match x with
 | .int i=>(match y with
   | .int j=>ki i j
   | _=>g)
 | .bl i=>(match y with
   | .bl j=>kb i j
   | _=>g)
 | _=>g
theorem BK{x y:D}{ki:Int->Int->Prop}{kb:Bool->Bool->Prop}{g:Prop}(h:bEq x y ki kb g):(∃i j,x=.int i/\y=.int j/\ki i j)∨(∃i j,x=.bl i/\y=.bl j/\kb i j)∨g:=by
 cases x<;>first | exact .inr (.inr h) | (cases y<;>first | exact .inr (.inr h) | exact .inl ⟨_,_,rfl,rfl,h⟩ | exact .inr (.inl ⟨_,_,rfl,rfl,h⟩))
def bIs(x y:D)(n:Prop)(kb:Bool->Bool->Prop):Prop:=match y with
 | .non=>n
 | .bl j=>(match x with
   | .bl i=>kb i j
   | _=>False)
 | _=>False
theorem BP{x y:D}{n:Prop}{kb:Bool->Bool->Prop}(h:bIs x y n kb):(y=.non/\n)∨∃i j,x=.bl i/\y=.bl j/\kb i j:=by
 cases y<;>first | exact h.elim | exact .inl ⟨rfl,h⟩ | (cases x<;>first | exact h.elim | exact .inr ⟨_,_,rfl,rfl,h⟩)
@[irreducible] noncomputable def aN(op:CmpOp)(x y:D)(S:Store)(W:Bool->Store->Prop):Prop:=match op with
  | .Lt=>bII x y λ i j=>W (decide (i<j)) S
  | .LtE=>bII x y λ i j=>W (decide (i≤j)) S
  | .Gt=>bII x y λ i j=>W (decide (j<i)) S
  | .GtE=>bII x y λ i j=>W (decide (j≤i)) S
  | .Eq=>bEq x y (λ i j=>W (decide (i=j)) S) (λ i j=>W (i==j) S) (CN S x y/\W (eqD (vw S x) (vw S y)) S)
  | .NotEq=>bEq x y (λ i j=>W (!decide (i=j)) S) (λ i j=>W (!(i==j)) S) ((CN S x y/\W (!eqD (vw S x) (vw S y)) S)∨(x=y/\aB x=true/\deep x≤50/\W false S))
  | .Is=>bIs x y (W (isN x) S) λ i j=>W (i==j) S
  | .IsNot=>bIs x y (W (!isN x) S) λ i j=>W (!(i==j)) S
  | .In=>∃ds,vw S y=.lst ds/\okD (vw S x)=true/\cz ds=true/\bc ds≤50/\W (ds.any λ d=>eqD d (vw S x)) S
  | .NotIn=>∃ds,vw S y=.lst ds/\okD (vw S x)=true/\cz ds=true/\bc ds≤50/\W (!(ds.any λ d=>eqD d (vw S x))) S
theorem bO{op:CmpOp}{x y:D}{S:Store}{W:Bool->Store->Prop}{b:Bool}(h:∀V:WD,V (.bl b) S->aY X op x y S V)(w:W b S):aY X op x y S (asB W):=h (asB W) ⟨b,rfl,w⟩
theorem fV{op:CmpOp}{x y:D}{S:Store}{W:Bool->Store->Prop}(hu:X.A.units+60<cLine)(h:aN op x y S W):aY X op x y S (asB W):=by
 unfold aN at h
 cases op with
 | Lt=>obtain⟨i,j,rfl,rfl,h⟩:=eQ h;exact bO (λ _=>SQ) h
 | LtE=>obtain⟨i,j,rfl,rfl,h⟩:=eQ h;exact bO (λ _=>Sx) h
 | Gt=>obtain⟨i,j,rfl,rfl,h⟩:=eQ h;exact bO (λ _=>S9) h
 | GtE=>obtain⟨i,j,rfl,rfl,h⟩:=eQ h;exact bO (λ _=>R0) h
 | Eq=>
   rcases BK h with⟨i,j,rfl,rfl,h⟩ | ⟨i,j,rfl,rfl,h⟩ | h
   . exact bO (λ _=>Rx) h
   . exact bO (λ _=>QS) h
   . exact Ry hu h.1 h.2
 | NotEq=>
   rcases BK h with⟨i,j,rfl,rfl,h⟩ | ⟨i,j,rfl,rfl,h⟩ | h | ⟨rfl,h1,h2,h3⟩
   . exact bO (λ _=>Ri) h
   . exact bO (λ _=>Q5) h
   . exact Rg hu h.1 h.2
   . exact HN hu h1 h2 ⟨false,rfl,h3⟩
 | Is=>
   rcases BP h with⟨rfl,h⟩ | ⟨i,j,rfl,rfl,h⟩
   . exact bO (λ V w=>Q0 w) h
   . exact Qx h
 | IsNot=>
   rcases BP h with⟨rfl,h⟩ | ⟨i,j,rfl,rfl,h⟩
   . refine bO (λ V w=>K4 ?_) h
     cases x<;>exact w
   . exact GF h
 | In=>obtain⟨ds,h1,h2,h3,h4,h5⟩:=h;exact Q6 hu h1 h2 h3 h4 h5
 | NotIn=>obtain⟨ds,h1,h2,h3,h4,h5⟩:=h;exact Pk hu h1 h2 h3 h4 h5
section
variable {i j : Int} {a b : Bool} {x y : D} {S : Store} {W : Bool -> Store -> Prop}
theorem cLt(w:W (decide (i<j)) S):aN .Lt (.int i) (.int j) S W:=by unfold aN;exact w
theorem cLe(w:W (decide (i≤j)) S):aN .LtE (.int i) (.int j) S W:=by unfold aN;exact w
theorem cGt(w:W (decide (j<i)) S):aN .Gt (.int i) (.int j) S W:=by unfold aN;exact w
theorem cEqI(w:W (decide (i=j)) S):aN .Eq (.int i) (.int j) S W:=by unfold aN;exact w
theorem cNeI(w:W (!decide (i=j)) S):aN .NotEq (.int i) (.int j) S W:=by unfold aN;exact w
theorem Qu{ds:List D}(h1:vw S y=.lst ds)(h2:okD (vw S x)=true)(h3:cz ds=true)(h4:bc ds≤50)(w:W (!(ds.any λ d=>eqD d (vw S x))) S):aN .NotIn x y S W:=by unfold aN;cases x<;>exact⟨ds,h1,h2,h3,h4,w⟩
theorem KR(h1:aB x=true)(h2:deep x≤50)(w:W false S):aN .NotEq x x S W:=by
 unfold aN
 cases x with
 | int i=>simpa[bEq]using w
 | bl i=>simpa[bEq]using w
 | _=>exact .inr ⟨rfl,h1,h2,w⟩
end
set_option genInjectivity false in
structure Ex(Ω:Wd) where
 lev:Nat
 chk:Bool->List Str->Nm->Expr->Bool
 wp:Gam->Store->WD->Prop
 sound:∀{X:Cx}{r:Nat}{top:Bool}{N:List Str}{nm:Nm}{e:Expr}{Γ:Gam}{S:Store}{W:WD},At Ω X r top N nm->lev≤r->chk top N nm e=true->wp Γ S W->Ev X Γ S e W
set_option genInjectivity false in
structure Te(Ω:Wd) where
 lev:Nat
 chk:Bool->List Str->Nm->Expr->Bool
 wp:Gam->Store->(Bool->Store->Prop)->Prop
 sound:∀{X:Cx}{r:Nat}{top:Bool}{N:List Str}{nm:Nm}{e:Expr}{Γ:Gam}{S:Store}{W:Bool->Store->Prop},At Ω X r top N nm->lev≤r->chk top N nm e=true->wp Γ S W->Ts X Γ S e W
set_option genInjectivity false in
structure Ar(Ω:Wd) where
 lev:Nat
 chk:Bool->List Str->Nm->List Expr->Bool
 wp:Gam->Store->(List D->Store->Prop)->Prop
 plain:∀{top:Bool}{N:List Str}{nm:Nm}{es:List Expr},chk top N nm es=true->es.all okE=true
 sound:∀{X:Cx}{r:Nat}{top:Bool}{N:List Str}{nm:Nm}{es:List Expr}{Γ:Gam}{S:Store}{W:List D->Store->Prop},At Ω X r top N nm->lev≤r->chk top N nm es=true->wp Γ S W->EvA X Γ S es W
set_option genInjectivity false in
structure Bo(Ω:Wd) where
 lev:Nat
 chk:Bool->List Str->Nm->List Expr->Bool
 wpA:Gam->Store->WD->Prop
 wpO:Gam->Store->WD->Prop
 ne:∀{top:Bool}{N:List Str}{nm:Nm}{es:List Expr},chk top N nm es=true->∃b rest,es=b::rest
 soundA:∀{X:Cx}{r:Nat}{top:Bool}{N:List Str}{nm:Nm}{es:List Expr}{Γ:Gam}{S:Store}{W:WD}{pos:Pos},At Ω X r top N nm->lev≤r->chk top N nm es=true->wpA Γ S W->Ev X Γ S (.BoolOp .And es pos) W
 soundO:∀{X:Cx}{r:Nat}{top:Bool}{N:List Str}{nm:Nm}{es:List Expr}{Γ:Gam}{S:Store}{W:WD}{pos:Pos},At Ω X r top N nm->lev≤r->chk top N nm es=true->wpO Γ S W->Ev X Γ S (.BoolOp .Or es pos) W
set_option genInjectivity false in
structure Bt(Ω:Wd) where
 lev:Nat
 chk:Bool->List Str->Nm->List Expr->Bool
 wpA:Gam->Store->(Bool->Store->Prop)->Prop
 wpO:Gam->Store->(Bool->Store->Prop)->Prop
 ne:∀{top:Bool}{N:List Str}{nm:Nm}{es:List Expr},chk top N nm es=true->∃b rest,es=b::rest
 soundA:∀{X:Cx}{r:Nat}{top:Bool}{N:List Str}{nm:Nm}{es:List Expr}{Γ:Gam}{S:Store}{W:Bool->Store->Prop}{pos:Pos},At Ω X r top N nm->lev≤r->chk top N nm es=true->wpA Γ S W->TsW X Γ S (.BoolOp .And es pos) W
 soundO:∀{X:Cx}{r:Nat}{top:Bool}{N:List Str}{nm:Nm}{es:List Expr}{Γ:Gam}{S:Store}{W:Bool->Store->Prop}{pos:Pos},At Ω X r top N nm->lev≤r->chk top N nm es=true->wpO Γ S W->TsW X Γ S (.BoolOp .Or es pos) W
theorem At.hu{Ω:Wd}{r:Nat}{top:Bool}{N:List Str}{nm:Nm}(A:At Ω X r top N nm):X.A.units+60<cLine:=by have:=A.room.un;omega
theorem lv2{a b r:Nat}(h:max a b≤r):a≤r/\b≤r:=by omega
variable {Ω : Wd}
def Ex.var(i:Nat):Ex Ω where
 lev:=0
 chk _ N nm e:=match e with | .Name x _=>(N[i]? ==some x)&&(vis nm x&&okN x) | _=>false
 wp Γ S W:=match Γ[i]? with | some (some d)=>W d S | _=>False
 sound:=by
  intro X r top N nm e Γ S W A _ hc hw
  cases e with
  | Name x pos=>
    obtain⟨h1,h2⟩:=aa hc
    obtain⟨h2,h3⟩:=aa h2
    obtain⟨d1,d2,_⟩:=bY h3
    have h1:N[i]? =some x:=eq_of_beq h1
    cases hΓ:Γ[i]? with
    | none=>rw[hΓ]at hw;exact hw.elim
    | some o=>
      cases o with
      | none=>rw[hΓ]at hw;exact hw.elim
      | some d=>
        rw[hΓ]at hw
        exact PP i hΓ hw (by rw[A.n];exact h1) (A.vis h2) d1 d2
  | _=>exact fE hc
def Ex.int(i:Int):Ex Ω where
 lev:=0
 chk _ _ _ e:=match e with | .Constant (.int j) _ _=>j==i | _=>false
 wp _ S W:=W (.int i) S
 sound:=by
  intro X r top N nm e Γ S W A _ hc hw
  cases e with
  | Constant c k pos=>
    cases c with
    | int j=>have e:j=i:=eq_of_beq hc;subst e;exact M3 hw
    | _=>exact fE hc
  | _=>exact fE hc
def Ex.bl(i:Bool):Ex Ω where
 lev:=0
 chk _ _ _ e:=match e with | .Constant (.bool j) _ _=>j==i | _=>false
 wp _ S W:=W (.bl i) S
 sound:=by
  intro X r top N nm e Γ S W A _ hc hw
  cases e with
  | Constant c k pos=>
    cases c with
    | bool j=>have e:j=i:=eq_of_beq hc;subst e;exact Ra hw
    | _=>exact fE hc
  | _=>exact fE hc
def Ex.str(i:Str):Ex Ω where
 lev:=0
 chk _ _ _ e:=match e with | .Constant (.str j) _ _=>j==i | _=>false
 wp _ S W:=W (.str i) S
 sound:=by
  intro X r top N nm e Γ S W A _ hc hw
  cases e with
  | Constant c k pos=>
    cases c with
    | str j=>have e:j=i:=eq_of_beq hc;subst e;exact G4 hw
    | _=>exact fE hc
  | _=>exact fE hc
def Ex.gint{x:Str}{i:Int}(h:∃t,Ω.mg x=some (.int i t)):Ex Ω where
 lev:=0
 chk _ _ nm e:=match e with | .Name y _=>(y==x)&&(glb nm x&&okN x) | _=>false
 wp _ S W:=W (.int i) S
 sound:=by
  intro X r top N nm e Γ S W A _ hc hw
  cases e with
  | Name y pos=>
    obtain⟨h1,h2⟩:=aa hc
    obtain⟨h2,h3⟩:=aa h2
    have e:y=x:=eq_of_beq h1
    subst e
    obtain⟨t,h⟩:=h
    exact Ih (by rw[A.g];exact h) hw (A.glb h2) (bY h3).1
  | _=>exact fE hc
def Ex.bin(op:Operator)(a b:Ex Ω):Ex Ω where
 lev:=max a.lev b.lev
 chk top N nm e:=match e with | .BinOp l o r _=>(o==op)&&(a.chk top N nm l&&b.chk top N nm r) | _=>false
 wp Γ S W:=a.wp Γ S λ x S1=>b.wp Γ S1 λ y S2=>J2 op x y S2 W
 sound:=by
  intro X r top N nm e Γ S W A hl hc hw
  obtain⟨l1,l2⟩:=lv2 hl
  cases e with
  | BinOp l o r' pos=>
    obtain⟨h1,h2⟩:=aa hc
    obtain⟨h2,h3⟩:=aa h2
    have e:o=op:=eq_of_beq h1
    subst e
    exact tu ((a.sound A l1 h2 hw).mono λ x S1 q=>(b.sound A l2 h3 q).mono λ y S2 q=>Iz q)
  | _=>exact fE hc
def Ex.cmp(op:CmpOp)(a b:Ex Ω):Ex Ω where
 lev:=max a.lev b.lev
 chk top N nm e:=match e with | .Compare l [o] [r] _=>(o==op)&&(okE r&&(a.chk top N nm l&&b.chk top N nm r)) | _=>false
 wp Γ S W:=a.wp Γ S λ x S1=>b.wp Γ S1 λ y S2=>aN op x y S2 λ c S3=>W (.bl c) S3
 sound:=by
  intro X r top N nm e Γ S W A hl hc hw
  obtain⟨l1,l2⟩:=lv2 hl
  cases e with
  | Compare l os rs pos=>
    match os,rs,hc with
    | [o],[r'],hc=>
      obtain⟨h1,h2⟩:=aa hc
      obtain⟨h0,h2⟩:=aa h2
      obtain⟨h2,h3⟩:=aa h2
      have e:o=op:=eq_of_beq h1
      subst e
      exact Gr ((a.sound A l1 h2 hw).mono λ x S1 q=>(b.sound A l2 h3 q).mono λ y S2 q=>(fV A.hu q).mono λ d S3 ⟨c,e,w⟩=>by subst e;exact w) (fQ h0)
    | [],_,hc=>exact fE hc
    | [_],[],hc=>exact fE hc
    | [_],_::_::_,hc=>exact fE hc
    | _::_::_,_,hc=>exact fE hc
  | _=>exact fE hc
def Te.cmp(op:CmpOp)(a b:Ex Ω):Te Ω where
 lev:=max a.lev b.lev
 chk top N nm e:=match e with | .Compare l [o] [r] _=>(o==op)&&(okE r&&(a.chk top N nm l&&b.chk top N nm r)) | _=>false
 wp Γ S W:=a.wp Γ S λ x S1=>b.wp Γ S1 λ y S2=>aN op x y S2 W
 sound:=by
  intro X r top N nm e Γ S W A hl hc hw
  obtain⟨l1,l2⟩:=lv2 hl
  cases e with
  | Compare l os rs pos=>
    match os,rs,hc with
    | [o],[r'],hc=>
      obtain⟨h1,h2⟩:=aa hc
      obtain⟨h0,h2⟩:=aa h2
      obtain⟨h2,h3⟩:=aa h2
      have e:o=op:=eq_of_beq h1
      subst e
      exact O9 ((a.sound A l1 h2 hw).mono λ x S1 q=>(b.sound A l2 h3 q).mono λ y S2 q=>fV A.hu q) (fQ h0)
    | [],_,hc=>exact fE hc
    | [_],[],hc=>exact fE hc
    | [_],_::_::_,hc=>exact fE hc
    | _::_::_,_,hc=>exact fE hc
  | _=>exact fE hc
abbrev J7(a:Ex Ω)(o1:CmpOp)(b:Ex Ω)(o2:CmpOp)(c:Ex Ω)(Γ:Gam)(S:Store)(W:Bool->Store->Prop):Prop:=
 a.wp Γ S λ x S1=>b.wp Γ S1 λ y S2=>aN o1 x y S2 λ k S3=>(k=false->W false S3)/\(k=true->c.wp Γ S3 λ t S4=>aN o2 y t S4 W)
def Ex.ch2(a:Ex Ω)(o1:CmpOp)(b:Ex Ω)(o2:CmpOp)(c:Ex Ω):Ex Ω where
 lev:=max (max a.lev b.lev) c.lev
 chk top N nm e:=match e with | .Compare l [p1,p2] [m,r] _=>(p1==o1)&&((p2==o2)&&(okE r&&(a.chk top N nm l&&(b.chk top N nm m&&c.chk top N nm r)))) | _=>false
 wp Γ S W:=J7 a o1 b o2 c Γ S λ k S1=>W (.bl k) S1
 sound:=by
  intro X r top N nm e Γ S W A hl hc hw
  obtain⟨l1,l3⟩:=lv2 hl
  obtain⟨l1,l2⟩:=lv2 l1
  cases e with
  | Compare l os rs pos=>
    match os,rs,hc with
    | [p1,p2],[m,r'],hc=>
      obtain⟨h1,h2⟩:=aa hc
      obtain⟨h2,h3⟩:=aa h2
      obtain⟨h0,h3⟩:=aa h3
      obtain⟨h3,h4⟩:=aa h3
      obtain⟨h4,h5⟩:=aa h4
      have e:p1=o1:=eq_of_beq h1
      subst e
      have e:p2=o2:=eq_of_beq h2
      subst e
      refine JV ((a.sound A l1 h3 hw).mono λ x S1 q=>(b.sound A l2 h4 q).mono λ y S2 q=>(fV A.hu q).mono λ d S3 ⟨k,e,w⟩=>⟨k,e,w.1,λ hk=>(c.sound A l3 h5 (w.2 hk)).mono λ t S4 q=>(fV A.hu q).mono λ d S3 ⟨c,e,w⟩=>by subst e;exact w⟩) (fQ h0)
    | [],_,hc=>exact fE hc
    | [_],_,hc=>exact fE hc
    | [_,_],[],hc=>exact fE hc
    | [_,_],[_],hc=>exact fE hc
    | [_,_],_::_::_::_,hc=>exact fE hc
    | _::_::_::_,_,hc=>exact fE hc
  | _=>exact fE hc
def Te.ch2(a:Ex Ω)(o1:CmpOp)(b:Ex Ω)(o2:CmpOp)(c:Ex Ω):Te Ω where
 lev:=max (max a.lev b.lev) c.lev
 chk top N nm e:=match e with | .Compare l [p1,p2] [m,r] _=>(p1==o1)&&((p2==o2)&&(okE r&&(a.chk top N nm l&&(b.chk top N nm m&&c.chk top N nm r)))) | _=>false
 wp Γ S W:=J7 a o1 b o2 c Γ S W
 sound:=by
  intro X r top N nm e Γ S W A hl hc hw
  obtain⟨l1,l3⟩:=lv2 hl
  obtain⟨l1,l2⟩:=lv2 l1
  cases e with
  | Compare l os rs pos=>
    match os,rs,hc with
    | [p1,p2],[m,r'],hc=>
      obtain⟨h1,h2⟩:=aa hc
      obtain⟨h2,h3⟩:=aa h2
      obtain⟨h0,h3⟩:=aa h3
      obtain⟨h3,h4⟩:=aa h3
      obtain⟨h4,h5⟩:=aa h4
      have e:p1=o1:=eq_of_beq h1
      subst e
      have e:p2=o2:=eq_of_beq h2
      subst e
      refine GC ((a.sound A l1 h3 hw).mono λ x S1 q=>(b.sound A l2 h4 q).mono λ y S2 q=>(fV A.hu q).mono λ d S3 ⟨k,e,w⟩=>⟨k,e,w.1,λ hk=>(c.sound A l3 h5 (w.2 hk)).mono λ t S4 q=>fV A.hu q⟩) (fQ h0)
    | [],_,hc=>exact fE hc
    | [_],_,hc=>exact fE hc
    | [_,_],[],hc=>exact fE hc
    | [_,_],[_],hc=>exact fE hc
    | [_,_],_::_::_::_,hc=>exact fE hc
    | _::_::_::_,_,hc=>exact fE hc
  | _=>exact fE hc
def Te.val(a:Ex Ω):Te Ω where
 lev:=a.lev
 chk top N nm e:=Ds e&&a.chk top N nm e
 wp Γ S W:=a.wp Γ S λ d S1=>match d with | .bl c=>W c S1 | _=>False
 sound:=by
  intro X r top N nm e Γ S W A hl hc hw
  obtain⟨h1,h2⟩:=aa hc
  refine Px ((a.sound A hl h2 hw).mono λ d S1 q=>?_) (zU h1 _)
  cases d<;>first | exact⟨_,rfl,q⟩ | exact q.elim
def Te.not(t:Te Ω):Te Ω where
 lev:=t.lev
 chk top N nm e:=match e with | .UnaryOp .Not a _=>t.chk top N nm a | _=>false
 wp Γ S W:=t.wp Γ S λ c S1=>W (!c) S1
 sound:=by
  intro X r top N nm e Γ S W A hl hc hw
  cases e with
  | UnaryOp o a pos=>
    cases o with
    | Not=>exact Np (t.sound A hl hc hw)
    | _=>exact fE hc
  | _=>exact fE hc
def Bt.one(t:Te Ω):Bt Ω where
 lev:=t.lev
 chk top N nm es:=match es with | [e]=>t.chk top N nm e | _=>false
 wpA Γ S W:=t.wp Γ S W
 wpO Γ S W:=t.wp Γ S W
 ne:=by
  intro top N nm es hc
  match es,hc with
  | [e],_=>exact⟨_,_,rfl⟩
  | [],hc=>exact fE hc
  | _::_::_,hc=>exact fE hc
 soundA:=by
  intro X r top N nm es Γ S W pos A hl hc hw
  match es,hc with
  | [e],hc=>exact tw_and1 (t.sound A hl hc hw)
  | [],hc=>exact fE hc
  | _::_::_,hc=>exact fE hc
 soundO:=by
  intro X r top N nm es Γ S W pos A hl hc hw
  match es,hc with
  | [e],hc=>exact tw_or1 (t.sound A hl hc hw)
  | [],hc=>exact fE hc
  | _::_::_,hc=>exact fE hc
def Bt.cons(t:Te Ω)(r:Bt Ω):Bt Ω where
 lev:=max t.lev r.lev
 chk top N nm es:=match es with | e::es=>t.chk top N nm e&&r.chk top N nm es | _=>false
 wpA Γ S W:=t.wp Γ S λ c S1=>(c=true->r.wpA Γ S1 W)/\(c=false->W false S1)
 wpO Γ S W:=t.wp Γ S λ c S1=>(c=true->W true S1)/\(c=false->r.wpO Γ S1 W)
 ne:=by
  intro top N nm es hc
  match es,hc with
  | _::_,_=>exact⟨_,_,rfl⟩
  | [],hc=>exact fE hc
 soundA:=by
  intro X r' top N nm es Γ S W pos A hl hc hw
  obtain⟨l1,l2⟩:=lv2 hl
  match es,hc with
  | e::es,hc=>
    obtain⟨h1,h2⟩:=aa hc
    obtain⟨b,rest,rfl⟩:=r.ne h2
    exact tw_and (Ts.mono (t.sound A l1 h1 hw) λ c S1 q=>⟨λ hk=>r.soundA A l2 h2 (q.1 hk),q.2⟩)
  | [],hc=>exact fE hc
 soundO:=by
  intro X r' top N nm es Γ S W pos A hl hc hw
  obtain⟨l1,l2⟩:=lv2 hl
  match es,hc with
  | e::es,hc=>
    obtain⟨h1,h2⟩:=aa hc
    obtain⟨b,rest,rfl⟩:=r.ne h2
    exact tw_or (Ts.mono (t.sound A l1 h1 hw) λ c S1 q=>⟨q.1,λ hk=>r.soundO A l2 h2 (q.2 hk)⟩)
  | [],hc=>exact fE hc
def Te.and(l:Bt Ω):Te Ω where
 lev:=l.lev
 chk top N nm e:=match e with | .BoolOp .And es _=>l.chk top N nm es | _=>false
 wp Γ S W:=l.wpA Γ S W
 sound:=by
  intro X r top N nm e Γ S W A hl hc hw
  cases e with
  | BoolOp o es pos=>
    cases o with
    | And=>exact(l.soundA A hl hc hw).ts
    | _=>exact fE hc
  | _=>exact fE hc
def Te.or(l:Bt Ω):Te Ω where
 lev:=l.lev
 chk top N nm e:=match e with | .BoolOp .Or es _=>l.chk top N nm es | _=>false
 wp Γ S W:=l.wpO Γ S W
 sound:=by
  intro X r top N nm e Γ S W A hl hc hw
  cases e with
  | BoolOp o es pos=>
    cases o with
    | Or=>exact(l.soundO A hl hc hw).ts
    | _=>exact fE hc
  | _=>exact fE hc
def Bo.one(t:Ex Ω):Bo Ω where
 lev:=t.lev
 chk top N nm es:=match es with | [e]=>t.chk top N nm e | _=>false
 wpA Γ S W:=t.wp Γ S W
 wpO Γ S W:=t.wp Γ S W
 ne:=by
  intro top N nm es hc
  match es,hc with
  | [e],_=>exact⟨_,_,rfl⟩
  | [],hc=>exact fE hc
  | _::_::_,hc=>exact fE hc
 soundA:=by
  intro X r top N nm es Γ S W pos A hl hc hw
  match es,hc with
  | [e],hc=>exact FQ (t.sound A hl hc hw)
  | [],hc=>exact fE hc
  | _::_::_,hc=>exact fE hc
 soundO:=by
  intro X r top N nm es Γ S W pos A hl hc hw
  match es,hc with
  | [e],hc=>exact FQ (t.sound A hl hc hw)
  | [],hc=>exact fE hc
  | _::_::_,hc=>exact fE hc
def Bo.cons(t:Ex Ω)(r:Bo Ω):Bo Ω where
 lev:=max t.lev r.lev
 chk top N nm es:=match es with | e::es=>t.chk top N nm e&&r.chk top N nm es | _=>false
 wpA Γ S W:=t.wp Γ S λ d S1=>match d with | .bl c=>(c=true->r.wpA Γ S1 W)/\(c=false->W (.bl false) S1) | _=>False
 wpO Γ S W:=t.wp Γ S λ d S1=>match d with | .bl c=>(c=true->W (.bl true) S1)/\(c=false->r.wpO Γ S1 W) | _=>False
 ne:=by
  intro top N nm es hc
  match es,hc with
  | _::_,_=>exact⟨_,_,rfl⟩
  | [],hc=>exact fE hc
 soundA:=by
  intro X r' top N nm es Γ S W pos A hl hc hw
  obtain⟨l1,l2⟩:=lv2 hl
  match es,hc with
  | e::es,hc=>
    obtain⟨h1,h2⟩:=aa hc
    obtain⟨b,rest,rfl⟩:=r.ne h2
    refine Pj ((t.sound A l1 h1 hw).mono λ d S1 q=>?_)
    cases d<;>first | exact⟨_,rfl,λ hk=>r.soundA A l2 h2 (q.1 hk),q.2⟩ | exact q.elim
  | [],hc=>exact fE hc
 soundO:=by
  intro X r' top N nm es Γ S W pos A hl hc hw
  obtain⟨l1,l2⟩:=lv2 hl
  match es,hc with
  | e::es,hc=>
    obtain⟨h1,h2⟩:=aa hc
    obtain⟨b,rest,rfl⟩:=r.ne h2
    refine RV ((t.sound A l1 h1 hw).mono λ d S1 q=>?_)
    cases d<;>first | exact⟨_,rfl,q.1,λ hk=>r.soundO A l2 h2 (q.2 hk)⟩ | exact q.elim
  | [],hc=>exact fE hc
def Ex.and(l:Bo Ω):Ex Ω where
 lev:=l.lev
 chk top N nm e:=match e with | .BoolOp .And es _=>l.chk top N nm es | _=>false
 wp Γ S W:=l.wpA Γ S W
 sound:=by
  intro X r top N nm e Γ S W A hl hc hw
  cases e with
  | BoolOp o es pos=>
    cases o with
    | And=>exact l.soundA A hl hc hw
    | _=>exact fE hc
  | _=>exact fE hc
def Ex.or(l:Bo Ω):Ex Ω where
 lev:=l.lev
 chk top N nm e:=match e with | .BoolOp .Or es _=>l.chk top N nm es | _=>false
 wp Γ S W:=l.wpO Γ S W
 sound:=by
  intro X r top N nm e Γ S W A hl hc hw
  cases e with
  | BoolOp o es pos=>
    cases o with
    | Or=>exact l.soundO A hl hc hw
    | _=>exact fE hc
  | _=>exact fE hc
def Ex.not(a:Ex Ω):Ex Ω where
 lev:=a.lev
 chk top N nm e:=match e with | .UnaryOp .Not b _=>a.chk top N nm b | _=>false
 wp Γ S W:=a.wp Γ S λ d S1=>match d with | .bl c=>W (.bl (!c)) S1 | _=>False
 sound:=by
  intro X r top N nm e Γ S W A hl hc hw
  cases e with
  | UnaryOp o b pos=>
    cases o with
    | Not=>
      refine NP ((a.sound A hl hc hw).mono λ d S1 q=>?_)
      cases d<;>first | exact⟨_,rfl,q⟩ | exact q.elim
    | _=>exact fE hc
  | _=>exact fE hc
def Ex.neg(a:Ex Ω):Ex Ω where
 lev:=a.lev
 chk top N nm e:=match e with | .UnaryOp .USub b _=>a.chk top N nm b | _=>false
 wp Γ S W:=a.wp Γ S λ d S1=>match d with | .int c=>W (.int (-c)) S1 | _=>False
 sound:=by
  intro X r top N nm e Γ S W A hl hc hw
  cases e with
  | UnaryOp o b pos=>
    cases o with
    | USub=>
      refine Ou ((a.sound A hl hc hw).mono λ d S1 q=>?_)
      cases d<;>first | exact⟨_,rfl,q⟩ | exact q.elim
    | _=>exact fE hc
  | _=>exact fE hc
def Ex.ifE(c:Te Ω)(a b:Ex Ω):Ex Ω where
 lev:=max c.lev (max a.lev b.lev)
 chk top N nm e:=match e with | .IfExp t x y _=>c.chk top N nm t&&(a.chk top N nm x&&b.chk top N nm y) | _=>false
 wp Γ S W:=c.wp Γ S λ k S1=>(k=true->a.wp Γ S1 W)/\(k=false->b.wp Γ S1 W)
 sound:=by
  intro X r top N nm e Γ S W A hl hc hw
  obtain⟨l1,l2⟩:=lv2 hl
  obtain⟨l2,l3⟩:=lv2 l2
  cases e with
  | IfExp t x y pos=>
    obtain⟨h1,h2⟩:=aa hc
    obtain⟨h2,h3⟩:=aa h2
    exact Ip (Ts.mono (c.sound A l1 h1 hw) λ k S1 q=>⟨λ hk=>a.sound A l2 h2 (q.1 hk),λ hk=>b.sound A l3 h3 (q.2 hk)⟩)
  | _=>exact fE hc
def Ar.nil:Ar Ω where
 lev:=0
 chk _ _ _ es:=match es with | []=>true | _=>false
 wp _ S W:=W [] S
 plain:=by
  intro top N nm es hc
  match es,hc with
  | [],_=>rfl
  | _::_,hc=>exact fE hc
 sound:=by
  intro X r top N nm es Γ S W A _ hc hw
  match es,hc with
  | [],_=>exact gR hw
  | _::_,hc=>exact fE hc
def Ar.cons(a:Ex Ω)(r:Ar Ω):Ar Ω where
 lev:=max a.lev r.lev
 chk top N nm es:=match es with | e::es=>okE e&&(a.chk top N nm e&&r.chk top N nm es) | _=>false
 wp Γ S W:=a.wp Γ S λ d S1=>r.wp Γ S1 λ ds S2=>W (d::ds) S2
 plain:=by
  intro top N nm es hc
  match es,hc with
  | e::es,hc=>
    obtain⟨h1,h2⟩:=aa hc
    obtain⟨h2,h3⟩:=aa h2
    rw[List.all_cons,h1,r.plain h3];rfl
  | [],hc=>exact fE hc
 sound:=by
  intro X r' top N nm es Γ S W A hl hc hw
  obtain⟨l1,l2⟩:=lv2 hl
  match es,hc with
  | e::es,hc=>
    obtain⟨h1,h2⟩:=aa hc
    obtain⟨h2,h3⟩:=aa h2
    exact dw ((a.sound A l1 h2 hw).mono λ d S1 q=>r.sound A l2 h3 q) (aL h1 _ _)
  | [],hc=>exact fE hc
def Ex.tup(as:Ar Ω):Ex Ω where
 lev:=as.lev
 chk top N nm e:=match e with | .Tuple es _ _=>as.chk top N nm es | _=>false
 wp Γ S W:=as.wp Γ S λ ds S1=>ds.length≤1000000/\W (.tup ds) S1
 sound:=by
  intro X r top N nm e Γ S W A hl hc hw
  cases e with
  | Tuple es k pos=>exact PB (as.sound A hl hc hw)
  | _=>exact fE hc
def Ex.lst(as:Ar Ω):Ex Ω where
 lev:=as.lev
 chk top N nm e:=match e with | .List es _=>as.chk top N nm es | _=>false
 wp Γ S W:=as.wp Γ S λ ds S1=>ds.length≤1000000/\W (.lst ds) S1
 sound:=by
  intro X r top N nm e Γ S W A hl hc hw
  cases e with
  | List es pos=>exact Oi (as.sound A hl hc hw)
  | _=>exact fE hc
def Ex.own(as:Ar Ω):Ex Ω where
 lev:=as.lev
 chk top N nm e:=match e with | .List es _=>as.chk top N nm es | _=>false
 wp Γ S W:=as.wp Γ S λ ds S1=>ds.length≤1000000/\W (.loc S1.length) (S1++[ds])
 sound:=by
  intro X r top N nm e Γ S W A hl hc hw
  cases e with
  | List es pos=>exact Mp (as.sound A hl hc hw)
  | _=>exact fE hc
def Ex.ix(a b:Ex Ω):Ex Ω where
 lev:=max a.lev b.lev
 chk top N nm e:=match e with | .Subscript l r _=>okE r&&(a.chk top N nm l&&b.chk top N nm r) | _=>false
 wp Γ S W:=a.wp Γ S λ x S1=>b.wp Γ S1 λ y S2=>Ja x y S2 W
 sound:=by
  intro X r top N nm e Γ S W A hl hc hw
  obtain⟨l1,l2⟩:=lv2 hl
  cases e with
  | Subscript l r' pos=>
    obtain⟨h1,h2⟩:=aa hc
    obtain⟨h2,h3⟩:=aa h2
    exact Kd ((a.sound A l1 h2 hw).mono λ x S1 q=>(b.sound A l2 h3 q).mono λ y S2 q=>K5 q) (ph h1)
  | _=>exact fE hc
set_option genInjectivity false in
structure Po(Ω:Wd) where
 lev:Nat
 chk:Bool->List Str->Nm->Option Expr->Bool
 wp:Gam->Store->(Option Int->Store->Prop)->Prop
 sound:∀{X:Cx}{r:Nat}{top:Bool}{N:List Str}{nm:Nm}{e:Option Expr}{Γ:Gam}{S:Store}{W:Option Int->Store->Prop},At Ω X r top N nm->lev≤r->chk top N nm e=true->wp Γ S W->PoD X Γ S e W
def Po.no:Po Ω where
 lev:=0
 chk _ _ _ e:=match e with | none=>true | _=>false
 wp _ S W:=W none S
 sound:=by
  intro X r top N nm e Γ S W A hl hc hw
  cases e with
  | none=>exact Td hw
  | some e=>exact fE hc
def Po.so(a:Ex Ω):Po Ω where
 lev:=a.lev
 chk top N nm e:=match e with | some e=>a.chk top N nm e | _=>false
 wp Γ S W:=a.wp Γ S λ d S1=>match d with | .int i=>W (some i) S1 | _=>False
 sound:=by
  intro X r top N nm e Γ S W A hl hc hw
  cases e with
  | some e=>
    refine R8 ((a.sound A hl hc hw).mono λ d S1 q=>?_)
    cases d<;>first | exact⟨_,rfl,q⟩ | exact q.elim
  | none=>exact fE hc
theorem PoD.mono{Γ:Gam}{S:Store}{e:Option Expr}{W W':Option Int->Store->Prop}(h:PoD X Γ S e W)(k:∀c S',W c S'->W' c S'):PoD X Γ S e W':=by
 cases e with
 | none=>exact k _ _ h
 | some e=>exact Ev.mono h λ d S1 ⟨i,e,w⟩=>⟨i,e,k _ _ w⟩
def Ex.sl(a:Ex Ω)(lo hi:Po Ω):Ex Ω where
 lev:=max a.lev (max lo.lev hi.lev)
 chk top N nm e:=match e with | .Subscript l (.Slice x y none _) _=>a.chk top N nm l&&(lo.chk top N nm x&&hi.chk top N nm y) | _=>false
 wp Γ S W:=a.wp Γ S λ x S1=>lo.wp Γ S1 λ l S2=>hi.wp Γ S2 λ h S3=>HR x l h S3 W
 sound:=by
  intro X r top N nm e Γ S W A hl hc hw
  obtain⟨l1,l2⟩:=lv2 hl
  obtain⟨l2,l3⟩:=lv2 l2
  cases e with
  | Subscript l sl pos=>
    cases sl with
    | Slice x y z p2=>
      cases z with
      | none=>
        obtain⟨h1,h2⟩:=aa hc
        obtain⟨h2,h3⟩:=aa h2
        exact qp ((a.sound A l1 h1 hw).mono λ x S1 q=>PoD.mono (lo.sound A l2 h2 q) λ l S2 q=>PoD.mono (hi.sound A l3 h3 q) λ h S3 q=>K3 q)
      | some _=>exact fE hc
    | _=>exact fE hc
  | _=>exact fE hc
def Ex.call{x:Str}{k n:Nat}{F:Ct}(C:Callee Ω.P Ω.w Ω.K Ω.mg Ω.base x k n F)(as:Ar Ω):Ex Ω where
 lev:=max k as.lev
 chk top N nm e:=match e with | .Call (.Name y _) (a::es) [] _=>(y==x)&&(glb nm x&&(okN x&&as.chk top N nm (a::es))) | _=>false
 wp Γ S W:=as.wp Γ S λ ds S1=>ds.length=n/\F ds S1 W
 sound:=by
  intro X r top N nm e Γ S W A hl hc hw
  obtain⟨l1,l2⟩:=lv2 hl
  cases e with
  | Call f es ks pos=>
    cases f with
    | Name y p=>
      match es,ks,hc with
      | a::es,[],hc=>
        obtain⟨h1,h2⟩:=aa hc
        obtain⟨h2,h3⟩:=aa h2
        obtain⟨h3,h4⟩:=aa h3
        have e:y=x:=eq_of_beq h1
        subst e
        have pl:=as.plain h4
        rw[List.all_cons]at pl
        obtain⟨p1,p2⟩:=aa pl
        have C':Callee X.prog X.w X.K X.mg X.base y k n F:=by rw[A.p,A.w,A.k,A.g,A.b];exact C
        exact Mt C' (A.room.mono l1) (as.sound A l2 h4 hw) (A.glb h2) (bY h3).1 (aL p1 _ _) (lW p2 _ _)
      | [],_,hc=>exact fE hc
      | _::_,_::_,hc=>exact fE hc
    | _=>exact fE hc
  | _=>exact fE hc
set_option genInjectivity false in
structure Bf where
 x:Str
 id:String
 boot:bootBuiltins x=some (.builtin id)
 wp:List D->Store->WD->Prop
 sound:∀{X:Cx}{ds:List D}{S:Store}{W:WD},X.calm=true->Room 0 X.A->wp ds S W->cB X (.builtin id) ds S W
def Ex.blt(b:Bf)(hm:Ω.mg b.x=none)(as:Ar Ω):Ex Ω where
 lev:=as.lev
 chk top N nm e:=match e with | .Call (.Name y _) (a::es) [] _=>(y==b.x)&&(glb nm b.x&&(okN b.x&&as.chk top N nm (a::es))) | _=>false
 wp Γ S W:=as.wp Γ S λ ds S1=>b.wp ds S1 W
 sound:=by
  intro X r top N nm e Γ S W A hl hc hw
  cases e with
  | Call f es ks pos=>
    cases f with
    | Name y p=>
      match es,ks,hc with
      | a::es,[],hc=>
        obtain⟨h1,h2⟩:=aa hc
        obtain⟨h2,h3⟩:=aa h2
        obtain⟨h3,h4⟩:=aa h3
        have e:y=b.x:=eq_of_beq h1
        subst e
        have pl:=as.plain h4
        rw[List.all_cons]at pl
        obtain⟨p1,p2⟩:=aa pl
        exact Iu (EvA.mono (as.sound A hl h4 hw) λ ds S1 q=>b.sound A.calm (A.room.mono (Nat.zero_le _)) q) (by rw[A.g];exact hm) b.boot (A.glb h2) (bY h3).2.2 (bY h3).1 (aL p1 _ _) (lW p2 _ _)
      | [],_,hc=>exact fE hc
      | _::_,_::_,hc=>exact fE hc
    | _=>exact fE hc
  | _=>exact fE hc
set_option genInjectivity false in
structure Bc where
 x:Str
 id:String
 boot:bootBuiltins x=some (.type id)
 wp:List D->Store->WD->Prop
 sound:∀{X:Cx}{ds:List D}{S:Store}{W:WD},X.calm=true->Room 0 X.A->wp ds S W->cB X (.type id) ds S W
def Ex.typ(b:Bc)(hm:Ω.mg b.x=none)(as:Ar Ω):Ex Ω where
 lev:=as.lev
 chk top N nm e:=match e with | .Call (.Name y _) (a::es) [] _=>(y==b.x)&&(glb nm b.x&&(okN b.x&&as.chk top N nm (a::es))) | _=>false
 wp Γ S W:=as.wp Γ S λ ds S1=>b.wp ds S1 W
 sound:=by
  intro X r top N nm e Γ S W A hl hc hw
  cases e with
  | Call f es ks pos=>
    cases f with
    | Name y p=>
      match es,ks,hc with
      | a::es,[],hc=>
        obtain⟨h1,h2⟩:=aa hc
        obtain⟨h2,h3⟩:=aa h2
        obtain⟨h3,h4⟩:=aa h3
        have e:y=b.x:=eq_of_beq h1
        subst e
        have pl:=as.plain h4
        rw[List.all_cons]at pl
        obtain⟨p1,p2⟩:=aa pl
        exact HJ (EvA.mono (as.sound A hl h4 hw) λ ds S1 q=>b.sound A.calm (A.room.mono (Nat.zero_le _)) q) (by rw[A.g];exact hm) b.boot (A.glb h2) (bY h3).2.2 (bY h3).1 (aL p1 _ _) (lW p2 _ _)
      | [],_,hc=>exact fE hc
      | _::_,_::_,hc=>exact fE hc
    | _=>exact fE hc
  | _=>exact fE hc
def Ex.isi(hm:Ω.mg "isinstance"=none)(a:Ex Ω)(T:Ty)(hT:Ω.mg T.nm=none):Ex Ω where
 lev:=a.lev
 chk top N nm e:=jb e λ y es=>two2 es λ b c=>anB (nameV c) λ t=>(y==("isinstance":Str))&&(glb nm "isinstance"&&((t==T.nm)&&(glb nm T.nm&&(okE b&&a.chk top N nm b))))
 wp Γ S W:=a.wp Γ S λ d S1=>W (.bl (isD T d)) S1
 sound:=by
  intro X r top N nm e Γ S W A hl hc hw
  obtain⟨y,p,es,pos,rfl,hc_1⟩:=eG hc
  obtain⟨b,c,rfl,hc_2⟩:=two2_of hc_1
  obtain⟨t,hn,hc_3⟩:=bx hc_2
  obtain⟨q,rfl⟩:=cW hn
  have hc:=hc_3
  . skip
    obtain⟨h1,g2⟩:=aa hc
    obtain⟨h2,g3⟩:=aa g2
    obtain⟨h3,g4⟩:=aa g3
    obtain⟨h4,g5⟩:=aa g4
    obtain⟨h5,h6⟩:=aa g5
    have e:y="isinstance":=eq_of_beq h1
    subst e
    have e:t=T.nm:=eq_of_beq h3
    subst e
    exact Pn (Tn:=T.id) ((a.sound A hl h6 hw).mono λ d S1 q=>by rw[Pb];exact q) T.isT T.boot (by rw[A.g];exact hm) (by rw[A.g];exact hT) (A.glb h2) (A.glb h4) T.ok.2 T.ok.1 (aL h5 _ _) (aL (e:=.Name T.nm q) rfl [] _)
end RF
namespace RF
open PySem PySem.Spec L2 DL
open PyProof.Rows
variable {Γ : Gam}
inductive Tg where
 | nm(i:Nat) | tup(is:List Nat)
def setAll:Gam->List Nat->List D->Gam
 | Γ,i::is,d::ds=>setAll (Γ.set i (some d)) is ds
 | Γ,_,_=>Γ
def Tg.wp:Tg->D->Gam->(Gam->Prop)->Prop
 | .nm i,d,Γ,W=>W (Γ.set i (some d))
 | .tup is,.tup ds,Γ,W=>ds.length=is.length/\W (setAll Γ is ds)
 | .tup _,_,_,_=>False
def Tg.slots:Tg->List Nat
 | .nm i=>[i]
 | .tup is=>is
def yj(top:Bool)(N:List Str)(nm:Nm)(i:Nat)(e:Expr):Bool:=match e with | .Name x _=>(N[i]? ==some x)&&lcl top nm x | _=>false
def gw(top:Bool)(N:List Str)(nm:Nm):List Nat->List Expr->Bool
 | [],[]=>true
 | i::is,e::es=>yj top N nm i e&&gw top N nm is es
 | _,_=>false
def Tg.chk(t:Tg)(top:Bool)(N:List Str)(nm:Nm)(e:Expr):Bool:=match t with
 | .nm i=>yj top N nm i e
 | .tup is=>match e with | .Tuple es _ _=>gw top N nm is es | _=>false
section
variable {Ω : Wd} {X : Cx} {r : Nat} {top : Bool} {N : List Str} {nm : Nm}
theorem Hi(A:At Ω X r top N nm){i:Nat}{e:Expr}{d:D}{Γ:Gam}{S:Store}{W:Gam->Store->Prop}(hc:yj top N nm i e=true)(hw:W (Γ.set i (some d)) S):BdW X e d Γ S W:=by
 cases e with
 | Name x pos=>
   obtain⟨h1,h2⟩:=aa hc
   have h1:N[i]? =some x:=eq_of_beq h1
   obtain⟨l1,l2⟩:=A.lcl h2
   exact KH i hw (by rw[A.n];exact A.nd) (by rw[A.n];exact h1) l1 l2
 | _=>exact fE hc
theorem zm{i:Nat}{is:List Nat}{es:List Expr}(h:gw top N nm (i::is) es=true):∃x p es',es=.Name x p::es'/\yj top N nm i (.Name x p)=true/\gw top N nm is es'=true:=by
 cases es with
 | nil=>exact(y4 h).elim
 | cons e es=>
   obtain⟨h1,h2⟩:=aa h
   cases e with
   | Name x p=>exact⟨x,p,es,rfl,h1,h2⟩
   | _=>exact(y4 h1).elim
theorem CJ{es:List Expr}(h:gw top N nm [] es=true):es=[]:=by
 cases es with
 | nil=>rfl
 | cons e es=>exact(y4 h).elim
theorem Gb(A:At Ω X r top N nm){S:Store}{W:Gam->Store->Prop}:∀{is:List Nat}{es:List Expr}{ds:List D}{Γ:Gam},gw top N nm is es=true->ds.length=is.length->W (setAll Γ is ds) S->yF X es ds Γ S W
 | [],es,ds,Γ,hc,hl,hw=>by
   have e:=CJ hc
   subst e
   have e:ds=[]:=by simpa using hl
   subst e
   exact Kz hw
 | i::is,es,ds,Γ,hc,hl,hw=>by
   obtain⟨x,p,es',rfl,h1,h2⟩:=zm hc
   cases ds with
   | nil=>simp at hl
   | cons d ds=>exact JS (Hi A h1 (Gb A h2 (by simpa using hl) hw)) rfl
theorem Ce:∀{is:List Nat}{es:List Expr},gw top N nm is es=true->∀env:Env,(assignEach es env).length=is.length/\(assignEach es env).findIdx? (·.1)=none
 | [],es,hc,env=>by
   have e:=CJ hc
   subst e
   exact⟨rfl,rfl⟩
 | i::is,es,hc,env=>by
   obtain⟨x,p,es',rfl,h1,h2⟩:=zm hc
   obtain⟨a,b⟩:=Ce h2 env
   have e:assignEach (.Name x p::es') env=(false,assign (.Name x p) env)::assignEach es' env:=rfl
   rw[e]
   refine⟨by simp[a],?_⟩
   rw[List.findIdx?_cons,b]
   rfl
theorem Tg.sound(A:At Ω X r top N nm){t:Tg}{e:Expr}{d:D}{Γ:Gam}{S:Store}{W:Gam->Store->Prop}(hc:t.chk top N nm e=true)(hw:t.wp d Γ λ Γ'=>W Γ' S):BdW X e d Γ S W:=by
 cases t with
 | nm i=>exact Hi A hc hw
 | tup is=>
   cases e with
   | Tuple es k pos=>
     have hc:gw top N nm is es=true:=hc
     cases d with
     | tup ds=>
       obtain⟨hl,hw⟩:ds.length=is.length/\W (setAll Γ is ds) S:=hw
       obtain⟨a,b⟩:=Ce hc X.env
       exact Pz (Gb A hc hl hw) A.calm (a.trans hl.symm) b
     | _=>exact hw.elim
   | _=>exact fE hc
end
theorem Sub.setAll{Γ:Gam}:∀{is:List Nat}{ds:List D}{Γ':Gam},Sub Γ Γ'->(∀i∈is,Γ[i]? =some none)->Sub Γ (RF.setAll Γ' is ds)
 | [],ds,Γ',h,_=>by cases ds<;>exact h
 | i::is,[],Γ',h,_=>h
 | i::is,d::ds,Γ',h,hi=>show Sub Γ (RF.setAll (Γ'.set i (some d)) is ds)from Sub.setAll (Γ':=Γ'.set i (some d)) (h.set i (some d) (hi i x6)) λ j hj=>hi j (y9 _ hj)
theorem Ge{cap:List (Option Nat)}{i:Nat}(h:cap[i]? =some none):(capt cap Γ)[i]? =some none:=by
 unfold capt
 rw[y7,h];rfl
set_option genInjectivity false in
structure Itb(Ω:Wd) where
 lev:Nat
 chk:Bool->List Str->Nm->Expr->Expr->Bool
 wp:Gam->Store->(List D->Store->Prop)->Prop
 sound:∀{X:Cx}{r:Nat}{top:Bool}{N:List Str}{nm:Nm}{tg e:Expr}{Γ:Gam}{S:Store}{W:List D->Store->Prop},At Ω X r top N nm->lev≤r->chk top N nm tg e=true->wp Γ S W->ItW X Γ S tg e W
theorem Oc{X:Cx}{S:Store}{tg e:Expr}{W:List D->Store->Prop}(h:Ev X Γ S e λ d S1=>match d with | .lst ds=>W ds S1 | .tup ds=>W ds S1 | _=>False):ItW X Γ S tg e W:=by
 intro pins s σ H O I env st
 refine thn (h pins s σ H O I env st) λ u s1 hq_=>?_
 obtain⟨v,H1,I1,r1,O1,d,S1,w,st1,ok1,rep⟩:=hq_
 cases rep with
 | @lst a xs ds h1 q1=>
   cases r1
   obtain⟨its,rv,p,hz⟩:=I1.list h1.sq
   refine wpAny_pyIter_list p.isList ?_
   refine⟨s1.heap.objs.size,[s1.heap.objs.size],_,_,H1,rfl,I1.kept (t':=s1.toks) λ b o e=>Heap.get?_push_of_some _ e,mK a _,⟨_,Heap.get?_push_size _ rfl,rfl,rfl⟩,λ b hb=>?_,O1,ds,S1,w,st1,ok1,nO h1 q1⟩
   have e:b=s1.heap.objs.size:=by simpa using hb
   subst e
   exact I1.fpOk (y8 _) (I1.hok.fresh (y8 _))
 | @tup a xs ds h1 q1=>
   cases r1
   obtain⟨its,rv,p,hz⟩:=I1.tuple h1.sq
   refine wpAny_pyIter_tuple (show s1.heap.IsTuple a its.toArray from p) ?_
   refine⟨s1.heap.objs.size,[s1.heap.objs.size],_,_,H1,rfl,I1.kept (t':=s1.toks) λ b o e=>Heap.get?_push_of_some _ e,qN a _,⟨_,Heap.get?_push_size _ rfl,rfl,rfl⟩,λ b hb=>?_,O1,ds,S1,w,st1,ok1,rZ h1 q1⟩
   have e:b=s1.heap.objs.size:=by simpa using hb
   subst e
   exact I1.fpOk (y8 _) (I1.hok.fresh (y8 _))
 | _=>exact w.elim
variable {Ω : Wd}
def Itb.seq(a:Ex Ω):Itb Ω where
 lev:=a.lev
 chk top N nm _ e:=a.chk top N nm e
 wp Γ S W:=a.wp Γ S λ d S1=>match d with | .lst ds=>W ds S1 | .tup ds=>W ds S1 | _=>False
 sound:=by
  intro X r top N nm tg e Γ S W A hl hc hw
  exact Oc (a.sound A hl hc hw)
def Itb.rng1(hm:Ω.mg "range"=none)(a:Ex Ω):Itb Ω where
 lev:=a.lev
 chk top N nm _ e:=jb e λ y es=>gG es λ b=>(y==("range":Str))&&(glb nm "range"&&(okE b&&a.chk top N nm b))
 wp Γ S W:=a.wp Γ S λ d S1=>match d with | .int j=>(-(2 ^ 62)≤j/\j<2 ^ 62)/\W (upTo 0 j.toNat) S1 | _=>False
 sound:=by
  intro X r top N nm tg e Γ S W A hl hc hw
  obtain⟨y,p,es,pos,rfl,hc_1⟩:=eG hc
  obtain⟨b,rfl,hc_2⟩:=cg hc_1
  have hc:=hc_2
  . skip
    obtain⟨h1,g2⟩:=aa hc
    obtain⟨h2,g3⟩:=aa g2
    obtain⟨h3,h4⟩:=aa g3
    have e:y="range":=eq_of_beq h1
    subst e
    refine FT ((a.sound A hl h4 hw).mono λ d S1 q=>?_) (by rw[A.g];exact hm) (A.glb h2) (aL h3 [] _)
    cases d<;>first | exact⟨_,rfl,q.1.1,q.1.2,q.2⟩ | exact q.elim
def Itb.rng2(hm:Ω.mg "range"=none)(a b:Ex Ω):Itb Ω where
 lev:=max a.lev b.lev
 chk top N nm _ e:=jb e λ y es=>two2 es λ l r=>(y==("range":Str))&&(glb nm "range"&&((okE l&&okE r)&&(a.chk top N nm l&&b.chk top N nm r)))
 wp Γ S W:=a.wp Γ S λ d S1=>b.wp Γ S1 λ d' S2=>match d,d' with | .int i,.int j=>(-(2 ^ 62)≤i/\i<2 ^ 62/\ -(2 ^ 62)≤j/\j<2 ^ 62)/\W (upTo i (j-i).toNat) S2 | _,_=>False
 sound:=by
  intro X r top N nm tg e Γ S W A hl hc hw
  obtain⟨l1,l2⟩:=lv2 hl
  obtain⟨y,p,es,pos,rfl,hc_1⟩:=eG hc
  obtain⟨l,r',rfl,hc_2⟩:=two2_of hc_1
  have hc:=hc_2
  . skip
    obtain⟨h1,g2⟩:=aa hc
    obtain⟨h2,g3⟩:=aa g2
    obtain⟨h3,h4⟩:=aa g3
    obtain⟨h5,h6⟩:=aa h3
    obtain⟨h7,h8⟩:=aa h4
    have e:y="range":=eq_of_beq h1
    subst e
    refine Gd ((a.sound A l1 h7 hw).mono λ d S1 q=>(b.sound A l2 h8 q).mono λ d' S2 q=>?_) (by rw[A.g];exact hm) (A.glb h2) (by rw[aL h5,aL h6];rfl) (aL h6 [] _)
    cases d<;>first | exact q.elim | (cases d'<;>first | exact⟨_,_,rfl,rfl,q.1,q.2⟩ | exact q.elim)
set_option genInjectivity false in
structure Cd(Ω:Wd) where
 lev:Nat
 chk:Bool->List Str->Nm->List Expr->Bool
 wp:Gam->Store->(Bool->Store->Prop)->Prop
 sound:∀{X:Cx}{r:Nat}{top:Bool}{N:List Str}{nm:Nm}{es:List Expr}{Γ:Gam}{S:Store}{W:Bool->Store->Prop},At Ω X r top N nm->lev≤r->chk top N nm es=true->wp Γ S W->TsA X Γ S es W
def Cd.no:Cd Ω where
 lev:=0
 chk _ _ _ es:=match es with | []=>true | _=>false
 wp _ S W:=W true S
 sound:=by
  intro X r top N nm es Γ S W A hl hc hw
  match es,hc with
  | [],_=>exact hw
  | _::_,hc=>exact fE hc
@[irreducible] noncomputable def sO(cap:List (Option Nat))(Γ:Gam)(elt:Ex Ω)(tg:Tg)(cd:Cd Ω)(W:WD)(ds:List D)(C0:Store->Prop)(S1:Store):Prop:=
  ds.length≤1000000/\∃Pv:Nat->List D->Store->Prop,Pv 0 [] S1/\(∀i acc S',Pv i acc S'->C0 S')/\
   (∀i d acc S',ds[i]? =some d->Pv i acc S'->tg.wp d (capt cap Γ) λ Γ2=>cd.wp Γ2 S' λ ok S3=>(ok=true->elt.wp Γ2 S3 λ y S4=>Pv (i+1) (acc++[y]) S4)/\(ok=false->Pv (i+1) acc S3))/\
   ∀acc S',Pv ds.length acc S'->W (.lst acc) S'∨W (.loc S'.length) (S'++[acc])
abbrev mW(cap:List (Option Nat))(Γ:Gam)(elt:Ex Ω)(tg:Tg)(cd:Cd Ω)(W:WD)(ds:List D)(S1:Store):Prop:=sO cap Γ elt tg cd W ds (λ _=>True) S1
theorem HX{cap:List (Option Nat)}{elt:Ex Ω}{tg:Tg}{cd:Cd Ω}{W:WD}{ds:List D}{C0:Store->Prop}{S1:Store}(h:ds.length≤1000000/\∃Pv:Nat->List D->Store->Prop,Pv 0 [] S1/\(∀i acc S',Pv i acc S'->C0 S')/\
 (∀i d acc S',ds[i]? =some d->Pv i acc S'->tg.wp d (capt cap Γ) λ Γ2=>cd.wp Γ2 S' λ ok S3=>(ok=true->elt.wp Γ2 S3 λ y S4=>Pv (i+1) (acc++[y]) S4)/\(ok=false->Pv (i+1) acc S3))/\
 ∀acc S',Pv ds.length acc S'->W (.lst acc) S'∨W (.loc S'.length) (S'++[acc])):sO cap Γ elt tg cd W ds C0 S1:=by unfold sO;exact h
theorem fW{cap:List (Option Nat)}{elt:Ex Ω}{tg:Tg}{cd:Cd Ω}{W:WD}{ds:List D}{S1:Store}(h:ds.length≤1000000/\∃Pv:Nat->List D->Store->Prop,Pv 0 [] S1/\
 (∀i d acc S',ds[i]? =some d->Pv i acc S'->tg.wp d (capt cap Γ) λ Γ2=>cd.wp Γ2 S' λ ok S3=>(ok=true->elt.wp Γ2 S3 λ y S4=>Pv (i+1) (acc++[y]) S4)/\(ok=false->Pv (i+1) acc S3))/\
 ∀acc S',Pv ds.length acc S'->W (.lst acc) S'):mW cap Γ elt tg cd W ds S1:=by
 obtain⟨hz,Pv,p0,pt,pe⟩:=h
 exact HX ⟨hz,Pv,p0,λ _ _ _ _=>trivial,pt,λ acc S' q=>.inl (pe acc S' q)⟩
def m6(N':List Str)(cap:List (Option Nat))(elt:Ex Ω)(tg:Tg)(it:Itb Ω)(cd:Cd Ω)(top:Bool)(N:List Str)(nm:Nm)(e:Expr):Bool:=match e with
 | .ListComp x [⟨t,i,cs,0⟩] sc _=>(sc.kind==.function)&&(z7 sc.names&&(freeOk nm sc.names&&((sc.names.all λ y=>!(y.2==.local)||(sc.names.lookup y.1==some .local))&&(aX N nm N' sc.names cap N'&&
  (okE i&&((tg.slots.all λ j=>cap[j]? ==some none)&&(decide N'.Nodup&&(it.chk top N nm t i&&(tg.chk false N' sc.names t&&(cd.chk false N' sc.names cs&&elt.chk false N' sc.names x))))))))))
 | _=>false
section
variable {X : Cx} {r : Nat} {top : Bool} {N : List Str} {nm : Nm}
theorem vW(A:At Ω X r top N nm){x:Str}(h:nm.lookup x=some .cell∨nm.lookup x=some .free):X.env.scope.names.lookup x=some .cell∨X.env.scope.names.lookup x=some .free:=by
 rcases h with h | h
 . rcases A.look x _ h with q | ⟨q,_⟩
   . exact .inl q
   . exact nomatch q
 . rcases A.look x _ h with q | ⟨_,q⟩
   . exact .inr q
   . exact .inl q
theorem vU(A:At Ω X r top N nm){names:Nm}(h:freeOk nm names=true):freeOk X.env.scope.names names=true:=by
 unfold freeOk
 refine List.all_eq_true.mpr λ y hy=>?_
 by_cases e:y.2=.free
 . have:=vW A (lO h y hy e)
   rcases this with q | q<;>simp[q]
 . simp[e]
theorem kO(A:At Ω X r top N nm){N':List Str}{names':Nm}:∀{cap:List (Option Nat)}{t:List Str},aX N nm N' names' cap t=true->aX X.N X.env.scope.names N' names' cap t=true
 | [],[],_=>rfl
 | [],_::_,h=>by simp[aX]at h
 | none::_,[],h=>by simp[aX]at h
 | some _::_,[],h=>by simp[aX]at h
 | none::r,_::t,h=>by simp only[aX]at h ⊢;exact kO A h
 | some j::r,x::t,h=>by
   simp only[aX,Bool.and_eq_true,Bool.or_eq_true,beq_iff_eq]at h ⊢
   exact⟨⟨⟨by rw[A.n];exact h.1.1.1,vW A h.1.1.2⟩,h.1.2⟩,kO A h.2⟩
theorem M7(A:At Ω X r top N nm){sc:Scope}{N':List Str}{C:Addr}{s:Shared}{H:Hp}{ex:List Addr}{cl:List (Str×Addr)}(hk:sc.kind=.function)(nd:N'.Nodup):At Ω (gb X sc N' C s H ex cl) r false N' sc.names where
 cd:=λ h=>nomatch h
 p:=A.p
 w:=A.w
 k:=A.k
 g:=A.g
 b:=A.b
 room:=A.room
 xe:=A.xe
 calm:=A.calm
 n:=rfl
 nd:=nd
 kind:=hk
 look:=by
  intro x k h
  show(relabel sc X.env).names.lookup x=some k∨_
  rw[j9,fB,h]
  rcases pJ X.env x k with q | ⟨q1,q2⟩
  . exact .inl (congrArg some q)
  . refine .inr ⟨q1,?_⟩
    show(relabel sc X.env).names.lookup x=some .cell
    rw[j9,fB,h]
    exact congrArg some q2
 fn:=λ x h=>by show(sc.names.lookup x==some .cell)=true;rw[h];rfl
theorem q9(A:At Ω X r top N nm){sc:Scope}{N':List Str}{cap:List (Option Nat)}{elt:Ex Ω}{tg:Tg}{cd:Cd Ω}{x t:Expr}{cs:List Expr}{Γ:Gam}{W:WD}{ds:List D}{C0:Store->Prop}{S1:Store}(le:elt.lev≤r)(lc:cd.lev≤r)(hk:sc.kind=.function)(nd:N'.Nodup)(hs:(tg.slots.all λ j=>cap[j]? ==some none)=true)
 (ht:tg.chk false N' sc.names t=true)(hcd:cd.chk false N' sc.names cs=true)(he:elt.chk false N' sc.names x=true)(h:sO cap Γ elt tg cd W ds C0 S1):yd X sc N' cap Γ x t cs W ds C0 S1:=by
 unfold sO at h
 obtain⟨hz,Pv,p0,pC,pt,pe⟩:=h
 refine⟨hz,Pv,p0,pC,λ i d acc S' hd hp C s H ex cl=>?_,pe⟩
 have B:=M7 A (C:=C) (s:=s) (H:=H) (ex:=ex) (cl:=cl) hk nd
 have sl:∀j∈tg.slots,(capt cap Γ)[j]? =some none:=λ j hj=>Ge (by
  have:=List.all_eq_true.mp hs j hj
  exact eq_of_beq this)
 have base:=pt i d acc S' hd hp
 have go:∀Γ2,(cd.wp Γ2 S' λ ok S3=>(ok=true->elt.wp Γ2 S3 λ y S4=>Pv (i+1) (acc++[y]) S4)/\(ok=false->Pv (i+1) acc S3))->
  TsA (gb X sc N' C s H ex cl) Γ2 S' cs λ ok S3=>(ok=true->Ev (gb X sc N' C s H ex cl) Γ2 S3 x λ y S4=>Pv (i+1) (acc++[y]) S4)/\(ok=false->Pv (i+1) acc S3):=by
  intro Γ2 q
  have:=cd.sound B lc hcd q
  match cs,this with
  | [],this=>exact⟨λ hk=>elt.sound B le he (this.1 hk),this.2⟩
  | [c],this=>exact Ts.mono this λ ok S3 z=>⟨λ hk=>elt.sound B le he (z.1 hk),z.2⟩
  | _::_::_,this=>exact this.elim
 refine Tg.sound B (W:=λ Γ2 S2=>Sub (capt cap Γ) Γ2/\TsA (gb X sc N' C s H ex cl) Γ2 S2 cs λ ok S3=>(ok=true->Ev (gb X sc N' C s H ex cl) Γ2 S3 x λ y S4=>Pv (i+1) (acc++[y]) S4)/\(ok=false->Pv (i+1) acc S3)) ht ?_
 cases tg with
 | nm j=>exact⟨(Sub.refl _).set j _ (sl j (by simp[Tg.slots])),go _ base⟩
 | tup is=>
   cases d with
   | tup es=>exact⟨base.1,Sub.setAll (Sub.refl _) sl,go _ base.2⟩
   | _=>exact base.elim
end
def Ex.comp(N':List Str)(cap:List (Option Nat))(elt:Ex Ω)(tg:Tg)(it:Itb Ω)(cd:Cd Ω):Ex Ω where
 lev:=max elt.lev (max it.lev cd.lev)
 chk top N nm e:=m6 N' cap elt tg it cd top N nm e
 wp Γ S W:=it.wp Γ S λ ds S1=>mW cap Γ elt tg cd W ds S1
 sound:=by
  intro X r top N nm e Γ S W A hl hc hw
  obtain⟨l1,l2⟩:=lv2 hl
  obtain⟨l2,l3⟩:=lv2 l2
  unfold m6 at hc
  split at hc
  . rename_i x t i cs sc pos
    obtain⟨h1,hc⟩:=aa hc
    obtain⟨h2,hc⟩:=aa hc
    obtain⟨h3,hc⟩:=aa hc
    obtain⟨h4,hc⟩:=aa hc
    obtain⟨h5,hc⟩:=aa hc
    obtain⟨h6,hc⟩:=aa hc
    obtain⟨h7,hc⟩:=aa hc
    obtain⟨h8,hc⟩:=aa hc
    obtain⟨h9,hc⟩:=aa hc
    obtain⟨h10,hc⟩:=aa hc
    obtain⟨h11,h12⟩:=aa hc
    have hk:sc.kind=.function:=eq_of_beq h1
    refine La N' cap (ItW.toC (ItW.mono (it.sound A l2 h9 hw) λ ds S1 q=>q9 A l1 l3 hk (of_decide_eq_true h8) h7 h10 h11 h12 q)) A.xe A.calm hk h2 (vU A h3) (λ y hy e=>?_) (kO A h5) (nA h6 _)
    . have:=List.all_eq_true.mp h4 y hy
      simpa[e]using this
  . exact fE hc
end RF
namespace RF
open PySem PySem.Spec L2 DL
open PyProof.Rows
variable {Ω : Wd}
theorem Ha{e:Expr}(h:noC e=true)(t:Expr)(l:Nat)(env:Env):swapsWithSole [t] e l env=pure false:=by
 unfold swapsWithSole
 exact qg h (some t) l env
set_option genInjectivity false in
structure Sm(Ω:Wd) where
 lev:Nat
 chk:Bool->List Str->Nm->Stmt->Bool
 wp:Gam->Store->DL.Fin->Prop
 sound:∀{X:Cx}{r:Nat}{top:Bool}{N:List Str}{nm:Nm}{st:Stmt}{Γ:Gam}{S:Store}{W:DL.Fin},At Ω X r top N nm->lev≤r->chk top N nm st=true->wp Γ S W->Rn X Γ S st W
set_option genInjectivity false in
structure Bl(Ω:Wd) where
 lev:Nat
 chk:Bool->List Str->Nm->List Stmt->Bool
 wp:Gam->Store->DL.Fin->Prop
 sound:∀{X:Cx}{r:Nat}{top:Bool}{N:List Str}{nm:Nm}{sts:List Stmt}{Γ:Gam}{S:Store}{W:DL.Fin},At Ω X r top N nm->lev≤r->chk top N nm sts=true->wp Γ S W->Rns X Γ S sts W
def Bl.nil:Bl Ω where
 lev:=0
 chk _ _ _ sts:=match sts with | []=>true | _=>false
 wp Γ S W:=W.nx Γ S
 sound:=by
  intro X r top N nm sts Γ S W A hl hc hw
  match sts,hc with
  | [],_=>exact PQ hw
  | _::_,hc=>exact fE hc
def Bl.cons(s:Sm Ω)(b:Bl Ω):Bl Ω where
 lev:=max s.lev b.lev
 chk top N nm sts:=match sts with | st::sts=>s.chk top N nm st&&b.chk top N nm sts | _=>false
 wp Γ S W:=s.wp Γ S {W with nx:=λ Γ1 S1=>b.wp Γ1 S1 W}
 sound:=by
  intro X r top N nm sts Γ S W A hl hc hw
  obtain⟨l1,l2⟩:=lv2 hl
  match sts,hc with
  | st::sts,hc=>
    obtain⟨h1,h2⟩:=aa hc
    exact Kw (Rn.mono (s.sound A l1 h1 hw) (λ G S1 q=>b.sound A l2 h2 q) (λ _ _ q=>q) (λ _ _ q=>q) λ _ _ q=>q)
  | [],hc=>exact fE hc
def Sm.ret(a:Ex Ω):Sm Ω where
 lev:=a.lev
 chk top N nm st:=match st with | .Return (some e) _=>a.chk top N nm e | _=>false
 wp Γ S W:=a.wp Γ S W.rt
 sound:=by
  intro X r top N nm st Γ S W A hl hc hw
  cases st with
  | Return o pos=>
    cases o with
    | some e=>exact QD (a.sound A hl hc hw)
    | none=>exact fE hc
  | _=>exact fE hc
def Sm.expr(a:Ex Ω):Sm Ω where
 lev:=a.lev
 chk top N nm st:=match st with | .Expr e _=>noC e&&a.chk top N nm e | _=>false
 wp Γ S W:=a.wp Γ S λ _ S1=>W.nx Γ S1
 sound:=by
  intro X r top N nm st Γ S W A hl hc hw
  cases st with
  | Expr e pos=>
    obtain⟨h1,h2⟩:=aa hc
    exact Nu (a.sound A hl h2 hw) (qg h1 _ _ _)
  | _=>exact fE hc
def Sm.ite(c:Te Ω)(a b:Bl Ω):Sm Ω where
 lev:=max c.lev (max a.lev b.lev)
 chk top N nm st:=match st with | .If t xs ys _=>c.chk top N nm t&&(a.chk top N nm xs&&b.chk top N nm ys) | _=>false
 wp Γ S W:=c.wp Γ S λ k S1=>(k=true->a.wp Γ S1 W)/\(k=false->b.wp Γ S1 W)
 sound:=by
  intro X r top N nm st Γ S W A hl hc hw
  obtain⟨l1,l2⟩:=lv2 hl
  obtain⟨l2,l3⟩:=lv2 l2
  cases st with
  | If t xs ys pos=>
    obtain⟨h1,h2⟩:=aa hc
    obtain⟨h2,h3⟩:=aa h2
    exact R7 (Ts.mono (c.sound A l1 h1 hw) λ k S1 q=>⟨λ hk=>a.sound A l2 h2 (q.1 hk),λ hk=>b.sound A l3 h3 (q.2 hk)⟩)
  | _=>exact fE hc
def Sm.set(i:Nat)(a:Ex Ω):Sm Ω where
 lev:=a.lev
 chk top N nm st:=setB st λ x e=>(N[i]? ==some x)&&(lcl top nm x&&(noC e&&a.chk top N nm e))
 wp Γ S W:=a.wp Γ S λ d S1=>W.nx (Γ.set i (some d)) S1
 sound:=by
  intro X r top N nm st Γ S W A hl hc hw
  obtain⟨x,xp,e,sp,rfl,hc_1⟩:=K8 hc
  have hc:=hc_1
  . obtain⟨h1,h2⟩:=aa hc
    obtain⟨h2,h3⟩:=aa h2
    obtain⟨h3,h4⟩:=aa h3
    obtain⟨l1,l2⟩:=A.lcl h2
    exact Ka i (a.sound A hl h4 hw) (by rw[A.n];exact A.nd) (by rw[A.n];exact eq_of_beq h1) l1 (qg h3 _ _ _) l2
def Sm.setC(i:Nat)(N':List Str)(cap:List (Option Nat))(elt:Ex Ω)(tg:Tg)(it:Itb Ω)(cd:Cd Ω):Sm Ω where
 lev:=max elt.lev (max it.lev cd.lev)
 chk top N nm st:=match st with | .Assign [.Name x p] e _=>(N[i]? ==some x)&&(lcl top nm x&&(top&&(m6 N' cap elt tg it cd top N nm e))) | _=>false
 wp Γ S W:=it.wp Γ S λ ds S1=>mW cap Γ elt tg cd (λ d S2=>W.nx (Γ.set i (some d)) S2) ds S1
 sound := by
  intro X r top N nm st Γ S W A hl hc hw
  split at hc
  . rename_i x p e spos
    obtain⟨k1,q1⟩:=aa hc
    obtain⟨k2,q2⟩:=aa q1
    obtain⟨k0,hcomp⟩:=aa q2
    obtain⟨l1,l2⟩:=A.lcl k2
    have hN:X.N[i]? =some x:=by rw[A.n];exact eq_of_beq k1
    have nd:X.N.Nodup:=by rw[A.n];exact A.nd
    have hc2:=hcomp
    obtain⟨le,l3⟩:=lv2 hl
    obtain⟨li,lc⟩:=lv2 l3
    unfold m6 at hc2
    split at hc2
    . rename_i x' t i' cs sc pos
      obtain⟨h1,hc⟩:=aa hc2
      obtain⟨h2,hc⟩:=aa hc
      obtain⟨h3,hc⟩:=aa hc
      obtain⟨h4,hc⟩:=aa hc
      obtain⟨h5,hc⟩:=aa hc
      obtain⟨h6,hc⟩:=aa hc
      obtain⟨h7,hc⟩:=aa hc
      obtain⟨h8,hc⟩:=aa hc
      obtain⟨h9,hc⟩:=aa hc
      obtain⟨h10,hc⟩:=aa hc
      obtain⟨h11,h12⟩:=aa hc
      have hk:sc.kind=.function:=eq_of_beq h1
      by_cases hb:(X.env.blockKind==.function&&X.env.kindOf x==some .local&&p.line==(Expr.ListComp x' [⟨t,i',cs,0⟩] sc pos).pos.line&& !(sc.names.any λ(n,k)=>n==x&&(k==.local||k==.cell)))=true
      . refine Gi i N' cap (ItW.toC (ItW.mono (it.sound A li h9 hw) λ ds S1 q=>q9 A le lc hk (of_decide_eq_true h8) h7 h10 h11 h12 q)) nd hN l1 ?_ l2 A.xe A.calm hk h2 (vU A h3) (λ y hy e=>?_) (kO A h5) (nA h6 _)
        . show(pure (X.env.blockKind==.function&&X.env.kindOf x==some .local&&p.line==(Expr.ListComp x' [⟨t,i',cs,0⟩] sc pos).pos.line&& !(sc.names.any λ(n,k)=>n==x&&(k==.local||k==.cell))):Sem Bool)=pure true
          rw[hb]
        . have:=List.all_eq_true.mp h4 y hy
          simpa[e]using this
      . have hb:_=false:=Bool.eq_false_iff.mpr hb
        refine Ka i ((Ex.comp N' cap elt tg it cd).sound A hl hcomp hw) nd hN l1 ?_ l2
        show(pure (X.env.blockKind==.function&&X.env.kindOf x==some .local&&p.line==(Expr.ListComp x' [⟨t,i',cs,0⟩] sc pos).pos.line&& !(sc.names.any λ(n,k)=>n==x&&(k==.local||k==.cell))):Sem Bool)=pure false
        rw[hb]
    . exact(y4 hc2).elim
  . exact fE hc
def Sm.setIx(o i a:Ex Ω):Sm Ω where
 lev:=max a.lev (max o.lev i.lev)
 chk top N nm st:=match st with | .Assign [.Subscript x y _] e _=>noC e&&(okE y&&(a.chk top N nm e&&(o.chk top N nm x&&i.chk top N nm y))) | _=>false
 wp Γ S W:=a.wp Γ S λ d S1=>o.wp Γ S1 λ x S2=>i.wp Γ S2 λ y S3=>match x,y with | .loc k,.int n=>∃ds j,S3[k]? =some ds/\ixN ds.length n=some j/\W.nx Γ (S3.set k (ds.set j d)) | _,_=>False
 sound:=by
  intro X r top N nm st Γ S W A hl hc hw
  obtain⟨l1,l2⟩:=lv2 hl
  obtain⟨l2,l3⟩:=lv2 l2
  split at hc
  . rename_i x y p e spos
    obtain⟨h1,hc⟩:=aa hc
    obtain⟨h2,hc⟩:=aa hc
    obtain⟨h3,hc⟩:=aa hc
    obtain⟨h4,h5⟩:=aa hc
    refine LR ((a.sound A l1 h3 hw).mono λ d S1 q=>(o.sound A l2 h4 q).mono λ x S2 q=>(i.sound A l3 h5 q).mono λ y S3 q=>?_) ?_ (Ha h1 _ _ _) ?_ rfl
    . cases x<;>first | exact q.elim | (cases y<;>first | exact q.elim | (obtain⟨ds,j,a,b,c⟩:=q;exact⟨_,_,ds,j,rfl,rfl,a,b,c⟩))
    . intro v
      cases y<;>first | rfl | exact(y4 h2).elim
    . rfl
  . exact fE hc
@[irreducible] noncomputable def jq(Γ:Gam)(tg:Tg)(body:Bl Ω)(W:DL.Fin)(ds:List D)(S1:Store):Prop:=
  ∃Pv:Nat->Gam->Store->Prop,Pv 0 Γ S1/\(∀i d Γ' S',ds[i]? =some d->Pv i Γ' S'->tg.wp d Γ' λ Γ2=>body.wp Γ2 S' {W with nx:=Pv (i+1),ct:=Pv (i+1),bk:=W.nx})/\(∀Γ' S',Pv ds.length Γ' S'->W.nx Γ' S')
theorem bG{Γ:Gam}{tg:Tg}{body:Bl Ω}{W:DL.Fin}{ds:List D}{S1:Store}(h:∃Pv:Nat->Gam->Store->Prop,Pv 0 Γ S1/\(∀i d Γ' S',ds[i]? =some d->Pv i Γ' S'->tg.wp d Γ' λ Γ2=>body.wp Γ2 S' {W with nx:=Pv (i+1),ct:=Pv (i+1),bk:=W.nx})/\(∀Γ' S',Pv ds.length Γ' S'->W.nx Γ' S')):jq Γ tg body W ds S1:=by unfold jq;exact h
def Sm.for(tg:Tg)(it:Itb Ω)(body:Bl Ω):Sm Ω where
 lev:=max it.lev body.lev
 chk top N nm st:=match st with | .For t i b [] _=>okE i&&(tg.chk top N nm t&&(it.chk top N nm t i&&body.chk top N nm b)) | _=>false
 wp Γ S W:=it.wp Γ S λ ds S1=>jq Γ tg body W ds S1
 sound:=by
  intro X r top N nm st Γ S W A hl hc hw
  obtain⟨l1,l2⟩:=lv2 hl
  split at hc
  . rename_i t i b pos
    obtain⟨h1,hc⟩:=aa hc
    obtain⟨h2,hc⟩:=aa hc
    obtain⟨h3,h4⟩:=aa hc
    refine RC (ItW.mono (it.sound A l1 h3 hw) λ ds S1 q=>?_) (by rw[A.xe];exact PassesOwn.never) A.calm (nA h1 _)
    unfold jq at q
    obtain⟨Pv,p0,pt,pe⟩:=q
    refine⟨Pv,p0,λ i d Γ' S' hd hp=>BdW.mono (Tg.sound A (W:=λ Γ2 S2=>body.wp Γ2 S2 {W with nx:=Pv (i+1),ct:=Pv (i+1),bk:=W.nx}) h2 (pt i d Γ' S' hd hp)) λ Γ2 S2 q=>body.sound A l2 h4 q,pe⟩
  . exact fE hc
def RT(N ps:List Str)(sm:Stmt)(k:Nat)(body:Bl Ω):Bool:=
 ((aj sm).kind==.function)&&(!(aj sm).isCoroutine&&(!(aj sm).isGenerator&&(decide N.Nodup&&(decide (N.take ps.length=ps)&&((ps.all λ x=>(aj sm).names.lookup x==some .local||(aj sm).names.lookup x==some .cell)&&
   (((aj sm).names.all λ y=>!(y.2==.free))&&(Nat.ble body.lev k&&body.chk true N (aj sm).names (ak sm))))))))
theorem au(N0:Ω.cd=none){x qual:Str}{sm:Stmt}{f:Addr}{fd:FuncData}{N ps:List Str}{k:Nat}{F:Ct}(FF:Fun Ω.K x qual sm f fd)(body:Bl Ω)(hc:RT N ps sm k body=true)
 (vc:∀(ds:List D)(S:Store)(W:WD),F ds S W->ds.length=ps.length->body.wp (ds.map some++List.replicate (N.length-ds.length) none) S {nx:=λ _ S1=>W .non S1,rt:=W}):FnOk Ω.P Ω.w Ω.K Ω.mg Ω.base CX0 (k+1) f fd ps (spC Ω.K ps.length F):=by
 obtain⟨h1,hc⟩:=aa hc
 obtain⟨h2,hc⟩:=aa hc
 obtain⟨h3,hc⟩:=aa hc
 obtain⟨h4,hc⟩:=aa hc
 obtain⟨h5,hc⟩:=aa hc
 obtain⟨h6,hc⟩:=aa hc
 obtain⟨h7,hc⟩:=aa hc
 obtain⟨h8,h9⟩:=aa hc
 have nd:N.Nodup:=of_decide_eq_true h4
 have sc:FnScope N ps (aj sm):=⟨eq_of_beq h1,nt h2,nt h3,nd,of_decide_eq_true h5,λ x hx=>by
  have:=List.all_eq_true.mp h6 x hx
  simpa using this,λ y hy e=>by
  have:=List.all_eq_true.mp h7 y hy
  simp[e]at this⟩
 refine Rb FF sc λ cdv A outer s H E ds S W _ hr hl h=>?_
 refine body.sound (r:=k) (top:=true) (N:=N) (nm:=(aj sm).names) ⟨rfl,rfl,rfl,rfl,rfl,hr,rfl,rfl,rfl,nd,sc.kind,λ x kk h=>.inl h,λ _ _=>rfl,λ _ p q=>nomatch (N0.symm.trans q)⟩ (Nat.le_of_ble_eq_true h8) h9 (vc ds S W h hl)
theorem callee{x qual:Str}{sm:Stmt}{f:Addr}{fd:FuncData}{ps:List Str}{k n:Nat}{F:Ct}(FF:Fun Ω.K x qual sm f fd)(h:FnOk Ω.P Ω.w Ω.K Ω.mg Ω.base CX0 k f fd ps (spC Ω.K n F))(hm:Ω.mg x=some (.ref f))(b:Binds Ω.K fd ps []):Callee Ω.P Ω.w Ω.K Ω.mg Ω.base x k n F:=⟨f,fd,ps,h,hm,FF.kp,b⟩
end RF
namespace RF
open PySem PySem.Spec L2 DL
open PyProof.Rows
def iD:Bf where
 x:="len"
 id:="len"
 boot:=by decide+kernel
 wp ds S W:=match ds with
  | [.tup ds]=>W (.int ds.length) S
  | [.lst ds]=>W (.int ds.length) S
  | [.loc k]=>∃ds,S[k]? =some ds/\W (.int ds.length) S
  | _=>False
 sound:=by
  intro X ds S W hc hr h
  split at h
  . exact MK h
  . exact Od h
  . obtain⟨ds,h1,h2⟩:=h;exact Oq h1 h2
  . exact h.elim
def gF:Bf where
 x:="all"
 id:="all"
 boot:=by decide+kernel
 wp ds S W:=match ds with
  | [.lst ds]=>∃bs:List Bool,ds=bs.map .bl/\W (.bl (bs.all id)) S
  | _=>False
 sound:=by
  intro X ds S W hc hr h
  split at h
  . obtain⟨bs,rfl,h⟩:=h;exact k_all h hc
  . exact h.elim
def Tc:Bf where
 x:="abs"
 id:="abs"
 boot:=by decide+kernel
 wp ds S W:=match ds with
  | [.int i]=>W (.int (if i<0 then-i else i)) S
  | _=>False
 sound:=by
  intro X ds S W hc hr h
  split at h
  . refine eV JF λ O H vs st r=>?_
    obtain⟨v,rfl,r'⟩:=gj r
    cases r'
    exact⟨_,rfl,QG.here h st (.int _)⟩
  . exact h.elim
theorem RK{K:PySem.W.Frag}{O:Own}{H:Hp}{vs:List V}{d e:D}(r:Reps K O H vs [d,e]):∃v w,vs=[v,w]/\Rep K O H v d/\Rep K O H w e:=by
 cases r with
 | cons a t=>
   cases t with
   | cons b t=>cases t;exact⟨_,_,rfl,a,b⟩
def OJ:Bf where
 x:="min"
 id:="min"
 boot:=by decide+kernel
 wp ds S W:=match ds with
  | [.int i,.int j]=>W (.int (if j<i then j else i)) S
  | _=>False
 sound:=by
  intro X ds S W hc hr h
  split at h
  . refine eV (Hr hc) λ O H vs st r=>?_
    obtain⟨v,w,rfl,r1,r2⟩:=RK r
    cases r1
    cases r2
    exact⟨_,_,rfl,QG.here h st (.int _)⟩
  . exact h.elim
def bH:Bc where
 x:="tuple"
 id:="tuple"
 boot:=by decide+kernel
 wp ds S W:=match ds with
  | [.lst ds]=>W (.tup ds) S
  | [.loc k]=>∃ds,S[k]? =some ds/\W (.tup ds) S
  | _=>False
 sound:=by
  intro X ds S W hc hr h
  split at h
  . exact Pu h
  . obtain⟨ds,h1,h2⟩:=h;exact Nz h1 h2
  . exact h.elim
section
variable {X : Cx} {Γ : Gam} {S : Store} {e : Expr} {pos : Pos}
theorem Mi{elts:List Expr}{k:Nat}{tp p:Pos}{W:List D->Store->Prop}(h:Ev X Γ S e λ d S1=>match d with | .lst ds=>W (ds.mapIdx λ i d=>.tup [.int i,d]) S1 | .tup ds=>W (ds.mapIdx λ i d=>.tup [.int i,d]) S1 | _=>False)(hm:X.mg "enumerate"=none)(hg:Gl X "enumerate")(hs:starEach [e] X.env=[(false,eval e X.env)]):
 ItW X Γ S (.Tuple elts k tp) (.Call (.Name "enumerate" p) [e] [] pos) W:=by
 intro pins s σ H O I env st
 refine Call_ (gm I hg hm boot_enumerate (PyProof.Rows.callWith_type1 (thn (gU h.pe su hs pos pins s σ H (λ vs H'=>∃v,vs=[v]/\QG X.K O H (λ d S1=>match d with | .lst ds=>W (ds.mapIdx λ i d=>.tup [.int i,d]) S1 | .tup ds=>W (ds.mapIdx λ i d=>.tup [.int i,d]) S1 | _=>False) v H') I ⟨O,env,st,λ v H' q=>⟨v,rfl,q⟩⟩) λ us s1 hq_=>?_) hs rfl))
 obtain⟨vs,H1,I1,r1,v,ev,O1,d,S1,w,st1,ok1,rep⟩:=hq_
 subst ev
 obtain⟨u,rfl,ru⟩:=vals1 r1
 cases rep with
 | @lst a xs ds h1 q1=>
   cases ru
   obtain⟨its,rv,pl,hz⟩:=I1.list h1.sq
   refine call_enumerate_list pl.isList λ h' he hi _ kp=>Cp (Ru X.prog X.w X.K) I1 he hi kp ⟨O1,_,S1,w,st1,ok1,nR _ λ O' H' cv=>⟨xs,(h1.conv cv).sq,q1.conv cv⟩⟩
 | @tup a xs ds h1 q1=>
   cases ru
   obtain⟨its,rv,pl,hz⟩:=I1.tuple h1.sq
   obtain⟨⟨c,dct,dt,sl⟩,hl,hc,n,hd⟩:=pl
   replace hc:c=.type "tuple":=hc
   replace hd:dt=.seq its.toArray n:=hd
   subst hc hd
   refine callType_new F.called_enumerate (by decide) (F.typeCall_enumerate_1 _) (F.newCall_enumerate_1 _) (λ obj=>F.args_object_init_2 obj _) F.entry_enumerate_new (GP a its.toArray n dct sl) ⟨hl,?_⟩
   have hz:(s1.heap.push {cls:=.type "tuple_iterator",data:=.fields #[.ref a,.int 0 0]}).objs.size=s1.heap.objs.size+1:=Heap.size_push ..
   show _/\_
   rw[hz]
   have he:IsEnum ((s1.heap.push {cls:=.type "tuple_iterator",data:=.fields #[.ref a,.int 0 0]}).push {cls:=.type "enumerate",data:=.fields #[.none,.bool false,.ref s1.heap.objs.size,rawInt 0,.none,.none]}) (s1.heap.objs.size+1) s1.heap.objs.size 0 .none:=by
    have:=Heap.get?_push_size (s1.heap.push {cls:=.type "tuple_iterator",data:=.fields #[.ref a,.int 0 0]}) (o:={cls:=.type "enumerate",data:=.fields #[.none,.bool false,.ref s1.heap.objs.size,rawInt 0,.none,.none]}) rfl
    rw[hz]at this
    exact this
   have hi:Heap.IsTupleIter ((s1.heap.push {cls:=.type "tuple_iterator",data:=.fields #[.ref a,.int 0 0]}).push {cls:=.type "enumerate",data:=.fields #[.none,.bool false,.ref s1.heap.objs.size,rawInt 0,.none,.none]}) s1.heap.objs.size a 0:=
    ⟨_,Heap.get?_push_of_some _ (Heap.get?_push_size _ rfl),rfl,rfl⟩
   exact⟨⟨_,he,rfl⟩,Cp (Jt X.prog X.w X.K) I1 he hi (λ b o e=>Heap.get?_push_of_some _ (Heap.get?_push_of_some _ e)) ⟨O1,_,S1,w,st1,ok1,nR _ λ O' H' cv=>⟨xs,(h1.conv cv).sq,q1.conv cv⟩⟩⟩
 | _=>exact w.elim
end
variable {Ω : Wd}
def Itb.enm(hm:Ω.mg "enumerate"=none)(a:Ex Ω):Itb Ω where
 lev:=a.lev
 chk top N nm tg e:=Eg tg&&jb e λ y es=>gG es λ b=>(y==("enumerate":Str))&&(glb nm "enumerate"&&(okE b&&a.chk top N nm b))
 wp Γ S W:=a.wp Γ S λ d S1=>match d with | .lst ds=>W (ds.mapIdx λ i d=>.tup [.int i,d]) S1 | .tup ds=>W (ds.mapIdx λ i d=>.tup [.int i,d]) S1 | _=>False
 sound:=by
  intro X r top N nm tg e Γ S W A hl hc hw
  obtain⟨h0,hc_1⟩:=aa hc
  obtain⟨ts,k,tp,rfl⟩:=BW h0
  obtain⟨y,p,es,pos,rfl,hc_2⟩:=eG hc_1
  obtain⟨b,rfl,hc_3⟩:=cg hc_2
  have hc:=hc_3
  . obtain⟨h1,h2⟩:=aa hc
    obtain⟨h2,h3⟩:=aa h2
    obtain⟨h3,h4⟩:=aa h3
    have e:=eq_of_beq h1
    subst e
    exact Mi (a.sound A hl h4 hw) (by rw[A.g];exact hm) (A.glb h2) (aL h3 [] _)
def Itb.zip(hm:Ω.mg "zip"=none)(a b:Ex Ω):Itb Ω where
 lev:=max a.lev b.lev
 chk top N nm tg e:=Eg tg&&jb e λ y es=>two2 es λ l r=>(y==("zip":Str))&&(glb nm "zip"&&((okE l&&okE r)&&(a.chk top N nm l&&b.chk top N nm r)))
 wp Γ S W:=a.wp Γ S λ d S1=>b.wp Γ S1 λ d' S2=>match d,d' with | .tup ds,.tup es=>W (List.zipWith (λ x y=>.tup [x,y]) ds es) S2 | _,_=>False
 sound:=by
  intro X r top N nm tg e Γ S W A hl hc hw
  obtain⟨l1,l2⟩:=lv2 hl
  obtain⟨h0,hc_1⟩:=aa hc
  obtain⟨ts,k,tp,rfl⟩:=BW h0
  obtain⟨y,p,es,pos,rfl,hc_2⟩:=eG hc_1
  obtain⟨l',r',rfl,hc_3⟩:=two2_of hc_2
  have hc:=hc_3
  . obtain⟨h1,h2⟩:=aa hc
    obtain⟨h2,h3⟩:=aa h2
    obtain⟨h3,h4⟩:=aa h3
    obtain⟨h5,h6⟩:=aa h3
    obtain⟨h7,h8⟩:=aa h4
    have e:=eq_of_beq h1
    subst e
    refine HS ((a.sound A l1 h7 hw).mono λ d S1 q=>(b.sound A l2 h8 q).mono λ d' S2 q=>?_) (by rw[A.g];exact hm) (A.glb h2) (aL h5 _ _) (aL h6 [] _)
    cases d<;>first | exact q.elim | (cases d'<;>first | exact⟨_,_,rfl,rfl,q⟩ | exact q.elim)
end RF
namespace RF
theorem ff{P:Prop}(h:false=true):P:=(y4 h).elim
theorem tf{P:Prop}(h:true=false):P:=(y4 h.symm).elim
open PySem PySem.Spec L2 DL
open PyProof.Rows
abbrev Cal(Ω:Wd)(x:Str)(k n:Nat)(F:Ct):Prop:=Callee Ω.P Ω.w Ω.K Ω.mg Ω.base x k n F
abbrev Ok(Ω:Wd)(k:Nat)(f:Addr)(fd:FuncData)(ps:List Str)(F:Ct):Prop:=FnOk Ω.P Ω.w Ω.K Ω.mg Ω.base CX0 k f fd ps (spC Ω.K ps.length F)
def qY:Ct:=λ ds S W=>∃ns,ds=[.lst (List.map .int ns)]/\ns.length≤63/\(∀S',W (.bl true) S')/\S=[]
theorem Qz{K:PySem.W.Frag}{H:Hp}{a:Addr}{ns:List Int}{E:XK}(hl:ns.length≤63)(hS:SqL K H a (ns.map V.int)):spC K 1 qY [.ref a] H (λ v _=>v=.bl true) E:=by
 refine⟨⟨[],[]⟩,[.lst (ns.map .int)],[],λ d _=>d=.bl true,rfl,.cons (.lst (xs:=ns.map V.int) ?_ (Reps.of_ints ns)) .nil,?_,⟨ns,rfl,hl,λ _=>rfl,rfl⟩,λ v H' q=>?_⟩
 . rcases hS with h | h
   . exact .inl ⟨λ z=>by rcases z with z | z<;>exact absurd (show a∈([]:List Addr)from z) (by simp),h⟩
   . exact .inr (.inr h)
 . exact⟨List.nodup_nil,rfl,λ k a ds e=>by simp at e,λ k a ds e=>by simp at e,λ a h=>absurd (show a∈([]:List Addr)from h) (by simp),λ a h=>absurd (show a∈([]:List Addr)from h) (by simp)⟩
 . obtain⟨O',d,S',w,_,_,r⟩:=q
   subst w
   cases r
   rfl
theorem walk{lev:Nat}{x:Str}{l:PySem.W.OpenLaw}{q:Program}{loose:List Str}{XP:(Str->Option Value)->Heap->Prop}{YP:World->Heap->Prop}{d:DefRec}{K:Params->PySem.W.Frag}(hn:l.most=some 63)(hdf:d.params.defaults=[])(hr:Room lev callerA)
 (hY:∀(w:World)(h:Heap),YP w h->(K w.params).In h)
 (F:∀(w:World)(mg:Str->Option Value)(fa:Addr)(h:Heap),(K w.params).In h->h.Ns mainGlobals mg->mg d.name=some (.ref fa)->
  ∃fd:FuncData,(∀(s:Shared)(u:Value),BindsTo s fd ⟨[u],[]⟩ [(x,u)])/\∀base:Heap,(K w.params).In base->base.Ns mainGlobals mg->FnOk l.prog w (K w.params) mg base CX0 lev fa fd [x] (spC (K w.params) 1 qY)):
 PySem.W.WalkO q loose XP YP l.row.toRowW d [] (λ f vs=>PySem.call f vs):=
 L2.walk_of (n:=63) (k:=lev) (x:=x) (CX:=λ _=>CX0) (sp:=λ w=>spC (K w.params) 1 qY) hn (by decide) hdf hr hY F (λ _ _ a ns hl _ hS=>Qz hl hS) λ _ _ _ _ _ z=>z
theorem Tg.mono{t:Tg}{d:D}{Γ:Gam}{W W':Gam->Prop}(h:t.wp d Γ W)(k:∀G,W G->W' G):t.wp d Γ W':=by
 cases t with
 | nm i=>exact k _ h
 | tup is=>
   cases d with
   | tup ds=>exact⟨h.1,k _ h.2⟩
   | _=>exact h.elim
section
variable {Ω : Wd} {cap : List (Option Nat)} {Γ : Gam} {elt : Ex Ω} {tg : Tg} {cd : Cd Ω} {W : WD} {ds : List D} {S1 : Store}
theorem cX(f:D->D)(hz:ds.length≤1000000)(h:∀(i:Nat)(d:D),ds[i]? =some d->∀Q:WD,Q (f d) S1->tg.wp d (capt cap Γ) λ Γ2=>elt.wp Γ2 S1 Q)(w:W (.lst (ds.map f)) S1):mW cap Γ elt tg (Cd.no (Ω:=Ω)) W ds S1:=by
 refine fW ⟨hz,λ i acc S'=>acc=(ds.take i).map f/\S'=S1,⟨rfl,rfl⟩,?_,?_⟩
 . rintro i d acc S' hd ⟨rfl,rfl⟩
   refine Tg.mono (h i d hd (λ y S4=>(ds.take i).map f++[y]=(ds.take (i+1)).map f/\S4=S') ⟨?_,rfl⟩) λ G q=>⟨λ _=>q,λ z=>tf z⟩
   rw[bA hd,List.map_append];rfl
 . rintro acc S' ⟨rfl,rfl⟩
   rw[List.take_length];exact w
theorem eY(P:Nat->D->Prop)(Q:Store->Prop)(hz:ds.length≤1000000)(q0:Q S1)(h:∀(i:Nat)(d:D)(S':Store),ds[i]? =some d->Q S'->∀R:WD,(∀y S4,P i y->Q S4->R y S4)->tg.wp d (capt cap Γ) λ Γ2=>elt.wp Γ2 S' R)
 (w:∀(ys:List D)(S':Store),ys.length=ds.length->(∀i y,ys[i]? =some y->P i y)->Q S'->W (.lst ys) S'):mW cap Γ elt tg (Cd.no (Ω:=Ω)) W ds S1:=by
 refine fW ⟨hz,λ i acc S'=>(acc.length=i/\∀j y,acc[j]? =some y->P j y)/\Q S',⟨⟨rfl,λ j y e=>by simp at e⟩,q0⟩,?_,λ acc S' h=>w acc S' h.1.1 h.1.2 h.2⟩
 rintro i d acc S' hd ⟨⟨hl,ha⟩,q⟩
 refine Tg.mono (h i d S' hd q (λ y S4=>((acc++[y]).length=i+1/\∀j y',(acc++[y])[j]? =some y'->P j y')/\Q S4) λ y S4 hy q4=>⟨⟨by simp[hl],λ j y' e=>?_⟩,q4⟩) λ G q=>⟨λ _=>q,λ z=>tf z⟩
 by_cases hj:j<acc.length
 . rw[x9 hj]at e;exact ha j y' e
 . rw[List.getElem?_append_right (by omega)]at e
   have:j-acc.length=0:=by
    have:=(z0.mp e).1
    simp at this;omega
   rw[this]at e
   simp at e
   subst e
   have:j=i:=by omega
   rw[this];exact hy
end
theorem bT{A B:Prop}(h:A):(true=true->A)/\(true=false->B):=⟨λ _=>h,λ z=>tf z⟩
theorem bF{A B:Prop}(h:B):(false=true->A)/\(false=false->B):=⟨λ z=>ff z,λ _=>h⟩
variable {W : WD}
mutual
theorem fZ{K:PySem.W.Frag}{O O':Own}{H:Hp}(h:∀a,¬O.has a->¬O'.has a):∀{v:V}{d:D},aB d=true->Rep K O H v d->Rep K O' H v d
 | _,_,_,.non=>.non
 | _,_,_,.bl b=>.bl b
 | _,_,_,.int i=>.int i
 | _,_,_,.str x=>.str x
 | _,_,n,.tup h1 r=>.tup ⟨h _ h1.1,h1.2⟩ (gB h (by simpa[aB]using n) r)
 | _,_,n,.lst h1 r=>.lst (h1.imp (λ q=>⟨h _ q.1,q.2⟩) id) (gB h (by simpa[aB]using n) r)
 | _,_,n,.loc _=>by simp[aB]at n
 | _,_,n,.dlo _ _=>by simp[aB]at n
 | _,_,_,.dic h1 e=>.dic (h _ h1) e
theorem gB{K:PySem.W.Frag}{O O':Own}{H:Hp}(h:∀a,¬O.has a->¬O'.has a):∀{vs:List V}{ds:List D},az ds=true->Reps K O H vs ds->Reps K O' H vs ds
 | _,_,_,.nil=>.nil
 | _,_,n,.cons r t=>by
   simp only[az,Bool.and_eq_true]at n
   exact .cons (fZ h n.1 r) (gB h n.2 t)
end
theorem Aj{K:PySem.W.Frag}{O O':Own}{H:Hp}(h:∀a,¬O.has a->¬O'.has a):∀{vs:List (List Key×V)}{ds:List D},az ds=true->Kps K O H vs ds->Kps K O' H vs ds
 | _,_,_,.nil=>.nil
 | _,_,n,.cons r t=>by
   simp only[az,aB,Bool.and_eq_true]at n
   exact .cons (fZ h n.1.2.1 r) (Aj h n.2 t)
theorem oG{K:PySem.W.Frag}{O O':Own}{H:Hp}(h:∀a,¬O.has a->¬O'.has a):∀{vs:Cy}{ds:List D},az ds=true->Kcs K O H vs ds->Kcs K O' H vs ds
 | _,_,_,.nil=>.nil
 | _,_,n,.cons e rk rv r t=>by
   simp only[az,aB,Bool.and_eq_true]at n
   exact .cons e (fZ h n.1.1 rk) rv (fZ h n.1.2.1 r) (oG h n.2 t)
theorem zf{K:PySem.W.Frag}{O O':Own}{H:Hp}(h:∀a,¬O.has a->¬O'.has a):∀{vs:Oy}{ds:List D},az ds=true->Kos K O H vs ds->Kos K O' H vs ds
 | _,_,_,.nil=>.nil
 | _,_,n,.cons e rv r t=>by
   simp only[az,aB,Bool.and_eq_true]at n
   exact .cons e rv (fZ h n.1.2.1 r) (zf h n.2 t)
theorem Hv{K:PySem.W.Frag}{O O':Own}{H:Hp}{a:Addr}{ds:List D}(h:∀a,¬O.has a->¬O'.has a)(n:az ds=true)(b:DOb K O H a ds):DOb K O' H a ds:=by
 cases b with
 | t kvs e r=>exact .t kvs e (Aj h n r)
 | c ys z e r=>exact .c ys z e (oG h n r)
 | o ys z e r=>exact .o ys z e (zf h n r)
 | m ys d' hd e r=>subst hd;exact .m ys d' rfl e (oG h (by simpa[az,aB]using n) r)
 | p ps z b l c y q k e hd g=>exact .p ps z b l c y q k e hd (g.imp id λ⟨g1,x,g2,g3,g4⟩=>⟨g1,x,g2,h _ g3,g4⟩)
def flat(S:Store):Prop:=∀l∈S,az l=true
theorem pD{A:List (Addr×Bool)}{n:Nat}{a:Addr}(h:a∈adr (A.take n)):a∈adr A:=by
 obtain⟨x,hx,rfl⟩:=List.mem_map.mp h
 exact List.mem_map.mpr ⟨x,List.mem_of_mem_take hx,rfl⟩
theorem Ag{K:PySem.W.Frag}{O O':Own}{H H':Hp}{S':Store}{J:List (List D)}(st:Step O O' H H')(ok:StOk K O' H' (S'++J))(hl:O.A.length≤S'.length)(hS:flat S'):
 Step O ⟨O'.A.take S'.length,O'.B⟩ H H'/\StOk K ⟨O'.A.take S'.length,O'.B⟩ H' S'/\(∀b,¬O'.has b->¬(⟨O'.A.take S'.length,O'.B⟩:Own).has b)/\∀j a,S'.length≤j->∀{q:Bool},O'.A[j]? =some (a,q)->¬(⟨O'.A.take S'.length,O'.B⟩:Own).has a:=by
 obtain⟨N,eA,fN⟩:=st.ext
 have len:O'.A.length=S'.length+J.length:=by have:=ok.len;simpa using this
 have sub:∀b,¬O'.has b->¬(⟨O'.A.take S'.length,O'.B⟩:Own).has b:=λ b hb z=>hb (z.imp pD id)
 have nd:(adr (O'.A.take S'.length)).Nodup:=by
  show(List.map _ (List.take _ _)).Nodup
  rw[List.map_take]
  exact ok.nd.sublist (List.take_sublist _ _)
 refine⟨⟨st.kept,st.dom,⟨N.take (S'.length-O.A.length),by
  show O'.A.take S'.length=_
  rw[eA,List.take_append,List.take_of_length_le (by omega)],λ b hb=>fN b (pD hb)⟩,st.hid⟩,⟨nd,by simp[len],λ k b es e1 e2=>?_,λ k b es e1 e2=>?_,λ b hb=>ok.apart b (pD hb),ok.hidden⟩,sub,λ j a hj q ha z=>?_⟩
 . have hk:k<S'.length:=(z0.mp e2).1
   have e1':(O'.A.take S'.length)[k]? =some (b,false):=e1
   rw[List.getElem?_take,if_pos hk]at e1'
   obtain⟨ys,hy,r'⟩:=ok.obj k b es e1' (by rw[x9 hk];exact e2)
   exact⟨ys,hy,gB sub (hS es (y3 e2)) r'⟩
 . have hk:k<S'.length:=(z0.mp e2).1
   have e1':(O'.A.take S'.length)[k]? =some (b,true):=e1
   rw[List.getElem?_take,if_pos hk]at e1'
   exact Hv sub (hS es (y3 e2)) (ok.dob k b es e1' (by rw[x9 hk];exact e2))
 . rcases z with z | z
   . obtain⟨⟨a',q'⟩,hm,rfl⟩:=List.mem_map.mp z
     obtain⟨i,hi⟩:=List.getElem?_of_mem hm
     rw[List.getElem?_take]at hi
     split at hi
     . rename_i hlt
       exact Dh ok.nd hi ha (by omega) rfl
     . cases hi
   . exact ok.apart a (gA ha) z
def Frz(n:Nat)(W:WD):WD:=λ d S1=>W d S1∨∃ds S',d=.loc S'.length/\S1=S'++[ds]/\n≤S'.length/\az ds=true/\flat S'/\W (.lst ds) S'
theorem QG.frz{K:PySem.W.Frag}{O:Own}{H H':Hp}{v:V}{n:Nat}(hn:O.A.length=n)(q:QG K O H (Frz n W) v H'):QG K O H W v H':=by
 obtain⟨O',d,S1,w,st,ok,r⟩:=q
 rcases w with w | ⟨ds,S',rfl,rfl,hl,hd,hS,w⟩
 . exact⟨O',d,S1,w,st,ok,r⟩
 . obtain⟨st2,ok2,sub,na⟩:=Ag st ok (by omega) hS
   cases r with
   | @loc a _ ha=>
     obtain⟨xs,hx,q1⟩:=ok.obj S'.length a ds ha (by simp)
     exact⟨_,.lst ds,S',w,st2,ok2,.lst (.inl ⟨na _ a (y8 _) ha,.inl hx⟩) (gB sub hd q1)⟩
theorem Mh{X:Cx}{Γ:Gam}{S:Store}{sts:List Stmt}{W:DL.Fin}(h:Rns X Γ S sts {W with rt:=Frz S.length W.rt}):Rns X Γ S sts W:=λ pins s σ H O I env ok=>
 thn (h pins s σ H O I env ok) λ f s' q=>by
  cases f with
  | next=>exact q
  | brk=>exact q
  | cont=>exact q
  | ret u=>obtain⟨v,σ',H',I',r,q⟩:=q;exact⟨v,σ',H',I',r,QG.frz ok.len q⟩
variable {Ω : Wd}
def Bl.frz(b:Bl Ω):Bl Ω where
 lev:=b.lev
 chk:=b.chk
 wp Γ S W:=b.wp Γ S {W with rt:=Frz S.length W.rt}
 sound:=by
  intro X r top N nm sts Γ S W A hl hc hw
  exact Mh (b.sound A hl hc hw)
def hand(W:WD)(ds:List D)(S:Store):Prop:=W (.lst ds) S∨W (.loc S.length) (S++[ds])
theorem z6{ds:List D}{S:Store}(h:hand W ds S)(hd:az ds=true)(hS:flat S):Frz S.length W (.loc S.length) (S++[ds]):=by
 rcases h with h | h
 . exact .inr ⟨ds,S,rfl,rfl,y8 _,hd,hS,h⟩
 . exact .inl h
theorem GJ{X:Cx}{Γ:Gam}{S:Store}{o e:Expr}{apos cpos:Pos}(h:Ev X Γ S o λ x S1=>∃k,x=.loc k/\Ev X Γ S1 e λ d S2=>∃ds,S2[k]? =some ds/\ds.length<1000000/\W .non (S2.set k (ds++[d])))
 (hbase:attributeBase o "append" X.env (eval o X.env)=eval o X.env)(hs:starEach [e] X.env=[(false,eval e X.env)])(hline:(apos.endLine==cpos.line)=true):Ev X Γ S (.Call (.Attribute o "append" apos) [e] [] cpos) W:=by
 intro pins s σ H O I env st
 have hty:∀(O1:Own)(x:D)(v:V)(H1:Hp)(S1:Store),(∃k,x=.loc k)->StOk X.K O1 H1 S1->Rep X.K O1 H1 v x->tyV X.K "list" v H1:=by
  rintro O1 x v H1 S1 ⟨k,rfl⟩ ok r
  cases r with
  | @loc a _ ha=>
    have hl:k<S1.length:=by rw[←ok.len];exact(z0.mp ha).1
    obtain⟨xs,hx,_⟩:=ok.obj k a S1[k] ha (y0 hl)
    exact .inl ⟨rfl,xs,SqL.of hx⟩
 have hA:PA X [e] (λ σ H Q=>∃O Γ S W',EnvOk X.K O H σ Γ/\StOk X.K O H S/\Ev X Γ S e W'/\∀v H',QG X.K O H W' v H'->Q [v] H'):=by
  rintro pos pins s σ H Q I ⟨O,Γ,S,W',env,st,he,k⟩
  rw[hs]
  show wpAny _ _ (spliced ((false,eval e X.env)::backTo pos (starEach [] X.env))) _ _ s
  refine Calls.spliced_cons (thn (he pins s σ H O I env st) λ u s1 hq_=>?_)
  obtain⟨v,H1,I1,r1,q⟩:=hq_
  exact Calls.spliced_nil ⟨[v],H1,I1,.cons r1 .nil,k v H1 q⟩
 refine yg (T:="list") PySem.F.plainAttrs_list PySem.F.slot_list_append PySem.F.type_list_append v9 (h.pe) hA hbase (by rw[hs];rfl) hline hs rfl pins s σ H _ I ⟨O,env,st,λ v H' q=>?_⟩
 obtain⟨O1,x,S1,⟨k,rfl,he⟩,st1,ok1,rep1⟩:=q
 refine⟨hty O1 _ v H' S1 ⟨k,rfl⟩ ok1 rep1,O1,Γ,S1,_,env.mono st1,ok1,he,λ v2 H2 q2=>?_⟩
 obtain⟨O2,d,S2,⟨ds,hk,hz,w⟩,st2,ok2,rep2⟩:=q2
 have r:=rep1.mono st2
 cases r with
 | @loc a _ ha=>
   obtain⟨xs,hx,q1⟩:=ok2.obj k a ds ha hk
   exact⟨a,xs,v2,rfl,rfl,hx,by rw[q1.length];exact w9 hz (by decide),O2,.non,_,w,(st1.trans st2).trans (Step.put (gA ha) _),ok2.put ha (q1.append (.cons rep2 .nil)),.non⟩
def nameE:Expr->Bool
 | .Name .. =>true
 | _=>false
def Ex.m_append(o a:Ex Ω):Ex Ω where
 lev:=max o.lev a.lev
 chk top N nm e:=match e with | .Call (.Attribute x m p) [y] [] q=>(m==("append":Str))&&(nameE x&&((p.endLine==q.line)&&(okE y&&(o.chk top N nm x&&a.chk top N nm y)))) | _=>false
 wp Γ S W:=o.wp Γ S λ x S1=>match x with | .loc k=>a.wp Γ S1 λ d S2=>∃ds,S2[k]? =some ds/\ds.length<1000000/\W .non (S2.set k (ds++[d])) | _=>False
 sound:=by
  intro X r top N nm e Γ S W A hl hc hw
  obtain⟨l1,l2⟩:=lv2 hl
  split at hc
  . rename_i x m p y q
    obtain⟨h1,g⟩:=aa hc
    obtain⟨h2,g⟩:=aa g
    obtain⟨h3,g⟩:=aa g
    obtain⟨h4,g⟩:=aa g
    obtain⟨h5,h6⟩:=aa g
    have e:=eq_of_beq h1
    subst e
    refine GJ ((o.sound A l1 h5 hw).mono λ x S1 q=>?_) ?_ (aL h4 [] _) h3
    . cases x<;>first | exact q.elim | exact⟨_,rfl,a.sound A l2 h6 q⟩
    . cases x<;>first | rfl | exact ff h2
  . exact ff hc
def Sm.never:Sm Ω where
 lev:=0
 chk _ _ _ st:=match st with | .Raise _ _ _=>true | _=>false
 wp _ _ _:=False
 sound:=λ _ _ _ h=>h.elim
theorem aM(S:Store)(x:List D):(S++[x])[S.length]? =some x:=by simp
theorem dh(S:Store)(x y:List D):(S++[x]).set S.length y=S++[y]:=by simp
theorem cR{α β:Type}{xs:List α}{f:α->β}{i:Nat}{e:β}(h:(xs.map f)[i]? =some e):∃x,xs[i]? =some x/\e=f x:=by
 rw[y7]at h
 cases e1:xs[i]? with
 | none=>rw[e1]at h;cases h
 | some x=>rw[e1]at h;cases h;exact⟨x,rfl,rfl⟩
theorem bK{cap:List (Option Nat)}{Γ:Gam}{elt:Ex Ω}{tg:Tg}{S1:Store}{α:Type}{xs:List α}{enc:α->D}(f:α->D)(hz:xs.length≤1000000)(h:∀(i:Nat)(x:α),xs[i]? =some x->∀Q:WD,Q (f x) S1->tg.wp (enc x) (capt cap Γ) λ Γ2=>elt.wp Γ2 S1 Q)
 (w:W (.lst (xs.map f)) S1):mW cap Γ elt tg (Cd.no (Ω:=Ω)) W (xs.map enc) S1:=by
 refine fW ⟨by rw[y6];exact hz,λ i acc S'=>acc=(xs.take i).map f/\S'=S1,⟨rfl,rfl⟩,?_,?_⟩
 . rintro i d acc S' hd ⟨rfl,rfl⟩
   obtain⟨x,hx,rfl⟩:=cR hd
   refine Tg.mono (h i x hx (λ y S4=>(xs.take i).map f++[y]=(xs.take (i+1)).map f/\S4=S') ⟨?_,rfl⟩) λ G q=>⟨λ _=>q,λ z=>tf z⟩
   rw[bA hx,List.map_append];rfl
 . rintro acc S' ⟨rfl,rfl⟩
   rw[y6,List.take_length];exact w
theorem wM1{i j:Int}{P:Prop}(h:L2.CMul i j)(p:P):L2.CMul i j/\P:=⟨h,p⟩
theorem wM2{i j:Int}{P:Prop}(h:L2.CPow i j)(p:P):L2.CPow i j/\P:=⟨h,p⟩
theorem wM3{i j:Int}{P:Prop}(h:0<i/\i<j)(p:P):(0<i/\i<j)/\P:=⟨h,p⟩
theorem wM5{α:Type}{l:List α}{P:Prop}(h:l.length≤1000000)(p:P):l.length≤1000000/\P:=⟨h,p⟩
theorem wM6{α β:Type}{l:List α}{k:List β}{P:Prop}(h:l.length+k.length≤1000000)(p:P):l.length+k.length≤1000000/\P:=⟨h,p⟩
theorem wM9{n:Int}{ds:List D}{d:D}{Q:D->Prop}(g:L2.atI ds n=some d)(q:Q d):∃d,L2.atI ds n=some d/\Q d:=⟨d,g,q⟩
end RF
namespace RF
open PySem PySem.Spec L2 DL
open PyProof.Rows
theorem En{K:PySem.W.Frag}{O:Own}{H:Hp}{a:Addr}{k:Nat}{ds:List D}(h:O.A[k]? =some (a,false)):uo K (Itl K a) O H (λ S=>S[k]? =some ds) ds:=by
 intro O' H' S' st ok hS i
 have h':O'.A[k]? =some (a,false):=st.lc k _ h
 obtain⟨xs,hx,r⟩:=ok.obj k a ds h' hS
 have hq:SqL K H' a xs:=SqL.of hx
 refine⟨λ d hd=>?_,λ hi=>⟨xs,hq,by rw[r.length];exact Nat.le_of_eq hi.symm⟩⟩
 obtain⟨v,hv,rv⟩:=r.get hd
 refine⟨⟨xs,v,hq,hv⟩,λ x H'' y=>?_⟩
 obtain⟨e,y⟩:=y
 subst e
 have e:=y xs hq
 rw[hv]at e
 cases e
 exact⟨dG.refl _,rv⟩
abbrev itC(W:List D->(Store->Prop)->Store->Prop):WD:=λ d S1=>match d with
 | .lst ds=>W ds (λ _=>True) S1
 | .tup ds=>W ds (λ _=>True) S1
 | .loc k=>∃ds,S1[k]? =some ds/\W ds (λ S=>S[k]? =some ds) S1
 | _=>False
theorem Qi{X:Cx}{Γ:Gam}{S:Store}{tg e:Expr}{W:List D->(Store->Prop)->Store->Prop}(h:Ev X Γ S e (itC W)):ItC X Γ S tg e W:=by
 intro pins s σ H O I env st
 refine thn (h pins s σ H O I env st) λ u s1 hq_=>?_
 obtain⟨v,H1,I1,r1,O1,d,S1,w,st1,ok1,rep⟩:=hq_
 cases rep with
 | @lst a xs ds h1 q1=>
   cases r1
   obtain⟨its,rv,p,hz⟩:=I1.list h1.sq
   refine wpAny_pyIter_list p.isList ?_
   refine⟨s1.heap.objs.size,[s1.heap.objs.size],_,_,H1,rfl,I1.kept (t':=s1.toks) λ b o e=>Heap.get?_push_of_some _ e,mK a _,⟨_,Heap.get?_push_size _ rfl,rfl,rfl⟩,λ b hb=>?_,O1,ds,_,S1,w,st1,ok1,pL (nO h1 q1)⟩
   have e:b=s1.heap.objs.size:=by simpa using hb
   subst e
   exact I1.fpOk (y8 _) (I1.hok.fresh (y8 _))
 | @tup a xs ds h1 q1=>
   cases r1
   obtain⟨its,rv,p,hz⟩:=I1.tuple h1.sq
   refine wpAny_pyIter_tuple (show s1.heap.IsTuple a its.toArray from p) ?_
   refine⟨s1.heap.objs.size,[s1.heap.objs.size],_,_,H1,rfl,I1.kept (t':=s1.toks) λ b o e=>Heap.get?_push_of_some _ e,qN a _,⟨_,Heap.get?_push_size _ rfl,rfl,rfl⟩,λ b hb=>?_,O1,ds,_,S1,w,st1,ok1,pL (rZ h1 q1)⟩
   have e:b=s1.heap.objs.size:=by simpa using hb
   subst e
   exact I1.fpOk (y8 _) (I1.hok.fresh (y8 _))
 | @loc a k h1=>
   cases r1
   obtain⟨ds,hk,w⟩:=w
   obtain⟨xs,hx,q1⟩:=ok1.obj k a ds h1 hk
   obtain⟨its,rv,p,hz⟩:=I1.list (SqL.of hx)
   refine wpAny_pyIter_list p.isList ?_
   refine⟨s1.heap.objs.size,[s1.heap.objs.size],_,_,H1,rfl,I1.kept (t':=s1.toks) λ b o e=>Heap.get?_push_of_some _ e,mK a _,⟨_,Heap.get?_push_size _ rfl,rfl,rfl⟩,λ b hb=>?_,O1,ds,_,S1,w,st1,ok1,En h1⟩
   have e:b=s1.heap.objs.size:=by simpa using hb
   subst e
   exact I1.fpOk (y8 _) (I1.hok.fresh (y8 _))
 | _=>exact w.elim
theorem NK{X:Cx}{Γ:Gam}{S:Store}{W:DL.Fin}{pos:Pos}{tg iter:Expr}{body:List Stmt}(h:ItC X Γ S tg iter λ ds C S1=>∃Pv:Nat->Gam->Store->Prop,Pv 0 Γ S1/\(∀i Γ' S',Pv i Γ' S'->C S')/\
 (∀i d Γ' S',ds[i]? =some d->Pv i Γ' S'->BdW X tg d Γ' S' λ Γ2 S2=>Rns X Γ2 S2 body {W with nx:=Pv (i+1),ct:=Pv (i+1),bk:=W.nx})/\(∀Γ' S',Pv ds.length Γ' S'->W.nx Γ' S'))
 (hp:PassesOwn (model X.prog X.w) X.A X.env X.xe)(hc:X.calm=true)(hs:∀x,foldedSetIterable iter X.env x=pure x):Rn X Γ S (.For tg iter body [] pos) W:=by
 intro pins s σ H O I env ok
 let WI:List D->(Store->Prop)->Store->Prop:=λ ds C S1=>∃Pv:Nat->Gam->Store->Prop,Pv 0 Γ S1/\(∀i Γ' S',Pv i Γ' S'->C S')/\
     (∀i d Γ' S',ds[i]? =some d->Pv i Γ' S'->BdW X tg d Γ' S' λ Γ2 S2=>Rns X Γ2 S2 body {W with nx:=Pv (i+1),ct:=Pv (i+1),bk:=W.nx})/\(∀Γ' S',Pv ds.length Γ' S'->W.nx Γ' S')
 have hI:PI X tg iter (λ σ H R=>∃O,EnvOk X.K O H σ Γ/\StOk X.K O H S/\∀J H',QIc X.K O H WI J H'->R J H'):=λ pins s σ H R I hh=>by
  obtain⟨O,env,st,k⟩:=hh
  refine thn (h pins s σ H O I env st) λ _ _ q=>thn q λ _ _ q2=>?_
  obtain⟨it,fp,tn,J,H',e1,e2,e3,e4,e5,e6⟩:=q2
  exact⟨it,fp,tn,J,H',e1,e2,e3,e4,e5,k J H' e6⟩
 have hG:PG X tg (λ v σ H Q=>∃O d Γ S W',EnvOk X.K O H σ Γ/\StOk X.K O H S/\Rep X.K O H v d/\BdW X tg d Γ S W'/\∀σ' H',QN X.K O H W' σ' H'->Q σ' H'):=λ pins s σ H v u Q I ru hh=>by
  obtain⟨O,d,Γ,S,W',env,st,r,b,k⟩:=hh
  refine thn (b pins s σ H O v u I env st r ru) λ _ _ q2=>?_
  obtain⟨σ',H',I',q⟩:=q2
  exact⟨σ',H',I',k σ' H' q⟩
 have hB:PSs X body (λ D σ H=>∃O Γ S W',EnvOk X.K O H σ Γ/\StOk X.K O H S/\Rns X Γ S body W'/\(∀σ' H',QN X.K O H W'.nx σ' H'->D.nx σ' H')/\(∀v H',QG X.K O H W'.rt v H'->D.rt v H')/\(∀σ' H',QN X.K O H W'.bk σ' H'->D.bk σ' H')/\∀σ' H',QN X.K O H W'.ct σ' H'->D.ct σ' H'):=
  λ pins s σ H D I hh=>by
   obtain⟨O,Γ,S,W',env,st,b,k1,k2,k3,k4⟩:=hh
   refine thn (b pins s σ H O I env st) λ f s' q=>?_
   cases f with
   | next=>obtain⟨σ',H',I',q⟩:=q;exact⟨σ',H',I',k1 σ' H' q⟩
   | brk=>obtain⟨σ',H',I',q⟩:=q;exact⟨σ',H',I',k3 σ' H' q⟩
   | cont=>obtain⟨σ',H',I',q⟩:=q;exact⟨σ',H',I',k4 σ' H' q⟩
   | ret u=>obtain⟨v,σ',H',I',r,q⟩:=q;exact⟨v,σ',H',I',r,k2 v H' q⟩
 refine Hs hp hc hI hG hB hs pins s σ H _ I ⟨O,env,ok,λ J H1 q=>?_⟩
 obtain⟨O1,ds,C,S1,⟨Pv,p0,pC,pt,pe⟩,st1,ok1,yl⟩:=q
 refine⟨λ i m σ' H'=>m=ds.length-i/\i≤ds.length/\∃O' Γ' S',Pv i Γ' S'/\Step O1 O' H1 H'/\StOk X.K O' H' S'/\EnvOk X.K O' H' σ' Γ',⟨ds.length,by simp,Nat.zero_le _,O1,Γ,S1,p0,Step.refl _ _,ok1,env.mono st1⟩,?_⟩
 rintro i m σ2 H2 ⟨rfl,hi,O2,Γ2,S2,p2,st2,ok2,env2⟩
 obtain⟨y1,y2⟩:=yl O2 H2 S2 st2.conv ok2 (pC _ _ _ p2) i
 by_cases hlt:i<ds.length
 . obtain⟨go,yy⟩:=y1 ds[i] (y0 hlt)
   refine .inr ⟨go,λ σ' H'=>i+1≤ds.length/\∃O' Γ' S',Pv (i+1) Γ' S'/\Step O1 O' H1 H'/\StOk X.K O' H' S'/\EnvOk X.K O' H' σ' Γ',λ σ' H' q=>⟨ds.length-(i+1),by omega,rfl,q.1,q.2⟩,λ x H3 y=>?_⟩
   obtain⟨sm,rx⟩:=yy x H3 y
   have st3:=Step.same (O:=O2) sm
   refine⟨O2,ds[i],Γ2,S2,_,env2.mono st3,ok2.same sm,rx,pt i ds[i] Γ2 S2 (y0 hlt) p2,λ σ4 H4 q4=>?_⟩
   obtain⟨O4,Γ4,S4,w4,st4,ok4,env4⟩:=q4
   have stA:=(st2.trans st3).trans st4
   refine⟨O4,Γ4,S4,_,env4,ok4,w4,?_,?_,?_,?_⟩
   . rintro σ5 H5 ⟨O5,Γ5,S5,w5,st5,ok5,env5⟩
     exact⟨hlt,O5,Γ5,S5,w5,stA.trans st5,ok5,env5⟩
   . exact λ v H' q=>QG.pre (st1.trans stA) q
   . exact λ σ' H' q=>QN.pre (st1.trans stA) q
   . rintro σ5 H5 ⟨O5,Γ5,S5,w5,st5,ok5,env5⟩
     exact⟨hlt,O5,Γ5,S5,w5,stA.trans st5,ok5,env5⟩
 . have e:i=ds.length:=by omega
   subst e
   exact .inl ⟨y2 rfl,O2,Γ2,S2,pe Γ2 S2 p2,st1.trans st2,ok2,env2⟩
section
variable {Ω : Wd}
@[irreducible] noncomputable def Ed(Γ:Gam)(tg:Tg)(body:Bl Ω)(W:DL.Fin)(k:Nat)(ds:List D)(S1:Store):Prop:=
  ∃Pv:Nat->Gam->Store->Prop,Pv 0 Γ S1/\(∀i Γ' S',Pv i Γ' S'->S'[k]? =some ds)/\(∀i d Γ' S',ds[i]? =some d->Pv i Γ' S'->tg.wp d Γ' λ Γ2=>body.wp Γ2 S' {W with nx:=Pv (i+1),ct:=Pv (i+1),bk:=W.nx})/\(∀Γ' S',Pv ds.length Γ' S'->W.nx Γ' S')
theorem Kr{Γ:Gam}{tg:Tg}{body:Bl Ω}{W:DL.Fin}{k:Nat}{ds:List D}{S1:Store}(h:∃Pv:Nat->Gam->Store->Prop,Pv 0 Γ S1/\(∀i Γ' S',Pv i Γ' S'->S'[k]? =some ds)/\(∀i d Γ' S',ds[i]? =some d->Pv i Γ' S'->tg.wp d Γ' λ Γ2=>body.wp Γ2 S' {W with nx:=Pv (i+1),ct:=Pv (i+1),bk:=W.nx})/\(∀Γ' S',Pv ds.length Γ' S'->W.nx Γ' S')):Ed Γ tg body W k ds S1:=by unfold Ed;exact h
def Sm.forL(tg:Tg)(it:Ex Ω)(body:Bl Ω):Sm Ω where
 lev:=max it.lev body.lev
 chk top N nm st:=match st with | .For t i b [] _=>okE i&&(tg.chk top N nm t&&(it.chk top N nm i&&body.chk top N nm b)) | _=>false
 wp Γ S W:=it.wp Γ S λ d S1=>match d with
  | .lst ds=>jq Γ tg body W ds S1
  | .tup ds=>jq Γ tg body W ds S1
  | .loc k=>∃ds,S1[k]? =some ds/\Ed Γ tg body W k ds S1
  | _=>False
 sound:=by
  intro X r top N nm st Γ S W A hl hc hw
  obtain⟨l1,l2⟩:=lv2 hl
  split at hc
  . rename_i t i b pos
    obtain⟨h1,hc⟩:=aa hc
    obtain⟨h2,hc⟩:=aa hc
    obtain⟨h3,h4⟩:=aa hc
    have step:∀(Pv:Nat->Gam->Store->Prop)(ds:List D),(∀i d Γ' S',ds[i]? =some d->Pv i Γ' S'->tg.wp d Γ' λ Γ2=>body.wp Γ2 S' {W with nx:=Pv (i+1),ct:=Pv (i+1),bk:=W.nx})->∀i d Γ' S',ds[i]? =some d->Pv i Γ' S'->BdW X t d Γ' S' λ Γ2 S2=>Rns X Γ2 S2 b {W with nx:=Pv (i+1),ct:=Pv (i+1),bk:=W.nx}:=
     λ Pv ds pt i d Γ' S' hd hp=>BdW.mono (Tg.sound A (W:=λ Γ2 S2=>body.wp Γ2 S2 {W with nx:=Pv (i+1),ct:=Pv (i+1),bk:=W.nx}) h2 (pt i d Γ' S' hd hp)) λ Γ2 S2 q=>body.sound A l2 h4 q
    refine NK (Qi (Ev.mono (it.sound A l1 h3 hw) λ d S1 q=>?_)) (by rw[A.xe];exact PassesOwn.never) A.calm (nA h1 _)
    cases d with
    | lst ds=>
      have q:jq Γ tg body W ds S1:=q
      unfold jq at q
      obtain⟨Pv,p0,pt,pe⟩:=q
      exact⟨Pv,p0,λ _ _ _ _=>trivial,step Pv ds pt,pe⟩
    | tup ds=>
      have q:jq Γ tg body W ds S1:=q
      unfold jq at q
      obtain⟨Pv,p0,pt,pe⟩:=q
      exact⟨Pv,p0,λ _ _ _ _=>trivial,step Pv ds pt,pe⟩
    | loc k=>
      obtain⟨ds,hk,q⟩:=q
      unfold Ed at q
      obtain⟨Pv,p0,pC,pt,pe⟩:=q
      exact⟨ds,hk,Pv,p0,pC,step Pv ds pt,pe⟩
    | _=>exact(show False from q).elim
  . exact fE hc
end
theorem Ia{P:Program}{w:World}{K:PySem.W.Frag}{mg:Str->Option Value}{base:Heap}{CX:CXT}{k n:Nat}{f:Addr}{fd:FuncData}{ps:List Str}{F:Ct}(h:∀ds S W,F ds S W->False):FnOk P w K mg base CX k f fd ps (spC K n F):=
 ⟨λ _ _ _ _ ⟨_,_,_,_,_,_,_,q,_⟩=>(h _ _ _ q).elim,λ _ _ _ _ _ _ _ _ _ _ _ _ _ ⟨_,_,_,_,_,_,_,q,_⟩=>(h _ _ _ q).elim⟩
variable {ds : List D}
def dI(S:Store):D->Option (List D)
 | .lst ds=>some ds
 | .loc k=>S[k]?
 | _=>none
def putL(own:Bool)(W:WD)(ds:List D)(S:Store):Prop:=match own with
 | true=>W (.loc S.length) (S++[ds])
 | false=>W (.lst ds) S
section
variable {X : Cx} {S : Store} {W : WD}
theorem rD{pins:Pins}{s:Shared}{σ:DL.St}{H:Hp}{O:Own}{v:V}{d:D}(st:StOk X.K O H S)(r:Rep X.K O H v d)(h:dI S d=some ds):∃a xs,v=.ref a/\SqL X.K H a xs/\Reps X.K O H xs ds:=by
 cases r with
 | @lst a xs _ h1 q1=>cases h;exact⟨a,xs,rfl,h1.sq,q1⟩
 | @loc a k h1=>
   obtain⟨xs,hx,q1⟩:=st.obj k a ds h1 h
   exact⟨a,xs,rfl,SqL.of hx,q1⟩
 | _=>cases h
theorem Hk{own:Bool}{K:PySem.W.Frag}{O:Own}{H:Hp}{p:Addr}{xs:List V}(w:putL own W ds S)(st:StOk K O H S)(h:H p=none)(r:Reps K O H xs ds):QG K O H W (.ref p) (upd H p (.lst xs)):=by
 cases own with
 | true=>exact qz w st h r
 | false=>exact jw w st h r
theorem Pq{own:Bool}{x y:D}{es:List D}(hx:dI S x=some ds)(hy:dI S y=some es)(hz:ds.length+es.length≤1000000)(w:putL own W (ds++es) S):dj X .Add x y S W:=by
 intro pins s σ H O v w' u u' I st r1 r2 r3 r4
 obtain⟨a,xs,rfl,h1,q1⟩:=rD (pins:=pins) (s:=s) (σ:=σ) st r1 hx
 obtain⟨b,ys,rfl,h2,q2⟩:=rD (pins:=pins) (s:=s) (σ:=σ) st r2 hy
 cases r3
 cases r4
 obtain⟨its,v1,p1,_⟩:=I.list h1
 obtain⟨its2,v2,p2,_⟩:=I.list h2
 obtain⟨⟨cls,dd,data,sl⟩,n,ho,hc,hdd,hd⟩:=id p1
 obtain⟨⟨cls2,dd2,data2,sl2⟩,n2,ho2,hc2,hdd2,hd2⟩:=id p2
 simp only at hc hd hc2 hd2
 subst hc hd hc2 hd2
 have z:its.length+its2.length≤sizeLine:=by rw[←v1.length,←v2.length,q1.length,q2.length];exact small hz
 refine concat_meets ⟨_,ho,rfl⟩ ⟨_,ho2,rfl⟩ noFill_list_add seq_list_add PySem.F.slot_list_add PySem.F.entry_list_add (PySem.F.args_list_add_2 _ _)
  (list_addW a b its.toArray its2.toArray n n2 dd dd2 sl sl2 (by simpa using z)) ⟨ho,ho2,?_⟩
 have ea:its.toArray++its2.toArray=(its++its2).toArray:=by simp
 rw[ea]
 exact⟨.ref s.heap.objs.size,_,I.lnew (t':=s.toks) (v1.append v2) (by rw[x8,q1.length,q2.length];exact small hz),rfl,Hk w st I.fresh (q1.append q2)⟩
theorem Qc{own:Bool}{x:D}{k:Int}(hx:dI S x=some ds)(hk: -(2 ^ 63)≤k/\k<2 ^ 63)(hz:ds.length*k.toNat≤1000000)(w:putL own W (List.replicate k.toNat ds).flatten S):dj X .Mult x (.int k) S W:=by
 intro pins s σ H O v w' u u' I st r1 r2 r3 r4
 obtain⟨a,xs,rfl,h1,q1⟩:=rD (pins:=pins) (s:=s) (σ:=σ) st r1 hx
 cases r2
 cases r3
 obtain⟨t,rfl⟩:=r4
 obtain⟨its,v1,p1,_⟩:=I.list h1
 obtain⟨⟨cls,dd,data,sl⟩,n,ho,hc,hdd,hd⟩:=id p1
 simp only at hc hd
 subst hc hd
 have l1:its.length=ds.length:=by rw[←v1.length,q1.length]
 have big:its.length*k.toNat≤1000000:=by rw[l1];exact hz
 have sz:(1000000:Nat)≤sizeLine:=by decide
 refine PySem.wpAny_binaryOp_repeat_ref (T:="list") (U:="int") (by decide) ⟨_,ho,rfl⟩ (λ s'=>typeIs_int s' k t) PySem.noFill_list_mul F.fills_int_mul F.slot_int_rmul PySem.repeat_list F.slot_int_index.lookup
  (call_meets F.slot_int_rmul (typeIs_int s k t) F.entry_int_rmul (F.args_int_rmul_2 _ _) (PySem.lm_int_rmul_list_any k t a its.toArray n dd sl) ⟨ho,rfl,⟨_,ho,rfl⟩,?_⟩)
 refine call_meets F.slot_list_mul ⟨_,ho,rfl⟩ F.entry_list_mul (F.args_list_mul_2 _ _) (PySem.lm_list_mul_any a its.toArray n dd sl k t ?_ ?_ ?_) ⟨ho,?_⟩
 . have c1:Builtin.List.listFitsIndex k=true:=by
    unfold Builtin.List.listFitsIndex
    rw[decide_eq_true (by omega),decide_eq_true (by omega)];rfl
   rw[c1];decide
 . rw[x5];omega
 . rw[x5]
   unfold Builtin.List.listTooLong
   rw[decide_eq_true_eq];omega
 . have ez:(List.replicate (if its.toArray.isEmpty=true then 0 else k.toNat) its.toArray).foldl (λ x1 x2=>x1++x2) #[]=(List.replicate k.toNat its).flatten.toArray:=by
    have fz:∀m:Nat,(List.replicate m its.toArray).foldl (λ x1 x2=>x1++x2) #[]=(List.replicate m its).flatten.toArray:=λ m=>by
     have:=foldl_rep its m []
     rw[List.nil_append]at this
     exact this
    rw[fz]
    by_cases e:its=[]
    . subst e;simp
    . have:its.toArray.isEmpty=false:=by simpa using e
      rw[this];rfl
   rw[ez]
   exact⟨.ref s.heap.objs.size,_,I.lnew (t':=s.toks) (v1.rep _) (by rw[len_rep,q1.length,Nat.mul_comm];exact small hz),rfl,Hk w st I.fresh (Reps.rep q1 _)⟩
theorem Qn{ns:List Int}(w:W (.int ns.sum) S)(hc:X.calm=true):cB X (.builtin "sum") [.tup (ns.map .int)] S W:=by
 intro pins s σ H O vs us I st r ru
 obtain⟨v,rfl,r'⟩:=gj r
 obtain⟨u,rfl,ru'⟩:=vals1 ru
 cases r' with
 | @tup a xs _ h1 q1=>
   cases ru'
   obtain⟨its,rv,pl,hz⟩:=I.tuple h1.sq
   have ex:=q1.ints
   subst ex
   have hi:IntsAre its ns:=intsAre_of rv
   obtain⟨zs,ez⟩:=hi.allInts.items
   have hT:s.heap.IsTuple a its.toArray:=pl
   rw[ez]at hT
   have hlt:a<s.heap.objs.size:=by obtain⟨_,e,_⟩:=hT;exact Heap.lt_size e
   refine call_sum_walkG (wpAny_pyIter_tuple hT ?_)
   refine⟨_,_,_,_,_,_,numAt zs,rfl,Walks.tuple (A:=X.A.in1) (I.ok.hd hc) _ a (v3 hlt) (intItems zs),⟨⟨_,Heap.get?_push_size _ rfl,rfl,rfl⟩,hT.push _⟩,(λ b hb=>?_),(λ _ _=>intItems_at),λ h' tk t' hk=>?_⟩
   . show b<(s.heap.push _).objs.size
     rw[Heap.size_push]
     rcases List.mem_cons.mp hb with rfl | hb
     . exact Nat.lt_succ_self _
     . rcases List.mem_cons.mp hb with rfl | hb
       . exact Nat.lt_succ_of_lt hlt
       . cases hb
   . have e:preSum (numAt zs) (intItems zs).size=ns.sum:=by
      rw[show(intItems zs).size=zs.size by simp[intItems],preSum_eq,List.take_of_length_le (by simp),←nums_intItems,←ez]
      exact congrArg List.sum hi.numsOf
     rw[e]
     refine⟨.int _,H,I.kept (λ b o q=>hk b o (λ z=>?_) (Heap.get?_push_of_some _ q)),⟨_,rfl⟩,QG.here w st (.int _)⟩
     have z':b=s.heap.objs.size:=by simpa using z
     exact absurd (Heap.lt_size q) (by rw[z'];exact Nat.lt_irrefl _)
end
def yh:Bf where
 x:="sum"
 id:="sum"
 boot:=by decide+kernel
 wp ds S W:=match ds with
  | [.lst ds]=>∃ns:List Int,ds=ns.map .int/\W (.int ns.sum) S
  | [.tup ds]=>∃ns:List Int,ds=ns.map .int/\W (.int ns.sum) S
  | _=>False
 sound:=by
  intro X ds S W hc hr h
  split at h
  . obtain⟨bs,rfl,h⟩:=h;exact QM h hc
  . obtain⟨bs,rfl,h⟩:=h;exact Qn h hc
  . exact h.elim
def zH(own:Bool)(op:Operator)(x y:D)(S:Store)(W:WD):Prop:=match op with
 | .Add=>∃ds es,dI S x=some ds/\dI S y=some es/\ds.length+es.length≤1000000/\putL own W (ds++es) S
 | .Mult=>∃ds k,dI S x=some ds/\y=.int k/\(-(2 ^ 63)≤k/\k<2 ^ 63)/\ds.length*k.toNat≤1000000/\putL own W (List.replicate k.toNat ds).flatten S
 | _=>False
theorem FJ{X:Cx}{own:Bool}{op:Operator}{x y:D}{S:Store}{W:WD}(h:zH own op x y S W):dj X op x y S W:=by
 unfold zH at h
 split at h
 . obtain⟨ds,es,h1,h2,h3,h4⟩:=h;exact Pq h1 h2 h3 h4
 . obtain⟨ds,k,h1,rfl,h3,h4,h5⟩:=h;exact Qc h1 h3 h4 h5
 . exact h.elim
section
variable {Ω : Wd}
def Ex.binL(own:Bool)(op:Operator)(a b:Ex Ω):Ex Ω where
 lev:=max a.lev b.lev
 chk top N nm e:=match e with | .BinOp l o r _=>(o==op)&&(a.chk top N nm l&&b.chk top N nm r) | _=>false
 wp Γ S W:=a.wp Γ S λ x S1=>b.wp Γ S1 λ y S2=>zH own op x y S2 W
 sound:=by
  intro X r top N nm e Γ S W A hl hc hw
  obtain⟨l1,l2⟩:=lv2 hl
  cases e with
  | BinOp l o r' pos=>
    obtain⟨h1,h2⟩:=aa hc
    obtain⟨h2,h3⟩:=aa h2
    have e:o=op:=eq_of_beq h1
    subst e
    exact tu ((a.sound A l1 h2 hw).mono λ x S1 q=>(b.sound A l2 h3 q).mono λ y S2 q=>FJ q)
  | _=>exact fE hc
def Ex.fdiv(a b:Ex Ω):Ex Ω where
 lev:=max a.lev b.lev
 chk top N nm e:=match e with | .BinOp l o r _=>(o==.FloorDiv)&&(a.chk top N nm l&&b.chk top N nm r) | _=>false
 wp Γ S W:=a.wp Γ S λ x S1=>b.wp Γ S1 λ y S2=>match x,y with
  | .int i,.int j=>(0<j/\j<1000000000000000000000000000000000000000000000000000000000000)/\W (.int (i/j)) S2
  | _,_=>False
 sound:=by
  intro X r top N nm e Γ S W A hl hc hw
  obtain⟨l1,l2⟩:=lv2 hl
  cases e with
  | BinOp l o r' pos=>
    obtain⟨h1,h2⟩:=aa hc
    obtain⟨h2,h3⟩:=aa h2
    have e:o=.FloorDiv:=eq_of_beq h1
    subst e
    refine tu ((a.sound A l1 h2 hw).mono λ x S1 q=>(b.sound A l2 h3 q).mono λ y S2 q=>?_)
    split at q
    . rename_i i j
      refine jA (C:=λ _ j=>0<j/\j<1000000000000000000000000000000000000000000000000000000000000) (g:=λ i j=>i/j) (opI λ i j _ _ _ _ _ hc q=>?_) q.1 q.2
      have h1:(0:Int)<j:=hc.1
      have h2:j<1000000000000000000000000000000000000000000000000000000000000:=hc.2
      refine floordiv_int (by omega) (by rw[Int.fdiv_eq_ediv_of_nonneg i (by omega)];exact q) (.inl (PyProof.noPylong_of_log2 ?_))
      have h3:j.natAbs<2 ^ 200:=by omega
      have:j.natAbs.log2<200:=(Nat.log2_lt (by omega)).mpr h3
      omega
    . exact q.elim
  | _=>exact fE hc
end
end RF
namespace RF
open PySem PySem.Spec L2 DL
open PyProof.Rows
def Drp(n:Nat)(W:WD):WD:=λ d S1=>W d S1∨∃J S',S1=S'++J/\n≤S'.length/\aB d=true/\flat S'/\W d S'
theorem QG.drp{K:PySem.W.Frag}{O:Own}{H H':Hp}{W:WD}{v:V}{n:Nat}(hn:O.A.length=n)(q:QG K O H (Drp n W) v H'):QG K O H W v H':=by
 obtain⟨O',d,S1,w,st,ok,r⟩:=q
 rcases w with w | ⟨J,S',rfl,hl,hd,hS,w⟩
 . exact⟨O',d,S1,w,st,ok,r⟩
 . obtain⟨st2,ok2,sub,na⟩:=Ag st ok (by omega) hS
   exact⟨_,d,S',w,st2,ok2,fZ sub hd r⟩
section
variable {Ω : Wd}
def Bl.drp(b:Bl Ω):Bl Ω where
 lev:=b.lev
 chk:=b.chk
 wp Γ S W:=b.wp Γ S {W with rt:=Drp S.length W.rt}
 sound:=by
  intro X r top N nm sts Γ S W A hl hc hw pins s σ H O I env ok
  refine thn (b.sound A hl hc hw pins s σ H O I env ok) λ f s' q=>?_
  cases f with
  | next=>exact q
  | brk=>exact q
  | cont=>exact q
  | ret u=>obtain⟨v,σ',H',I',r,q⟩:=q;exact⟨v,σ',H',I',r,QG.drp ok.len q⟩
end
abbrev tbl(led:Bool)(ps:List Nat):SetTable:={mask:=7,place:=ps.toArray,dummies:=#[],finger:=0,led:=led,moves:=0,plain:=true}
section
variable {Ω : Wd}
def Te.lval(a:Ex Ω):Te Ω where
 lev:=a.lev
 chk top N nm e:=Ds e&&a.chk top N nm e
 wp Γ S W:=a.wp Γ S λ d S1=>∃ds,vw S1 d=.lst ds/\(d=.lst ds∨∃k,d=.loc k/\S1[k]? =some ds)/\ds.length≤1000000/\W (!ds.isEmpty) S1
 sound:=by
  intro X r top N nm e Γ S W A hl hc hw
  obtain⟨h1,h2⟩:=aa hc
  intro pins s σ H O I env st
  refine isTrue_plain (thn (a.sound A hl h2 hw pins s σ H O I env st) λ u s3 hq_=>?_) (zU h1 _ _)
  obtain⟨z,H3,I3,r3,O3,d,S3,⟨ds,_,hd,hz,wc⟩,st3,ok3,rep3⟩:=hq_
  have main:∀(p:Addr)(xs:List V),z=.ref p->SqL X.K H3 p xs->xs.length=ds.length->wpAny (model X.prog X.w) X.A (truthy u) (TP X pins σ (QT X.K O H W)) X.xe s3:=by
   rintro p xs rfl hs hlen
   cases r3
   obtain⟨its,rv,pl,hzz⟩:=I3.list hs
   have hl2:its.length=ds.length:=by rw[←rv.length,hlen]
   refine wpAny_truthy_list pl.isList (by rw[x5];omega) ?_
   have e:(!its.toArray.isEmpty)= !ds.isEmpty:=by
    cases its with
    | nil=>cases ds with
      | nil=>rfl
      | cons _ _=>simp at hl2
    | cons _ _=>cases ds with
      | nil=>simp at hl2
      | cons _ _=>rfl
   rw[e]
   exact⟨H3,I3.tok _,O3,S3,wc,st3,ok3⟩
  rcases hd with rfl | ⟨k,rfl,hk⟩
  . cases rep3 with
    | @lst p xs _ g1 q1=>exact main p xs rfl g1.sq q1.length
  . cases rep3 with
    | @loc p _ g1=>
      obtain⟨xs,hx,q1⟩:=ok3.obj k p _ g1 hk
      exact main p xs rfl (SqL.of hx) q1.length
end
section
variable {X : Cx}
theorem Pa{Γ:Gam}{S:Store}{o e:Expr}{es:List Expr}{name:Str}{id:String}{r:V->List V->Hp->VK->Prop}{apos cpos:Pos}{W:WD}(slot:Slot "list" name id)(hty:typeOf (.builtin id)=pure (.type "method_descriptor"))(hm:MtM X id r)(hmo:∀{x:V}{vs:List V}{H:Hp}{Q Q':VK},r x vs H Q->(∀v H',Q v H'->Q' v H')->r x vs H Q')
 (h:Ev X Γ S o λ x S1=>∃k,x=.loc k/\EvA X Γ S1 (e::es) λ ds S2=>∃ds0,S2[k]? =some ds0/\∀(O:Own)(H:Hp)(a:Addr)(xs vs:List V),O.A[k]? =some (a,false)->H a=some (.lst xs)->Reps X.K O H xs ds0->Reps X.K O H vs ds->StOk X.K O H S2->r (.ref a) vs H (QG X.K O H W))
 (hbase:attributeBase o name X.env (eval o X.env)=eval o X.env)
 (hfew:((backTo cpos (starEach (e::es) X.env)).all (λ x=>!x.1)&&(backToKw cpos (keywordEach [] X.env)).all (λ x=>x.1.isSome)
  &&decide ((e::es).length+([]:List Keyword).length+(if([]:List Keyword).isEmpty then 0 else 1)<30))=true)
 (hline:(apos.endLine==cpos.line)=true)(hs:starEach (e::es) X.env=(false,eval e X.env)::starEach es X.env)(hplain:(backTo cpos (starEach es X.env)).any (·.1)=false):Ev X Γ S (.Call (.Attribute o name apos) (e::es) [] cpos) W:=by
 intro pins s σ H O I env st
 have hty':∀(O1:Own)(x:D)(v:V)(H1:Hp)(S1:Store),(∃k,x=.loc k)->StOk X.K O1 H1 S1->Rep X.K O1 H1 v x->tyV X.K "list" v H1:=by
  rintro O1 x v H1 S1 ⟨k,rfl⟩ ok r
  cases r with
  | @loc a _ ha=>
    have hl:k<S1.length:=by rw[←ok.len];exact(z0.mp ha).1
    obtain⟨xs,hx,_⟩:=ok.obj k a S1[k] ha (y0 hl)
    exact .inl ⟨rfl,xs,SqL.of hx⟩
 have hA:PA X (e::es) (λ σ H Q=>∃O Γ S W',EnvOk X.K O H σ Γ/\StOk X.K O H S/\EvA X Γ S (e::es) W'/\∀vs H',QA X.K O H W' vs H'->Q vs H'):=by
  rintro pos pins s σ H Q I ⟨O,Γ,S,W',env,st,he,k⟩
  exact thn (he pos pins s σ H O I env st) λ us s1 ⟨vs,H1,I1,r1,q⟩=>⟨vs,H1,I1,r1,k vs H1 q⟩
 refine yg (T:="list") PySem.F.plainAttrs_list slot hty hm (h.pe) hA hbase hfew hline hs hplain pins s σ H _ I ⟨O,env,st,λ v H' q=>?_⟩
 obtain⟨O1,x,S1,⟨k,rfl,he⟩,st1,ok1,rep1⟩:=q
 refine⟨hty' O1 _ v H' S1 ⟨k,rfl⟩ ok1 rep1,O1,Γ,S1,_,env.mono st1,ok1,he,λ vs H2 q2=>?_⟩
 obtain⟨O2,ds,S2,⟨ds0,hk,w⟩,st2,ok2,rep2⟩:=q2
 have r':=rep1.mono st2
 cases r' with
 | @loc a _ ha=>
   obtain⟨xs,hx,q1⟩:=ok2.obj k a ds0 ha hk
   exact hmo (w O2 H2 a xs vs ha hx q1 rep2 ok2) λ v' H3 q3=>q3.pre (st1.trans st2)
end
section
variable {Ω : Wd}
theorem P0{e:Expr}{env:Env}{cpos:Pos}(h:okE e=true):((backTo cpos (starEach [e] env)).all (λ x=>!x.1)&&(backToKw cpos (keywordEach [] env)).all (λ x=>x.1.isSome)
 &&decide ([e].length+([]:List Keyword).length+(if([]:List Keyword).isEmpty then 0 else 1)<30))=true:=by
 rw[aL h [] env];rfl
end
theorem ym(l:Addr)(items:Array Value)(n:Nat)(b:Addr)(items2:Array Value)(n2:Nat)(dd2:Option Addr)(sl2:Array (Option Value))(hc0:¬(!items.isEmpty&&Builtin.List.listTooLong (items.size+items2.size))=true)(hc1:items.size≤sizeLine)(hs2:items.size+items2.size≤sizeLine+1):
 Meets (Builtin.«list.extend» ⟨[.ref l,.ref b],[]⟩) (λ _ R s=>s.heap.get? l=some {cls:=.type "list",dict:=none,data:=.seq items n,slots:=#[]}/\s.heap.get? b=some {cls:=.type "list",dict:=dd2,data:=.seq items2 n2,slots:=sl2}/\R (.ok (.ret Value.none)) {s with heap:=s.heap.update l (Obj.mapSeq λ x=>x++items2),toks:=s.toks}):=
 .of_wp λ prog w A R s h=>by
  obtain⟨hp,g,d,tk,os⟩:=s;obtain⟨hl,hb,h⟩:=h;have f1:=AutoSeq1.idx_int;have f2:=AutoSeq1.sub_tuple_tuple;have f3:=AutoSeq1.sub_list_list;have f4:=AutoSeq1.sub_tuple_list;have f5:=AutoSeq1.sub_list_tuple;
  have hz':(items++items2).size≤sizeLine+1:=by rw[Array.size_append];exact hs2
  wp_walk using(wpAny_updateSeq hl rfl (hz:=hc1) (_hz':=hz')),AutoSeq1.wpAny_loadPart' hl,AutoSeq1.wpAny_loadPart' hb;exact⟨_,rfl,h⟩
def Eh(K:PySem.W.Frag):V->List V->Hp->VK->Prop:=λ x vs H Q=>∃l b xs zs,x=.ref l/\vs=[.ref b]/\H l=some (.lst xs)/\SqL K H b zs/\xs.length+zs.length≤sizeLine/\Q .non (upd H l (.lst (xs++zs)))
theorem Er{K:PySem.W.Frag}{x:V}{vs:List V}{H:Hp}{Q Q':VK}(h:Eh K x vs H Q)(k:∀v H',Q v H'->Q' v H'):Eh K x vs H Q':=by
 obtain⟨l,b,xs,zs,e1,e2,e3,e4,e5,q⟩:=h
 exact⟨l,b,xs,zs,e1,e2,e3,e4,e5,k _ _ q⟩
section
variable {X : Cx}
theorem CQ:MtM X "list.extend" (Eh X.K):=by
 intro pins s σ H x vs v us Q I rx rv h
 obtain⟨l,b,xs,zs,rfl,rfl,hH,hB,hz,q⟩:=h
 cases rx
 obtain⟨u,rfl,ru⟩:=rv.one
 cases ru
 obtain⟨z,its,n,r,hl,e⟩:=I.lstM hH
 obtain⟨its2,r2,p2,z2⟩:=I.list hB
 obtain⟨⟨cls2,dd2,data2,sl2⟩,n2,ho2,hc2,hdd2,hd2⟩:=id p2
 simp only at hc2 hd2
 subst hc2 hd2
 have l1:=r.length
 have l2:=r2.length
 have hsz:its.toArray.size+its2.toArray.size≤sizeLine:=by rw[x5,x5];omega
 have hlong:¬(!its.toArray.isEmpty&&Builtin.List.listTooLong (its.toArray.size+its2.toArray.size))=true:=by
  rw[Jv hsz,Bool.and_false]
  exact y4
 refine call_meets F.slot_list_extend ⟨_,e,rfl⟩ F.entry_list_extend (F.args_list_extend_2 _ _)
  (ym l its.toArray n b its2.toArray n2 dd2 sl2 hlong (by rw[x5];omega) (by omega)) ⟨e,ho2,?_⟩
 refine⟨.non,_,I.lset (its':=its++its2) hH e (by simp) (r.append r2) ?_,rfl,q⟩
 rw[x8]
 omega
end
section
variable {Ω : Wd}
def Ex.m_extend(o a:Ex Ω):Ex Ω where
 lev:=max o.lev a.lev
 chk top N nm e:=match e with | .Call (.Attribute x m p) [y] [] q=>(m==("extend":Str))&&(nameE x&&((p.endLine==q.line)&&(okE y&&(o.chk top N nm x&&a.chk top N nm y)))) | _=>false
 wp Γ S W:=o.wp Γ S λ x S1=>match x with | .loc k=>a.wp Γ S1 λ d S2=>∃ds es,S2[k]? =some ds/\dI S2 d=some es/\ds.length+es.length≤1000000/\W .non (S2.set k (ds++es)) | _=>False
 sound:=by
  intro X r top N nm e Γ S W A hl hc hw
  obtain⟨l1,l2⟩:=lv2 hl
  split at hc
  . rename_i x m p y q
    obtain⟨h1,g⟩:=aa hc
    obtain⟨h2,g⟩:=aa g
    obtain⟨h3,g⟩:=aa g
    obtain⟨h4,g⟩:=aa g
    obtain⟨h5,h6⟩:=aa g
    have e:=eq_of_beq h1
    subst e
    refine Pa F.slot_list_extend F.type_list_extend CQ Er ((o.sound A l1 h5 hw).mono λ x S1 q=>?_) ?_ (P0 h4) h3 (aL h4 _ _) rfl
    . cases x<;>first | exact q.elim | skip
      refine⟨_,rfl,dw ((a.sound A l2 h6 q).mono λ d S2 q=>gR ?_) (aL h4 _ _)⟩
      obtain⟨ds,es,hk,he,hz,w⟩:=q
      refine⟨ds,hk,λ O H a xs vs ha hx rx rv st=>?_⟩
      cases rv with
      | cons r1 t=>
        cases t
        have key:∀v,Rep X.K O H v d->∃b zs,v=.ref b/\SqL X.K H b zs/\Reps X.K O H zs es:=by
         intro v r1
         cases r1 with
         | @lst b zs _ g1 q1=>cases he;exact⟨b,zs,rfl,g1.sq,q1⟩
         | @loc b j g1=>
           obtain⟨zs,hz',q1⟩:=st.obj j b es g1 he
           exact⟨b,zs,rfl,SqL.of hz',q1⟩
         | _=>cases he
        obtain⟨b,zs,rfl,hb,rz⟩:=key _ r1
        refine⟨a,b,xs,zs,rfl,rfl,hx,hb,by rw[rx.length,rz.length];exact small hz,O,.non,_,w,Step.put (gA ha) _,?_,.non⟩
        exact st.put ha (rx.append rz)
    . cases x<;>first | rfl | exact ff h2
  . exact ff hc
def Ex.slO(a:Ex Ω)(lo hi:Po Ω):Ex Ω where
 lev:=max a.lev (max lo.lev hi.lev)
 chk top N nm e:=match e with | .Subscript l (.Slice x y none _) _=>a.chk top N nm l&&(lo.chk top N nm x&&hi.chk top N nm y) | _=>false
 wp Γ S W:=a.wp Γ S λ x S1=>lo.wp Γ S1 λ l S2=>hi.wp Γ S2 λ h S3=>∃ds,dI S3 x=some ds/\W (.loc S3.length) (S3++[cutD ds l h])
 sound:=by
  intro X r top N nm e Γ S W A hl hc hw
  obtain⟨l1,l2⟩:=lv2 hl
  obtain⟨l2,l3⟩:=lv2 l2
  cases e with
  | Subscript l sl pos=>
    cases sl with
    | Slice x y z p2=>
      cases z with
      | none=>
        obtain⟨h1,h2⟩:=aa hc
        obtain⟨h2,h3⟩:=aa h2
        refine qp ((a.sound A l1 h1 hw).mono λ x S1 q=>PoD.mono (lo.sound A l2 h2 q) λ l S2 q=>PoD.mono (hi.sound A l3 h3 q) λ h S3 q=>?_)
        obtain⟨ds,hd,w⟩:=q
        intro pins s σ H O v u vl vu sl I st r1 r3 hs pl pu
        obtain⟨p,xs,rfl,hp,q1⟩:=rD (pins:=pins) (s:=s) (σ:=σ) st r1 hd
        exact vz pins s σ H _ u vl vu l h sl _ I r3 hs pl pu ⟨p,xs,rfl,hp,λ p' hp=>qz w st hp (m5 q1 l h)⟩
      | some _=>exact fE hc
    | _=>exact fE hc
  | _=>exact fE hc
end
end RF
namespace XE
open PySem PySem.Spec PySem.W PySem.Calls PyProof.Rows Builtin Builtin.ObjectAttr Builtin.Getset_descriptor
structure Atr(K:Frag)(C:Addr):Prop where
 ga:findIn K (.ref C) "__getattribute__"=some (some (.builtin "BaseException.__getattribute__"))
 gh:findIn K (.ref C) "__getattr__"=some none
 ca:findIn K (.ref C) "__class__"=some (some (.builtin "object.__class__"))
 sp:specialIn K (.builtin "object.__class__") "__get__"=some (some (.builtin "getset_descriptor.__get__"))
 tk:takesIn K (.builtin "object.__class__")=some true
 mo:mroIn K C (.type "object")=some true
 mb:mroIn K C (.type "BaseException")=some true
abbrev oW:List Value:=[.type "ValueError",.type "Exception",.type "BaseException",.type "object"]
abbrev kE:String:="ValueError.__new__"
theorem Ky{K:Frag}{h:Heap}{x:Str}{C:Addr}{bmB:List Value}{nid:String}{mg:Str->Option Value}(X:K.In h)(hm:mg x=some (.ref C))(q:excIn K C bmB nid=true):OwnCls x C bmB nid mg h:=by
 constructor
 . exact hm
 . unfold excIn at q
   split at q
   . next dd cd sl ho=>
     split at q
     . next C' bm k0 k1 k2 k3 n k5 hmr hsl=>
       rw[Bool.and_eq_true,Bool.and_eq_true,Bool.and_eq_true,Bool.and_eq_true,Bool.and_eq_true]at q
       obtain⟨⟨⟨⟨⟨e1,e2⟩,e3⟩,e4⟩,e5⟩,e6⟩:=q
       have e1:=eq_of_beq e1
       have e2:=eq_of_beq e2
       subst e1
       subst e2
       obtain⟨nm,bs,mro,ns,qn,hd,sn,sub,ab,col,del⟩:=cd
       simp only[Bool.not_eq_true']at hmr e3 e5 e6
       subst hmr
       subst e3
       obtain⟨l⟩:=sl
       obtain rfl:l=_:=hsl
       exact⟨bm,ns,nm,qn,bs,hd,sn,sub,ab,col,dd,k0,k1,k2,k3,k5,_,X _ _ ho,.of_isNs (isNs_of_in X e5),nsMap_none_of_in X e5 (eq_of_beq e6),tail_of_in X e4⟩
     . cases q
   . cases q
section
open Builtin
def DK(h h':Heap):Prop:=∀b o,h.get? b=some o->∃o',h'.get? b=some o'/\o'.dict=o.dict
theorem DK.refl(h:Heap):DK h h:=λ b o e=>⟨o,e,rfl⟩
theorem DK.trans{h h1 h2:Heap}(a:DK h h1)(b:DK h1 h2):DK h h2:=λ x o e=>by
 obtain⟨o1,e1,d1⟩:=a x o e
 obtain⟨o2,e2,d2⟩:=b x o1 e1
 exact⟨o2,e2,d2.trans d1⟩
inductive Dq{α:Type}:Sem α->Prop
 | pure(a:α):Dq (.pure a)
 | raise(e:Value):Dq (.raise e)
 | uns(w:String):Dq (.unsupported w)
 | rule{t:String}{k:Unit->Sem α}:Dq (k ())->Dq (.rule t k)
 | load{a:Addr}{p:Option Value}{k:Obj->Sem α}:(∀o,Dq (k o))->Dq (.load a p k)
 | update{a:Addr}{p:Option Value}{f:Obj->Obj}{k:Unit->Sem α}:(∀o,(f o).dict=o.dict/\(f o).isFreed=o.isFreed)->Dq (k ())->Dq (.update a p f k)
 | alloc{o:Obj}{k:Addr->Sem α}:(∀a,Dq (k a))->Dq (.alloc o k)
 | stack{k:List (Code×Pos)->Sem α}:(∀l,Dq (k l))->Dq (.stack k)
theorem Dq.bind{α β:Type}{m:Sem α}{f:α->Sem β}(h:Dq m)(g:∀a,Dq (f a)):Dq (m>>=f):=by
 show Dq (Sem.bind m f)
 induction h with
 | pure a=>exact g a
 | raise e=>exact .raise e
 | uns w=>exact .uns w
 | rule _ ih=>exact .rule ih
 | load _ ih=>exact .load ih
 | update c _ ih=>exact .update c ih
 | alloc _ ih=>exact .alloc ih
 | stack _ ih=>exact .stack ih
theorem Dq.wp{α:Type}{M:Model}{Γ:PySem.Ctx}{t:Sem α}(h:Dq t):∀{Q:α->Pos->Shared->Prop}{E:Value->Pos->Shared->Prop}{p:Pos}{s:Shared},Sem.wp M Γ t Q E p s->
 Sem.wp M Γ t (λ a p' s'=>Q a p' s'/\DK s.heap s'.heap) (λ e p' s'=>E e p' s'/\DK s.heap s'.heap) p s:=by
 induction h with
 | pure a=>intro Q E p s z;exact⟨z,DK.refl _⟩
 | raise e=>intro Q E p s z;exact⟨z,DK.refl _⟩
 | uns w=>intro Q E p s z;exact z
 | rule _ ih=>intro Q E p s z;exact ih z
 | load _ ih=>intro Q E p s z;obtain⟨o,ho,z⟩:=z;exact⟨o,ho,ih o z⟩
 | stack _ ih=>intro Q E p s z;exact ih _ z
 | @update a p f k c _ ih=>
   intro Q E p s z
   obtain⟨z1,z2⟩:=z
   have d:DK s.heap (s.heap.update a f):=λ b o e=>by
    by_cases hb:b=a
    . subst hb
      have fr:=(Heap.get?_some_iff.mp e).2
      exact⟨f o,Heap.get?_update_self _ e ((c o).2.trans fr),(c o).1⟩
    . exact⟨o,(Heap.get?_update_ne _ _ _ _ hb).trans e,rfl⟩
   exact⟨z1,Sem.wp_mono _ _ _ (λ _ _ _ q=>⟨q.1,d.trans q.2⟩) (λ _ _ _ q=>⟨q.1,d.trans q.2⟩) _ _ (ih z2)⟩
 | @alloc o k _ ih=>
   intro Q E p s z
   have d:DK s.heap (s.heap.push o):=λ b o' e=>⟨o',Heap.get?_push_of_some _ e,rfl⟩
   exact Sem.wp_mono _ _ _ (λ _ _ _ q=>⟨q.1,d.trans q.2⟩) (λ _ _ _ q=>⟨q.1,d.trans q.2⟩) _ _ (ih _ z)
theorem Dq.any{α:Type}{M:Model}{A:Around}{t:Sem α}{Q:α->Shared->Prop}{E:Value->Shared->Prop}{s:Shared}(h:Dq t)(z:wpAny M A t Q E s):wpAny M A t (λ a s'=>Q a s'/\DK s.heap s'.heap) (λ e s'=>E e s'/\DK s.heap s'.heap) s:=
 λ Γ p hΓ=>h.wp (z Γ p hΓ)
theorem j6(v:Value)(i:Nat):Dq (field v i):=by
 unfold field fieldsOf
 refine .bind ?_ λ l=>?_
 . cases v<;>first | exact .uns _ | skip
   refine .load λ o=>?_
   show Dq (match o.data with | .fields vs=>pure vs | _=>unsupported "internal:no-fields")
   split
   . exact .pure _
   . exact .uns _
 . split
   . exact .pure _
   . exact .uns _
theorem jl(v:Value)(i:Nat)(x:Value):Dq (setField v i x):=by
 unfold setField
 cases v<;>first | exact .uns _ | skip
 unfold updateField
 refine .load λ o=>?_
 show Dq (match o.data with | .fields vs=>if i<vs.size then update _ (Obj.mapFields (·.setIfInBounds i x))else unsupported "internal:no-such-field" | _=>unsupported "internal:write-to-non-record")
 split
 . split
   . refine .update (λ o=>?_) (.pure _)
     obtain⟨c,d,dt,sl⟩:=o
     cases dt<;>exact⟨rfl,rfl⟩
   . exact .uns _
 . exact .uns _
theorem G7(e:Value)(f:Option Addr):Dq (setFlight e f):=by
 unfold setFlight
 refine .bind (j6 _ _) λ tb=>?_
 split
 . exact jl _ _ _
 . exact .pure _
theorem zX :∀l:List Env,Dq (readyFrames l)
 | []=>.pure _
 | env ::outer=>by
   unfold readyFrames
   split
   . refine .load λ o=>?_
     show Dq (if _ then _ else _)
     split
     . exact .pure _
     . refine .bind ?_ λ im=>.bind ?_ λ back=>.bind (.update (λ o=>⟨rfl,by cases o with | mk c d dt sl=>cases dt<;>rfl⟩) (.pure _)) λ _=>zX outer
       . unfold behindIsImport
         split
         . exact .pure _
         . split
           . exact .pure _
           . exact .bind (j6 _ _) λ _=>.pure _
       . unfold keptBack
         split
         . split
           . exact .pure _
           . exact .bind (.stack λ _=>.pure _) λ _=>.pure _
         . exact .pure _
   . exact .uns _
theorem DG(env:Env):Dq (PySem.frameOf env):=by
 unfold PySem.frameOf
 refine .bind (.stack λ _=>.pure _) λ l=>.bind ?_ λ r=>?_
 . unfold frameObject
   split
   . exact .pure _
   . exact .bind (zX _) λ _=>.pure _
 . split
   . exact .pure _
   . exact .uns _
theorem Jk(f:Addr)(b:Bool):Dq (entryPlaceOf f b):=by
 unfold entryPlaceOf
 refine .bind (.stack λ _=>.pure _) λ l=>?_
 split<;>exact .pure _
theorem Ib(a b c d e:Value)(pl:List Value):Dq (EntryCells.newEntry a b c d e pl):=by
 have key:∀vs:Array Value,Dq (newObj (.type "traceback") (.fields vs)):=λ vs=>by
  unfold newObj
  dsimp only
  split
  . exact .bind (.uns _) λ _=>.alloc λ _=>.pure _
  . exact .alloc λ _=>.pure _
 exact key _
theorem Lr(e:Value)(env:Env):Dq (noteFrame e env):=by
 unfold noteFrame
 split
 . rename_i L _
   refine .bind (j6 _ _) λ head=>?_
   have rest:Dq (do let a ←PySem.frameOf env;let pl ←entryPlaceOf L (head !=.none);let b ←EntryCells.newEntry head a .none (rawInt L) .none pl;setField e 1 b):=
    .bind (DG _) λ _=>.bind (Jk _ _) λ _=>.bind (Ib _ _ _ _ _ _) λ _=>jl _ _ _
   split
   . refine .bind (j6 _ _) λ h3=>?_
     split
     . exact .pure _
     . exact .bind (jl _ _ _) λ _=>rest
   . exact rest
 . exact .uns _
theorem sY(env:Env)(e:Value):Dq (leaving env e):=.bind (Lr _ _) λ _=>G7 _ _
end
open PySem PySem.Spec L2 DL RF
open PyProof.Rows
variable {H : Hp} {a : Addr}
structure Fl(P:Program)(w:World)(outer:List Env)(H:Hp)(h0:Heap)(H':Hp)(B h:Heap):Prop where
 hok:HOk P w H' B
 keep:∀b o,h0.get? b=some o->H b=none->b∉frs outer->B.get? b=some o
 there:∀b o,h0.get? b=some o->b∉frs outer->∃o',B.get? b=some o'
 slot:∀b o,h0.get? b=some o->b∈frs outer->∃sl,h.get? b=some {o with slots:=sl}
 free:∀b o,h0.get? b=some o->H b=none->H' b=none
 tups:∀b xs,H b=some (.tup xs)->H' b=some (.tup xs)
 frzs:∀b o u,H b=some (.frz o u)->H' b=some (.frz o u)
 tbls:∀b ps,H b=some (.tbl ps)->∃more,H' b=some (.tbl (ps++more))
def CXE(P:Program)(w:World):CXT:=λ outer H s E e s'=>∃a C t po H' B,e=.ref a/\s'.os=s.os/\AllBare s'.gens/\Fl P w outer H s.heap H' B s'.heap/\Heap.FlyingW B outer a (.ref C) (.ref t) s'.heap/\(∀dx,po=some dx->∃o,s'.heap.get? a=some o/\o.dict=some dx)/\E (.ref C) po H'
section
variable {X : Cx} {pins : Pins} {σ : L2.St} {H1 : Hp} {s1 : Shared}
theorem j5(l:List Env)(env:Env){L:Addr}(h:env.frame=some L):frs (env::l)=L::frs l:=by
 unfold frs;rw[List.filterMap_cons,h]
theorem QV(I:Inv X pins σ H1 s1)(hst:X.stack=X.env::X.outer)(hfr:X.env.frame=some X.env.locals)(hex:X.ex=[]){h':Heap}
 (hs:∀b o,s1.heap.get? b=some o->b∈frs X.outer->∃sl,h'.get? b=some {o with slots:=sl}):
 Fl X.prog X.w X.outer X.H₀ X.s₀.heap H1 (PySem.W.hideAll s1.heap (frs X.stack)) h':=by
 have ne:∀b o,X.s₀.heap.get? b=some o->b≠X.env.locals:=λ b o q z=>absurd (w9 (Heap.lt_size q) (z▸I.ok.above)) (Nat.lt_irrefl _)
 have nin:∀b o,X.s₀.heap.get? b=some o->b∉frs X.outer->b∉frs X.stack:=λ b o q hb z=>by
  rw[hst,j5 _ _ hfr]at z
  rcases List.mem_cons.mp z with z | z
  . exact ne b o q z
  . exact hb z
 have nx:∀b,b∉X.ex:=λ b z=>by rw[hex]at z;cases z
 refine⟨λ a o e=>?_,λ b o q n hb=>?_,λ b o q hb=>?_,λ b o q hb=>?_,λ b o q n=>I.base.free b o q n (nx b),I.base.tups,I.base.frzs,I.base.tbls⟩
 . refine(I.hok a o e).stay (λ b u hb r=>?_) (λ _ r=>r) (λ _ _ r=>r)
   refine PySem.W.hideAll_get _ r λ z=>?_
   have n:=I.stkFree b z
   rcases hb with rfl | hb
   . rw[e]at n;cases n
   . rw[hb]at n;cases n
 . exact PySem.W.hideAll_get _ (I.base.keep b o q n hb (nx b)) (nin b o q hb)
 . obtain⟨o',e⟩:=I.base.there b o q (nx b)
   exact⟨o',PySem.W.hideAll_get _ e (nin b o q hb)⟩
 . obtain⟨sl,e⟩:=I.base.slot b o q (I.ok.frf b hb) hb (nx b)
   obtain⟨sl2,e2⟩:=hs b _ e hb
   exact⟨sl2,e2⟩
theorem CZ{P:Program}{w:World}{K:PySem.W.Frag}{mg:Str->Option Value}{base:Heap}{N:List Str}{qual:Str}{sc:Scope}{f:Addr}{cd:Value}{A:Around}{outer:List Env}{s:Shared}{E:XK}{C:Addr}{vs:List Value}{s2:Shared}
 (I:Inv (cC (CXE P w) P w K mg base N qual sc f cd A outer s H E) pins σ H1 s1)(ho:s2.os=s1.os)(hg:s2.gens=s1.gens)(hx:Heap.MadeExcOf s1.heap s2.heap a (.ref C) vs)(hE:E (.ref C) none H1):
 (cC (CXE P w) P w K mg base N qual sc f cd A outer s H E).xe (.ref a) s2:=by
 let X:=cC (CXE P w) P w K mg base N qual sc f cd A outer s H E
 have hin:∀env∈X.stack,∀b,env.frame=some b->b∈frs X.stack:=λ env he b hb=>List.mem_filterMap.mpr ⟨env,he,hb⟩
 refine wpAny_leaves_madeW (base:=PySem.W.hideAll s1.heap (frs X.stack)) (h:=s1.heap) (outer:=outer) I.ok.frames rfl (λ b o q=>PySem.W.of_hideAll _ q) (PySem.W.funFrames_hide I.stack hin) hx λ h' t x1 x2 x3 x4=>?_
 refine⟨a,C,t,none,H1,_,rfl,ho.trans I.os,by show AllBare s2.gens;rw[hg];exact I.bare,?_,x1,(λ _ z=>nomatch z),hE⟩
 refine QV I rfl rfl rfl λ b o q hb=>?_
 obtain⟨_,o',e',d⟩:=I.funs.mem hb
 rw[q]at e'
 cases e'
 exact x4 b o (hx.keeps b o q) d
theorem Ji{P:Program}{w:World}{K:PySem.W.Frag}{mg:Str->Option Value}{base:Heap}{N:List Str}{qual:Str}{sc:Scope}{f:Addr}{cd:Value}{A:Around}{outer:List Env}{s:Shared}{E E':XK}{e:Value}{s2:Shared}
 (I:Inv (cC (CXE P w) P w K mg base N qual sc f cd A outer s H E) pins σ H1 s1)(h:CXE P w (cC (CXE P w) P w K mg base N qual sc f cd A outer s H E).stack H1 s1 E' e s2)(hE:∀c po H',E' (.ref c) po H'->E (.ref c) po H'):
 (cC (CXE P w) P w K mg base N qual sc f cd A outer s H E).xe e s2:=by
 let X:=cC (CXE P w) P w K mg base N qual sc f cd A outer s H E
 obtain⟨a,C,t,po,H',B,rfl,ho,hg,fl,fw,lk,hq⟩:=h
 refine wpAny_mono ((sY X.env (.ref a)).any (wpAny_leaves_onW (Q:=λ _ s'=>∃h',s'={s2 with heap:=h'}/\Heap.FlyingW B outer a (.ref C) (.ref t) h'/\s2.heap.UpToSlots h') (E:=λ _ _=>False) (base:=B) (outer:=outer) I.ok.frames rfl fw λ h' x1 x2=>⟨h',rfl,x1,x2⟩)) (λ _ s' z=>?_) λ _ _ z=>z.1.elim
 obtain⟨⟨h',rfl,x1,x2⟩,dk⟩:=z
 refine⟨a,C,t,po,H',B,rfl,ho.trans I.os,hg,?_,x1,λ dx e=>?_,hE _ _ _ hq⟩
 rotate_left
 . obtain⟨o,e1,e2⟩:=lk dx e
   obtain⟨o',e3,e4⟩:=dk a o e1
   exact⟨o',e3,e4.trans e2⟩
 have ne:∀b o,s.heap.get? b=some o->b≠X.env.locals:=λ b o q z=>absurd (w9 (Heap.lt_size q) (z▸I.ok.above)) (Nat.lt_irrefl _)
 have nin:∀b o,s.heap.get? b=some o->b∉frs outer->b∉frs X.stack:=λ b o q hb z=>by
  rw[show frs X.stack=X.env.locals::frs outer from j5 outer X.env rfl]at z
  rcases List.mem_cons.mp z with z | z
  . exact ne b o q z
  . exact hb z
 have nx:∀b:Addr,b∉([]:List Addr):=λ b z=>nomatch z
 refine⟨fl.hok,λ b o q n hb=>?_,λ b o q hb=>?_,λ b o q hb=>?_,λ b o q n=>?_,λ b xs q=>fl.tups b xs (I.base.tups b xs q),λ b o u q=>fl.frzs b o u (I.base.frzs b o u q),λ b ps q=>?_⟩
 . exact fl.keep b o (I.base.keep b o q n hb (nx b)) (I.base.free b o q n (nx b)) (nin b o q hb)
 . obtain⟨o',e⟩:=I.base.there b o q (nx b)
   exact fl.there b o' e (nin b o q hb)
 . obtain⟨sl,e⟩:=I.base.slot b o q (I.ok.frf b hb) hb (nx b)
   have hb':b∈frs X.stack:=by rw[show frs X.stack=X.env.locals::frs outer from j5 outer X.env rfl];exact y9 _ hb
   obtain⟨sl2,e2⟩:=fl.slot b _ e hb'
   obtain⟨_,o',e',d⟩:=fw.2.2.1.mem hb'
   rw[e2]at e'
   cases e'
   obtain⟨sl3,e3⟩:=x2 b _ e2 d
   exact⟨sl3,e3⟩
 . obtain⟨o',e⟩:=I.base.there b o q (nx b)
   exact fl.free b o' e (I.base.free b o q n (nx b))
 . obtain⟨m1,e1⟩:=I.base.tbls b ps q
   obtain⟨m2,e2⟩:=fl.tbls b _ e1
   exact⟨m1++m2,by rw[e2,Array.append_assoc]⟩
def ExO(a C t:Addr)(od:Option Addr)(h:Heap):Prop:=h.get? a=some {cls:=.ref C,dict:=od,data:=.fields #[.ref t,.none,.none,.none,.bool false,.none]}
def off(H:Hp)(a:Addr):Hp:=λ b=>if b=a then none else H b
theorem off_ne{b:Addr}(h:b≠a):off H a b=H b:=if_neg h
theorem M9{b:Addr}{o:HO}(h:off H a b=some o):b≠a/\H b=some o:=by
 unfold off at h
 split at h
 . cases h
 . rename_i n;exact⟨n,h⟩
theorem Gs{P:Program}{w:World}{K:PySem.W.Frag}{mg:Str->Option Value}{base:Heap}{N:List Str}{qual:Str}{sc:Scope}{f:Addr}{cd:Value}{A:Around}{outer:List Env}{s:Shared}{E:XK}{C t dx:Addr}
 (I:Inv (cC (CXE P w) P w K mg base N qual sc f cd A outer s H E) pins σ H1 s1)(ha:H1 a=some (.ext (ExO a C t (some dx))))(new:s.heap.get? a=none)(hE:E (.ref C) (some dx) (off H1 a)):
 (cC (CXE P w) P w K mg base N qual sc f cd A outer s H E).xe (.ref a) s1:=by
 let X:=cC (CXE P w) P w K mg base N qual sc f cd A outer s H E
 have he:ExO a C t (some dx) s1.heap:=(I.hok a _ ha).1
 have hin:∀env∈X.stack,∀b,env.frame=some b->b∈a::frs X.stack:=λ env he b hb=>y9 _ (List.mem_filterMap.mpr ⟨env,he,hb⟩)
 have hen:(PySem.W.hideAll s1.heap (a::frs X.stack)).get? a=none:=PySem.W.hideAll_none _ (x6 ..)
 have lv:=wpAny_leaving_firstW (M:=model P w) (A:=X.A) (E:=λ _ _=>False) (Q:=λ _ s'=>∃h',s'={s1 with heap:=h'}/\Heap.LeftW (PySem.W.hideAll s1.heap (a::frs X.stack)) (X.env::outer) a (.ref C) (.ref t) s1.heap h')
  (base:=PySem.W.hideAll s1.heap (a::frs X.stack)) I.ok.frames (PySem.W.funFrames_hide I.stack hin) rfl he (λ b o q=>PySem.W.of_hideAll _ q) hen rfl rfl rfl λ h' hL=>⟨h',rfl,hL⟩
 refine wpAny_mono ((sY X.env (.ref a)).any lv) (λ _ s' z=>?_) λ _ _ z=>z.1.elim
 obtain⟨⟨h',rfl,k1,⟨_,_,k2⟩,k3,k4⟩,dk⟩:=z
 have ne:∀b o,s.heap.get? b=some o->b≠X.env.locals:=λ b o q z=>absurd (w9 (Heap.lt_size q) (z▸I.ok.above)) (Nat.lt_irrefl _)
 have na:∀b o,s.heap.get? b=some o->b≠a:=λ b o q z=>by rw[z,new]at q;cases q
 have nin:∀b o,s.heap.get? b=some o->b∉frs outer->b∉a::frs X.stack:=λ b o q hb z=>by
  rcases List.mem_cons.mp z with z | z
  . exact na b o q z
  . rw[show frs X.stack=X.env.locals::frs outer from j5 outer X.env rfl]at z
    rcases List.mem_cons.mp z with z | z
    . exact ne b o q z
    . exact hb z
 have nx:∀b:Addr,b∉([]:List Addr):=λ b z=>nomatch z
 have up:∀b u,H1 b=some u->(∀φ,u≠.ext φ)->off H1 a b=some u:=λ b u q n=>by
  rw[off_ne λ z=>?_];exact q
  rw[z,ha]at q
  exact n _ (Option.some.inj q).symm
 refine⟨a,C,t,some dx,off H1 a,_,rfl,I.os,I.bare,⟨λ b o e=>?_,λ b o q n hb=>?_,λ b o q hb=>?_,λ b o q hb=>?_,λ b o q n=>?_,λ b xs q=>?_,λ b o u q=>?_,λ b ps q=>?_⟩,⟨k1,hen,k2,k3⟩,λ d e=>?_,hE⟩
 . obtain⟨n,e⟩:=M9 e
   refine(I.hok b o e).stay (λ c u hc r=>?_) (λ c r=>up c _ r λ _ z=>nomatch z) (λ c xs r=>up c _ r λ _ z=>nomatch z)
   refine PySem.W.hideAll_get _ r λ z=>?_
   rcases List.mem_cons.mp z with z | z
   . rcases hc with rfl | hc
     . exact n z
     . rw[z,ha]at hc;cases hc
   . have n':=I.stkFree c z
     rcases hc with rfl | hc
     . rw[e]at n';cases n'
     . rw[hc]at n';cases n'
 . exact PySem.W.hideAll_get _ (I.base.keep b o q n hb (nx b)) (nin b o q hb)
 . obtain⟨o',e⟩:=I.base.there b o q (nx b)
   exact⟨o',PySem.W.hideAll_get _ e (nin b o q hb)⟩
 . obtain⟨sl,e⟩:=I.base.slot b o q (I.ok.frf b hb) hb (nx b)
   obtain⟨_,o',e',d⟩:=I.funs.mem hb
   rw[e]at e'
   cases e'
   obtain⟨sl2,e2⟩:=k4 b _ e d
   exact⟨sl2,e2⟩
 . rw[off_ne (na b o q)];exact I.base.free b o q n (nx b)
 . exact up b _ (I.base.tups b xs q) λ _ z=>nomatch z
 . exact up b _ (I.base.frzs b o u q) λ _ z=>nomatch z
 . obtain⟨m,e⟩:=I.base.tbls b ps q
   exact⟨m,up b _ e λ _ z=>nomatch z⟩
 . obtain⟨o',e1,e2⟩:=dk a _ he
   cases e
   exact⟨o',e1,e2⟩
end
end XE
namespace XE
open PySem PySem.Spec L2 DL RF
open PyProof.Rows
abbrev WX:=Str->Store->Prop
abbrev XCt:=List D->Store->WD->WX->Prop
def QP(K:PySem.W.Frag)(O':Own)(H':Hp)(WE:WX)(nm:Str)(S':Store)(c:Value):Option Addr->Prop
 | none=>WE nm S'/\∀C,c=.ref C->PySem.W.excIn K C oW kE=true
 | some dx=>(∀C,c=.ref C->PySem.W.excIn K C oW kE=false)/\∃f d v,WE nm (S'++[[.str f,d]])/\H' dx=some (.xd [(f,v)])/\Rep K O' H' v d
def QX(mg:Str->Option Value)(K:PySem.W.Frag)(O:Own)(H:Hp)(WE:WX)(c:Value)(po:Option Addr)(H':Hp):Prop:=∃nm O' S',mg nm=some c/\QP K O' H' WE nm S' c po/\Step O O' H H'/\StOk K O' H' S'
theorem QP.ex{K:PySem.W.Frag}{O':Own}{H':Hp}{WE:WX}{nm:Str}{S':Store}{c:Value}{po:Option Addr}(h:QP K O' H' WE nm S' c po):∃S1,WE nm S1:=by
 cases po with
 | none=>exact⟨_,h.1⟩
 | some dx=>
   obtain⟨_,_,_,_,h2,_⟩:=h
   exact⟨_,h2⟩
theorem QX.pre{mg:Str->Option Value}{K:PySem.W.Frag}{O O1:Own}{H H1 H':Hp}{WE:WX}{c:Value}{po:Option Addr}(st:Step O O1 H H1)(q:QX mg K O1 H1 WE c po H'):QX mg K O H WE c po H':=by
 obtain⟨nm,O',S',h1,h2,h3,h4⟩:=q
 exact⟨nm,O',S',h1,h2,st.trans h3,h4⟩
def spX(mg:Str->Option Value)(K:PySem.W.Frag)(n:Nat)(F:XCt):Sp:=λ vs H Q E=>∃O ds S W WE,ds.length=n/\Reps K O H vs ds/\StOk K O H S/\F ds S W WE/\(∀v H',QG K O H W v H'->Q v H')/\∀c po H',QX mg K O H WE (.ref c) po H'->E (.ref c) po H'
def XR(X:Cx)(O:Own)(H:Hp)(WE:WX)(e:Value)(s2:Shared):Prop:=
 (∃pins σ H1 s1 a C vs,e=.ref a/\Inv X pins σ H1 s1/\s2.os=s1.os/\s2.gens=s1.gens/\Heap.MadeExcOf s1.heap s2.heap a (.ref C) vs/\QX X.mg X.K O H WE (.ref C) none H1)∨
 (∃pins σ H1 s1 E',Inv X pins σ H1 s1/\CXE X.prog X.w X.stack H1 s1 E' e s2/\∀c po H',E' (.ref c) po H'->QX X.mg X.K O H WE (.ref c) po H')∨
 (∃pins σ H1 a C t dx,e=.ref a/\Inv X pins σ H1 s2/\H1 a=some (.ext (ExO a C t (some dx)))/\(X.ex=[]->X.s₀.heap.get? a=none)/\QX X.mg X.K O H WE (.ref C) (some dx) (off H1 a))
theorem XR.pre{X:Cx}{O O1:Own}{H H1:Hp}{WE:WX}{e:Value}{s2:Shared}(st:Step O O1 H H1)(h:XR X O1 H1 WE e s2):XR X O H WE e s2:=by
 rcases h with⟨pins,σ,H2,s1,a,C,vs,h1,h2,h3,h4,h5,h6⟩ | ⟨pins,σ,H2,s1,E',h1,h2,h3⟩ | ⟨pins,σ,H2,a,C,t,dx,h1,h2,h3,h4,h5⟩
 . exact .inl ⟨pins,σ,H2,s1,a,C,vs,h1,h2,h3,h4,h5,h6.pre st⟩
 . exact .inr (.inl ⟨pins,σ,H2,s1,E',h1,h2,λ c po H' z=>(h3 c po H' z).pre st⟩)
 . exact .inr (.inr ⟨pins,σ,H2,a,C,t,dx,h1,h2,h3,h4,h5.pre st⟩)
def oH(X:Cx)(Γ:Gam)(S:Store)(sts:List Stmt)(W:DL.Fin)(WE:WX):Prop:=
 ∀ (pins:Pins)(s:Shared)(σ:L2.St)(H:Hp)(O:Own),Inv X pins σ H s->EnvOk X.K O H σ Γ->StOk X.K O H S->
   wpAny (model X.prog X.w) X.A (execs sts X.env) (SP X pins (ends X.K O H W)) (XR X O H WE) s
section
variable {X : Cx} {Γ : Gam} {S : Store} {sts : List Stmt} {st : Stmt} {W : DL.Fin} {WE : WX} {e : Expr} {es : List Expr}
theorem QW(h:Rns X.nox Γ S sts W):oH X Γ S sts W WE:=λ pins s σ H O I env ok=>
 wpAny_mono (h pins s σ H O (I.wish _) env ok) (λ _ _ q=>q.unwish) λ _ _ z=>z.elim
theorem Mv(h:Rn X.nox Γ S st {W with nx:=λ Γ1 S1=>oH X Γ1 S1 sts W WE}):oH X Γ S (st::sts) W WE:=by
 intro pins s σ H O I env ok
 refine wpAny_execs_cons (wpAny_mono (h pins s σ H O (I.wish _) env ok) (λ f s1 q=>?_) λ _ _ z=>z.elim)
 cases f with
 | next=>
   obtain⟨σ',H',I',O1,Γ1,S1,w,st1,ok1,env1⟩:=q
   exact wpAny_mono (w pins s1 σ' H' O1 I'.unwish env1 ok1) (λ _ _ q=>rG st1 q) λ _ _ z=>z.pre st1
 | ret v=>exact q.unwish
 | brk=>exact q.unwish
 | cont=>exact q.unwish
def Exc(Ω:Wd)(x:Str):Prop:=∃C,Ω.mg x=some (.ref C)/\PySem.W.excIn Ω.K C oW kE=true/\Atr Ω.K C
theorem Mq{x:Str}{C:Addr}{np cp rp:Pos}{pins:Pins}{s:Shared}{σ:L2.St}{H:Hp}{O:Own}{Q:Flow->Shared->Prop}(hm:X.mg x=some (.ref C))(hx:PySem.W.excIn X.K C oW kE=true)(hcalm:X.calm=true)
 (h:EvA X.nox Γ S [e] λ ds S1=>ds.length=1/\WE x S1)(hg:Gl X x)(hdb:(x==("__debug__":Str))=false)(hs:starEach [e] X.env=[(false,eval e X.env)])
 (I:Inv X pins σ H s)(env:EnvOk X.K O H σ Γ)(ok:StOk X.K O H S):
 wpAny (model X.prog X.w) X.A (exec (.Raise (some (.Call (.Name x np) [e] [] cp)) none rp) X.env) Q (XR X O H WE) s:=by
 have OC:=Ky (mg:=X.mg) I.ok.mod.kin hm hx
 obtain⟨tl,N,nm,q,bs,hd,sn,sub,ab,col,dd,k0,k1,k2,k3,k5,mN,hC,hN,hni,T⟩:=OC.obj
 have hpl:(backTo cp (starEach [e] X.env)).any (·.1)=false:=by rw[hs];rfl
 refine wpAny_Raise_call_subT (C:=C) (bm:=tl) (mN:=mN) (hdct:=hd) (N:=N) (nm:=nm) (q:=q) (bs:=bs) (sn:=sn) (sub:=sub) (ab:=ab) (col:=col) (dd:=dd) (k0:=k0) (k1:=k1) (k2:=k2) (k3:=k3) (k5:=k5) PySem.F.excBase_ValueError (T.hasType PySem.F.excBase_ValueError.hasBase) (I.ok.hd hcalm) hpl hni (ni I hg hm ⟨rfl,?_⟩ hdb)
 have h':=h cp pins s σ H O (I.wish _) env ok
 have h':wpAny (model X.prog X.w) X.A (spliced (backTo cp (starEach [e] X.env))) (AP X.nox pins σ (QA X.K O H λ ds S1=>ds.length=1/\WE x S1)) (λ _ _=>False) s:=h'
 rw[hs]at h' ⊢
 refine Calls.evalArgs_plain (wpAny_mono h' (λ vs s2 hq=>?_) λ _ _ z=>z.elim)
 obtain⟨ws,H1,I1,r1,O1,ds,S1,⟨l1,w1⟩,st1,ok1,rp1⟩:=hq
 have I1:=I1.unwish
 refine⟨rfl,?_,I1.bk _ _ hC,hN.keeps I1.bk,T.keeps I1.bk,λ h2 a hm2=>.inl ⟨pins,σ,H1,s2,a,C,vs,rfl,I1,rfl,rfl,hm2,x,O1,S1,hm,⟨w1,λ C' e=>by cases e;exact hx⟩,st1,ok1⟩⟩
 rw[←r1.length,rp1.length,l1];decide
theorem Oj{c:Expr}{x:Str}{C:Addr}{np cp rp pos:Pos}(hm:X.mg x=some (.ref C))(hx:PySem.W.excIn X.K C oW kE=true)(hcalm:X.calm=true)
 (h:Ts X.nox Γ S c λ k S1=>(k=true->EvA X.nox Γ S1 [e] λ ds S2=>ds.length=1/\WE x S2)/\(k=false->oH X Γ S1 sts W WE))(hg:Gl X x)(hdb:(x==("__debug__":Str))=false)(hs:starEach [e] X.env=[(false,eval e X.env)]):
 oH X Γ S (.If c [.Raise (some (.Call (.Name x np) [e] [] cp)) none rp] [] pos::sts) W WE:=by
 intro pins s σ H O I env ok
 refine wpAny_execs_cons (wpAny_If (wpAny_mono (h pins s σ H O (I.wish _) env ok) (λ d s1 hq=>?_) λ _ _ z=>z.elim))
 obtain⟨H1,I1,O1,S1,w,st1,ok1⟩:=hq
 have I1:=I1.unwish
 cases d with
 | true=>
   refine wpAny_execs_cons (wpAny_mono (Mq (Q:=λ _ _=>False) hm hx hcalm (w.1 rfl) hg hdb hs I1 (env.mono st1) ok1) (λ _ _ z=>z.elim) λ _ _ z=>z.pre st1)
 | false=>
   refine wpAny_execs_nil ?_
   exact wpAny_mono (w.2 rfl pins s1 σ H1 O1 I1 (env.mono st1) ok1) (λ _ _ q=>rG st1 q) λ _ _ z=>z.pre st1
end
variable {Ω : Wd}
structure BX(Ω:Wd) where
 lev:Nat
 chk:Bool->List Str->Nm->List Stmt->Bool
 wp:Gam->Store->DL.Fin->WX->Prop
 sound:∀{X:Cx}{r:Nat}{top:Bool}{N:List Str}{nm:Nm}{sts:List Stmt}{Γ:Gam}{S:Store}{W:DL.Fin}{WE:WX},At Ω X.nox r top N nm->lev≤r->chk top N nm sts=true->wp Γ S W WE->oH X Γ S sts W WE
def BX.of(b:Bl Ω):BX Ω where
 lev:=b.lev
 chk:=b.chk
 wp Γ S W _:=b.wp Γ S W
 sound:=by
  intro X r top N nm sts Γ S W WE A hl hc hw
  exact QW (b.sound A hl hc hw)
def Ik:Stmt->Option (Expr×List Stmt×Bool)
 | .If e b o _=>some (e,b,o.isEmpty)
 | _=>none
theorem Lb{st:Stmt}{e:Expr}{b:List Stmt}(h:Ik st=some (e,b,true)):∃p,st=.If e b [] p:=by
 unfold Ik at h
 split at h
 . rename_i e' b' o p
   have h:=Option.some.inj h
   have h1:e'=e:=congrArg Prod.fst h
   have h2:b'=b:=congrArg (λ z=>z.2.1) h
   have h3:o.isEmpty=true:=congrArg (λ z=>z.2.2) h
   cases o with
   | nil=>subst h1 h2;exact⟨p,rfl⟩
   | cons=>cases h3
 . cases h
def rsV:Stmt->Option (Option Expr×Bool)
 | .Raise e c _=>some (e,c.isNone)
 | _=>none
theorem Nh{st:Stmt}{e:Option Expr}(h:rsV st=some (e,true)):∃p,st=.Raise e none p:=by
 unfold rsV at h
 split at h
 . rename_i e' c p
   have h:=Option.some.inj h
   have h1:e'=e:=congrArg Prod.fst h
   have h2:c.isNone=true:=congrArg Prod.snd h
   cases c with
   | none=>subst h1;exact⟨p,rfl⟩
   | some=>cases h2
 . cases h
def Jg:Expr->Bool
 | .Constant (.str _) _ _=>true
 | _=>false
theorem Lh{e:Expr}(h:Jg e=true):∃x k p,e=.Constant (.str x) k p:=by
 unfold Jg at h
 split at h
 . exact⟨_,_,_,rfl⟩
 . cases h
def BX.ifr{x:Str}(ex:Exc Ω x)(c:Te Ω)(rest:BX Ω):BX Ω where
 lev:=max c.lev rest.lev
 chk top N nm sts:=match sts with
  | []=>false
  | st::sts=>anB (Ik st) λ z=>z.2.2&&gG z.2.1 λ b=>anB (rsV b) λ u=>u.2&&anB u.1 λ v=>jb v λ y es=>gG es λ m=>Jg m&&((y==x)&&(glb nm x&&(okN x&&(c.chk top N nm z.1&&rest.chk top N nm sts))))
 wp Γ S W WE:=c.wp Γ S λ k S1=>(k=true->WE x S1)/\(k=false->rest.wp Γ S1 W WE)
 sound:=by
  intro X r top N nm sts Γ S W WE A hl hc hw
  obtain⟨l1,l2⟩:=lv2 hl
  cases sts with
  | nil=>exact fE hc
  | cons st sts=>
    obtain⟨⟨ce,bs,bb⟩,g1,hc_1⟩:=bx hc
    obtain⟨g2,hc_2⟩:=aa hc_1
    obtain⟨b,g3,hc_3⟩:=cg hc_2
    obtain⟨⟨v,vb⟩,g4,hc_4⟩:=bx hc_3
    obtain⟨g5,hc_5⟩:=aa hc_4
    obtain⟨v',g6,hc_6⟩:=bx hc_5
    obtain⟨y,np,es,cp,rfl,hc_7⟩:=eG hc_6
    obtain⟨m,rfl,hc_8⟩:=cg hc_7
    obtain⟨g7,hc_9⟩:=aa hc_8
    obtain⟨m',j,cp0,rfl⟩:=Lh g7
    have hc:=hc_9
    have g2:bb=true:=g2
    have g3:bs=[b]:=g3
    have g5:vb=true:=g5
    have g6:v=some (.Call (.Name y np) [.Constant (.str m') j cp0] [] cp):=g6
    subst g2 g3 g5 g6
    obtain⟨pos,rfl⟩:=Lb g1
    obtain⟨rp,rfl⟩:=Nh g4
    obtain⟨h1,hc⟩:=aa hc
    obtain⟨h2,hc⟩:=aa hc
    obtain⟨h3,hc⟩:=aa hc
    obtain⟨h4,h5⟩:=aa hc
    have e:y=x:=eq_of_beq h1
    subst e
    obtain⟨C,hm,hx,_⟩:=ex
    refine Oj (C:=C) (by rw[show X.mg=Ω.mg from A.g];exact hm) (by rw[show X.K=Ω.K from A.k];exact hx) A.calm (Ts.mono (c.sound A l1 h4 hw) λ k S1 q=>⟨λ hk=>?_,λ hk=>rest.sound A l2 h5 (q.2 hk)⟩) (A.glb h2) (bY h3).1 rfl
    exact dw (G4 (gR ⟨rfl,q.1 hk⟩)) rfl
def BX.cons(s:Sm Ω)(rest:BX Ω):BX Ω where
 lev:=max s.lev rest.lev
 chk top N nm sts:=match sts with | st::sts=>s.chk top N nm st&&rest.chk top N nm sts | _=>false
 wp Γ S W WE:=s.wp Γ S {W with nx:=λ Γ1 S1=>rest.wp Γ1 S1 W WE}
 sound:=by
  intro X r top N nm sts Γ S W WE A hl hc hw
  obtain⟨l1,l2⟩:=lv2 hl
  cases sts with
  | nil=>exact fE hc
  | cons st sts=>
    obtain⟨h1,h2⟩:=aa hc
    exact Mv (Rn.mono (s.sound A l1 h1 hw) (λ G S1 q=>rest.sound A l2 h2 q) (λ _ _ q=>q) (λ _ _ q=>q) λ _ _ q=>q)
structure CalleeX(P:Program)(w:World)(K:PySem.W.Frag)(mg:Str->Option Value)(base:Heap)(x:Str)(k n:Nat)(F:XCt):Prop where
 ex:∃f fd ps,FnOk P w K mg base (CXE P w) k f fd ps (spX mg K n F)/\mg x=some (.ref f)/\PySem.W.keepIn K (.ref f)=true/\Binds K fd ps []
abbrev zE(Ω:Wd)(x:Str)(k n:Nat)(F:XCt):Prop:=CalleeX Ω.P Ω.w Ω.K Ω.mg Ω.base x k n F
abbrev OkX(Ω:Wd)(k:Nat)(f:Addr)(fd:FuncData)(ps:List Str)(F:XCt):Prop:=FnOk Ω.P Ω.w Ω.K Ω.mg Ω.base (CXE Ω.P Ω.w) k f fd ps (spX Ω.mg Ω.K ps.length F)
theorem Kh{x qual:Str}{sm:Stmt}{f:Addr}{fd:FuncData}{ps:List Str}{k n:Nat}{F:XCt}(FF:Fun Ω.K x qual sm f fd)(h:FnOk Ω.P Ω.w Ω.K Ω.mg Ω.base (CXE Ω.P Ω.w) k f fd ps (spX Ω.mg Ω.K n F))(hm:Ω.mg x=some (.ref f))(b:Binds Ω.K fd ps []):CalleeX Ω.P Ω.w Ω.K Ω.mg Ω.base x k n F:=⟨f,fd,ps,h,hm,FF.kp,b⟩
theorem G6{K:PySem.W.Frag}{O:Own}{H:Hp}{N:List Str}{vs:List V}{ds:List D}(r:Reps K O H vs ds):EnvOk K O H (L2.start N vs) (ds.map some++List.replicate (N.length-ds.length) none):=by
 have hv:vs.length=ds.length:=r.length
 constructor
 . simp[L2.start,hv]
 . intro i d h
   by_cases hi:i<ds.length
   . rw[x9 (by simpa using hi),y7]at h
     cases e:ds[i]? with
     | none=>rw[e]at h;cases h
     | some d'=>
       rw[e]at h
       cases h
       obtain⟨v,hv',rv⟩:=r.get e
       refine⟨v,?_,rv⟩
       unfold L2.start
       rw[x9 (by rw[y6,hv];exact hi),y7,hv']
       rfl
   . rw[List.getElem?_append_right (by simpa using hi),List.getElem?_replicate]at h
     split at h<;>cases h
theorem Ny{P:Program}{w:World}{K:PySem.W.Frag}{mg:Str->Option Value}{base:Heap}{x qual:Str}{sm:Stmt}{f:Addr}{fd:FuncData}{N ps:List Str}{k:Nat}{F:XCt}(FF:Fun K x qual sm f fd)(SC:FnScope N ps (aj sm))
 (body:∀(cdv:Value)(A:Around)(outer:List Env)(s:Shared)(H:Hp)(E:XK)(ds:List D)(S:Store)(W:WD)(WE:WX),Room k (A.deeper (envOfC qual (aj sm) s.heap.objs.size f cdv))->ds.length=ps.length->F ds S W WE->
  oH (cC (CXE P w) P w K mg base N qual (aj sm) f cdv A outer s H E) (ds.map some++List.replicate (N.length-ds.length) none) S (ak sm) {nx:=λ _ S1=>W .non S1,rt:=W} WE):FnOk P w K mg base (CXE P w) (k+1) f fd ps (spX mg K ps.length F):=by
 obtain⟨oc,od,kV,doc,pm,an,cdv,ct,osl,rfl,lk,hcd⟩:=FF.ex
 refine J6 lk hcd SC (λ vs H Q E h=>?_) λ A outer s H vs Q E hr h=>?_
 . obtain⟨O,ds,S,W,WE,hl,r,_⟩:=h
   rw[r.length,hl]
 . obtain⟨O,ds,S,W,WE,hl,r,st,hF,q,qe⟩:=h
   have hB:=body cdv A outer s H E ds S W WE hr hl hF
   refine⟨λ D σ H'=>σ=L2.start N vs/\H'=H/\(∀σ' H2,QN K O H (λ _ S1=>W .non S1) σ' H2->D.nx σ' H2)/\(∀v H2,QG K O H W v H2->D.rt v H2),?_,rfl,rfl,?_,λ v H2 z=>q v H2 z⟩
   . rintro pins s1 σ H' D I ⟨rfl,rfl,k1,k2⟩
     refine wpAny_mono (hB pins s1 _ H' O I (G6 r) st) (λ f s' q=>?_) λ e s2 z=>?_
     . cases f with
       | next=>obtain⟨σ',H',I',q⟩:=q;exact⟨σ',H',I',k1 σ' H' q⟩
       | brk=>obtain⟨σ',H',I',_,_,_,q,_⟩:=q;exact q.elim
       | cont=>obtain⟨σ',H',I',_,_,_,q,_⟩:=q;exact q.elim
       | ret u=>obtain⟨v,σ',H',I',r,q⟩:=q;exact⟨v,σ',H',I',r,k2 v H' q⟩
     . rcases z with⟨pins,σ,H1,s1,a,C,vs,rfl,I1,h3,h4,h5,h6⟩ | ⟨pins,σ,H2,s1,E',I1,h2,h3⟩ | ⟨pins,σ,H2,a,C,t,dx,rfl,I1,h3,h4,h5⟩
       . exact CZ I1 h3 h4 h5 (qe C none H1 h6)
       . exact Ji I1 h2 λ c po H' z=>qe c po H' (h3 c po H' z)
       . exact Gs I1 h3 (h4 rfl) (qe C (some dx) _ h5)
   . rintro σ' H2 ⟨O',Γ',S',w,st',ok',_⟩
     exact q _ _ ⟨O',.non,S',w,st',ok',.non⟩
def MT(N ps:List Str)(sm:Stmt)(k:Nat)(body:BX Ω):Bool:=
 ((aj sm).kind==.function)&&(!(aj sm).isCoroutine&&(!(aj sm).isGenerator&&(decide N.Nodup&&(decide (N.take ps.length=ps)&&((ps.all λ x=>(aj sm).names.lookup x==some .local||(aj sm).names.lookup x==some .cell)&&
   (((aj sm).names.all λ y=>!(y.2==.free))&&(Nat.ble body.lev k&&body.chk true N (aj sm).names (ak sm))))))))
theorem Rv(N0:Ω.cd=none){x qual:Str}{sm:Stmt}{f:Addr}{fd:FuncData}{N ps:List Str}{k:Nat}{F:XCt}(FF:Fun Ω.K x qual sm f fd)(body:BX Ω)(hc:MT N ps sm k body=true)
 (vc:∀(ds:List D)(S:Store)(W:WD)(WE:WX),F ds S W WE->ds.length=ps.length->body.wp (ds.map some++List.replicate (N.length-ds.length) none) S {nx:=λ _ S1=>W .non S1,rt:=W} WE):OkX Ω (k+1) f fd ps F:=by
 obtain⟨h1,hc⟩:=aa hc
 obtain⟨h2,hc⟩:=aa hc
 obtain⟨h3,hc⟩:=aa hc
 obtain⟨h4,hc⟩:=aa hc
 obtain⟨h5,hc⟩:=aa hc
 obtain⟨h6,hc⟩:=aa hc
 obtain⟨h7,hc⟩:=aa hc
 obtain⟨h8,h9⟩:=aa hc
 have nd:N.Nodup:=of_decide_eq_true h4
 have sc:FnScope N ps (aj sm):=⟨eq_of_beq h1,nt h2,nt h3,nd,of_decide_eq_true h5,λ x hx=>by
  have:=List.all_eq_true.mp h6 x hx
  simpa using this,λ y hy e=>by
  have:=List.all_eq_true.mp h7 y hy
  simp[e]at this⟩
 refine Ny FF sc λ cdv A outer s H E ds S W WE hr hl h=>?_
 refine body.sound (r:=k) (top:=true) (N:=N) (nm:=(aj sm).names) ⟨rfl,rfl,rfl,rfl,rfl,hr,rfl,rfl,rfl,nd,sc.kind,λ x kk h=>.inl h,λ _ _=>rfl,λ _ p q=>nomatch (N0.symm.trans q)⟩ (Nat.le_of_ble_eq_true h8) h9 (vc ds S W WE h hl)
def XQ(X:Cx)(pins:Pins)(σ:L2.St)(O:Own)(H:Hp)(WE:WX)(e:Value)(s2:Shared):Prop:=
 ∃H1 s1 E',Inv X pins σ H1 s1/\CXE X.prog X.w X.stack H1 s1 E' e s2/\∀c po H',E' (.ref c) po H'->QX X.mg X.K O H WE (.ref c) po H'
def EvX(X:Cx)(Γ:Gam)(S:Store)(e:Expr)(W:WD)(WE:WX):Prop:=
 ∀ (pins:Pins)(s:Shared)(σ:L2.St)(H:Hp)(O:Own),Inv X pins σ H s->EnvOk X.K O H σ Γ->StOk X.K O H S->
   wpAny (model X.prog X.w) X.A (eval e X.env) (EP X pins σ (QG X.K O H W)) (XQ X pins σ O H WE) s
section
variable {X : Cx} {Γ : Gam} {S : Store} {W : WD} {WE : WX} {e : Expr} {es : List Expr} {pos : Pos}
theorem Js{x:Str}{p:Pos}{k n:Nat}{F:XCt}(C:CalleeX X.prog X.w X.K X.mg X.base x k n F)(hr:Room k X.A)(h:EvA X.nox Γ S (e::es) λ ds S1=>ds.length=n/\F ds S1 W WE)(hg:Gl X x)(hdb:(x==("__debug__":Str))=false)
 (he:starEach (e::es) X.env=(false,eval e X.env)::starEach es X.env)(hpl:(backTo pos (starEach es X.env)).any (·.1)=false):EvX X Γ S (.Call (.Name x p) (e::es) [] pos) W WE:=by
 intro pins s σ H O I env st
 obtain⟨f,fd,ps,hF,hm,hk,hb⟩:=C.ex
 refine wpAny_Call_Name_kw (ni I hg hm ?_ hdb)
 refine PySem.W.callWith_K (h₀:=X.base) I.ok.mod.kin hk (wpAny_mono (h pos pins s σ H O (I.wish _) env st) (λ us s1 hq=>?_) λ _ _ z=>z.elim) he hpl
 obtain⟨vs,H1,I1,r1,O1,ds,S1,⟨hl,w⟩,st1,ok1,rep⟩:=hq
 have I1:=I1.unwish
 refine⟨I1.kIn,?_⟩
 have h:spX X.mg X.K n F vs H1 (QG X.K O H W) (λ c po H'=>∃d,c=.ref d/\QX X.mg X.K O H WE (.ref d) po H'):=⟨O1,ds,S1,W,WE,hl,rep,ok1,w,λ v H' q=>q.pre st1,λ c po H' q=>⟨c,rfl,q.pre st1⟩⟩
 have hl2:us.length=ps.length:=by rw[←r1.length];exact hF.len _ _ _ _ h
 refine wpAny_call (codeAny_mono (hF.run X.A X.stack s1 H1 ⟨us,[]⟩ us vs _ _ hr I1.env0 ?_ r1 h) λ r s' hq=>?_)
 . have:=hb s1 us I1.kIn (by rw[List.append_nil];exact hl2)
   rw[List.append_nil]at this
   exact this
 . cases r with
   | error e=>
     refine⟨H1,s1,λ c po H'=>∃d,c=.ref d/\QX X.mg X.K O H WE (.ref d) po H',I1,hq,λ c po H' z=>?_⟩
     obtain⟨d,e,z⟩:=z
     cases e
     exact z
   | ok fl=>
     cases fl with
     | ret u=>exact I1.after hq
     | next=>exact False.elim hq
     | brk=>exact False.elim hq
     | cont=>exact False.elim hq
end
structure XEx(Ω:Wd) where
 lev:Nat
 chk:Bool->List Str->Nm->Expr->Bool
 wp:Gam->Store->WD->WX->Prop
 sound:∀{X:Cx}{r:Nat}{top:Bool}{N:List Str}{nm:Nm}{e:Expr}{Γ:Gam}{S:Store}{W:WD}{WE:WX},At Ω X.nox r top N nm->lev≤r->chk top N nm e=true->wp Γ S W WE->EvX X Γ S e W WE
def XEx.call{x:Str}{k n:Nat}{F:XCt}(C:zE Ω x k n F)(as:Ar Ω):XEx Ω where
 lev:=max k as.lev
 chk top N nm e:=match e with | .Call (.Name y _) (a::es) [] _=>(y==x)&&(glb nm x&&(okN x&&as.chk top N nm (a::es))) | _=>false
 wp Γ S W WE:=as.wp Γ S λ ds S1=>ds.length=n/\F ds S1 W WE
 sound:=by
  intro X r top N nm e Γ S W WE A hl hc hw
  obtain⟨l1,l2⟩:=lv2 hl
  split at hc
  . rename_i y _ a es _
    obtain⟨h1,h2⟩:=aa hc
    obtain⟨h2,h3⟩:=aa h2
    obtain⟨h3,h4⟩:=aa h3
    have e:y=x:=eq_of_beq h1
    subst e
    have pl:=as.plain h4
    rw[List.all_cons]at pl
    obtain⟨p1,p2⟩:=aa pl
    have C':CalleeX X.prog X.w X.K X.mg X.base y k n F:=by
     have:=C
     rw[show X.prog=Ω.P from A.p,show X.w=Ω.w from A.w,show X.K=Ω.K from A.k,show X.mg=Ω.mg from A.g,show X.base=Ω.base from A.b];exact C
    exact Js C' (A.room.mono l1) (as.sound A l2 h4 hw) (A.glb h2) (bY h3).1 (aL p1 _ _) (lW p2 _ _)
  . exact fE hc
end XE
set_option maxHeartbeats 400000
set_option maxHeartbeats 1000000
namespace XE
open PySem PySem.Spec L2 DL RF
open PyProof.Rows
def qOf(x y:Str):Bool:=y==("TurnError":Str)||(y==("ValueError":Str)||y==x)
structure ExF(mg:Str->Option Value)(K:PySem.W.Frag)(L T:List Str):Prop where
 cls:∀x∈L,∃C,mg x=some (.ref C)/\PySem.W.excIn K C oW kE=true/\Atr K C/\(∃t,mg "TurnError"=some (.ref t)/\PySem.W.exmOne K (.ref C) (.ref t)=some true)/\
  ∀y∈T,∃(v:V) (u:Value),((∃t,v=.ref t/\u=.ref t)∨∃t,v=.ty t/\u=.type t)/\(mg y=some u∨(mg y=none/\bootBuiltins y=some u/\y≠"__name__"))/\PySem.W.kitOne K (.ref C) u=some (qOf x y)
theorem ExF.exc{Ω:Wd}{L T:List Str}(E:ExF Ω.mg Ω.K L T){x:Str}(h:x∈L):Exc Ω x:=by
 obtain⟨C,h1,h2,h3,_⟩:=E.cls x h
 exact⟨C,h1,h2,h3⟩
def M8(K:PySem.W.Frag)(C:Addr):Bool:=
 (PySem.W.findIn K (.ref C) "__getattribute__"==some (some (.builtin "BaseException.__getattribute__")))&&((PySem.W.findIn K (.ref C) "__getattr__"==some none)&&((PySem.W.findIn K (.ref C) "__class__"==some (some (.builtin "object.__class__")))&&
 ((PySem.W.specialIn K (.builtin "object.__class__") "__get__"==some (some (.builtin "getset_descriptor.__get__")))&&((PySem.W.takesIn K (.builtin "object.__class__")==some true)&&((PySem.W.mroIn K C (.type "object")==some true)&&(PySem.W.mroIn K C (.type "BaseException")==some true))))))
def NQ(K:PySem.W.Frag)(C:Addr)(x y:Str):Bool:=match PySem.W.nsIn K mainGlobals y with
 | some (some (.ref t))=>PySem.W.kitOne K (.ref C) (.ref t)==some (qOf x y)
 | some none=>(y==("ValueError":Str))&&(PySem.W.kitOne K (.ref C) (.type "ValueError")==some (qOf x y))
 | _=>false
def Jl(K:PySem.W.Frag)(T:List Str)(x:Str):Bool:=match PySem.W.nsIn K mainGlobals x with
 | some (some (.ref C))=>PySem.W.excIn K C oW kE&&(M8 K C&&((match PySem.W.nsIn K mainGlobals "TurnError" with | some (some (.ref t))=>PySem.W.exmOne K (.ref C) (.ref t)==some true | _=>false)&&T.all (NQ K C x)))
 | _=>false
theorem N5{K:PySem.W.Frag}{h:Heap}{mg:Str->Option Value}{L T:List Str}(X:K.In h)(G:h.Ns mainGlobals mg)(e:L.all (Jl K T)=true):ExF mg K L T:=by
 constructor
 intro x hx
 have e:=List.all_eq_true.mp e x hx
 unfold Jl at e
 split at e
 . rename_i C hn
   obtain⟨e1,e⟩:=aa e
   obtain⟨e2,e⟩:=aa e
   obtain⟨e3,e4⟩:=aa e
   refine⟨C,PySem.W.mg_of X G hn,e1,?_,?_,λ y hy=>?_⟩
   . unfold M8 at e2
     obtain⟨a1,e⟩:=aa e2
     obtain⟨a2,e⟩:=aa e
     obtain⟨a3,e⟩:=aa e
     obtain⟨a4,e⟩:=aa e
     obtain⟨a5,e⟩:=aa e
     obtain⟨a6,a7⟩:=aa e
     exact⟨eq_of_beq a1,eq_of_beq a2,eq_of_beq a3,eq_of_beq a4,eq_of_beq a5,eq_of_beq a6,eq_of_beq a7⟩
   . split at e3
     . rename_i t ht
       exact⟨t,PySem.W.mg_of X G ht,eq_of_beq e3⟩
     . cases e3
   . have e:=List.all_eq_true.mp e4 y hy
     unfold NQ at e
     split at e
     . rename_i t ht
       exact⟨.ref t,.ref t,.inl ⟨t,rfl,rfl⟩,.inl (PySem.W.mg_of X G ht),eq_of_beq e⟩
     . rename_i ht
       obtain⟨a1,a2⟩:=aa e
       obtain rfl:=eq_of_beq a1
       exact⟨.ty "ValueError",.type "ValueError",.inr ⟨_,rfl,rfl⟩,.inr ⟨PySem.W.mg_none_of X G ht,by decide+kernel,by decide⟩,eq_of_beq a2⟩
     . cases e
 . cases e
variable {Ω : Wd}
end XE
namespace RF
open PySem PySem.Spec L2 DL
open PyProof.Rows
def isStr:D->Bool
 | .str _=>true
 | _=>false
theorem Mf(K:PySem.W.Frag)(d:D):PySem.W.kitOne K (.type (tyD d)) (.type "str")=some (isStr d):=by cases d<;>kernel_rfl
theorem Li{X:Cx}{Γ:Gam}{S:Store}{W:WD}{a:Expr}{p q pos:Pos}(h:Ev X Γ S a λ x S1=>W (.bl (isStr x)) S1)(hm1:X.mg "isinstance"=none)(hm:X.mg "str"=none)(hg1:Gl X "isinstance")(hg:Gl X "str")
 (hs1:starEach [a,.Name "str" q] X.env=(false,eval a X.env)::starEach [.Name "str" q] X.env):Ev X Γ S (.Call (.Name "isinstance" p) [a,.Name "str" q] [] pos) W:=by
 intro pins s σ H O I env st
 have hc:gM X (.builtin "isinstance") (λ xs H' Q=>∃v,xs=[v,.ty "str"]/\∃O' d S',StOk X.K O' H' S'/\Rep X.K O' H' v d/\Q (.bl (isStr d)) H'):=by
  intro pins s σ H xs us Q I r h
  obtain⟨v,rfl,O',d,S',st',rep,q⟩:=h
  obtain⟨u,u2,rfl,r1,r2⟩:=vals2 r
  cases r2
  refine Ca I st' rep r1 λ Z e p ne=>?_
  subst e
  exact PySem.W.kia_one Z I.kIn p (Mf X.K d) ne λ tk=>⟨.bl _,H,I.tok tk,rfl,q⟩
 refine za hc hg1 hm1 PyProof.Rows.boot_isinstance (gU h.pe (gU (Ci hg hm (show bootBuiltins "str"=some (.type "str")from by decide+kernel) (v:=.ty "str") rfl (by decide) (by decide)) su rfl) hs1) (by decide) (by decide) hs1 rfl pins s σ H _ I ⟨O,env,st,λ v H' q=>?_⟩
 obtain⟨O',d,S',w,st1,ok1,rep⟩:=q
 exact⟨v,rfl,O',d,S',ok1,rep,O',_,S',w,st1,ok1,.bl _⟩
section
variable {Ω : Wd}
def Ex.isiS(hm1:Ω.mg "isinstance"=none)(a:Ex Ω)(hm:Ω.mg "str"=none):Ex Ω where
 lev:=a.lev
 chk top N nm e:=jb e λ f es=>two2 es λ b n=>anB (nameV n) λ t=>(f==("isinstance":Str))&&((t==("str":Str))&&(glb nm "isinstance"&&(glb nm "str"&&(okE b&&a.chk top N nm b))))
 wp Γ S W:=a.wp Γ S λ x S1=>W (.bl (isStr x)) S1
 sound:=by
  intro X r top N nm e Γ S W A hl hc hw
  obtain⟨f,p,es,pos,rfl,hc_1⟩:=eG hc
  obtain⟨b,n,rfl,hc_2⟩:=two2_of hc_1
  have hc_2:anB (nameV n) (λ t=>(f==("isinstance":Str))&&((t==("str":Str))&&(glb nm "isinstance"&&(glb nm "str"&&(okE b&&a.chk top N nm b)))))=true:=hc_2
  obtain⟨t,hn,hc_3⟩:=bx hc_2
  obtain⟨q,rfl⟩:=cW hn
  obtain⟨h1,hc⟩:=aa hc_3
  obtain⟨h2,hc⟩:=aa hc
  obtain⟨h3,hc⟩:=aa hc
  obtain⟨h4,hc⟩:=aa hc
  obtain⟨h5,h6⟩:=aa hc
  obtain rfl:=eq_of_beq h1
  obtain rfl:=eq_of_beq h2
  exact Li (a.sound A hl h6 hw) (by rw[A.g];exact hm1) (by rw[A.g];exact hm) (A.glb h3) (A.glb h4) (aL h5 _ _)
end
end RF
namespace XE
open PySem PySem.Spec L2 DL RF
open PyProof.Rows
variable {Ω : Wd}
end XE
namespace RF
open PySem PySem.Spec L2 DL
open PyProof.Rows
variable {Ω : Wd}
end RF
namespace RF
open PySem PySem.Spec L2 DL
open PyProof.Rows
variable {Ω : Wd}
end RF
namespace RF
open PySem PySem.Spec L2 DL
open PyProof.Rows
variable {Ω : Wd}
end RF
namespace RF
open PySem PySem.Spec L2 DL
open PyProof.Rows
variable {Ω : Wd}
end RF
namespace XE
open PySem PySem.Spec L2 DL RF
open PyProof.Rows
variable {Ω : Wd}
def _root_.RF.Ex.ofX(x:XEx Ω):Ex Ω where
 lev:=x.lev
 chk:=x.chk
 wp Γ S W:=x.wp Γ S W λ _ _=>False
 sound:=by
  intro X r top N nm e Γ S W A hl hc hw
  have A':At Ω X.nox r top N nm:=⟨A.p,A.w,A.k,A.g,A.b,A.room,rfl,A.calm,A.n,A.nd,A.kind,A.look,A.fn,A.cd⟩
  have h:=x.sound (X:=X) A' hl hc hw
  intro pins s σ H O I env st
  refine wpAny_mono (h pins s σ H O I env st) (λ v s1 q=>q) λ ev s2 z=>?_
  obtain⟨H1,s1,E',I1,cx,hE⟩:=z
  obtain⟨a,C,t,po,H',B,rfl,ho,hg,fl,fw,lkp,hq⟩:=cx
  obtain⟨x,O',S',hm,w,st',ok'⟩:=hE C po H' hq
  obtain⟨_,w⟩:=w.ex
  exact(show False from w).elim
end XE
namespace RF
open PySem PySem.Spec L2 DL
open PyProof.Rows
def yx:Bc where
 x:="str"
 id:="str"
 boot:=by decide+kernel
 wp ds S W:=match ds with
  | [.int i]=>i.natAbs.log2<1920/\W (.str (toString i)) S
  | _=>False
 sound:=by
  intro X ds S W hc hr h
  split at h
  . refine eV Ad λ O H vs st r=>?_
    obtain⟨v,rfl,r'⟩:=gj r
    cases r'
    exact⟨_,rfl,h.1,QG.here h.2 st (.str _)⟩
  . exact h.elim
section
variable {X : Cx} {Γ : Gam} {S : Store} {W : WD}
theorem Og{o e:Expr}{es:List Expr}{name:Str}{id:String}{apos cpos:Pos}(slot:Slot "str" name id)(hty:typeOf (.builtin id)=pure (.type "method_descriptor"))
 (h:Ev X Γ S o λ x S1=>∃sx,x=.str sx/\EvA X Γ S1 (e::es) λ ds S2=>cB X (.builtin id) (.str sx::ds) S2 W)
 (hbase:attributeBase o name X.env (eval o X.env)=eval o X.env)
 (hfew:((backTo cpos (starEach (e::es) X.env)).all (λ x=>!x.1)&&(backToKw cpos (keywordEach [] X.env)).all (λ x=>x.1.isSome)
  &&decide ((e::es).length+([]:List Keyword).length+(if([]:List Keyword).isEmpty then 0 else 1)<30))=true)
 (hline:(apos.endLine==cpos.line)=true)(hs:starEach (e::es) X.env=(false,eval e X.env)::starEach es X.env)(hplain:(backTo cpos (starEach es X.env)).any (·.1)=false):Ev X Γ S (.Call (.Attribute o name apos) (e::es) [] cpos) W:=by
 intro pins s σ H O I env st
 have hm:MtR X id λ x vs H Q=>∃O sx ds S W',x=.str sx/\Reps X.K O H vs ds/\StOk X.K O H S/\cB X (.builtin id) (.str sx::ds) S W'/\∀v H',QG X.K O H W' v H'->Q v H':=by
  rintro pins s σ H x xs v us Q I r1 r2 ⟨O,sx,ds,S,W',rfl,rp,ok,c,k⟩
  refine thn (c pins s σ H O (.str sx::xs) (v::us) I ok (.cons (.str sx) rp) (.cons r1 r2)) λ u s1 q=>?_
  obtain⟨v',H',I',r',q⟩:=q
  exact⟨v',H',I',r',k v' H' q⟩
 have hA:PA X (e::es) (λ σ H Q=>∃O Γ S W',EnvOk X.K O H σ Γ/\StOk X.K O H S/\EvA X Γ S (e::es) W'/\∀vs H',QA X.K O H W' vs H'->Q vs H'):=by
  rintro pos pins s σ H Q I ⟨O,Γ,S,W',env,st,he,k⟩
  refine thn (he pos pins s σ H O I env st) λ us s1 q=>?_
  obtain⟨vs,H1,I1,r1,q⟩:=q
  exact⟨vs,H1,I1,r1,k vs H1 q⟩
 refine yg (T:="str") PySem.F.plainAttrs_str slot hty hm (h.pe) hA hbase hfew hline hs hplain pins s σ H _ I ⟨O,env,st,λ v H' q=>?_⟩
 obtain⟨O1,x,S1,⟨sx,rfl,he⟩,st1,ok1,rep1⟩:=q
 cases rep1
 refine⟨rfl,O1,Γ,S1,_,env.mono st1,ok1,he,λ vs H2 q2=>?_⟩
 obtain⟨O2,ds,S2,c,st2,ok2,rep2⟩:=q2
 exact⟨O2,sx,ds,S2,W,rfl,rep2,ok2,c,λ v' H3 q3=>q3.pre (st1.trans st2)⟩
theorem IK{x y:Str}(w:W (.bl (Txt.startswith x y)) S):cB X (.builtin "str.startswith") [.str x,.str y] S W:=by
 intro pins s σ H O vs us I st r ru
 cases r with
 | cons r1 r2=>cases r2 with
   | cons r2 r3=>
     cases r3
     cases r1
     cases r2
     cases ru with
     | cons u1 u2=>cases u2 with
       | cons u2 u3=>
         cases u3
         obtain⟨t1,rfl⟩:=u1
         obtain⟨t2,rfl⟩:=u2
         exact SC.startswith ⟨.bl _,H,I,rfl,QG.here w st (.bl _)⟩
theorem vK:∀{xs:List Str}{its:List Value},Vals (xs.map V.str) its->∃l:List (Str×Tok),strValues l=its/\l.map (·.1)=xs
 | [],its,h=>by
   cases h
   exact⟨[],rfl,rfl⟩
 | x ::xs,its,h=>by
   cases h with
   | cons r1 r2=>
     obtain⟨t,rfl⟩:=r1
     obtain⟨l,e1,e2⟩:=vK r2
     exact⟨(x,t)::l,by rw[←e1];rfl,by rw[List.map_cons,e2]⟩
theorem my:∀(l:List (Str×Tok)),Vals ((l.map (·.1)).map V.str) (strValues l)
 | []=>.nil
 | (x,t)::l=>.cons ⟨t,rfl⟩ (my l)
theorem vZ{K:PySem.W.Frag}{O:Own}{H:Hp}:∀{xs:List Str}{ys:List V},Reps K O H ys (xs.map D.str)->ys=xs.map V.str
 | [],ys,h=>by cases h;rfl
 | x ::xs,ys,h=>by
   cases h with
   | cons r1 r2=>
     cases r1
     rw[vZ r2];rfl
theorem iz{K:PySem.W.Frag}{O:Own}{H:Hp}:∀xs:List Str,Reps K O H (xs.map V.str) (xs.map D.str)
 | []=>.nil
 | x::xs=>.cons (.str x) (iz xs)
theorem Nj{sep:Str}{d:D}{xs:List Str}(hd:dI S d=some (xs.map D.str))(hj:JoinOk sep xs=true)(w:W (.str (Txt.join sep xs)) S):cB X (.builtin "str.join") [.str sep,d] S W:=by
 intro pins s σ H O vs us I st r ru
 cases r with
 | cons r1 r2=>cases r2 with
   | cons r2 r3=>
     cases r3
     cases r1
     obtain⟨a,ys,rfl,hs,hq⟩:=rD (pins:=pins) (s:=s) (σ:=σ) (X:=X) st r2 hd
     obtain rfl:=vZ hq
     cases ru with
     | cons u1 u2=>cases u2 with
       | cons u2 u3=>
         cases u3
         obtain⟨t1,rfl⟩:=u1
         cases u2
         obtain⟨its,rv,pl,hz⟩:=I.list hs
         obtain⟨l,rfl,e2⟩:=vK rv
         exact SC.join pl.isList e2 hj λ t' k=>⟨.str _,H,I.tok _,⟨_,rfl⟩,QG.here w st (.str _)⟩
theorem Kg {x y:Str}(hy:(y.length==0)=false)(hx:x.length≤1000000)(w:W (.lst ((Txt.split x y).map D.str)) S∨W (.loc S.length) (S++[(Txt.split x y).map D.str])):cB X (.builtin "str.split") [.str x,.str y] S W:=by
 intro pins s σ H O vs us I st r ru
 cases r with
 | cons r1 r2=>cases r2 with
   | cons r2 r3=>
     cases r3
     cases r1
     cases r2
     cases ru with
     | cons u1 u2=>cases u2 with
       | cons u2 u3=>
         cases u3
         obtain⟨t1,rfl⟩:=u1
         obtain⟨t2,rfl⟩:=u2
         have hz:x.length≤sizeLine:=by rw[sizeLine_eq];omega
         have done:∀(l:List (Str×Tok))(tk:Nat),l.map (·.1)=Txt.split x y->l.length≤sizeLine->EP X pins σ (QG X.K O H W) (.ref s.heap.objs.size) {s with toks:=tk,heap:=s.heap.push {cls:=.type "list",data:=.seq (strValues l).toArray}}:=λ l tk e hl=>by
          have hp:=I.hok.fresh (y8 _)
          have I2:=I.laid (a:=s.heap.objs.size) (o:=.lst ((l.map (·.1)).map V.str)) (t':=tk) (h':=s.heap.push {cls:=.type "list",data:=.seq (strValues l).toArray}) (λ b o e=>Heap.get?_push_of_some _ e) (y8 _) ⟨by rw[y6,y6];exact hl,strValues l,0,my l,Heap.get?_push_size _ rfl⟩
          rw[e]at I2
          refine⟨.ref _,_,I2,rfl,?_⟩
          rcases w with w | w
          . exact jw w st hp (iz _)
          . exact qz w st hp (iz _)
         have szl:(Txt.split x y).length≤x.length+1:=by
          have:=split_weight x y (by have:=ne_of_beq_false hy;omega)
          omega
         cases h1:(decide (x.length<y.length)||decide (Builtin.Str.strKind x<Builtin.Str.strKind y))with
         | true=>exact call_meets F.slot_str_split (typeIs_str _ _ _) F.entry_str_split (F.args_str_split_2 _ _) (meets_str_split_cannot_occur x y t1 t2 h1) (done [(x,t1)] _ (by unfold Txt.split;rw[if_pos h1];rfl) (by show 1≤sizeLine;decide))
         | false=>
           cases hf:(Builtin.Str.occurrences x y 0 x.length (x.length+1)).isEmpty with
           | true=>exact call_meets F.slot_str_split (typeIs_str _ _ _) F.entry_str_split (F.args_str_split_2 _ _) (meets_str_split_not_found x y t1 t2 h1 hy hf) (done [(x,t1)] _ (by unfold Txt.split;rw[if_neg (by rw[h1];decide),if_pos hf];rfl) (by show 1≤sizeLine;decide))
           | false=>
             have e:Txt.split x y=Builtin.Str.partsBetween x (Builtin.Str.occurrences x y 0 x.length (x.length+1)) y.length:=by unfold Txt.split;rw[if_neg (by rw[h1];decide),if_neg (by rw[hf];decide)]
             have hn:(Builtin.Str.partsBetween x (Builtin.Str.occurrences x y 0 x.length (x.length+1)) y.length).length≤sizeLine:=by rw[←e,sizeLine_eq];omega
             refine call_meets F.slot_str_split (typeIs_str _ _ _) F.entry_str_split (F.args_str_split_2 _ _) (meets_str_split_sep x y t1 t2 h1 hy hf hz hn) ?_
             rw[strsFrom_eq]
             exact done (numbered s.toks _) _ (by rw[numbered_texts,e]) (by rw[←y6 (f:=Prod.fst),numbered_texts];exact hn)
end
def inT(y x:Str):Bool:=!(Builtin.Str.occurrences x y 0 x.length 1).isEmpty
section
variable {X : Cx} {S : Store}
theorem QH{x y:Str}{W:Bool->Store->Prop}(w:W (inT y x) S):aY X .In (.str y) (.str x) S (asB W):=by
 intro pins s σ H O v w' u u' I st r1 r2 r3 r4
 cases r1
 cases r2
 obtain⟨t1,rfl⟩:=r3
 obtain⟨t2,rfl⟩:=r4
 exact PySem.P.in_str ⟨.bl _,H,I,rfl,QG.here ⟨_,rfl,w⟩ st (.bl _)⟩
end
def RB:Bc where
 x:="int"
 id:="int"
 boot:=by decide+kernel
 wp ds S W:=match ds with
  | [.str x]=>∃n,intText? x=some n/\x.length≤640/\W (.int n) S
  | _=>False
 sound:=by
  intro X ds S W hc hr h
  split at h
  . rename_i x
    obtain⟨n,h1,h2,w⟩:=h
    intro pins s σ H O vs us I st r ru
    cases r with
    | cons r1 r2=>
      cases r2
      cases r1
      cases ru with
      | cons u1 u2=>
        cases u2
        obtain⟨t1,rfl⟩:=u1
        exact PySem.W.KIN.call_text h1 h2 ⟨.int _,H,I.tok _,⟨_,rfl⟩,QG.here w st (.int _)⟩
  . exact h.elim
structure Ms where
 name:Str
 id:String
 slot:Slot "str" name id
 hty:typeOf (.builtin id)=pure (.type "method_descriptor")
 wp:Str->List D->Store->WD->Prop
 sound:∀{X:Cx}{sx:Str}{ds:List D}{S:Store}{W:WD},wp sx ds S W->cB X (.builtin id) (.str sx::ds) S W
def cU:Ms where
 name:="join"
 id:="str.join"
 slot:=F.slot_str_join
 hty:=F.type_str_join
 wp sx ds S W:=∃d xs,ds=[d]/\dI S d=some (List.map D.str xs)/\JoinOk sx xs=true/\W (.str (Txt.join sx xs)) S
 sound:=by
  rintro X sx ds S W ⟨d,xs,rfl,h1,h2,w⟩
  exact Nj h1 h2 w
def mX:Ms where
 name:="split"
 id:="str.split"
 slot:=F.slot_str_split
 hty:=F.type_str_split
 wp sx ds S W:=∃y,ds=[.str y]/\(y.length==0)=false/\sx.length≤1000000/\(W (.lst ((Txt.split sx y).map D.str)) S∨W (.loc S.length) (S++[(Txt.split sx y).map D.str]))
 sound:=by
  rintro X sx ds S W ⟨y,rfl,h1,h2,w⟩
  exact Kg h1 h2 w
def Ju:Ms where
 name:="startswith"
 id:="str.startswith"
 slot:=F.slot_str_startswith
 hty:=F.type_str_startswith
 wp sx ds S W:=∃y,ds=[.str y]/\W (.bl (Txt.startswith sx y)) S
 sound:=by
  rintro X sx ds S W ⟨y,rfl,w⟩
  exact IK w
def NZ:Expr->Bool
 | .Constant .. =>true
 | _=>false
theorem Kv{x:Expr}{name:Str}{env:Env}(h:(nameE x||NZ x)=true):attributeBase x name env (eval x env)=eval x env:=by
 cases x<;>first | rfl | exact ff h
section
variable {Ω : Wd}
def Ex.ms(m:Ms)(o a:Ex Ω):Ex Ω where
 lev:=max o.lev a.lev
 chk top N nm e:=match e with
  | .Call f es ks q=>ks.isEmpty&&gG es λ y=>anB (yf f) λ u=>(u.2.1==m.name)&&((nameE u.1||NZ u.1)&&((u.2.2.endLine==q.line)&&(okE y&&(o.chk top N nm u.1&&a.chk top N nm y))))
  | _=>false
 wp Γ S W:=o.wp Γ S λ x S1=>match x with | .str sx=>a.wp Γ S1 λ d S2=>m.wp sx [d] S2 W | _=>False
 sound:=by
  intro X r top N nm e Γ S W A hl hc hw
  obtain⟨l1,l2⟩:=lv2 hl
  cases e with
  | Call f es ks q=>
    obtain⟨g1,h_1⟩:=aa hc
    obtain⟨y,rfl,h_2⟩:=cg h_1
    obtain⟨⟨x,n,p⟩,g2,h_3⟩:=bx h_2
    obtain⟨g3,h_4⟩:=aa h_3
    obtain⟨g4,h_5⟩:=aa h_4
    obtain⟨g5,h_6⟩:=aa h_5
    obtain⟨g6,h_7⟩:=aa h_6
    obtain⟨g7,g8⟩:=aa h_7
    obtain rfl:=Ab g2
    have g3:n=m.name:=eq_of_beq g3
    subst g3
    cases ks with
    | cons=>cases g1
    | nil=>
      refine Og m.slot m.hty ((o.sound A l1 g7 hw).mono λ x S1 q=>?_) (Kv g4) (P0 g6) g5 (aL g6 _ _) rfl
      cases x with
      | str sx=>exact⟨sx,rfl,dw ((a.sound A l2 g8 q).mono λ d S2 q=>gR (m.sound q)) (aL g6 _ _)⟩
      | _=>exact(show False from q).elim
  | _=>exact fE hc
end
variable {x : Str}
section
variable {X : Cx} {Γ : Gam} {S : Store} {W : WD} {a b e : Expr} {pos : Pos}
theorem JG{y:Str}{t:Tok}(hm:X.mg x=some (.str y t))(w:W (.str y) S)(hg:Gl X x)(hd:(x==("__debug__":Str))=false):Ev X Γ S (.Name x pos) W:=
 λ pins s σ H O I _ st=>jN hg hm (v:=.str y) ⟨t,rfl⟩ hd pins s σ H _ I (QG.here w st (.str y))
theorem Nx{y:Str}(hz:x.length+y.length≤1000000)(w:W (.str (x++y)) S):dj X .Add (.str x) (.str y) S W:=
 dZ Dw λ O H v w' st r1 r2=>by cases r1;cases r2;exact⟨x,y,rfl,rfl,small hz,QG.here w st (.str _)⟩
theorem RM{i:Int}{c:Nat}(hz:x.length≤1000000)(h:atI x.cps.toList i=some c)(w:W (.str ⟨#[c]⟩) S):IxW X a b (.str x) (.int i) S W:=by
 intro pins s σ H O v w' u u' I st r1 r2 r3 r4 hs
 cases r1
 cases r2
 exact PN a b pins s σ H _ _ u u' _ I r3 r4 ⟨x,i,c,rfl,rfl,small hz,h,QG.here w st (.str _)⟩ hs
theorem Rm{lo hi:Option Int}(hz:x.length≤1000000)(w:W (.str (Txt.slice x lo hi)) S):SlW X (.str x) lo hi S W:=by
 intro pins s σ H O v u vl vu sl I st r1 r3 hs pl pu
 cases r1
 obtain⟨t,rfl⟩:=r3
 have hq:∀(t':Tok)(k:Nat),EP X pins σ (QG X.K O H W) (.str (Txt.slice x lo hi) t') {s with toks:=k}:=λ t' k=>⟨.str _,H,I.tok _,⟨_,rfl⟩,QG.here w st (.str _)⟩
 have hl:=Nat.le_trans (Txt.slice_le x lo hi) (small hz)
 refine⟨"str",_,F.slot_str_getitem.lookup,typeIs_str _ _ _,?_⟩
 cases pl<;>cases pu
 . exact wpAny_getItem_str_slice (l:=none) (u:=none) (st:=none) hs rfl (post_val_or_str ⟨hl,hq⟩)
 . exact wpAny_getItem_str_slice (l:=none) (u:=some (_,_)) (st:=none) hs rfl (post_val_or_str ⟨hl,hq⟩)
 . exact wpAny_getItem_str_slice (l:=some (_,_)) (u:=none) (st:=none) hs rfl (post_val_or_str ⟨hl,hq⟩)
 . exact wpAny_getItem_str_slice (l:=some (_,_)) (u:=some (_,_)) (st:=none) hs rfl (post_val_or_str ⟨hl,hq⟩)
def ItS(x:Str):It:=⟨λ i _=>i<x.cps.size,λ i H y H'=>H'=H/\∃c,x.cps[i]? =some c/\y=.str ⟨#[c]⟩,λ i _=>i=x.cps.size⟩
theorem yE{P:Program}{w:World}{K:PySem.W.Frag}{tg:Expr}{ty:String}{t:Tok}(it:Addr)(hn:["enumerate","zip","dict_itemiterator","dict_reverseitemiterator","odict_iterator","itertools.zip_longest","itertools.pairwise"].contains ty=false)
 (W:∀A:Around,A.handled=none->Walks P w A it [it] [it] x.cps.size (SignAt x) (λ i h=>h.IsStrIter it ty x t i))
 (D:∀(A:Around)(E:Value->Shared->Prop)(s:Shared)(Q:Option Value->Shared->Prop),A.handled=none->s.heap.IsStrIter it ty x t x.cps.size->(∀h',Heap.ExtBut it s.heap h'->Q none {s with heap:=h'})->wpAny (model P w) A (pyNext (.ref it)) Q E s)
 (Z:∀(A:Around)(E:Value->Shared->Prop)(i:Nat)(s:Shared)(Q:Value->Shared->Prop),s.heap.IsStrIter it ty x t i->Q (.ref it) s->wpAny (model P w) A (pyIter (.ref it)) Q E s):
 Turn P w K tg (ItS x) [it] it (λ i h=>h.IsStrIter it ty x t i) where
 mem:=by simp
 obj:=λ i h st b hb=>by
  have e:b=it:=by simpa using hb
  subst e
  obtain⟨o,e,c,d⟩:=st
  exact⟨o,e,λ v z=>by rw[d]at z;cases z⟩
 keep:=λ i h h' st k=>by
  obtain⟨o,e,r⟩:=st
  exact⟨o,k it (by simp) o e,r⟩
 item:=by
  intro X hP hw hK hc i pins s σ H E I hf st hg
  subst hP hw hK
  obtain⟨f0,f1,f2,f3,f4,f5⟩:=hf it (by simp)
  refine(W X.A (I.ok.hd hc)).item i s _ _ hg st λ v h' tk hv st' kk=>?_
  obtain⟨c,u,hc',rfl⟩:=hv
  have I1:Inv X pins σ H {s with heap:=h',toks:=tk}:=I.turned (λ b o hb e=>kk b o (by simpa using hb) e) f0 f1 f3 f4 f5
  obtain⟨o,e1,e2,e3⟩:=id st'
  exact⟨_,rfl,ye (s:={s with heap:=h',toks:=tk}) e1 e2 e3 hn ⟨.str ⟨#[c]⟩,H,I1,⟨u,rfl⟩,⟨rfl,c,hc',rfl⟩,st',λ b hb=>(hf b hb).1⟩⟩
 done:=by
  intro X hP hw hK hc i pins s σ H E I hf st hg
  subst hP hw hK
  have hg:i=x.cps.size:=hg
  subst hg
  obtain⟨f0,f1,f2,f3,f4,f5⟩:=hf it (by simp)
  exact D X.A E s _ (I.ok.hd hc) st λ h' eb=>⟨rfl,I.turned (t':=s.toks) (λ b o hb e=>eb b o hb e) f0 f1 f3 f4 f5⟩
 self:=λ A i s Q E st h=>Z A E i s Q st h
def sgs(x:Str):List D:=x.cps.toList.map λ c=>.str ⟨#[c]⟩
theorem qK{K:PySem.W.Frag}{O:Own}{H:Hp}(x:Str):gq K (ItS x) O H (sgs x):=by
 intro O' H' st _ i
 refine⟨λ d hd=>?_,λ hi=>by rw[hi];show(sgs x).length=x.cps.size;simp[sgs]⟩
 unfold sgs at hd
 rw[y7]at hd
 cases e:x.cps.toList[i]? with
 | none=>rw[e]at hd;cases hd
 | some c=>
   rw[e]at hd
   cases hd
   have hl:=(z0.mp e).1
   refine⟨(by simpa using hl:i<x.cps.size),λ y H'' z=>?_⟩
   obtain⟨rfl,c',hc,rfl⟩:=z
   have:c'=c:=by
    have e':x.cps[i]? =some c:=by simpa using e
    rw[hc]at e'
    exact Option.some.inj e'
   subst this
   exact⟨dG.refl _,.str _⟩
theorem PL{tg:Expr}{W:List D->Store->Prop}(h:Ev X Γ S e λ d S1=>match d with | .str x=>W (sgs x) S1 | _=>False):ItW X Γ S tg e W:=by
 intro pins s σ H O I env st
 refine thn (h pins s σ H O I env st) λ u s1 hq_=>?_
 obtain⟨v,H1,I1,r1,O1,d,S1,w,st1,ok1,rep⟩:=hq_
 cases rep with
 | str x=>
   obtain⟨t,rfl⟩:=r1
   have fp:∀b∈[s1.heap.objs.size],fC X pins H1 b:=λ b hb=>by
    have e:b=s1.heap.objs.size:=by simpa using hb
    subst e
    exact I1.fpOk (y8 _) (I1.hok.fresh (y8 _))
   cases ha:x.cps.all (· <128)
   . refine wpAny_pyIter_wide ha ?_
     exact⟨s1.heap.objs.size,[s1.heap.objs.size],_,ItS x,H1,rfl,I1.kept (t':=s1.toks) λ b o e=>Heap.get?_push_of_some _ e,yE (t:=t) _ (by decide) (λ A hA=>Walks.strWide hA _ x t) (λ A E s Q hA st hQ=>wpAny_pyNext_wide_end hA st (by simp) hQ) (λ A E i s Q st hQ=>wpAny_pyIter_striter_wide st hQ),⟨_,Heap.get?_push_size _ rfl,rfl,rfl⟩,fp,O1,_,S1,w,st1,ok1,qK x⟩
   . refine wpAny_pyIter_ascii ha ?_
     exact⟨s1.heap.objs.size,[s1.heap.objs.size],_,ItS x,H1,rfl,I1.kept (t':=s1.toks) λ b o e=>Heap.get?_push_of_some _ e,yE (t:=t) _ (by decide) (λ A hA=>Walks.strAscii hA _ x t) (λ A E s Q hA st hQ=>wpAny_pyNext_ascii_end hA st (by simp) hQ) (λ A E i s Q st hQ=>wpAny_pyIter_striter_ascii st hQ),⟨_,Heap.get?_push_size _ rfl,rfl,rfl⟩,fp,O1,_,S1,w,st1,ok1,qK x⟩
 | _=>exact w.elim
end
section
variable {Ω : Wd}
def Ex.gstr{x i:Str}(h:∃t,Ω.mg x=some (.str i t)):Ex Ω where
 lev:=0
 chk _ _ nm e:=anB (nameV e) λ y=>(y==x)&&(glb nm x&&okN x)
 wp _ S W:=W (.str i) S
 sound:=by
  intro X r top N nm e Γ S W A _ hc hw
  obtain⟨y,g,h0⟩:=bx hc
  obtain⟨p,rfl⟩:=cW g
  obtain⟨h1,h2⟩:=aa h0
  obtain⟨h2,h3⟩:=aa h2
  have e:y=x:=eq_of_beq h1
  subst e
  obtain⟨t,h⟩:=h
  exact JG (by rw[A.g];exact h) hw (A.glb h2) (bY h3).1
def Ex.catS(a b:Ex Ω):Ex Ω where
 lev:=max a.lev b.lev
 chk top N nm e:=match e with | .BinOp l o r _=>(o==.Add)&&(a.chk top N nm l&&b.chk top N nm r) | _=>false
 wp Γ S W:=a.wp Γ S λ x S1=>b.wp Γ S1 λ y S2=>∃u v,x=.str u/\y=.str v/\u.length+v.length≤1000000/\W (.str (u++v)) S2
 sound:=by
  intro X r top N nm e Γ S W A hl hc hw
  obtain⟨l1,l2⟩:=lv2 hl
  cases e with
  | BinOp l o r' pos=>
    obtain⟨h1,h2⟩:=aa hc
    obtain⟨h2,h3⟩:=aa h2
    have e:o=.Add:=eq_of_beq h1
    subst e
    refine tu ((a.sound A l1 h2 hw).mono λ x S1 q=>(b.sound A l2 h3 q).mono λ y S2 q=>?_)
    obtain⟨u,v,rfl,rfl,z,w⟩:=q
    exact Nx z w
  | _=>exact fE hc
def Ex.ixS(a b:Ex Ω):Ex Ω where
 lev:=max a.lev b.lev
 chk top N nm e:=match e with | .Subscript l r _=>okE r&&(a.chk top N nm l&&b.chk top N nm r) | _=>false
 wp Γ S W:=a.wp Γ S λ x S1=>b.wp Γ S1 λ y S2=>∃u i c,x=.str u/\y=.int i/\u.length≤1000000/\atI u.cps.toList i=some c/\W (.str ⟨#[c]⟩) S2
 sound:=by
  intro X r top N nm e Γ S W A hl hc hw
  obtain⟨l1,l2⟩:=lv2 hl
  cases e with
  | Subscript l r' pos=>
    obtain⟨h1,h2⟩:=aa hc
    obtain⟨h2,h3⟩:=aa h2
    refine Kd ((a.sound A l1 h2 hw).mono λ x S1 q=>(b.sound A l2 h3 q).mono λ y S2 q=>?_) (ph h1)
    obtain⟨u,i,c,rfl,rfl,z,g,w⟩:=q
    exact RM z g w
  | _=>exact fE hc
def GK:Expr->Option (Option Expr×Option Expr×Bool)
 | .Slice x y z _=>some (x,y,z.isNone)
 | _=>none
theorem Hj{e:Expr}{x y:Option Expr}(h:GK e=some (x,y,true)):∃p,e=.Slice x y none p:=by
 cases e with
 | Slice a b c p=>
   have h:=Option.some.inj h
   have h1:a=x:=congrArg (λ z=>z.1) h
   have h2:b=y:=congrArg (λ z=>z.2.1) h
   have h3:c.isNone=true:=congrArg (λ z=>z.2.2) h
   cases c with
   | none=>subst h1 h2;exact⟨p,rfl⟩
   | some c=>cases h3
 | _=>cases h
def Ex.slS(a:Ex Ω)(lo hi:Po Ω):Ex Ω where
 lev:=max a.lev (max lo.lev hi.lev)
 chk top N nm e:=match e with | .Subscript l s _=>anB (GK s) λ z=>z.2.2&&(a.chk top N nm l&&(lo.chk top N nm z.1&&hi.chk top N nm z.2.1)) | _=>false
 wp Γ S W:=a.wp Γ S λ x S1=>lo.wp Γ S1 λ l S2=>hi.wp Γ S2 λ h S3=>∃u,x=.str u/\u.length≤1000000/\W (.str (Txt.slice u l h)) S3
 sound:=by
  intro X r top N nm e Γ S W A hl hc hw
  obtain⟨l1,l2⟩:=lv2 hl
  obtain⟨l2,l3⟩:=lv2 l2
  cases e with
  | Subscript l sl pos=>
    obtain⟨⟨x,y,z⟩,g,h0⟩:=bx hc
    obtain⟨hz,h1⟩:=aa h0
    have hz:z=true:=hz
    subst hz
    obtain⟨p,rfl⟩:=Hj g
    obtain⟨h1,h2⟩:=aa h1
    obtain⟨h2,h3⟩:=aa h2
    refine qp ((a.sound A l1 h1 hw).mono λ x S1 q=>PoD.mono (lo.sound A l2 h2 q) λ l S2 q=>PoD.mono (hi.sound A l3 h3 q) λ h S3 q=>?_)
    obtain⟨u,rfl,z,w⟩:=q
    exact Rm z w
  | _=>exact fE hc
def Itb.str(a:Ex Ω):Itb Ω where
 lev:=a.lev
 chk top N nm _ e:=a.chk top N nm e
 wp Γ S W:=a.wp Γ S λ d S1=>match d with | .str x=>W (sgs x) S1 | _=>False
 sound:=by
  intro X r top N nm tg e Γ S W A hl hc hw
  exact PL (a.sound A hl hc hw)
def Ex.inS(a b:Ex Ω):Ex Ω where
 lev:=max a.lev b.lev
 chk top N nm e:=match e with | .Compare l os rs _=>gG os λ o=>gG rs λ r=>(o==.In)&&(okE r&&(a.chk top N nm l&&b.chk top N nm r)) | _=>false
 wp Γ S W:=a.wp Γ S λ x S1=>b.wp Γ S1 λ y S2=>∃u v,x=.str u/\y=.str v/\W (.bl (inT u v)) S2
 sound:=by
  intro X r top N nm e Γ S W A hl hc hw
  obtain⟨l1,l2⟩:=lv2 hl
  cases e with
  | Compare l os rs pos=>
    obtain⟨o,rfl,hc1⟩:=cg hc
    obtain⟨r',rfl,hc2⟩:=cg hc1
    obtain⟨h1,h2⟩:=aa hc2
    obtain⟨h0,h2⟩:=aa h2
    obtain⟨h2,h3⟩:=aa h2
    have e:o=.In:=eq_of_beq h1
    subst e
    refine Gr ((a.sound A l1 h2 hw).mono λ x S1 q=>(b.sound A l2 h3 q).mono λ y S2 q=>?_) (fQ h0)
    obtain⟨u,v,rfl,rfl,w⟩:=q
    exact(QH (W:=λ c S3=>W (.bl c) S3) w).mono λ d S3 hq=>by obtain⟨c,rfl,w⟩:=hq;exact w
  | _=>exact fE hc
abbrev Jo(X:Cx)(Γ:Gam)(S:Store)(es:List Expr)(acc:Str)(W:Str->Store->Prop):Prop:=
 ∀ (pins:Pins)(s:Shared)(σ:DL.St)(H:Hp)(O:Own),Inv X pins σ H s->EnvOk X.K O H σ Γ->StOk X.K O H S->
   Joins (model X.prog X.w) X.A X.xe (evalEach es X.env) acc (λ out s'=>∃H' O' S',Inv X pins σ H' s'/\W out S'/\Step O O' H H'/\StOk X.K O' H' S') s
theorem Joins.mono{M:Model}{A:Around}{E:Value->Shared->Prop}:∀{l:List (Sem Value)}{acc:Str}{Q Q':Str->Shared->Prop}{s:Shared},Joins M A E l acc Q s->(∀x s,Q x s->Q' x s)->Joins M A E l acc Q' s
 | [],_,_,_,_,h,k=>k _ _ h
 | x::l,acc,Q,Q',s,h,k=>wpAny_mono h (λ v s1 hq=>by obtain⟨y,t,e,z,hj⟩:=hq;exact⟨y,t,e,z,Joins.mono hj k⟩) λ _ _ e=>e
structure Fs(Ω:Wd) where
 lev:Nat
 chk:Bool->List Str->Nm->List Expr->Bool
 wp:Gam->Store->Str->(Str->Store->Prop)->Prop
 sound:∀{X:Cx}{r:Nat}{top:Bool}{N:List Str}{nm:Nm}{es:List Expr}{Γ:Gam}{S:Store}{acc:Str}{W:Str->Store->Prop},At Ω X r top N nm->lev≤r->chk top N nm es=true->wp Γ S acc W->Jo X Γ S es acc W
def Fs.nil:Fs Ω where
 lev:=0
 chk _ _ _ es:=es.isEmpty
 wp _ S acc W:=W acc S
 sound:=by
  intro X r top N nm es Γ S acc W A _ hc hw pins s σ H O I env st
  cases es with
  | nil=>exact⟨H,O,S,I,hw,Step.refl O H,st⟩
  | cons=>cases hc
theorem jR(e:Expr)(es:List Expr)(env:Env):evalEach (e::es) env=eval e env::evalEach es env:=rfl
def Fs.txt(i:Str)(k:Fs Ω):Fs Ω where
 lev:=k.lev
 chk top N nm es:=match es with | e::es=>(match e with | .Constant (.str j) _ _=>j==i | _=>false)&&k.chk top N nm es | []=>false
 wp Γ S acc W:=(acc++i).length≤1000000/\k.wp Γ S (acc++i) W
 sound:=by
  intro X r top N nm es Γ S acc W A hl hc hw pins s σ H O I env st
  cases es with
  | nil=>cases hc
  | cons e es=>
    obtain⟨h1,h2⟩:=aa hc
    cases e with
    | Constant c q pos=>
      cases c with
      | str j=>
        have e:j=i:=eq_of_beq h1
        subst e
        rw[jR]
        exact Calls.Constant_str ⟨j,_,rfl,small hw.1,k.sound A hl h2 hw.2 pins _ σ H O (I.tok _) env st⟩
      | _=>exact(y4 h1).elim
    | _=>exact(y4 h1).elim
def Fs.val(a:Ex Ω)(k:Fs Ω):Fs Ω where
 lev:=max a.lev k.lev
 chk top N nm es:=match es with | e::es=>(match e with | .FormattedValue v c f _=>(c==(-1))&&(f.isNone&&a.chk top N nm v) | _=>false)&&k.chk top N nm es | []=>false
 wp Γ S acc W:=a.wp Γ S λ d S1=>match d with
  | .str x=>x.length≤1000000/\(acc++x).length≤1000000/\k.wp Γ S1 (acc++x) W
  | .int n=>n.natAbs.log2<1920/\(acc++(toString n:Str)).length≤1000000/\k.wp Γ S1 (acc++(toString n:Str)) W
  | _=>False
 sound := by
  intro X r top N nm es Γ S acc W A hl hc hw pins s σ H O I env st
  obtain⟨l1,l2⟩:=lv2 hl
  cases es with
  | nil=>cases hc
  | cons e es=>
    obtain⟨h1,h2⟩:=aa hc
    cases e with
    | FormattedValue v c f pos=>
      obtain⟨g1,g2⟩:=aa h1
      obtain⟨g2,g3⟩:=aa g2
      have e:c= -1:=eq_of_beq g1
      subst e
      cases f with
      | some f=>cases g2
      | none=>
        rw[jR]
        refine wpAny_FormattedValue_plain (thn (a.sound A l1 g3 hw pins s σ H O I env st) λ u s1 hq=>?_)
        obtain⟨x,H1,I1,r1,O1,d,S1,w,st1,ok1,rep1⟩:=hq
        cases rep1 with
        | str x=>
          obtain⟨t,rfl⟩:=r1
          obtain⟨z1,z2,w⟩:=w
          have go:∀tk,Joins (model X.prog X.w) X.A X.xe (evalEach es X.env) (acc++x) (λ out s'=>∃H' O' S',Inv X pins σ H' s'/\W out S'/\Step O O' H H'/\StOk X.K O' H' S') {s1 with toks:=tk}:=λ tk=>
           Joins.mono (k.sound A l2 h2 w pins {s1 with toks:=tk} σ H1 O1 (I1.tok _) (env.mono st1) ok1) λ _ _ q=>by obtain⟨H',O',S',I',w',q1,q2⟩:=q;exact⟨H',O',S',I',w',st1.trans q1,q2⟩
          exact wpAny_formatField_str ⟨x,_,rfl,small z2,go s1.toks⟩ ⟨x,_,rfl,small z2,go _⟩ (small z1)
        | int n=>
          obtain⟨t,rfl⟩:=r1
          obtain⟨z1,z2,w⟩:=w
          refine wpAny_formatField_int z1 ⟨_,_,rfl,small z2,?_⟩
          exact Joins.mono (k.sound A l2 h2 w pins _ σ H1 O1 (I1.tok _) (env.mono st1) ok1) λ _ _ q=>by obtain⟨H',O',S',I',w',q1,q2⟩:=q;exact⟨H',O',S',I',w',st1.trans q1,q2⟩
        | _=>exact w.elim
    | _=>exact(y4 h1).elim
def Ex.fstr(k:Fs Ω):Ex Ω where
 lev:=k.lev
 chk top N nm e:=match e with | .JoinedStr es _=>decide (2≤es.length)&&k.chk top N nm es | _=>false
 wp Γ S W:=k.wp Γ S Str.empty λ x S1=>x.length≤1000000/\W (.str x) S1
 sound:=by
  intro X r top N nm e Γ S W A hl hc hw
  cases e with
  | JoinedStr es pos=>
    obtain⟨h1,h2⟩:=aa hc
    have h1:=of_decide_eq_true h1
    match es,h1,h2 with
    | e1::e2::es,_,h2=>
      intro pins s σ H O I env st
      refine wpAny_JoinedStr (Joins.mono (k.sound A hl h2 hw pins s σ H O I env st) λ x s1 q=>?_)
      obtain⟨H',O',S',I',⟨z,w⟩,q1,q2⟩:=q
      exact⟨small z,.str x,H',I'.tok _,⟨_,rfl⟩,O',_,S',w,q1,q2,.str x⟩
    | [],h,_=>exact absurd h (by simp)
    | [_],h,_=>exact absurd h (by simp)
  | _=>exact fE hc
end
end RF
namespace RF
open PySem PySem.Spec L2 DL
open PyProof.Rows
variable {x : Str}
abbrev JN(items:Array Value)(x:Value):Nat->Option PySem.Fin×Unit->Sem (ForInStep (Option PySem.Fin×Unit)):=λ i __s=>
 match items[i]? with
 | some y=>do
   let __do_lift ←eqBool y x
   if __do_lift=true then do
    let __do_lift ←retInt ↑i
    pure (ForInStep.done (some __do_lift,()))
    else pure (ForInStep.yield (none,()))
 | x=>pure (ForInStep.yield (none,()))
theorem yI{prog:Program}{w:World}{A:Around}{E:Value->Shared->Prop}{s:Shared}{items:Array Value}{x:Value}{e:Value->Bool}{j:Nat}{Q:Option PySem.Fin×Unit->Shared->Prop}(hj:j<items.size)
 (hit:e items[j]=true)(hno:∀m(hm:m<items.size),m<j->e items[m]=false)(he:∀y,y∈items->SeqAt.EqAt A s y x (e y))(h:Q (some (PySem.Fin.done (.ret (.int j s.toks))),()) {s with toks:=s.toks+1}):
 ∀(k i:Nat),i+k=items.size->i≤j->wpAny (model prog w) A (forIn (List.range' i k) (none,()) (JN items x)) Q E s
 | 0,i,hk,hi=>absurd hj (by omega)
 | k +1,i,hk,hi=>by
   have hlt:i<items.size:=by omega
   rw[List.range'_succ,List.forIn_cons]
   refine wpAny_bind ?_
   have g:items[i]? =some items[i]:=by simp[hlt]
   unfold JN
   rw[g]
   refine wpAny_bind (he _ (Array.getElem_mem hlt) prog w _ _ ?_)
   by_cases hij:i=j
   . subst hij
     rw[hit]
     wp_walk
     exact h
   . rw[hno i hlt (by omega)]
     exact wpAny_pure (yI hj hit hno he h k (i+1) (by omega) (by omega))
theorem wV(l:Addr)(items:Array Value)(n:Nat)(dd:Option Addr)(sl:Array (Option Value))(x:Value)(e:Value->Bool)(j:Nat)(hj:j<items.size)
 (hit:e items[j]=true)(hno:∀m(hm:m<items.size),m<j->e items[m]=false):
 Meets (Builtin.«tuple.index» ⟨[.ref l,x],[]⟩)
  (λ A R s=>s.heap.get? l=some {cls:=.type "tuple",dict:=dd,data:=.seq items n,slots:=sl}/\(∀y,y∈items->SeqAt.EqAt A.in1 s y x (e y))/\R (.ok (.ret (.int j s.toks))) {s with toks:=s.toks+1}):=by
 intro prog w A R s h
 obtain⟨hp,g,d,tk,os⟩:=s;obtain⟨hl,he,h⟩:=h
 unfold Builtin.«tuple.index»
 simp only[Std.Legacy.Range.forIn_eq_forIn_range',Std.Legacy.Range.size,Nat.sub_zero,Nat.add_sub_cancel,Nat.div_one,Nat.min_self]
 wp_walk using AutoSeq1.wpAny_loadPart' hl
 have em:min items.size items.size-0=items.size:=by omega
 show wpAny (model prog w) A.in1 (forIn (List.range' 0 (min items.size items.size-0)) (none,()) (JN items x)) _ _ _
 rw[em]
 refine yI hj hit hno he ?_ items.size 0 (by omega) (Nat.zero_le _)
 exact wpAny_pure h
def GT(mg:Str->Option Value)(K:PySem.W.Frag)(x:Str)(ss:List Str):Prop:=∃(a:Addr) (o:Obj) (its:Array Value) (n:Nat),mg x=some (.ref a)/\K.lookup a=some o/\o.cls=.type "tuple"/\o.dict=none/\o.data=.seq its n/\its.size≤sizeLine/\Vals (ss.map V.str) its.toList
def EY:List Str->List Value->Bool
 | [],vs=>vs.isEmpty
 | s::ss,vs=>match vs with
   | .str x _::vs=>(x==s)&&EY ss vs
   | _=>false
theorem Ai:∀{ss:List Str}{vs:List Value},EY ss vs=true->Vals (ss.map V.str) vs
 | [],vs,h=>by
   cases vs with
   | nil=>exact .nil
   | cons=>cases h
 | s ::ss,vs,h=>by
   cases vs with
   | nil=>cases h
   | cons v vs=>
     cases v with
     | str x t=>
       obtain⟨h1,h2⟩:=aa h
       obtain rfl:=eq_of_beq h1
       exact .cons ⟨t,rfl⟩ (Ai h2)
     | _=>exact(y4 h).elim
def gtO(ss:List Str)(o:Obj):Bool:=(o.cls==.type "tuple")&&(o.dict.isNone&&(match o.data with | .seq its _=>decide (its.size≤1000)&&EY ss its.toList | _=>false))
def gtB(K:PySem.W.Frag)(x:Str)(ss:List Str):Bool:=match PySem.W.nsIn K mainGlobals x with
 | some (some (.ref a))=>anB (K.lookup a) (gtO ss)
 | _=>false
theorem RG{K:PySem.W.Frag}{h:Heap}{mg:Str->Option Value}{ss:List Str}(X:K.In h)(G:h.Ns mainGlobals mg)(e:gtB K x ss=true):GT mg K x ss:=by
 unfold gtB at e
 split at e
 . rename_i a hn
   obtain⟨o,ho,e⟩:=bx e
   obtain⟨e1,e⟩:=aa e
   obtain⟨e2,e⟩:=aa e
   split at e
   . rename_i its n hd
     obtain⟨e3,e4⟩:=aa e
     exact⟨a,o,its,n,PySem.W.mg_of X G hn,ho,eq_of_beq e1,Option.isNone_iff_eq_none.mp e2,hd,Nat.le_trans (of_decide_eq_true e3) (by decide),Ai e4⟩
   . cases e
 . cases e
section
variable {X : Cx} {Γ : Gam} {S : Store} {W : WD} {a b e : Expr} {pos : Pos}
theorem Lg{α β:Type}(f:α->β){l:List α}{i:Int}{x:α}(h:atI l i=some x):atI (l.map f) i=some (f x):=by
 unfold atI at h ⊢
 rw[y6]
 cases e:ixN l.length i with
 | none=>rw[e]at h;cases h
 | some j=>
   rw[e]at h
   have h:l[j]? =some x:=h
   show(l.map f)[j]? =some (f x)
   rw[y7,h];rfl
theorem Qw{ss:List Str}{p:Pos}(g:GT X.mg X.K x ss)(h:Ev X Γ S b λ d S1=>∃i s,d=.int i/\atI ss i=some s/\W (.str s) S1)(hg:Gl X x)(hd:(x==("__debug__":Str))=false)(hs:uc b):Ev X Γ S (.Subscript (.Name x p) b pos) W:=by
 intro pins s σ H O I env st
 obtain⟨a,o,its,n,hm,hk,hc,hd',hdt,hz,hv⟩:=g
 refine Subscript_ (thn (jN hg hm (v:=.ref a) rfl hd pins s σ H (λ v H'=>v=.ref a/\H'=H) I ⟨rfl,rfl⟩) λ u s1 hq=>?_)
 obtain⟨v,H1,I1,r1,rfl,rfl⟩:=hq
 refine thn (h pins s1 σ _ O I1 env st) λ u' s2 hq=>?_
 obtain⟨w,H2,I2,r2,O2,y,S2,⟨i,z,rfl,hi,hw⟩,st2,ok2,rep2⟩:=hq
 cases rep2
 exact thn (Gz _ _ pins s2 σ H2 (.ref a) _ u u' (QG X.K O2 H2 W) I2 r1 r2 ⟨a,ss.map V.str,i,.str z,rfl,rfl,.inr ⟨o,its,n,hk,hc,hdt,hz,hv⟩,Lg _ hi,QG.here hw ok2 (.str z)⟩ (hs _ _)) λ _ _ q=>d9 st2 q
theorem IW(z:Str)(ss:List Str):inV (.str z) (ss.map V.str)=ss.contains z:=by
 unfold inV
 induction ss with
 | nil=>rfl
 | cons s ss ih=>
   rw[List.map_cons,List.any_cons,ih,List.contains_cons]
   have e:eqV (.str s) (.str z)=(s==z):=rfl
   rw[e]
   congr 1
   cases h:decide (s=z)with
   | true=>have:=of_decide_eq_true h;subst this;rfl
   | false=>have:=of_decide_eq_false h;rw[beq_eq_false_iff_ne.mpr this,beq_eq_false_iff_ne.mpr (Ne.symm this)]
theorem Ph{ss:List Str}{p:Pos}{no:Bool}{W:Bool->Store->Prop}(g:GT X.mg X.K x ss)(h:Ev X Γ S a λ d S1=>∃z,d=.str z/\W (if no then !ss.contains z else ss.contains z) S1)(hg:Gl X x)(hd:(x==("__debug__":Str))=false):Ts X Γ S (.Compare a [if no then CmpOp.NotIn else CmpOp.In] [.Name x p] pos) W:=by
 intro pins s σ H O I env st
 obtain⟨t,o,its,n,hm,hk,hc,hd',hdt,hz,hv⟩:=g
 refine wpAny_isTrue_Compare1 (thn (h pins s σ H O I env st) λ u s1 hq_=>?_) (fQ rfl)
 obtain⟨v,H1,I1,r1,O1,x,S1,⟨z,rfl,w⟩,st1,ok1,rep1⟩:=hq_
 cases rep1
 refine thn (jN hg hm (v:=.ref t) rfl hd pins s1 σ H1 (λ v H'=>v=.ref t/\H'=H1) I1 ⟨rfl,rfl⟩) λ u' s2 hq=>?_
 obtain⟨v,H2,I2,r2,rfl,rfl⟩:=hq
 have fin:∀(c:Value)(s3:Shared),EP X pins σ (λ v H'=>v=.bl (if no then !inV (.str z) (ss.map V.str)else inV (.str z) (ss.map V.str))/\H'=H2) c s3->wpAny (model X.prog X.w) X.A (truthy c) (TP X pins σ (QT X.K O H W)) X.xe s3:=by
  rintro c s3 ⟨v,H3,I3,r3,rfl,rfl⟩
  cases r3
  refine wpAny_truthy_bool ⟨_,I3,O1,S1,?_,st1,ok1⟩
  rw[IW];exact w
 have all:(ss.map V.str).all gf=true:=by rw[List.all_eq_true];intro y hy;obtain⟨s',_,rfl⟩:=List.mem_map.mp hy;rfl
 cases no with
 | true=>exact thn (zJ pins s2 σ H2 _ _ u u' _ I2 r1 r2 ⟨t,ss.map V.str,rfl,.inr (.inr ⟨o,its,n,hk,hc,hdt,hz,hv⟩),rfl,all,rfl,rfl⟩) fin
 | false=>exact thn (Fz pins s2 σ H2 _ _ u u' _ I2 r1 r2 ⟨t,ss.map V.str,rfl,.inr (.inr ⟨o,its,n,hk,hc,hdt,hz,hv⟩),rfl,all,rfl,rfl⟩) fin
theorem Fw{t:Addr}{o:Obj}{its:Array Value}{n:Nat}{ss:List Str}(hk:X.K.lookup t=some o)(hc:o.cls=.type "tuple")(hdt:o.data=.seq its n)(hz:its.size≤sizeLine)(hv:Vals (ss.map V.str) its.toList):
 MtR X "tuple.index" (λ x vs H Q=>∃(z:Str) (j:Nat),x=.ref t/\vs=[.str z]/\ss[j]? =some z/\(∀m,m<j->ss[m]?≠some z)/\Q (.int j) H):=by
 intro pins s σ H x vs v us Q I rx rv h
 obtain⟨z,j,rfl,rfl,hj,hn,q⟩:=h
 cases rx
 obtain⟨u,rfl,ru⟩:=rv.one
 obtain⟨its,v1,p1,_⟩:=I.tuple (a:=t) (.inr ⟨o,its,n,hk,hc,hdt,hz,hv⟩)
 obtain⟨⟨cls,dd,data,sl⟩,ho,hc',n',hd'⟩:=id p1
 simp only at hc' hd'
 subst hc' hd'
 have all:(ss.map V.str).all gf=true:=by rw[List.all_eq_true];intro y hy;obtain⟨s',_,rfl⟩:=List.mem_map.mp hy;rfl
 have hlen:its.length=ss.length:=by rw[←v1.length,y6]
 have at_:∀(m:Nat)(hm:m<its.length)(y:Str),ss[m]? =some y->eqU (.str z) its[m]=(y==z):=by
  intro m hm y hy
  obtain⟨w,hw,rw'⟩:=qd v1 (i:=m) (v:=.str y) (by rw[y7,hy];rfl)
  have e:its[m]=w:=by rw[y0 hm]at hw;exact Option.some.inj hw
  rw[e,zK rw' rfl];rfl
 have hjl:j<its.length:=by rw[hlen];exact(z0.mp hj).1
 refine call_meets F.slot_tuple_index ⟨_,ho,rfl⟩ F.entry_tuple_index (F.args_tuple_index_2 _ _) (wV t its.toArray n' dd sl u (eqU (.str z)) j (by simpa using hjl) ?_ ?_) ⟨ho,λ y hy=>fX ru rfl v1 all y (by simpa using hy),.int j,H,I.tok _,⟨_,rfl⟩,q⟩
 . have:=at_ j hjl z hj
   simpa using this
 . intro m hm hlt
   have hml:m<its.length:=by simpa using hm
   obtain⟨y,hy⟩:∃y,ss[m]? =some y:=⟨_,y0 (by omega)⟩
   have:=at_ m hml y hy
   have ne:(y==z)=false:=beq_eq_false_iff_ne.mpr λ e=>hn m hlt (by rw[hy,e])
   rw[ne]at this
   simpa using this
theorem Fe{ss:List Str}{p apos cpos:Pos}(g:GT X.mg X.K x ss)(h:Ev X Γ S e λ d S1=>∃(z:Str) (j:Nat),d=.str z/\ss[j]? =some z/\(∀m,m<j->ss[m]?≠some z)/\W (.int j) S1)(hg:Gl X x)(hd:(x==("__debug__":Str))=false)
 (hs:starEach [e] X.env=[(false,eval e X.env)])(hline:(apos.endLine==cpos.line)=true):Ev X Γ S (.Call (.Attribute (.Name x p) "index" apos) [e] [] cpos) W:=by
 intro pins s σ H O I env st
 obtain⟨t,o,its,n,hm,hk,hc,hd',hdt,hz,hv⟩:=g
 have hA:PA X [e] (λ σ H Q=>∃O Γ S W',EnvOk X.K O H σ Γ/\StOk X.K O H S/\Ev X Γ S e W'/\∀v H',QG X.K O H W' v H'->Q [v] H'):=by
  rintro pos pins s σ H Q I ⟨O,Γ,S,W',env,st,he,k⟩
  rw[hs]
  show wpAny _ _ (spliced ((false,eval e X.env)::backTo pos (starEach [] X.env))) _ _ s
  refine Calls.spliced_cons (thn (he pins s σ H O I env st) λ u s1 hq_=>?_)
  obtain⟨v,H1,I1,r1,q⟩:=hq_
  exact Calls.spliced_nil ⟨[v],H1,I1,.cons r1 .nil,k v H1 q⟩
 refine yg (T:="tuple") PySem.F.plainAttrs_tuple PySem.F.slot_tuple_index PySem.F.type_tuple_index (Fw hk hc hdt hz hv) (jN hg hm (v:=.ref t) rfl hd) hA rfl (by rw[hs];rfl) hline hs rfl pins s σ H _ I ?_
 refine⟨.inr (.inl ⟨rfl,o,hk,hc,hd'⟩),O,Γ,S,_,env,st,h,λ v H' q=>?_⟩
 obtain⟨O1,d,S1,⟨z,j,rfl,h1,h2,w⟩,st1,ok1,rep1⟩:=q
 cases rep1
 exact⟨z,j,rfl,rfl,h1,h2,O1,_,S1,w,st1,ok1,.int _⟩
end
section
variable {Ω : Wd}
def Ex.ixG{x:Str}{ss:List Str}(g:GT Ω.mg Ω.K x ss)(b:Ex Ω):Ex Ω where
 lev:=b.lev
 chk top N nm e:=match e with | .Subscript l r _=>anB (nameV l) λ y=>(y==x)&&(glb nm x&&(okN x&&(okE r&&b.chk top N nm r))) | _=>false
 wp Γ S W:=b.wp Γ S λ d S1=>∃i s,d=.int i/\atI ss i=some s/\W (.str s) S1
 sound:=by
  intro X r top N nm e Γ S W A hl hc hw
  cases e with
  | Subscript l r' pos=>
    obtain⟨y,q,h0⟩:=bx hc
    obtain⟨p,rfl⟩:=cW q
    obtain⟨h1,h2⟩:=aa h0
    obtain⟨h2,h3⟩:=aa h2
    obtain⟨h3,h4⟩:=aa h3
    obtain⟨h4,h5⟩:=aa h4
    obtain rfl:=eq_of_beq h1
    exact Qw (by rw[A.g,A.k];exact g) (b.sound A hl h5 hw) (A.glb h2) (bY h3).1 (ph h4)
  | _=>exact fE hc
def Te.inG{x:Str}{ss:List Str}(g:GT Ω.mg Ω.K x ss)(no:Bool)(a:Ex Ω):Te Ω where
 lev:=a.lev
 chk top N nm e:=match e with | .Compare l os rs _=>gG os λ o=>gG rs λ r=>anB (nameV r) λ y=>(o==(if no then CmpOp.NotIn else CmpOp.In))&&((y==x)&&(glb nm x&&(okN x&&a.chk top N nm l))) | _=>false
 wp Γ S W:=a.wp Γ S λ d S1=>∃z,d=.str z/\W (if no then !ss.contains z else ss.contains z) S1
 sound:=by
  intro X r top N nm e Γ S W A hl hc hw
  cases e with
  | Compare l os rs pos=>
    obtain⟨o,rfl,hc1⟩:=cg hc
    obtain⟨r',rfl,hc2⟩:=cg hc1
    obtain⟨y,q,h0⟩:=bx hc2
    obtain⟨p,rfl⟩:=cW q
    obtain⟨h1,h2⟩:=aa h0
    obtain⟨h2,h3⟩:=aa h2
    obtain⟨h3,h4⟩:=aa h3
    obtain⟨h4,h5⟩:=aa h4
    obtain rfl:=eq_of_beq h2
    obtain rfl:=eq_of_beq h1
    exact Ph (by rw[A.g,A.k];exact g) (a.sound A hl h5 hw) (A.glb h3) (bY h4).1
  | _=>exact fE hc
def Ex.indexG{x:Str}{ss:List Str}(g:GT Ω.mg Ω.K x ss)(a:Ex Ω):Ex Ω where
 lev:=a.lev
 chk top N nm e:=match e with
  | .Call f es ks q=>ks.isEmpty&&gG es λ y=>anB (yf f) λ u=>anB (nameV u.1) λ z=>(u.2.1==("index":Str))&&((u.2.2.endLine==q.line)&&((z==x)&&(glb nm x&&(okN x&&(okE y&&a.chk top N nm y)))))
  | _=>false
 wp Γ S W:=a.wp Γ S λ d S1=>∃(z:Str) (j:Nat),d=.str z/\ss[j]? =some z/\(∀m,m<j->ss[m]?≠some z)/\W (.int j) S1
 sound:=by
  intro X r top N nm e Γ S W A hl hc hw
  cases e with
  | Call f es ks q=>
    obtain⟨g1,h_1⟩:=aa hc
    obtain⟨y,rfl,h_2⟩:=cg h_1
    obtain⟨⟨f',n,p⟩,g2,h_3⟩:=bx h_2
    obtain⟨z,g3,h_4⟩:=bx h_3
    obtain⟨p',g4⟩:=cW g3
    have g4:f'=.Name z p':=g4
    subst g4
    obtain rfl:=Ab g2
    obtain⟨k1,h2⟩:=aa h_4
    obtain⟨k2,h3⟩:=aa h2
    obtain⟨k3,h4⟩:=aa h3
    obtain⟨k4,h5⟩:=aa h4
    obtain⟨k5,h6⟩:=aa h5
    obtain⟨k6,k7⟩:=aa h6
    have k1:n="index":=eq_of_beq k1
    subst k1
    obtain rfl:=eq_of_beq k3
    cases ks with
    | cons=>cases g1
    | nil=>exact Fe (by rw[A.g,A.k];exact g) (a.sound A hl k7 hw) (A.glb k4) (bY k5).1 (aL k6 [] _) k2
  | _=>exact fE hc
end
end RF
namespace RF
open PySem PySem.Spec L2 DL
open PyProof.Rows
variable {c : Nat}
section
variable {Ω : Wd}
def Te.tval(a:Ex Ω):Te Ω where
 lev:=a.lev
 chk top N nm e:=Ds e&&a.chk top N nm e
 wp Γ S W:=a.wp Γ S λ d S1=>∃ds,d=.tup ds/\ds.length≤1000000/\W (!ds.isEmpty) S1
 sound :=by
  intro X r top N nm e Γ S W A hl hc hw
  obtain⟨h1,h2⟩:=aa hc
  intro pins s σ H O I env st
  refine isTrue_plain (thn (a.sound A hl h2 hw pins s σ H O I env st) λ u s3 hq_=>?_) (zU h1 _ _)
  obtain⟨z,H3,I3,r3,O3,d,S3,⟨ds,rfl,hz,wc⟩,st3,ok3,rep3⟩:=hq_
  cases rep3 with
  | @tup p xs _ g1 q1=>
    cases r3
    obtain⟨its,rv,pl,hzz⟩:=I3.tuple g1.sq
    have l1:=rv.length
    have l2:=q1.length
    refine truthy_tuple pl (by simp only[x5];omega) ⟨H3,I3.tok _,O3,S3,?_,st3,ok3⟩
    rw[DN rv]
    have e:xs.isEmpty=ds.isEmpty:=by
     cases xs with
     | nil=>cases ds with
       | nil=>rfl
       | cons _ _=>simp at l2
     | cons _ _=>cases ds with
       | nil=>simp at l2
       | cons _ _=>rfl
    rw[e]
    exact wc
end
section
variable {a b : Str} {S : Store} {W : Bool -> Store -> Prop}
theorem jX(w:W (a==b) S):aN .Eq (.str a) (.str b) S W:=by unfold aN;exact⟨⟨rfl,rfl,Nat.zero_le _⟩,w⟩
theorem Ec(w:W (!(a==b)) S):aN .NotEq (.str a) (.str b) S W:=by unfold aN;exact .inl ⟨⟨rfl,rfl,Nat.zero_le _⟩,w⟩
end
def mkS(l:List Nat):Str:=⟨l.toArray⟩
theorem mZ(x:Str):mkS x.cps.toList=x:=by cases x;simp[mkS]
theorem bD(l:List Nat):(mkS l).cps.toList=l:=by simp[mkS]
theorem vp(l:List Nat):(mkS l).length=l.length:=by simp[mkS,Str.length]
theorem fK(x y:Str):(x++y).cps.toList=x.cps.toList++y.cps.toList:=by simp[Str.cps_append]
theorem len_app(x y:Str):(x++y).length=x.length+y.length:=Str.length_append x y
theorem fO(x:Str):x.length=x.cps.toList.length:=by simp[Str.length]
theorem vy{x y:Str}(h:x.cps.toList=y.cps.toList):x=y:=by rw[←mZ x,←mZ y,h]
def jn(c:Nat):List (List Nat)->List Nat
 | []=>[]
 | [x]=>x
 | x::y::r=>x++c::jn c (y::r)
theorem KQ{x:List Nat}{r:List (List Nat)}(h:r≠[]):jn c (x::r)=x++c::jn c r:=by
 cases r with
 | nil=>exact absurd rfl h
 | cons y r=>rfl
theorem m7(xs:List Str):(Txt.join (mkS [c]) xs).cps.toList=jn c (xs.map λ x=>x.cps.toList):=by
 show(Builtin.Str.glued (mkS [c]) xs).cps.toList=_
 rw[StrLaws.glued_eq_join]
 induction xs with
 | nil=>rfl
 | cons x r ih=>
   cases r with
   | nil=>rfl
   | cons y r=>
     show(x++mkS [c]++Str.join (mkS [c]) (y::r)).cps.toList=x.cps.toList++c::jn c _
     rw[fK,fK,ih,bD,List.append_assoc]
     rfl
theorem Hg(xs:List Str):(Txt.join (mkS []) xs).cps.toList=(xs.map λ x=>x.cps.toList).flatten:=by
 show(Builtin.Str.glued (mkS []) xs).cps.toList=_
 rw[StrLaws.glued_eq_join]
 induction xs with
 | nil=>rfl
 | cons x r ih=>
   cases r with
   | nil=>show x.cps.toList=_;simp
   | cons y r=>
     show(x++mkS []++Str.join (mkS []) (y::r)).cps.toList=_
     rw[fK,fK,ih,bD,List.append_nil]
     rfl
theorem Qj:∀{xs ys:List (List Nat)},xs≠[]->ys≠[]->(∀x∈xs,c∉x)->(∀y∈ys,c∉y)->jn c xs=jn c ys->xs=ys:=by
 have cut:∀(a b r s:List Nat),c∉a->c∉b->a++c::r=b++c::s->a=b/\r=s:=by
  intro a
  induction a with
  | nil=>
    intro b r s _ hb e
    cases b with
    | nil=>exact⟨rfl,by simpa using e⟩
    | cons z b=>
      have e1:c=z:=by simpa using(List.cons.inj e).1
      exact absurd (by rw[e1];exact x6) hb
  | cons z a ih=>
    intro b r s ha hb e
    cases b with
    | nil=>
      have e1:z=c:=by simpa using(List.cons.inj e).1
      exact absurd (by rw[e1];exact x6) ha
    | cons z' b=>
      obtain⟨e1,e2⟩:=List.cons.inj e
      obtain⟨i1,i2⟩:=ih b r s (λ h=>ha (y9 _ h)) (λ h=>hb (y9 _ h)) e2
      exact⟨by rw[e1,i1],i2⟩
 intro xs
 induction xs with
 | nil=>intro ys h;exact absurd rfl h
 | cons x r ih=>
   intro ys _ hy hx hyc e
   cases ys with
   | nil=>exact absurd rfl hy
   | cons y s=>
     have cx:=hx x x6
     have cy:=hyc y x6
     cases r with
     | nil=>
       cases s with
       | nil=>exact congrArg (λ z=>[z]) e
       | cons y' s=>
         have e:x=y++c::jn c (y'::s):=e
         exact absurd (by rw[e];simp) cx
     | cons x' r=>
       cases s with
       | nil=>
         have e:x++c::jn c (x'::r)=y:=e
         exact absurd (by rw[←e];simp) cy
       | cons y' s=>
         obtain⟨e1,e2⟩:=cut x y _ _ cx cy e
         rw[e1,ih (by simp) (by simp) (λ z hz=>hx z (y9 _ hz)) (λ z hz=>hyc z (y9 _ hz)) e2]
theorem fD{xs:List Str}(h0:xs≠[])(h:∀x∈xs,c∉x.cps.toList):Txt.split (Txt.join (mkS [c]) xs) (mkS [c])=xs:=by
 have e1:=StrLaws.join_split (Txt.join (mkS [c]) xs) (mkS [c])
 have e2:=StrLaws.split_free (Txt.join (mkS [c]) xs) c
 have e3:Txt.join (mkS [c]) (Txt.split (Txt.join (mkS [c]) xs) (mkS [c]))=Txt.join (mkS [c]) xs:=by
  show Builtin.Str.glued _ _=_
  rw[StrLaws.glued_eq_join];exact e1
 have e4:=congrArg (λ z:Str=>z.cps.toList) e3
 simp only[m7]at e4
 have n:Txt.split (Txt.join (mkS [c]) xs) (mkS [c])≠[]:=λ z=>by
  have:=split_pos (Txt.join (mkS [c]) xs) (mkS [c])
  rw[z]at this
  simp at this
 have e5:=Qj (by simpa using n) (by simpa using h0) (λ x hx=>by obtain⟨s,hs,rfl⟩:=List.mem_map.mp hx;exact e2 s hs) (λ x hx=>by obtain⟨s,hs,rfl⟩:=List.mem_map.mp hx;exact h s hs) e4
 have inj:∀(a b:List Str),(a.map λ x=>x.cps.toList)=(b.map λ x=>x.cps.toList)->a=b:=by
  intro a
  induction a with
  | nil=>intro b e;cases b with
    | nil=>rfl
    | cons _ _=>cases e
  | cons x a ih=>intro b e;cases b with
    | nil=>cases e
    | cons y b=>
      obtain⟨e1,e2⟩:=List.cons.inj e
      rw[vy e1,ih b e2]
 exact inj _ _ e5
end RF
namespace RF
open PySem PySem.Spec L2 DL
open PyProof.Rows
abbrev nS(n:Int):Str:=Str.ofString (toString n)
def dg(m:Nat):List Nat:=(Nat.toDigits 10 m).map Char.toNat
def sg(n:Int):List Nat:=if n<0 then 45::dg n.natAbs else dg n.natAbs
theorem fL(n:Int):(nS n).cps.toList=sg n:=by
 rw[signs_ofString]
 cases n with
 | ofNat m=>
   show(Nat.repr m).toList.map Char.toNat=_
   rw[Nat.toList_repr];rfl
 | negSucc m=>
   show(("-":String)++Nat.repr (m+1)).toList.map Char.toNat=_
   rw[String.toList_append,List.map_append,Nat.toList_repr]
   have e1:(Int.negSucc m).natAbs=m+1:=rfl
   have e2:List.map Char.toNat ("-":String).toList=[45]:=by decide+kernel
   unfold sg dg
   rw[if_pos (by omega),e1,e2];rfl
theorem iB{m:Nat}(h:m<10):dg m=[48+m]:=by
 unfold dg
 rw[Nat.toDigits_of_lt_base h]
 have:∀d:Nat,d<10->(Nat.digitChar d).toNat=48+d:=by decide
 show[(Nat.digitChar m).toNat]=_
 rw[this m h]
theorem tX{m:Nat}(h:10≤m):dg m=dg (m/10)++[48+m % 10]:=by
 have hm:m % 10<10:=Nat.mod_lt m (by decide)
 have t:Nat.toDigits 10 (m/10)++Nat.toDigits 10 (m % 10)=Nat.toDigits 10 (10*(m/10)+m % 10):=Nat.toDigits_append_toDigits (by decide) (by omega) hm
 rw[Nat.div_add_mod]at t
 have e:=iB hm
 unfold dg at e ⊢
 rw[←t,List.map_append,e]
theorem iK(m:Nat):∀c∈dg m,48≤c/\c≤57:=by
 induction m using Nat.strongRecOn with
 | _ m ih=>
   by_cases h:m<10
   . rw[iB h]
     intro c hc
     rw[List.mem_singleton.mp hc];omega
   . rw[tX (by omega)]
     intro c hc
     rcases List.mem_append.mp hc with hc | hc
     . exact ih (m/10) (by omega) c hc
     . rw[List.mem_singleton.mp hc];omega
theorem CG(m:Nat):∃c r,dg m=c::r/\(m≠0->c≠48)/\(m=0->c=48/\r=[]):=by
 induction m using Nat.strongRecOn with
 | _ m ih=>
   by_cases h:m<10
   . rw[iB h]
     exact⟨_,_,rfl,λ z=>by omega,λ z=>by subst z;exact⟨rfl,rfl⟩⟩
   . obtain⟨c,r,e,h1,_⟩:=ih (m/10) (by omega)
     rw[tX (by omega),e]
     exact⟨c,_,rfl,λ _=>h1 (by omega),λ z=>by omega⟩
theorem OD:∀(k:Nat){m:Nat},m<10 ^ (k+1)->(dg m).length≤k+1:=by
 intro k
 induction k with
 | zero=>intro m h;rw[iB (by simpa using h)];simp
 | succ k ih=>
   intro m h
   by_cases h1:m<10
   . rw[iB h1];simp
   . rw[tX (by omega),x8]
     have e:10 ^ (k+1+1)=10*10 ^ (k+1):=by rw[Nat.pow_succ,Nat.mul_comm]
     have:=ih (m:=m/10) (by omega)
     simp only[List.length_cons,List.length_nil];omega
theorem Fo(m:Nat):NumText.digitsVal (dg m)=m:=PySem.W.KIN.val_back m
theorem KN(n:Int):∀c∈sg n,c=45∨(48≤c/\c≤57):=by
 intro c hc
 unfold sg at hc
 split at hc
 . rcases List.mem_cons.mp hc with rfl | hc
   . exact .inl rfl
   . exact .inr (iK _ c hc)
 . exact .inr (iK _ c hc)
theorem Mz{n:Int}{k:Nat}(h:n.natAbs<10 ^ (k+1)):(sg n).length≤k+2:=by
 have:=OD k h
 unfold sg
 split<;>simp<;>omega
theorem HH{n:Int}(h:(sg n).length≤600):intText? (nS n)=some n:=by
 have hl:(nS n).length≤4300:=by rw[fO,fL];omega
 obtain⟨c,r,e,_⟩:=CG n.natAbs
 by_cases hn:n<0
 . have e1:(nS n).cps.toList=45::dg n.natAbs:=by rw[fL];unfold sg;rw[if_pos hn]
   rw[intText_neg e1 (iK _) (by rw[e];simp) hl,Fo]
   congr 1;omega
 . have e1:(nS n).cps.toList=dg n.natAbs:=by rw[fL];unfold sg;rw[if_neg hn]
   rw[intText_digits (by rw[e1];exact iK _) (by rw[e1,e];simp) hl,e1,Fo]
   congr 1;omega
def dgB(c:Nat):Bool:=decide (48≤c)&&decide (c≤57)
def woS(l:List Nat):List Nat:=if l.head? =some 45 then l.drop 1 else l
def yc(l:List Nat):Bool:=!(woS l).isEmpty&&((woS l).all dgB&&(!((woS l).head? ==some 48)||l==[48]))
theorem HD(n:Int):yc (sg n)=true:=by
 obtain⟨c,r,e,h1,h2⟩:=CG n.natAbs
 have hd:=iK n.natAbs
 have all:(dg n.natAbs).all dgB=true:=by
  rw[List.all_eq_true]
  intro x hx
  have:=hd x hx
  unfold dgB
  rw[decide_eq_true this.1,decide_eq_true this.2];rfl
 have e2:woS (sg n)=dg n.natAbs:=by
  unfold sg
  split
  . rfl
  . unfold woS
    rw[if_neg]
    rw[e]at hd ⊢
    have:=hd c x6
    simp;omega
 unfold yc
 rw[e2,all,e]
 by_cases hz:n.natAbs=0
 . obtain⟨rfl,rfl⟩:=h2 hz
   have:sg n=[48]:=by unfold sg;rw[if_neg (by omega),e]
   rw[this];rfl
 . have:=h1 hz
   have:(some c==some 48)=false:=by simpa using this
   simp[this]
theorem Kf(x:Str)(c:Nat):Txt.startswith x (mkS [c])=decide (x.cps.toList.head? =some c):=by
 show(decide (0+(mkS [c]).length≤x.length)&&Builtin.Str.subAt x (mkS [c]) 0)=_
 rw[StrLaws.subAt_eq,vp,bD,fO,List.drop_zero]
 generalize x.cps.toList=l
 cases l with
 | nil=>rfl
 | cons a l=>
   simp only[List.length_cons,List.length_nil,List.head?_cons,List.take_succ_cons,List.take_zero]
   rw[decide_eq_true (by omega:0+(0+1)≤l.length+1),Bool.true_and]
   by_cases h:a=c
   . subst h
     rw[show([a]==[a])=true by simp]
     exact(decide_eq_true rfl).symm
   . rw[show([a]==[c])=false by simpa using h]
     exact(decide_eq_false (by simpa using h)).symm
theorem Dt(x:Str)(h:1≤x.length):Txt.slice x (some 1) none=mkS (x.cps.toList.drop 1):=by
 have hs:Builtin.Str.strSliceIndices (some 1) none 1 x.length=Builtin.Str.strSliceIndices (some ((1:Nat):Int)) (some ((x.length:Nat):Int)) 1 x.length:=by
  have h2:¬((x.length:Int)<0):=by omega
  have e2:max (0:Int) (min (x.length:Int) (x.length:Int))=x.length:=by omega
  simp[Builtin.Str.strSliceIndices,sliceRange,h2,e2]
 unfold Txt.slice
 rw[hs,StrLaws.sliced_plain x h (y8 _),StrLaws.strSliceIndices_plain h (y8 _)]
 have:((List.range (x.length-1)).map λ k=>1+k).length≠x.length:=by simp;omega
 rw[if_neg (by simpa using this)]
 have hl:=fO x
 show mkS _=mkS _
 congr 1
 exact List.take_of_length_le (by rw[List.length_drop];omega)
theorem Jf(x:Str){k:Nat}(h:x.length≤k):Txt.slice x none (some (k:Int))=x:=by
 have hs:Builtin.Str.strSliceIndices none (some (k:Int)) 1 x.length=Builtin.Str.strSliceIndices (some ((0:Nat):Int)) (some ((x.length:Nat):Int)) 1 x.length:=by
  have h1:¬((k:Int)<0):=by omega
  have h2:¬((x.length:Int)<0):=by omega
  have e1:max (0:Int) (min (k:Int) (x.length:Int))=x.length:=by omega
  have e2:max (0:Int) (min (x.length:Int) (x.length:Int))=x.length:=by omega
  have e3:min (k:Int) (x.length:Int)=x.length:=by omega
  have e4:max (0:Int) (min 0 (x.length:Int))=0:=by omega
  simp[Builtin.Str.strSliceIndices,h1,h2,e1,e2,e3,e4]
 unfold Txt.slice
 rw[hs,StrLaws.strSliceIndices_plain (Nat.zero_le _) (y8 _)]
 rw[if_pos (by simp)]
end RF
set_option maxHeartbeats 4000000
namespace K52
open PySem L2 DL RF XE
variable {Ω : Wd} {f : Addr} {fd : FuncData}
def top(i:Nat):Stmt:=PySem.Challenge.pw_nestturn_k52_programs_written.main.body.getD i (.Pass ⟨0,0,0,0⟩)
structure Bi(mg:Str->Option Value)(K:PySem.W.Frag):Prop where
 ENOUGH_SIGNS_:∃t,mg "ENOUGH_SIGNS"=some (.int 99 t)
 FIGURES_:∃t,mg "FIGURES"=some (.str "0123456789" t)
 LETTERS_:GT mg K "LETTERS" ["a","b","c"]
 MOST_STEPS_:∃t,mg "MOST_STEPS"=some (.int 60 t)
 abs_:mg "abs"=none
 all_:mg "all"=none
 bool_:mg "bool"=none
 enumerate_:mg "enumerate"=none
 int_:mg "int"=none
 isinstance_:mg "isinstance"=none
 len_:mg "len"=none
 min_:mg "min"=none
 range_:mg "range"=none
 str_:mg "str"=none
 sum_:mg "sum"=none
 tuple_:mg "tuple"=none
 zip_:mg "zip"=none
abbrev XL:List Str:=["NoProgram","TooMany"]
abbrev XT:List Str:=[]
section
variable {Ω : Wd}
abbrev cT:Stmt:=top 6
abbrev yu:List Str:=["thing"]
abbrev mq:List Str:=["thing"]
def yo(B:Bi Ω.mg Ω.K):Bl Ω:=
 Bl.cons (Sm.ret (Ex.and (Bo.cons (Ex.isi B.isinstance_ (Ex.var 0) .int B.int_) (Bo.one (Ex.not (Ex.isi B.isinstance_ (Ex.var 0) .bool B.bool_)))))) Bl.nil
abbrev bM:Stmt:=top 7
abbrev qX:List Str:=["thing","least","most"]
abbrev iW:List Str:=["thing","least","most"]
def rT(B:Bi Ω.mg Ω.K):Bl Ω:=
 Bl.cons (Sm.ret (Ex.and (Bo.cons (Ex.isi B.isinstance_ (Ex.var 0) .tuple B.tuple_) (Bo.one (Ex.ch2 (Ex.var 1) .LtE (Ex.blt iD B.len_ (Ar.cons (Ex.var 0) Ar.nil)) .LtE (Ex.var 2)))))) Bl.nil
abbrev dJ:Stmt:=top 8
abbrev Bs:List Str:=["thing","d"]
abbrev nM:List Str:=["thing","d"]
def Bq(B:Bi Ω.mg Ω.K){Fq45:Ct}(Cq45:Cal Ω "is_whole" 1 1 Fq45){Fq44:Ct}(Cq44:Cal Ω "is_tuple_of" 1 3 Fq44):Bl Ω:=
 Bl.cons (Sm.ret (Ex.and (Bo.cons (Ex.call Cq44 (Ar.cons (Ex.var 0) (Ar.cons (Ex.bin .Add (Ex.var 1) (Ex.int 1)) (Ar.cons (Ex.bin .Add (Ex.var 1) (Ex.int 1)) Ar.nil)))) (Bo.one (Ex.blt gF B.all_ (Ar.cons (Ex.comp ["number"] [none] (Ex.call Cq45 (Ar.cons (Ex.var 0) Ar.nil)) (Tg.nm 0) (Itb.seq (Ex.var 0)) Cd.no) Ar.nil)))))) Bl.nil
abbrev di:Stmt:=top 9
abbrev yG:List Str:=["form","counts"]
abbrev mO:List Str:=["form","counts"]
def zb(B:Bi Ω.mg Ω.K):Bl Ω:=
 Bl.cons (Sm.ret (Ex.bin .Add (Ex.ix (Ex.var 0) (Ex.int 0)) (Ex.blt yh B.sum_ (Ar.cons (Ex.comp ["number","count"] [none,none] (Ex.bin .Mult (Ex.var 0) (Ex.var 1)) (Tg.tup [0,1]) (Itb.zip B.zip_ (Ex.sl (Ex.var 0) (Po.so (Ex.int 1)) Po.no) (Ex.var 1)) Cd.no) Ar.nil)))) Bl.nil
abbrev dq:Stmt:=top 10
abbrev Af:List Str:=["thing","d"]
abbrev lY:List Str:=["thing","d"]
def tL(B:Bi Ω.mg Ω.K){Fq33:Ct}(Cq33:Cal Ω "is_form" 2 2 Fq33):Bl Ω:=
 Bl.cons (Sm.ret (Ex.and (Bo.cons (Ex.ch2 (Ex.neg (Ex.int 9)) .LtE (Ex.ix (Ex.var 0) (Ex.int 0)) .LtE (Ex.int 9)) (Bo.one (Ex.blt gF B.all_ (Ar.cons (Ex.comp ["number"] [none] (Ex.ch2 (Ex.neg (Ex.int 2)) .LtE (Ex.var 0) .LtE (Ex.int 2)) (Tg.nm 0) (Itb.seq (Ex.sl (Ex.var 0) (Po.so (Ex.int 1)) Po.no)) Cd.no) Ar.nil)))))) Bl.nil
def zN(B:Bi Ω.mg Ω.K){Fq33:Ct}(Cq33:Cal Ω "is_form" 2 2 Fq33):Bl Ω:=
 Bl.cons (Sm.ite (Te.not (Te.val (Ex.call Cq33 (Ar.cons (Ex.var 0) (Ar.cons (Ex.var 1) Ar.nil))))) (Bl.cons (Sm.ret (Ex.bl false)) Bl.nil) Bl.nil) (tL B Cq33)
abbrev dM:Stmt:=top 11
abbrev Bg:List Str:=["thing","d"]
abbrev nU:List Str:=["thing","d"]
def Bu{Fq44:Ct}(Cq44:Cal Ω "is_tuple_of" 1 3 Fq44){Fq31:Ct}(Cq31:Cal Ω "is_bound" 3 2 Fq31):Bl Ω:=
 Bl.cons (Sm.ret (Ex.and (Bo.cons (Ex.call Cq44 (Ar.cons (Ex.var 0) (Ar.cons (Ex.int 2) (Ar.cons (Ex.int 2) Ar.nil)))) (Bo.cons (Ex.call Cq31 (Ar.cons (Ex.ix (Ex.var 0) (Ex.int 0)) (Ar.cons (Ex.var 1) Ar.nil))) (Bo.one (Ex.call Cq31 (Ar.cons (Ex.ix (Ex.var 0) (Ex.int 1)) (Ar.cons (Ex.var 1) Ar.nil)))))))) Bl.nil
abbrev du:Stmt:=top 12
abbrev yw:List Str:=["thing"]
abbrev lQ:List Str:=["thing"]
def Aa(B:Bi Ω.mg Ω.K){Fq44:Ct}(Cq44:Cal Ω "is_tuple_of" 1 3 Fq44){Fq34:Ct}(Cq34:Cal Ω "is_loop" 4 2 Fq34):Bl Ω:=
 Bl.cons (Sm.ret (Ex.and (Bo.cons (Ex.call Cq44 (Ar.cons (Ex.var 0) (Ar.cons (Ex.int 1) (Ar.cons (Ex.int 3) Ar.nil)))) (Bo.one (Ex.blt gF B.all_ (Ar.cons (Ex.comp ["k","loop"] [none,none] (Ex.call Cq34 (Ar.cons (Ex.var 1) (Ar.cons (Ex.var 0) Ar.nil))) (Tg.tup [0,1]) (Itb.enm B.enumerate_ (Ex.var 0)) Cd.no) Ar.nil)))))) Bl.nil
abbrev bh:Stmt:=top 13
abbrev lK:List Str:=["ahead","low","high","longer","counts","count"]
abbrev fJ:List Str:=["ahead","low","high"]
section
variable (B : Bi Ω.mg Ω.K) {Fq26 : Ct} (Cq26 : Cal Ω "comes_to" 1 2 Fq26)
def jK(B:Bi Ω.mg Ω.K){Fq26:Ct}(Cq26:Cal Ω "comes_to" 1 2 Fq26):Bl Ω:=
 Bl.cons (Sm.ret (Ex.var 3)) Bl.nil
def jB:Bl Ω:=
 Bl.cons (Sm.forL (Tg.nm 4) (Ex.var 0) (Bl.cons (Sm.for (Tg.nm 5) (Itb.rng2 B.range_ (Ex.call Cq26 (Ar.cons (Ex.var 1) (Ar.cons (Ex.var 4) Ar.nil))) (Ex.call Cq26 (Ar.cons (Ex.var 2) (Ar.cons (Ex.var 4) Ar.nil)))) (Bl.cons (Sm.expr (Ex.m_append (Ex.var 3) (Ex.bin .Add (Ex.var 4) (Ex.tup (Ar.cons (Ex.var 5) Ar.nil))))) Bl.nil)) Bl.nil)) (jK B Cq26)
def lJ:Bl Ω:=
 Bl.cons (Sm.set 3 (Ex.own Ar.nil)) (jB B Cq26)
end
abbrev cJ:Stmt:=top 14
abbrev wR:List Str:=["loops","told","low","high"]
abbrev lg:List Str:=["loops"]
section
variable {Fq63 : Ct} (Cq63 : Cal Ω "with_next_count" 2 3 Fq63)
def rF{Fq63:Ct}(Cq63:Cal Ω "with_next_count" 2 3 Fq63):Bl Ω:=
 Bl.cons (Sm.ret (Ex.var 1)) Bl.nil
def sV:Bl Ω:=
 Bl.cons (Sm.forL (Tg.tup [2,3]) (Ex.var 0) (Bl.cons (Sm.set 1 (Ex.call Cq63 (Ar.cons (Ex.var 1) (Ar.cons (Ex.var 2) (Ar.cons (Ex.var 3) Ar.nil))))) Bl.nil)) (rF Cq63)
def wM:Bl Ω:=
 Bl.cons (Sm.set 1 (Ex.lst (Ar.cons (Ex.tup Ar.nil) Ar.nil))) (sV Cq63)
end
abbrev bu:Stmt:=top 17
abbrev lF:List Str:=["number"]
abbrev fG:List Str:=["number"]
def lL(B:Bi Ω.mg Ω.K):Bl Ω:=
 Bl.cons (Sm.ret (Ex.cmp .Lt (Ex.blt Tc B.abs_ (Ar.cons (Ex.var 0) Ar.nil)) (Ex.bin .Pow (Ex.int 10) (Ex.int 30)))) Bl.nil
abbrev cN:Stmt:=top 18
abbrev xJ:List Str:=["thing"]
abbrev lE:List Str:=["thing"]
def wj(B:Bi Ω.mg Ω.K){Fq45:Ct}(Cq45:Cal Ω "is_whole" 1 1 Fq45){Fq44:Ct}(Cq44:Cal Ω "is_tuple_of" 1 3 Fq44):Bl Ω:=
 Bl.cons (Sm.ret (Ex.and (Bo.cons (Ex.call Cq44 (Ar.cons (Ex.var 0) (Ar.cons (Ex.int 1) (Ar.cons (Ex.int 3) Ar.nil)))) (Bo.one (Ex.blt gF B.all_ (Ar.cons (Ex.comp ["width"] [none] (Ex.and (Bo.cons (Ex.call Cq45 (Ar.cons (Ex.var 0) Ar.nil)) (Bo.one (Ex.ch2 (Ex.int 1) .LtE (Ex.var 0) .LtE (Ex.int 2))))) (Tg.nm 0) (Itb.seq (Ex.var 0)) Cd.no) Ar.nil)))))) Bl.nil
abbrev bB:Stmt:=top 19
abbrev nD:List Str:=["thing","d"]
abbrev gJ:List Str:=["thing","d"]
def nC(B:Bi Ω.mg Ω.K){Fq33:Ct}(Cq33:Cal Ω "is_form" 2 2 Fq33):Bl Ω:=
 Bl.cons (Sm.ret (Ex.and (Bo.cons (Ex.call Cq33 (Ar.cons (Ex.var 0) (Ar.cons (Ex.var 1) Ar.nil))) (Bo.one (Ex.blt gF B.all_ (Ar.cons (Ex.comp ["number"] [none] (Ex.ch2 (Ex.neg (Ex.int 99)) .LtE (Ex.var 0) .LtE (Ex.int 99)) (Tg.nm 0) (Itb.seq (Ex.var 0)) Cd.no) Ar.nil)))))) Bl.nil
abbrev cV:Stmt:=top 20
abbrev Ao:List Str:=["thing","d"]
abbrev lM:List Str:=["thing","d"]
def yV(B:Bi Ω.mg Ω.K){Fq33:Ct}(Cq33:Cal Ω "is_form" 2 2 Fq33){Fq30:Ct}(Cq30:Cal Ω "has_few_figures" 1 1 Fq30):Bl Ω:=
 Bl.cons (Sm.ret (Ex.and (Bo.cons (Ex.call Cq33 (Ar.cons (Ex.var 0) (Ar.cons (Ex.var 1) Ar.nil))) (Bo.one (Ex.blt gF B.all_ (Ar.cons (Ex.comp ["number"] [none] (Ex.call Cq30 (Ar.cons (Ex.var 0) Ar.nil)) (Tg.nm 0) (Itb.seq (Ex.var 0)) Cd.no) Ar.nil)))))) Bl.nil
abbrev aV:Stmt:=top 21
abbrev iT:List Str:=["table","place","widths","d"]
abbrev dD:List Str:=["table","place","widths","d"]
def gO(B:Bi Ω.mg Ω.K){Fq45:Ct}(Cq45:Cal Ω "is_whole" 1 1 Fq45){Fq44:Ct}(Cq44:Cal Ω "is_tuple_of" 1 3 Fq44){Fq39:Ct}(Cq39:Cal Ω "is_place_form" 3 2 Fq39):Bl Ω:=
 Bl.cons (Sm.ret (Ex.and (Bo.cons (Ex.call Cq44 (Ar.cons (Ex.var 1) (Ar.cons (Ex.ix (Ex.var 2) (Ex.var 0)) (Ar.cons (Ex.ix (Ex.var 2) (Ex.var 0)) Ar.nil)))) (Bo.one (Ex.blt gF B.all_ (Ar.cons (Ex.comp ["form","d"] [none,some 3] (Ex.call Cq39 (Ar.cons (Ex.var 0) (Ar.cons (Ex.var 1) Ar.nil))) (Tg.nm 0) (Itb.seq (Ex.var 1)) Cd.no) Ar.nil)))))) Bl.nil
def iQ(B:Bi Ω.mg Ω.K){Fq45:Ct}(Cq45:Cal Ω "is_whole" 1 1 Fq45){Fq44:Ct}(Cq44:Cal Ω "is_tuple_of" 1 3 Fq44){Fq39:Ct}(Cq39:Cal Ω "is_place_form" 3 2 Fq39):Bl Ω:=
 Bl.cons (Sm.ite (Te.or (Bt.cons (Te.not (Te.val (Ex.call Cq45 (Ar.cons (Ex.var 0) Ar.nil)))) (Bt.one (Te.not (Te.ch2 (Ex.int 0) .LtE (Ex.var 0) .Lt (Ex.blt iD B.len_ (Ar.cons (Ex.var 2) Ar.nil))))))) (Bl.cons (Sm.ret (Ex.bl false)) Bl.nil) Bl.nil) (gO B Cq45 Cq44 Cq39)
abbrev dR:Stmt:=top 22
abbrev Ay:List Str:=["thing","widths","d"]
abbrev n8:List Str:=["thing","widths","d"]
section
variable {Fq45 : Ct} (Cq45 : Cal Ω "is_whole" 1 1 Fq45) {Fq44 : Ct} (Cq44 : Cal Ω "is_tuple_of" 1 3 Fq44) {Fq30 : Ct} (Cq30 : Cal Ω "has_few_figures" 1 1 Fq30) {Fq43 : Ct} (Cq43 : Cal Ω "is_table_with_place" 4 4 Fq43)
def wz{Fq45:Ct}(Cq45:Cal Ω "is_whole" 1 1 Fq45){Fq44:Ct}(Cq44:Cal Ω "is_tuple_of" 1 3 Fq44){Fq30:Ct}(Cq30:Cal Ω "has_few_figures" 1 1 Fq30){Fq43:Ct}(Cq43:Cal Ω "is_table_with_place" 4 4 Fq43):Bl Ω:=
 Bl.cons (Sm.ret (Ex.call Cq43 (Ar.cons (Ex.ix (Ex.var 0) (Ex.int 1)) (Ar.cons (Ex.ix (Ex.var 0) (Ex.int 2)) (Ar.cons (Ex.var 1) (Ar.cons (Ex.var 2) Ar.nil)))))) Bl.nil
def xN:Bl Ω:=
 Bl.cons (Sm.ite (Te.or (Bt.cons (Te.not (Te.val (Ex.call Cq45 (Ar.cons (Ex.ix (Ex.var 0) (Ex.int 0)) Ar.nil)))) (Bt.one (Te.not (Te.val (Ex.call Cq30 (Ar.cons (Ex.ix (Ex.var 0) (Ex.int 0)) Ar.nil))))))) (Bl.cons (Sm.ret (Ex.bl false)) Bl.nil) Bl.nil) (wz Cq45 Cq44 Cq30 Cq43)
def Aw:Bl Ω:=
 Bl.cons (Sm.ite (Te.not (Te.val (Ex.call Cq44 (Ar.cons (Ex.var 0) (Ar.cons (Ex.int 3) (Ar.cons (Ex.int 3) Ar.nil)))))) (Bl.cons (Sm.ret (Ex.bl false)) Bl.nil) Bl.nil) (xN Cq45 Cq44 Cq30 Cq43)
end
abbrev cY:Stmt:=top 23
abbrev zZ:List Str:=["thing","widths","d"]
abbrev mD:List Str:=["thing","widths","d"]
def zV(B:Bi Ω.mg Ω.K){Fq44:Ct}(Cq44:Cal Ω "is_tuple_of" 1 3 Fq44){Fq40:Ct}(Cq40:Cal Ω "is_read" 5 3 Fq40):Bl Ω:=
 Bl.cons (Sm.ret (Ex.and (Bo.cons (Ex.call Cq44 (Ar.cons (Ex.var 0) (Ar.cons (Ex.int 0) (Ar.cons (Ex.int 3) Ar.nil)))) (Bo.one (Ex.blt gF B.all_ (Ar.cons (Ex.comp ["read","widths","d"] [none,some 1,some 2] (Ex.call Cq40 (Ar.cons (Ex.var 0) (Ar.cons (Ex.var 1) (Ar.cons (Ex.var 2) Ar.nil)))) (Tg.nm 0) (Itb.seq (Ex.var 0)) Cd.no) Ar.nil)))))) Bl.nil
abbrev dX:Stmt:=top 24
abbrev Br:List Str:=["thing","widths","d"]
abbrev nQ:List Str:=["thing","widths","d"]
section
variable {Fq44 : Ct} (Cq44 : Cal Ω "is_tuple_of" 1 3 Fq44) {Fq42 : Ct} (Cq42 : Cal Ω "is_start" 3 2 Fq42) {Fq43 : Ct} (Cq43 : Cal Ω "is_table_with_place" 4 4 Fq43) {Fq41 : Ct} (Cq41 : Cal Ω "is_reads" 6 3 Fq41)
def xj{Fq44:Ct}(Cq44:Cal Ω "is_tuple_of" 1 3 Fq44){Fq42:Ct}(Cq42:Cal Ω "is_start" 3 2 Fq42){Fq43:Ct}(Cq43:Cal Ω "is_table_with_place" 4 4 Fq43){Fq41:Ct}(Cq41:Cal Ω "is_reads" 6 3 Fq41):Bl Ω:=
 Bl.cons (Sm.ret (Ex.and (Bo.cons (Ex.call Cq42 (Ar.cons (Ex.ix (Ex.var 0) (Ex.int 2)) (Ar.cons (Ex.var 2) Ar.nil))) (Bo.one (Ex.call Cq41 (Ar.cons (Ex.ix (Ex.var 0) (Ex.int 3)) (Ar.cons (Ex.var 1) (Ar.cons (Ex.var 2) Ar.nil)))))))) Bl.nil
def wZ:Bl Ω:=
 Bl.cons (Sm.ite (Te.not (Te.val (Ex.call Cq43 (Ar.cons (Ex.ix (Ex.var 0) (Ex.int 0)) (Ar.cons (Ex.ix (Ex.var 0) (Ex.int 1)) (Ar.cons (Ex.var 1) (Ar.cons (Ex.var 2) Ar.nil))))))) (Bl.cons (Sm.ret (Ex.bl false)) Bl.nil) Bl.nil) (xj Cq44 Cq42 Cq43 Cq41)
def Bb:Bl Ω:=
 Bl.cons (Sm.ite (Te.not (Te.val (Ex.call Cq44 (Ar.cons (Ex.var 0) (Ar.cons (Ex.int 4) (Ar.cons (Ex.int 4) Ar.nil)))))) (Bl.cons (Sm.ret (Ex.bl false)) Bl.nil) Bl.nil) (wZ Cq44 Cq42 Cq43 Cq41)
end
abbrev dU:Stmt:=top 25
abbrev Bv:List Str:=["thing","widths","d"]
abbrev nP:List Str:=["thing","widths"]
section
variable (B : Bi Ω.mg Ω.K) {Fq44 : Ct} (Cq44 : Cal Ω "is_tuple_of" 1 3 Fq44) {Fq35 : Ct} (Cq35 : Cal Ω "is_loops" 5 1 Fq35) {Fq32 : Ct} (Cq32 : Cal Ω "is_deed" 7 3 Fq32)
def wu(B:Bi Ω.mg Ω.K){Fq44:Ct}(Cq44:Cal Ω "is_tuple_of" 1 3 Fq44){Fq35:Ct}(Cq35:Cal Ω "is_loops" 5 1 Fq35){Fq32:Ct}(Cq32:Cal Ω "is_deed" 7 3 Fq32):Bl Ω:=
 Bl.cons (Sm.ret (Ex.and (Bo.cons (Ex.call Cq44 (Ar.cons (Ex.ix (Ex.var 0) (Ex.int 1)) (Ar.cons (Ex.int 1) (Ar.cons (Ex.int 4) Ar.nil)))) (Bo.one (Ex.blt gF B.all_ (Ar.cons (Ex.comp ["deed","widths","d"] [none,some 1,some 2] (Ex.call Cq32 (Ar.cons (Ex.var 0) (Ar.cons (Ex.var 1) (Ar.cons (Ex.var 2) Ar.nil)))) (Tg.nm 0) (Itb.seq (Ex.ix (Ex.var 0) (Ex.int 1))) Cd.no) Ar.nil)))))) Bl.nil
def xq:Bl Ω:=
 Bl.cons (Sm.set 2 (Ex.blt iD B.len_ (Ar.cons (Ex.ix (Ex.var 0) (Ex.int 0)) Ar.nil))) (wu B Cq44 Cq35 Cq32)
def Ba:Bl Ω:=
 Bl.cons (Sm.ite (Te.or (Bt.cons (Te.not (Te.val (Ex.call Cq44 (Ar.cons (Ex.var 0) (Ar.cons (Ex.int 2) (Ar.cons (Ex.int 2) Ar.nil)))))) (Bt.one (Te.not (Te.val (Ex.call Cq35 (Ar.cons (Ex.ix (Ex.var 0) (Ex.int 0)) Ar.nil))))))) (Bl.cons (Sm.ret (Ex.bl false)) Bl.nil) Bl.nil) (xq B Cq44 Cq35 Cq32)
end
abbrev cZ:Stmt:=top 26
abbrev zL:List Str:=["thing","widths"]
abbrev lU:List Str:=["thing","widths"]
def zF(B:Bi Ω.mg Ω.K){Fq44:Ct}(Cq44:Cal Ω "is_tuple_of" 1 3 Fq44){Fq36:Ct}(Cq36:Cal Ω "is_nest" 8 2 Fq36):Bl Ω:=
 Bl.cons (Sm.ret (Ex.and (Bo.cons (Ex.call Cq44 (Ar.cons (Ex.var 0) (Ar.cons (Ex.int 1) (Ar.cons (Ex.int 3) Ar.nil)))) (Bo.one (Ex.blt gF B.all_ (Ar.cons (Ex.comp ["nest","widths"] [none,some 1] (Ex.call Cq36 (Ar.cons (Ex.var 0) (Ar.cons (Ex.var 1) Ar.nil))) (Tg.nm 0) (Itb.seq (Ex.var 0)) Cd.no) Ar.nil)))))) Bl.nil
abbrev bj:Stmt:=top 27
abbrev lH:List Str:=["nests"]
abbrev fH:List Str:=["nests"]
def lG(B:Bi Ω.mg Ω.K){Fq27:Ct}(Cq27:Cal Ω "counts_of" 3 1 Fq27):Bl Ω:=
 Bl.cons (Sm.ret (Ex.blt yh B.sum_ (Ar.cons (Ex.comp ["loops","deeds"] [none,none] (Ex.bin .Mult (Ex.blt iD B.len_ (Ar.cons (Ex.call Cq27 (Ar.cons (Ex.var 0) Ar.nil)) Ar.nil)) (Ex.blt iD B.len_ (Ar.cons (Ex.var 1) Ar.nil))) (Tg.tup [0,1]) (Itb.seq (Ex.var 0)) Cd.no) Ar.nil))) Bl.nil
abbrev cj:Stmt:=top 28
abbrev tW:List Str:=["widths","nests"]
abbrev jM:List Str:=["widths","nests"]
section
variable (B : Bi Ω.mg Ω.K) (E : ExF Ω.mg Ω.K XL XT) {Fq46 : Ct} (Cq46 : Cal Ω "is_widths" 2 1 Fq46) {Fq37 : Ct} (Cq37 : Cal Ω "is_nests" 9 2 Fq37) {Fq49 : Ct} (Cq49 : Cal Ω "number_of_steps" 4 1 Fq49)
def oO(B:Bi Ω.mg Ω.K)(E:ExF Ω.mg Ω.K XL XT){Fq46:Ct}(Cq46:Cal Ω "is_widths" 2 1 Fq46){Fq37:Ct}(Cq37:Cal Ω "is_nests" 9 2 Fq37){Fq49:Ct}(Cq49:Cal Ω "number_of_steps" 4 1 Fq49):BX Ω:=
 (BX.cons (Sm.ret (Ex.tup (Ar.cons (Ex.var 0) (Ar.cons (Ex.var 1) Ar.nil)))) (BX.of Bl.nil))
def pN:BX Ω:=
 (BX.ifr (E.exc (x:="TooMany") (by decide)) (Te.cmp .Gt (Ex.call Cq49 (Ar.cons (Ex.var 1) Ar.nil)) (Ex.gint B.MOST_STEPS_)) (oO B E Cq46 Cq37 Cq49))
def pW:BX Ω:=
 (BX.ifr (E.exc (x:="NoProgram") (by decide)) (Te.not (Te.val (Ex.call Cq37 (Ar.cons (Ex.var 1) (Ar.cons (Ex.var 0) Ar.nil))))) (pN B E Cq46 Cq37 Cq49))
def tG:BX Ω:=
 (BX.ifr (E.exc (x:="NoProgram") (by decide)) (Te.not (Te.val (Ex.call Cq46 (Ar.cons (Ex.var 0) Ar.nil)))) (pW B E Cq46 Cq37 Cq49))
end
abbrev bI:Stmt:=top 33
abbrev pY:List Str:=["word"]
abbrev iJ:List Str:=["word"]
def pR:Bl Ω:=
 Bl.cons (Sm.ret (Ex.ifE (Te.val (Ex.ms Ju (Ex.var 0) (Ex.str "-"))) (Ex.slS (Ex.var 0) (Po.so (Ex.int 1)) Po.no) (Ex.var 0))) Bl.nil
abbrev cH:Stmt:=top 34
abbrev wW:List Str:=["word","figures"]
abbrev lz:List Str:=["word"]
section
variable (B : Bi Ω.mg Ω.K) {Fq65 : Ct} (Cq65 : Cal Ω "without_sign" 1 1 Fq65)
def qJ(B:Bi Ω.mg Ω.K){Fq65:Ct}(Cq65:Cal Ω "without_sign" 1 1 Fq65):Bl Ω:=
 Bl.cons (Sm.ret (Ex.or (Bo.cons (Ex.cmp .NotEq (Ex.ixS (Ex.var 1) (Ex.int 0)) (Ex.str "0")) (Bo.one (Ex.cmp .Eq (Ex.var 0) (Ex.str "0")))))) Bl.nil
def rn:Bl Ω:=
 Bl.cons (Sm.ite (Te.or (Bt.cons (Te.cmp .Eq (Ex.var 1) (Ex.str "")) (Bt.one (Te.not (Te.val (Ex.blt gF B.all_ (Ar.cons (Ex.comp ["sign"] [none] (Ex.inS (Ex.var 0) (Ex.gstr B.FIGURES_)) (Tg.nm 0) (Itb.str (Ex.var 1)) Cd.no) Ar.nil))))))) (Bl.cons (Sm.ret (Ex.bl false)) Bl.nil) Bl.nil) (qJ B Cq65)
def xK:Bl Ω:=
 Bl.cons (Sm.set 1 (Ex.call Cq65 (Ar.cons (Ex.var 0) Ar.nil))) (rn B Cq65)
end
abbrev bL:Stmt:=top 35
abbrev rR:List Str:=["word"]
abbrev jh:List Str:=["word"]
def nF(B:Bi Ω.mg Ω.K){Fq38:Ct}(Cq38:Cal Ω "is_number" 2 1 Fq38):Bl Ω:=
 Bl.cons (Sm.ret (Ex.typ RB B.int_ (Ar.cons (Ex.slS (Ex.var 0) Po.no (Po.so (Ex.gint B.ENOUGH_SIGNS_))) Ar.nil))) Bl.nil
def qH(B:Bi Ω.mg Ω.K){Fq38:Ct}(Cq38:Cal Ω "is_number" 2 1 Fq38):Bl Ω:=
 Bl.cons (Sm.ite (Te.not (Te.val (Ex.call Cq38 (Ar.cons (Ex.var 0) Ar.nil)))) (Bl.cons Sm.never Bl.nil) Bl.nil) (nF B Cq38)
abbrev cL:Stmt:=top 36
abbrev wH:List Str:=["word"]
abbrev lB:List Str:=["word"]
def xF(B:Bi Ω.mg Ω.K){Fq50:Ct}(Cq50:Cal Ω "number_read" 3 1 Fq50):Bl Ω:=
 Bl.cons (Sm.ret (Ex.typ bH B.tuple_ (Ar.cons (Ex.comp ["part"] [none] (Ex.call Cq50 (Ar.cons (Ex.var 0) Ar.nil)) (Tg.nm 0) (Itb.seq (Ex.ms mX (Ex.var 0) (Ex.str ","))) Cd.no) Ar.nil))) Bl.nil
abbrev cM:Stmt:=top 37
abbrev wK:List Str:=["word","parts"]
abbrev lr:List Str:=["word"]
section
variable (B : Bi Ω.mg Ω.K) {Fq29 : Ct} (Cq29 : Cal Ω "form_read" 4 1 Fq29)
def sX(B:Bi Ω.mg Ω.K){Fq29:Ct}(Cq29:Cal Ω "form_read" 4 1 Fq29):Bl Ω:=
 Bl.cons (Sm.ret (Ex.tup (Ar.cons (Ex.indexG B.LETTERS_ (Ex.ix (Ex.var 1) (Ex.int 0))) (Ar.cons (Ex.typ bH B.tuple_ (Ar.cons (Ex.comp ["part"] [none] (Ex.call Cq29 (Ar.cons (Ex.var 0) Ar.nil)) (Tg.nm 0) (Itb.seq (Ex.sl (Ex.var 1) (Po.so (Ex.int 1)) Po.no)) Cd.no) Ar.nil)) Ar.nil)))) Bl.nil
def rH:Bl Ω:=
 Bl.cons (Sm.ite (Te.inG B.LETTERS_ true (Ex.ix (Ex.var 1) (Ex.int 0))) (Bl.cons Sm.never Bl.nil) Bl.nil) (sX B Cq29)
def wy:Bl Ω:=
 Bl.cons (Sm.set 1 (Ex.ms mX (Ex.var 0) (Ex.str "@"))) (rH B Cq29)
end
abbrev aW:Stmt:=top 38
abbrev jo:List Str:=["words","between"]
abbrev dY:List Str:=["words","between"]
def jm(B:Bi Ω.mg Ω.K):Bl Ω:=
 Bl.cons (Sm.ite (Te.or (Bt.cons (Te.cmp .NotEq (Ex.blt iD B.len_ (Ar.cons (Ex.var 0) Ar.nil)) (Ex.int 4)) (Bt.one (Te.cmp .NotEq (Ex.ix (Ex.var 0) (Ex.int 2)) (Ex.var 1))))) (Bl.cons Sm.never Bl.nil) Bl.nil) Bl.nil
abbrev cQ:Stmt:=top 39
abbrev xV:List Str:=["words"]
abbrev lq:List Str:=["words"]
def qI{Fq29:Ct}(Cq29:Cal Ω "form_read" 4 1 Fq29){Fq53:Ct}(Cq53:Cal Ω "refuse_other_words" 1 2 Fq53):Bl Ω:=
 Bl.cons (Sm.ret (Ex.tup (Ar.cons (Ex.call Cq29 (Ar.cons (Ex.ix (Ex.var 0) (Ex.int 1)) Ar.nil)) (Ar.cons (Ex.call Cq29 (Ar.cons (Ex.ix (Ex.var 0) (Ex.int 3)) Ar.nil)) Ar.nil)))) Bl.nil
def wY{Fq29:Ct}(Cq29:Cal Ω "form_read" 4 1 Fq29){Fq53:Ct}(Cq53:Cal Ω "refuse_other_words" 1 2 Fq53):Bl Ω:=
 Bl.cons (Sm.expr (Ex.call Cq53 (Ar.cons (Ex.var 0) (Ar.cons (Ex.str "to") Ar.nil)))) (qI Cq29 Cq53)
abbrev cG:Stmt:=top 40
abbrev wk:List Str:=["words"]
abbrev kW:List Str:=["words"]
def qC{Fq29:Ct}(Cq29:Cal Ω "form_read" 4 1 Fq29){Fq25:Ct}(Cq25:Cal Ω "cell_read" 5 1 Fq25){Fq53:Ct}(Cq53:Cal Ω "refuse_other_words" 1 2 Fq53):Bl Ω:=
 Bl.cons (Sm.ret (Ex.bin .Add (Ex.call Cq25 (Ar.cons (Ex.ix (Ex.var 0) (Ex.int 1)) Ar.nil)) (Ex.tup (Ar.cons (Ex.call Cq29 (Ar.cons (Ex.ix (Ex.var 0) (Ex.int 3)) Ar.nil)) (Ar.cons (Ex.tup Ar.nil) Ar.nil))))) Bl.nil
def xx{Fq29:Ct}(Cq29:Cal Ω "form_read" 4 1 Fq29){Fq25:Ct}(Cq25:Cal Ω "cell_read" 5 1 Fq25){Fq53:Ct}(Cq53:Cal Ω "refuse_other_words" 1 2 Fq53):Bl Ω:=
 Bl.cons (Sm.expr (Ex.call Cq53 (Ar.cons (Ex.var 0) (Ar.cons (Ex.str "be") Ar.nil)))) (qC Cq29 Cq25 Cq53)
abbrev cO:Stmt:=top 41
abbrev wg:List Str:=["deed","words","told"]
abbrev lu:List Str:=["deed","words"]
section
variable {Fq50 : Ct} (Cq50 : Cal Ω "number_read" 3 1 Fq50) {Fq25 : Ct} (Cq25 : Cal Ω "cell_read" 5 1 Fq25) {Fq53 : Ct} (Cq53 : Cal Ω "refuse_other_words" 1 2 Fq53)
def qw{Fq50:Ct}(Cq50:Cal Ω "number_read" 3 1 Fq50){Fq25:Ct}(Cq25:Cal Ω "cell_read" 5 1 Fq25){Fq53:Ct}(Cq53:Cal Ω "refuse_other_words" 1 2 Fq53):Bl Ω:=
 Bl.cons (Sm.ret (Ex.bin .Add (Ex.sl (Ex.var 0) Po.no (Po.so (Ex.int 3))) (Ex.tup (Ar.cons (Ex.bin .Add (Ex.ix (Ex.var 0) (Ex.int 3)) (Ex.tup (Ar.cons (Ex.var 2) Ar.nil))) Ar.nil)))) Bl.nil
def qD:Bl Ω:=
 Bl.cons (Sm.set 2 (Ex.bin .Add (Ex.tup (Ar.cons (Ex.call Cq50 (Ar.cons (Ex.ix (Ex.var 1) (Ex.int 1)) Ar.nil)) Ar.nil)) (Ex.call Cq25 (Ar.cons (Ex.ix (Ex.var 1) (Ex.int 3)) Ar.nil)))) (qw Cq50 Cq25 Cq53)
def xH:Bl Ω:=
 Bl.cons (Sm.expr (Ex.call Cq53 (Ar.cons (Ex.var 1) (Ar.cons (Ex.str "of") Ar.nil)))) (qD Cq50 Cq25 Cq53)
end
abbrev cP:Stmt:=top 42
abbrev wN:List Str:=["nest","words","loops","deeds"]
abbrev lC:List Str:=["nest","words"]
section
variable {Fq47 : Ct} (Cq47 : Cal Ω "loop_read" 5 1 Fq47) {Fq28 : Ct} (Cq28 : Cal Ω "deed_read" 6 1 Fq28) {Fq64 : Ct} (Cq64 : Cal Ω "with_read" 6 2 Fq64)
def rC{Fq47:Ct}(Cq47:Cal Ω "loop_read" 5 1 Fq47){Fq28:Ct}(Cq28:Cal Ω "deed_read" 6 1 Fq28){Fq64:Ct}(Cq64:Cal Ω "with_read" 6 2 Fq64):Bl Ω:=
 Bl.cons Sm.never Bl.nil
def qL:Bl Ω:=
 Bl.cons (Sm.ite (Te.and (Bt.cons (Te.cmp .Eq (Ex.ix (Ex.var 1) (Ex.int 0)) (Ex.str "and")) (Bt.one (Te.tval (Ex.var 3))))) (Bl.cons (Sm.ret (Ex.tup (Ar.cons (Ex.var 2) (Ar.cons (Ex.bin .Add (Ex.sl (Ex.var 3) Po.no (Po.so (Ex.neg (Ex.int 1)))) (Ex.tup (Ar.cons (Ex.call Cq64 (Ar.cons (Ex.ix (Ex.var 3) (Ex.neg (Ex.int 1))) (Ar.cons (Ex.var 1) Ar.nil))) Ar.nil))) Ar.nil)))) Bl.nil) Bl.nil) (rC Cq47 Cq28 Cq64)
def qO:Bl Ω:=
 Bl.cons (Sm.ite (Te.cmp .Eq (Ex.ix (Ex.var 1) (Ex.int 0)) (Ex.str "set")) (Bl.cons (Sm.ret (Ex.tup (Ar.cons (Ex.var 2) (Ar.cons (Ex.bin .Add (Ex.var 3) (Ex.tup (Ar.cons (Ex.call Cq28 (Ar.cons (Ex.var 1) Ar.nil)) Ar.nil))) Ar.nil)))) Bl.nil) Bl.nil) (qL Cq47 Cq28 Cq64)
def rM:Bl Ω:=
 Bl.cons (Sm.ite (Te.and (Bt.cons (Te.cmp .Eq (Ex.ix (Ex.var 1) (Ex.int 0)) (Ex.str "loop")) (Bt.one (Te.not (Te.tval (Ex.var 3)))))) (Bl.cons (Sm.ret (Ex.tup (Ar.cons (Ex.bin .Add (Ex.var 2) (Ex.tup (Ar.cons (Ex.call Cq47 (Ar.cons (Ex.var 1) Ar.nil)) Ar.nil))) (Ar.cons (Ex.var 3) Ar.nil)))) Bl.nil) Bl.nil) (qO Cq47 Cq28 Cq64)
def qP:Bl Ω:=
 Bl.cons (Sm.set 3 (Ex.ix (Ex.var 0) (Ex.int 1))) (rM Cq47 Cq28 Cq64)
def xg:Bl Ω:=
 Bl.cons (Sm.set 2 (Ex.ix (Ex.var 0) (Ex.int 0))) (qP Cq47 Cq28 Cq64)
end
abbrev cu:Stmt:=top 43
abbrev vm:List Str:=["lines","nests","words"]
abbrev jJ:List Str:=["lines"]
section
variable (B : Bi Ω.mg Ω.K) {Fq62 : Ct} (Cq62 : Cal Ω "with_line" 7 2 Fq62)
def oY(B:Bi Ω.mg Ω.K){Fq62:Ct}(Cq62:Cal Ω "with_line" 7 2 Fq62):Bl Ω:=
 Bl.cons (Sm.ret (Ex.typ bH B.tuple_ (Ar.cons (Ex.var 1) Ar.nil))) Bl.nil
def oJ:Bl Ω:=
 Bl.cons (Sm.forL (Tg.nm 2) (Ex.var 0) (Bl.cons (Sm.ite (Te.cmp .Eq (Ex.var 2) (Ex.lst (Ar.cons (Ex.str "nest") Ar.nil))) (Bl.cons (Sm.expr (Ex.m_append (Ex.var 1) (Ex.tup (Ar.cons (Ex.tup Ar.nil) (Ar.cons (Ex.tup Ar.nil) Ar.nil))))) Bl.nil) (Bl.cons (Sm.ite (Te.lval (Ex.var 1)) (Bl.cons (Sm.setIx (Ex.var 1) (Ex.neg (Ex.int 1)) (Ex.call Cq62 (Ar.cons (Ex.ix (Ex.var 1) (Ex.neg (Ex.int 1))) (Ar.cons (Ex.var 2) Ar.nil)))) Bl.nil) (Bl.cons Sm.never Bl.nil)) Bl.nil)) Bl.nil)) (oY B Cq62)
def uN:Bl Ω:=
 Bl.cons (Sm.set 1 (Ex.own Ar.nil)) (oJ B Cq62)
end
abbrev bN:Stmt:=top 44
abbrev rE:List Str:=["words"]
abbrev iY:List Str:=["words"]
def nG(B:Bi Ω.mg Ω.K){Fq50:Ct}(Cq50:Cal Ω "number_read" 3 1 Fq50):Bl Ω:=
 Bl.cons (Sm.ret (Ex.typ bH B.tuple_ (Ar.cons (Ex.comp ["word"] [none] (Ex.call Cq50 (Ar.cons (Ex.var 0) Ar.nil)) (Tg.nm 0) (Itb.seq (Ex.sl (Ex.var 0) (Po.so (Ex.int 1)) Po.no)) Cd.no) Ar.nil))) Bl.nil
def rW(B:Bi Ω.mg Ω.K){Fq50:Ct}(Cq50:Cal Ω "number_read" 3 1 Fq50):Bl Ω:=
 Bl.cons (Sm.ite (Te.cmp .NotEq (Ex.ix (Ex.var 0) (Ex.int 0)) (Ex.str "tables")) (Bl.cons Sm.never Bl.nil) Bl.nil) (nG B Cq50)
abbrev il:Stmt:=top 45
abbrev JQ:List Str:=["text","lines","widths","nests"]
abbrev zr:List Str:=["text"]
section
variable (B : Bi Ω.mg Ω.K) {Fq51 : XCt} (Cq51 : zE Ω "program_of" 10 2 Fq51) {Fq48 : Ct} (Cq48 : Cal Ω "nests_read" 8 1 Fq48) {Fq61 : Ct} (Cq61 : Cal Ω "widths_read" 4 1 Fq61)
def Ew(B:Bi Ω.mg Ω.K){Fq51:XCt}(Cq51:zE Ω "program_of" 10 2 Fq51){Fq48:Ct}(Cq48:Cal Ω "nests_read" 8 1 Fq48){Fq61:Ct}(Cq61:Cal Ω "widths_read" 4 1 Fq61):Bl Ω:=
 Bl.cons (Sm.ret (Ex.ofX (XEx.call Cq51 (Ar.cons (Ex.var 2) (Ar.cons (Ex.var 3) Ar.nil))))) Bl.nil
def Dc:Bl Ω:=
 Bl.cons (Sm.set 3 (Ex.call Cq48 (Ar.cons (Ex.sl (Ex.var 1) (Po.so (Ex.int 1)) Po.no) Ar.nil))) (Ew B Cq51 Cq48 Cq61)
def Ey:Bl Ω:=
 Bl.cons (Sm.set 2 (Ex.call Cq61 (Ar.cons (Ex.ix (Ex.var 1) (Ex.int 0)) Ar.nil))) (Dc B Cq51 Cq48 Cq61)
def CP:Bl Ω:=
 Bl.cons (Sm.setC 1 ["line"] [none] (Ex.ms mX (Ex.var 0) (Ex.str " ")) (Tg.nm 0) (Itb.seq (Ex.ms mX (Ex.var 0) (Ex.str "\n"))) Cd.no) (Ey B Cq51 Cq48 Cq61)
def Iv:Bl Ω:=
 Bl.cons (Sm.ite (Te.not (Te.val (Ex.isiS B.isinstance_ (Ex.var 0) B.str_))) (Bl.cons Sm.never Bl.nil) Bl.nil) (CP B Cq51 Cq48 Cq61)
end
abbrev bW:Stmt:=top 46
abbrev ug:List Str:=["form"]
abbrev jG:List Str:=["form"]
def tZ(B:Bi Ω.mg Ω.K):Bl Ω:=
 Bl.cons (Sm.ret (Ex.ms cU (Ex.str ",") (Ex.comp ["number"] [none] (Ex.typ yx B.str_ (Ar.cons (Ex.var 0) Ar.nil)) (Tg.nm 0) (Itb.seq (Ex.var 0)) Cd.no))) Bl.nil
abbrev bZ:Stmt:=top 47
abbrev uW:List Str:=["table","place"]
abbrev jE:List Str:=["table","place"]
def uM(B:Bi Ω.mg Ω.K){Fq57:Ct}(Cq57:Cal Ω "shown_form" 1 1 Fq57):Bl Ω:=
 Bl.cons (Sm.ret (Ex.ms cU (Ex.str "@") (Ex.binL false .Add (Ex.lst (Ar.cons (Ex.ixG B.LETTERS_ (Ex.var 0)) Ar.nil)) (Ex.comp ["form"] [none] (Ex.call Cq57 (Ar.cons (Ex.var 0) Ar.nil)) (Tg.nm 0) (Itb.seq (Ex.var 1)) Cd.no)))) Bl.nil
abbrev bV:Stmt:=top 48
abbrev u9:List Str:=["loop","low","high"]
abbrev jQ:List Str:=["loop"]
section
variable {Fq57 : Ct} (Cq57 : Cal Ω "shown_form" 1 1 Fq57)
def qj{Fq57:Ct}(Cq57:Cal Ω "shown_form" 1 1 Fq57):Bl Ω:=
 Bl.cons (Sm.ret (Ex.fstr (Fs.txt "loop " (Fs.val (Ex.var 1) (Fs.txt " to " (Fs.val (Ex.var 2) Fs.nil)))))) Bl.nil
def pH:Bl Ω:=
 Bl.cons (Sm.set 2 (Ex.call Cq57 (Ar.cons (Ex.ix (Ex.var 0) (Ex.int 1)) Ar.nil))) (qj Cq57)
def vd:Bl Ω:=
 Bl.cons (Sm.set 1 (Ex.call Cq57 (Ar.cons (Ex.ix (Ex.var 0) (Ex.int 0)) Ar.nil))) (pH Cq57)
end
abbrev bR:Stmt:=top 49
abbrev vA:List Str:=["factor","table","place","cell"]
abbrev jL:List Str:=["factor","table","place"]
def oM{Fq55:Ct}(Cq55:Cal Ω "shown_cell" 2 2 Fq55):Bl Ω:=
 Bl.cons (Sm.ret (Ex.fstr (Fs.txt "and " (Fs.val (Ex.var 0) (Fs.txt " of " (Fs.val (Ex.var 3) Fs.nil)))))) Bl.nil
def vJ{Fq55:Ct}(Cq55:Cal Ω "shown_cell" 2 2 Fq55):Bl Ω:=
 Bl.cons (Sm.set 3 (Ex.call Cq55 (Ar.cons (Ex.var 1) (Ar.cons (Ex.var 2) Ar.nil)))) (oM Cq55)
abbrev bQ:Stmt:=top 50
abbrev uT:List Str:=["deed","cell","start","reads"]
abbrev jP:List Str:=["deed"]
section
variable {Fq57 : Ct} (Cq57 : Cal Ω "shown_form" 1 1 Fq57) {Fq55 : Ct} (Cq55 : Cal Ω "shown_cell" 2 2 Fq55) {Fq60 : Ct} (Cq60 : Cal Ω "shown_read" 3 3 Fq60)
def pg{Fq57:Ct}(Cq57:Cal Ω "shown_form" 1 1 Fq57){Fq55:Ct}(Cq55:Cal Ω "shown_cell" 2 2 Fq55){Fq60:Ct}(Cq60:Cal Ω "shown_read" 3 3 Fq60):Bl Ω:=
 Bl.cons (Sm.ret (Ex.binL false .Add (Ex.lst (Ar.cons (Ex.fstr (Fs.txt "set " (Fs.val (Ex.var 1) (Fs.txt " be " (Fs.val (Ex.var 2) Fs.nil))))) Ar.nil)) (Ex.var 3))) Bl.nil
def pQ:Bl Ω:=
 Bl.cons (Sm.setC 3 ["factor","table","place"] [none,none,none] (Ex.call Cq60 (Ar.cons (Ex.var 0) (Ar.cons (Ex.var 1) (Ar.cons (Ex.var 2) Ar.nil)))) (Tg.tup [0,1,2]) (Itb.seq (Ex.ix (Ex.var 0) (Ex.int 3))) Cd.no) (pg Cq57 Cq55 Cq60)
def oR:Bl Ω:=
 Bl.cons (Sm.set 2 (Ex.call Cq57 (Ar.cons (Ex.ix (Ex.var 0) (Ex.int 2)) Ar.nil))) (pQ Cq57 Cq55 Cq60)
def vB:Bl Ω:=
 Bl.cons (Sm.set 1 (Ex.call Cq55 (Ar.cons (Ex.ix (Ex.var 0) (Ex.int 0)) (Ar.cons (Ex.ix (Ex.var 0) (Ex.int 1)) Ar.nil)))) (oR Cq57 Cq55 Cq60)
end
abbrev bU:Stmt:=top 51
abbrev vf:List Str:=["loops","deeds","lines","deed"]
abbrev jH:List Str:=["loops","deeds"]
section
variable {Fq58 : Ct} (Cq58 : Cal Ω "shown_loop" 2 1 Fq58) {Fq56 : Ct} (Cq56 : Cal Ω "shown_deed" 4 1 Fq56)
def pI{Fq58:Ct}(Cq58:Cal Ω "shown_loop" 2 1 Fq58){Fq56:Ct}(Cq56:Cal Ω "shown_deed" 4 1 Fq56):Bl Ω:=
 Bl.cons (Sm.ret (Ex.var 2)) Bl.nil
def qm:Bl Ω:=
 Bl.cons (Sm.forL (Tg.nm 3) (Ex.var 1) (Bl.cons (Sm.expr (Ex.m_extend (Ex.var 2) (Ex.call Cq56 (Ar.cons (Ex.var 3) Ar.nil)))) Bl.nil)) (pI Cq58 Cq56)
def uv:Bl Ω:=
 Bl.cons (Sm.set 2 (Ex.binL true .Add (Ex.lst (Ar.cons (Ex.str "nest") Ar.nil)) (Ex.comp ["loop"] [none] (Ex.call Cq58 (Ar.cons (Ex.var 0) Ar.nil)) (Tg.nm 0) (Itb.seq (Ex.var 0)) Cd.no))) (qm Cq58 Cq56)
end
abbrev gn:Stmt:=top 52
abbrev Ho:List Str:=["program","lines","loops","deeds"]
abbrev v5:List Str:=["program"]
section
variable (B : Bi Ω.mg Ω.K) {Fq59 : Ct} (Cq59 : Cal Ω "shown_nest" 5 2 Fq59)
def Bm(B:Bi Ω.mg Ω.K){Fq59:Ct}(Cq59:Cal Ω "shown_nest" 5 2 Fq59):Bl Ω:=
 Bl.cons (Sm.ret (Ex.ms cU (Ex.str "\n") (Ex.var 1))) Bl.nil
def Bx:Bl Ω:=
 Bl.cons (Sm.forL (Tg.tup [2,3]) (Ex.ix (Ex.var 0) (Ex.int 1)) (Bl.cons (Sm.expr (Ex.m_extend (Ex.var 1) (Ex.call Cq59 (Ar.cons (Ex.var 2) (Ar.cons (Ex.var 3) Ar.nil))))) Bl.nil)) (Bm B Cq59)
def Fd:Bl Ω:=
 Bl.cons (Sm.set 1 (Ex.own (Ar.cons (Ex.ms cU (Ex.str " ") (Ex.binL false .Add (Ex.lst (Ar.cons (Ex.str "tables") Ar.nil)) (Ex.comp ["width"] [none] (Ex.typ yx B.str_ (Ar.cons (Ex.var 0) Ar.nil)) (Tg.nm 0) (Itb.seq (Ex.ix (Ex.var 0) (Ex.int 0))) Cd.no))) Ar.nil))) (Bx B Cq59)
end
abbrev dO:Stmt:=top 54
abbrev Bw:List Str:=["_law_script","_law_k"]
abbrev nZ:List Str:=["_law_script","_law_k"]
def xn(B:Bi Ω.mg Ω.K):Bl Ω:=
 Bl.cons (Sm.ret (Ex.int 0)) Bl.nil
def Be(B:Bi Ω.mg Ω.K):Bl Ω:=
 Bl.cons (Sm.ite (Te.cmp .Lt (Ex.var 1) (Ex.blt iD B.len_ (Ar.cons (Ex.var 0) Ar.nil))) (Bl.cons (Sm.ret (Ex.ix (Ex.var 0) (Ex.var 1))) Bl.nil) Bl.nil) (xn B)
abbrev ju:Stmt:=top 55
abbrev K6:List Str:=["_law_script","_law_seed"]
abbrev BJ:List Str:=["_law_script"]
def Hl(B:Bi Ω.mg Ω.K){Fq1:Ct}(Cq1:Cal Ω "_law_cell_at" 1 2 Fq1):Bl Ω:=
 Bl.cons (Sm.ret (Ex.own (Ar.cons (Ex.var 0) (Ar.cons (Ex.int 1) (Ar.cons (Ex.call Cq1 (Ar.cons (Ex.var 0) (Ar.cons (Ex.int 1) Ar.nil))) (Ar.cons (Ex.int 0) (Ar.cons (Ex.bin .Mod (Ex.call Cq1 (Ar.cons (Ex.var 0) (Ar.cons (Ex.int 0) Ar.nil))) (Ex.int 2)) (Ar.cons (Ex.var 1) Ar.nil)))))))) Bl.nil
def Mu(B:Bi Ω.mg Ω.K){Fq1:Ct}(Cq1:Cal Ω "_law_cell_at" 1 2 Fq1):Bl Ω:=
 Bl.cons (Sm.set 1 (Ex.bin .Mod (Ex.blt yh B.sum_ (Ar.cons (Ex.comp ["_law_k","_law_cell"] [none,none] (Ex.bin .Mult (Ex.bin .Add (Ex.bin .Mod (Ex.var 1) (Ex.int 2147483629)) (Ex.int 1)) (Ex.bin .Add (Ex.bin .Mult (Ex.var 0) (Ex.var 0)) (Ex.int 7))) (Tg.tup [0,1]) (Itb.enm B.enumerate_ (Ex.sl (Ex.var 0) Po.no (Po.so (Ex.int 63)))) Cd.no) Ar.nil)) (Ex.int 2147483647))) (Hl B Cq1)
abbrev iC:Stmt:=top 56
abbrev Jd:List Str:=["_law_pen_here","_law_most","_law_found"]
abbrev yO:List Str:=["_law_pen_here","_law_most"]
section
variable {Fq1 : Ct} (Cq1 : Cal Ω "_law_cell_at" 1 2 Fq1)
def wJ{Fq1:Ct}(Cq1:Cal Ω "_law_cell_at" 1 2 Fq1):Bl Ω:=
 Bl.cons (Sm.ret (Ex.bin .Mod (Ex.fdiv (Ex.bin .Mod (Ex.bin .Mult (Ex.ix (Ex.var 0) (Ex.int 5)) (Ex.int 1181783497276652981)) (Ex.int 2305843009213693951)) (Ex.int 64)) (Ex.var 1))) Bl.nil
def Bk:Bl Ω:=
 Bl.cons (Sm.setIx (Ex.var 0) (Ex.int 5) (Ex.bin .Mod (Ex.bin .Add (Ex.bin .Mult (Ex.ix (Ex.var 0) (Ex.int 5)) (Ex.int 48271)) (Ex.int 12345)) (Ex.int 2147483647))) (wJ Cq1)
def wC{Fq1:Ct}(Cq1:Cal Ω "_law_cell_at" 1 2 Fq1):Bl Ω:=
 Bl.cons (Sm.setIx (Ex.var 0) (Ex.int 3) (Ex.int 0)) Bl.nil
def wI:Bl Ω:=
 Bl.cons (Sm.setIx (Ex.var 0) (Ex.int 2) (Ex.call Cq1 (Ar.cons (Ex.ix (Ex.var 0) (Ex.int 0)) (Ar.cons (Ex.ix (Ex.var 0) (Ex.int 1)) Ar.nil)))) (wC Cq1)
def Av:Bl Ω:=
 Bl.cons (Sm.setIx (Ex.var 0) (Ex.int 1) (Ex.bin .Add (Ex.ix (Ex.var 0) (Ex.int 1)) (Ex.int 1))) (wI Cq1)
def Et{Fq1:Ct}(Cq1:Cal Ω "_law_cell_at" 1 2 Fq1):Bl Ω:=
 Bl.cons (Sm.ret (Ex.var 2)) Bl.nil
def CT:Bl Ω:=
 Bl.cons (Sm.setIx (Ex.var 0) (Ex.int 2) (Ex.fdiv (Ex.ix (Ex.var 0) (Ex.int 2)) (Ex.var 1))) (Et Cq1)
def Ea:Bl Ω:=
 Bl.cons (Sm.set 2 (Ex.bin .Mod (Ex.ix (Ex.var 0) (Ex.int 2)) (Ex.var 1))) (CT Cq1)
def rN:Bl Ω:=
 Bl.cons (Sm.setIx (Ex.var 0) (Ex.int 3) (Ex.bin .Add (Ex.ix (Ex.var 0) (Ex.int 3)) (Ex.int 1))) (Ea Cq1)
def Df:Bl Ω:=
 Bl.cons (Sm.ite (Te.cmp .Eq (Ex.ix (Ex.var 0) (Ex.int 3)) (Ex.int 50)) (Av Cq1) Bl.nil) (rN Cq1)
def Ig:Bl Ω:=
 Bl.cons (Sm.ite (Te.cmp .Eq (Ex.ix (Ex.var 0) (Ex.int 4)) (Ex.int 1)) (Bk Cq1) Bl.nil) (Df Cq1)
end
abbrev iI:Stmt:=top 57
abbrev Il:List Str:=["_law_pen_here","_law_k","_law_low","_law_high","_law_at_here"]
abbrev yZ:List Str:=["_law_pen_here","_law_k"]
section
variable (B : Bi Ω.mg Ω.K) {Fq23 : Ct} (Cq23 : Cal Ω "_law_take" 2 2 Fq23)
def xO(B:Bi Ω.mg Ω.K){Fq23:Ct}(Cq23:Cal Ω "_law_take" 2 2 Fq23):Bl Ω:=
 Bl.cons (Sm.set 3 (Ex.bin .Add (Ex.bin .Add (Ex.sl (Ex.var 3) Po.no (Po.so (Ex.var 4))) (Ex.tup (Ar.cons (Ex.bin .Sub (Ex.call Cq23 (Ar.cons (Ex.var 0) (Ar.cons (Ex.int 5) Ar.nil))) (Ex.int 2)) Ar.nil))) (Ex.sl (Ex.var 3) (Po.so (Ex.bin .Add (Ex.var 4) (Ex.int 1))) Po.no))) Bl.nil
def By:Bl Ω:=
 Bl.cons (Sm.set 4 (Ex.bin .Add (Ex.int 1) (Ex.call Cq23 (Ar.cons (Ex.var 0) (Ar.cons (Ex.var 1) Ar.nil))))) (xO B Cq23)
def rK(B:Bi Ω.mg Ω.K){Fq23:Ct}(Cq23:Cal Ω "_law_take" 2 2 Fq23):Bl Ω:=
 Bl.cons (Sm.ret (Ex.tup (Ar.cons (Ex.var 2) (Ar.cons (Ex.var 3) Ar.nil)))) Bl.nil
def qt:Bl Ω:=
 Bl.cons (Sm.ite (Te.and (Bt.cons (Te.cmp .Gt (Ex.var 1) (Ex.int 0)) (Bt.one (Te.cmp .Eq (Ex.call Cq23 (Ar.cons (Ex.var 0) (Ar.cons (Ex.int 3) Ar.nil))) (Ex.int 0))))) (By B Cq23) Bl.nil) (rK B Cq23)
def qQ:Bl Ω:=
 Bl.cons (Sm.set 3 (Ex.bin .Add (Ex.tup (Ar.cons (Ex.blt OJ B.min_ (Ar.cons (Ex.int 9) (Ar.cons (Ex.bin .Add (Ex.ix (Ex.var 2) (Ex.int 0)) (Ex.call Cq23 (Ar.cons (Ex.var 0) (Ar.cons (Ex.int 4) Ar.nil)))) Ar.nil))) Ar.nil)) (Ex.sl (Ex.var 2) (Po.so (Ex.int 1)) Po.no))) (qt B Cq23)
def Du:Bl Ω:=
 Bl.cons (Sm.ite (Te.cmp .Eq (Ex.call Cq23 (Ar.cons (Ex.var 0) (Ar.cons (Ex.int 3) Ar.nil))) (Ex.int 0)) (Bl.cons (Sm.ret (Ex.tup (Ar.cons (Ex.var 2) (Ar.cons (Ex.bin .Add (Ex.tup (Ar.cons (Ex.bin .Sub (Ex.call Cq23 (Ar.cons (Ex.var 0) (Ar.cons (Ex.int 19) Ar.nil))) (Ex.int 9)) Ar.nil)) (Ex.typ bH B.tuple_ (Ar.cons (Ex.comp ["_law_j","_law_pen_here"] [none,some 0] (Ex.bin .Sub (Ex.call Cq23 (Ar.cons (Ex.var 1) (Ar.cons (Ex.int 5) Ar.nil))) (Ex.int 2)) (Tg.nm 0) (Itb.rng1 B.range_ (Ex.var 1)) Cd.no) Ar.nil))) Ar.nil)))) Bl.nil) Bl.nil) (qQ B Cq23)
def JK:Bl Ω:=
 Bl.cons (Sm.set 2 (Ex.bin .Add (Ex.tup (Ar.cons (Ex.bin .Sub (Ex.call Cq23 (Ar.cons (Ex.var 0) (Ar.cons (Ex.int 19) Ar.nil))) (Ex.int 9)) Ar.nil)) (Ex.typ bH B.tuple_ (Ar.cons (Ex.comp ["_law_j","_law_pen_here"] [none,some 0] (Ex.bin .Sub (Ex.call Cq23 (Ar.cons (Ex.var 1) (Ar.cons (Ex.int 5) Ar.nil))) (Ex.int 2)) (Tg.nm 0) (Itb.rng1 B.range_ (Ex.var 1)) Cd.no) Ar.nil)))) (Du B Cq23)
end
abbrev mC:Stmt:=top 58
abbrev Ng:List Str:=["_law_form_here","_law_counts"]
abbrev Gh:List Str:=["_law_form_here","_law_counts"]
def Qf(B:Bi Ω.mg Ω.K):Bl Ω:=
 Bl.cons (Sm.ret (Ex.bin .Add (Ex.ix (Ex.var 0) (Ex.int 0)) (Ex.blt yh B.sum_ (Ar.cons (Ex.comp ["_law_number","_law_count"] [none,none] (Ex.bin .Mult (Ex.var 0) (Ex.var 1)) (Tg.tup [0,1]) (Itb.zip B.zip_ (Ex.sl (Ex.var 0) (Po.so (Ex.int 1)) Po.no) (Ex.var 1)) Cd.no) Ar.nil)))) Bl.nil
abbrev iG:Stmt:=top 59
abbrev HQ:List Str:=["_law_loops","_law_going","_law_low","_law_high","_law_longer","_law_counts"]
abbrev Ae:List Str:=["_law_loops"]
section
variable (B : Bi Ω.mg Ω.K) {Fq0 : Ct} (Cq0 : Cal Ω "_law_at" 1 2 Fq0)
def xR(B:Bi Ω.mg Ω.K){Fq0:Ct}(Cq0:Cal Ω "_law_at" 1 2 Fq0):Bl Ω:=
 Bl.cons (Sm.set 4 (Ex.slO (Ex.var 4) Po.no (Po.so (Ex.int 1000)))) Bl.nil
def nW:Bl Ω:=
 Bl.cons (Sm.expr (Ex.m_extend (Ex.var 4) (Ex.comp ["_law_count","_law_counts"] [none,some 5] (Ex.bin .Add (Ex.var 1) (Ex.tup (Ar.cons (Ex.var 0) Ar.nil))) (Tg.nm 0) (Itb.rng2 B.range_ (Ex.call Cq0 (Ar.cons (Ex.var 2) (Ar.cons (Ex.var 5) Ar.nil))) (Ex.call Cq0 (Ar.cons (Ex.var 3) (Ar.cons (Ex.var 5) Ar.nil)))) Cd.no))) (xR B Cq0)
def kY(B:Bi Ω.mg Ω.K){Fq0:Ct}(Cq0:Cal Ω "_law_at" 1 2 Fq0):Bl Ω:=
 Bl.cons (Sm.set 1 (Ex.var 4)) Bl.nil
def xf:Bl Ω:=
 Bl.cons (Sm.forL (Tg.nm 5) (Ex.var 1) (nW B Cq0)) (kY B Cq0)
def Bp:Bl Ω:=
 Bl.cons (Sm.set 4 (Ex.own Ar.nil)) (xf B Cq0)
def El(B:Bi Ω.mg Ω.K){Fq0:Ct}(Cq0:Cal Ω "_law_at" 1 2 Fq0):Bl Ω:=
 Bl.cons (Sm.ret (Ex.blt iD B.len_ (Ar.cons (Ex.var 1) Ar.nil))) Bl.nil
def Dl:Bl Ω:=
 Bl.cons (Sm.forL (Tg.tup [2,3]) (Ex.var 0) (Bp B Cq0)) (El B Cq0)
def Jy:Bl Ω:=
 Bl.cons (Sm.set 1 (Ex.lst (Ar.cons (Ex.tup Ar.nil) Ar.nil))) (Dl B Cq0)
end
abbrev gC:Stmt:=top 60
abbrev Hq:List Str:=["_law_pen_here","_law_most"]
abbrev v7:List Str:=["_law_pen_here","_law_most"]
def Az{Fq23:Ct}(Cq23:Cal Ω "_law_take" 2 2 Fq23):Bl Ω:=
 Bl.cons (Sm.ret (Ex.bin .Mult (Ex.bin .Add (Ex.bin .Mult (Ex.call Cq23 (Ar.cons (Ex.var 0) (Ar.cons (Ex.bin .Pow (Ex.int 10) (Ex.int 9)) Ar.nil))) (Ex.bin .Pow (Ex.int 10) (Ex.int 21))) (Ex.call Cq23 (Ar.cons (Ex.var 0) (Ar.cons (Ex.bin .Pow (Ex.int 10) (Ex.int 9)) Ar.nil)))) (Ex.bin .Sub (Ex.int 1) (Ex.bin .Mult (Ex.int 2) (Ex.call Cq23 (Ar.cons (Ex.var 0) (Ar.cons (Ex.int 2) Ar.nil))))))) Bl.nil
def G9{Fq23:Ct}(Cq23:Cal Ω "_law_take" 2 2 Fq23):Bl Ω:=
 Bl.cons (Sm.ite (Te.cmp .Gt (Ex.call Cq23 (Ar.cons (Ex.var 0) (Ar.cons (Ex.int 4) Ar.nil))) (Ex.int 0)) (Bl.cons (Sm.ret (Ex.bin .Sub (Ex.call Cq23 (Ar.cons (Ex.var 0) (Ar.cons (Ex.bin .Add (Ex.bin .Mult (Ex.int 2) (Ex.var 1)) (Ex.int 1)) Ar.nil))) (Ex.var 1))) Bl.nil) Bl.nil) (Az Cq23)
abbrev ig:Stmt:=top 61
abbrev Iw:List Str:=["_law_pen_here","_law_d","_law_most"]
abbrev zj:List Str:=["_law_pen_here","_law_d","_law_most"]
def rQ(B:Bi Ω.mg Ω.K){Fq23:Ct}(Cq23:Cal Ω "_law_take" 2 2 Fq23):Bl Ω:=
 Bl.cons (Sm.ret (Ex.typ bH B.tuple_ (Ar.cons (Ex.comp ["_law_k","_law_pen_here","_law_most"] [none,some 0,some 2] (Ex.bin .Sub (Ex.call Cq23 (Ar.cons (Ex.var 1) (Ar.cons (Ex.bin .Add (Ex.bin .Mult (Ex.int 2) (Ex.var 2)) (Ex.int 1)) Ar.nil))) (Ex.var 2)) (Tg.nm 0) (Itb.rng1 B.range_ (Ex.bin .Add (Ex.var 1) (Ex.int 1))) Cd.no) Ar.nil))) Bl.nil
def Jm(B:Bi Ω.mg Ω.K){Fq23:Ct}(Cq23:Cal Ω "_law_take" 2 2 Fq23):Bl Ω:=
 Bl.cons (Sm.ite (Te.cmp .Eq (Ex.call Cq23 (Ar.cons (Ex.var 0) (Ar.cons (Ex.int 2) Ar.nil))) (Ex.int 0)) (Bl.cons (Sm.set 2 (Ex.int 2)) Bl.nil) Bl.nil) (rQ B Cq23)
abbrev iH:Stmt:=top 62
abbrev Im:List Str:=["_law_pen_here","_law_widths","_law_d","_law_table","_law_place","_law_start","_law_reads","_law_k","_law_one"]
abbrev zT:List Str:=["_law_pen_here","_law_widths","_law_d"]
section
variable (B : Bi Ω.mg Ω.K) {Fq23 : Ct} (Cq23 : Cal Ω "_law_take" 2 2 Fq23) {Fq6 : Ct} (Cq6 : Cal Ω "_law_great" 3 2 Fq6) {Fq4 : Ct} (Cq4 : Cal Ω "_law_form" 3 3 Fq4)
def xU(B:Bi Ω.mg Ω.K){Fq23:Ct}(Cq23:Cal Ω "_law_take" 2 2 Fq23){Fq6:Ct}(Cq6:Cal Ω "_law_great" 3 2 Fq6){Fq4:Ct}(Cq4:Cal Ω "_law_form" 3 3 Fq4):Bl Ω:=
 Bl.cons (Sm.expr (Ex.m_append (Ex.var 6) (Ex.tup (Ar.cons (Ex.call Cq6 (Ar.cons (Ex.var 0) (Ar.cons (Ex.int 9) Ar.nil))) (Ar.cons (Ex.var 8) (Ar.cons (Ex.typ bH B.tuple_ (Ar.cons (Ex.comp ["_law_j","_law_pen_here","_law_d"] [none,some 0,some 2] (Ex.call Cq4 (Ar.cons (Ex.var 1) (Ar.cons (Ex.var 2) (Ar.cons (Ex.int 99) Ar.nil)))) (Tg.nm 0) (Itb.rng1 B.range_ (Ex.ix (Ex.var 1) (Ex.var 8))) Cd.no) Ar.nil)) Ar.nil)))))) Bl.nil
def oh:Bl Ω:=
 Bl.cons (Sm.set 8 (Ex.call Cq23 (Ar.cons (Ex.var 0) (Ar.cons (Ex.blt iD B.len_ (Ar.cons (Ex.var 1) Ar.nil)) Ar.nil)))) (xU B Cq23 Cq6 Cq4)
def Ei(B:Bi Ω.mg Ω.K){Fq23:Ct}(Cq23:Cal Ω "_law_take" 2 2 Fq23){Fq6:Ct}(Cq6:Cal Ω "_law_great" 3 2 Fq6){Fq4:Ct}(Cq4:Cal Ω "_law_form" 3 3 Fq4):Bl Ω:=
 Bl.cons (Sm.ret (Ex.tup (Ar.cons (Ex.var 3) (Ar.cons (Ex.var 4) (Ar.cons (Ex.var 5) (Ar.cons (Ex.typ bH B.tuple_ (Ar.cons (Ex.var 6) Ar.nil)) Ar.nil)))))) Bl.nil
def CV:Bl Ω:=
 Bl.cons (Sm.for (Tg.nm 7) (Itb.rng1 B.range_ (Ex.call Cq23 (Ar.cons (Ex.var 0) (Ar.cons (Ex.int 4) Ar.nil)))) (oh B Cq23 Cq6 Cq4)) (Ei B Cq23 Cq6 Cq4)
def Eo:Bl Ω:=
 Bl.cons (Sm.set 6 (Ex.own Ar.nil)) (CV B Cq23 Cq6 Cq4)
def Dy:Bl Ω:=
 Bl.cons (Sm.set 5 (Ex.typ bH B.tuple_ (Ar.cons (Ex.comp ["_law_k","_law_pen_here"] [none,some 0] (Ex.call Cq6 (Ar.cons (Ex.var 1) (Ar.cons (Ex.int 9) Ar.nil))) (Tg.nm 0) (Itb.rng1 B.range_ (Ex.bin .Add (Ex.var 2) (Ex.int 1))) Cd.no) Ar.nil))) (Eo B Cq23 Cq6 Cq4)
def Dp:Bl Ω:=
 Bl.cons (Sm.set 4 (Ex.typ bH B.tuple_ (Ar.cons (Ex.comp ["_law_k","_law_pen_here","_law_d"] [none,some 0,some 2] (Ex.call Cq4 (Ar.cons (Ex.var 1) (Ar.cons (Ex.var 2) (Ar.cons (Ex.int 99) Ar.nil)))) (Tg.nm 0) (Itb.rng1 B.range_ (Ex.ix (Ex.var 1) (Ex.var 3))) Cd.no) Ar.nil))) (Dy B Cq23 Cq6 Cq4)
def JW:Bl Ω:=
 Bl.cons (Sm.set 3 (Ex.call Cq23 (Ar.cons (Ex.var 0) (Ar.cons (Ex.blt iD B.len_ (Ar.cons (Ex.var 1) Ar.nil)) Ar.nil)))) (Dp B Cq23 Cq6 Cq4)
end
abbrev dN:Stmt:=top 63
abbrev Ax:List Str:=["_law_pen_here","_law_widths","_law_nests","_law_left","_law_k","_law_loops","_law_many_here"]
abbrev nT:List Str:=["_law_pen_here"]
section
variable (B : Bi Ω.mg Ω.K) {Fq23 : Ct} (Cq23 : Cal Ω "_law_take" 2 2 Fq23) {Fq7 : Ct} (Cq7 : Cal Ω "_law_loop" 3 2 Fq7) {Fq8 : Ct} (Cq8 : Cal Ω "_law_many" 2 1 Fq8) {Fq3 : Ct} (Cq3 : Cal Ω "_law_deed" 4 3 Fq3)
def oN(B:Bi Ω.mg Ω.K){Fq23:Ct}(Cq23:Cal Ω "_law_take" 2 2 Fq23){Fq7:Ct}(Cq7:Cal Ω "_law_loop" 3 2 Fq7){Fq8:Ct}(Cq8:Cal Ω "_law_many" 2 1 Fq8){Fq3:Ct}(Cq3:Cal Ω "_law_deed" 4 3 Fq3):Bl Ω:=
 Bl.cons (Sm.expr (Ex.m_append (Ex.var 2) (Ex.tup (Ar.cons (Ex.var 5) (Ar.cons (Ex.typ bH B.tuple_ (Ar.cons (Ex.comp ["_law_j","_law_pen_here","_law_widths","_law_loops"] [none,some 0,some 1,some 5] (Ex.call Cq3 (Ar.cons (Ex.var 1) (Ar.cons (Ex.var 2) (Ar.cons (Ex.blt iD B.len_ (Ar.cons (Ex.var 3) Ar.nil)) Ar.nil)))) (Tg.nm 0) (Itb.rng1 B.range_ (Ex.var 6)) Cd.no) Ar.nil)) Ar.nil))))) Bl.nil
def iw:Bl Ω:=
 Bl.cons (Sm.set 3 (Ex.bin .Sub (Ex.var 3) (Ex.bin .Mult (Ex.call Cq8 (Ar.cons (Ex.var 5) Ar.nil)) (Ex.var 6)))) (oN B Cq23 Cq7 Cq8 Cq3)
def pZ:Bl Ω:=
 Bl.cons (Sm.ite (Te.cmp .Gt (Ex.bin .Mult (Ex.call Cq8 (Ar.cons (Ex.var 5) Ar.nil)) (Ex.var 6)) (Ex.var 3)) (Bl.cons (Sm.set 5 (Ex.tup (Ar.cons (Ex.tup (Ar.cons (Ex.tup (Ar.cons (Ex.int 0) Ar.nil)) (Ar.cons (Ex.tup (Ar.cons (Ex.call Cq23 (Ar.cons (Ex.var 0) (Ar.cons (Ex.bin .Add (Ex.int 1) (Ex.blt OJ B.min_ (Ar.cons (Ex.int 9) (Ar.cons (Ex.fdiv (Ex.var 3) (Ex.var 6)) Ar.nil)))) Ar.nil))) Ar.nil)) Ar.nil))) Ar.nil))) Bl.nil) Bl.nil) (iw B Cq23 Cq7 Cq8 Cq3)
def qb:Bl Ω:=
 Bl.cons (Sm.set 6 (Ex.bin .Add (Ex.int 1) (Ex.call Cq23 (Ar.cons (Ex.var 0) (Ar.cons (Ex.int 4) Ar.nil))))) (pZ B Cq23 Cq7 Cq8 Cq3)
def jU:Bl Ω:=
 Bl.cons (Sm.set 5 (Ex.typ bH B.tuple_ (Ar.cons (Ex.comp ["_law_j","_law_pen_here"] [none,some 0] (Ex.call Cq7 (Ar.cons (Ex.var 1) (Ar.cons (Ex.var 0) Ar.nil))) (Tg.nm 0) (Itb.rng1 B.range_ (Ex.bin .Add (Ex.int 1) (Ex.call Cq23 (Ar.cons (Ex.var 0) (Ar.cons (Ex.int 3) Ar.nil))))) Cd.no) Ar.nil))) (qb B Cq23 Cq7 Cq8 Cq3)
def wX(B:Bi Ω.mg Ω.K){Fq23:Ct}(Cq23:Cal Ω "_law_take" 2 2 Fq23){Fq7:Ct}(Cq7:Cal Ω "_law_loop" 3 2 Fq7){Fq8:Ct}(Cq8:Cal Ω "_law_many" 2 1 Fq8){Fq3:Ct}(Cq3:Cal Ω "_law_deed" 4 3 Fq3):Bl Ω:=
 Bl.cons (Sm.ret (Ex.tup (Ar.cons (Ex.var 1) (Ar.cons (Ex.typ bH B.tuple_ (Ar.cons (Ex.var 2) Ar.nil)) Ar.nil)))) Bl.nil
def wG:Bl Ω:=
 Bl.cons (Sm.for (Tg.nm 4) (Itb.rng1 B.range_ (Ex.bin .Add (Ex.int 1) (Ex.call Cq23 (Ar.cons (Ex.var 0) (Ar.cons (Ex.int 3) Ar.nil))))) (jU B Cq23 Cq7 Cq8 Cq3)) (wX B Cq23 Cq7 Cq8 Cq3)
def xM:Bl Ω:=
 Bl.cons (Sm.set 3 (Ex.int 60)) (wG B Cq23 Cq7 Cq8 Cq3)
def xP:Bl Ω:=
 Bl.cons (Sm.set 2 (Ex.own Ar.nil)) (xM B Cq23 Cq7 Cq8 Cq3)
def Bh:Bl Ω:=
 Bl.cons (Sm.set 1 (Ex.typ bH B.tuple_ (Ar.cons (Ex.comp ["_law_k","_law_pen_here"] [none,some 0] (Ex.bin .Add (Ex.int 1) (Ex.call Cq23 (Ar.cons (Ex.var 1) (Ar.cons (Ex.int 2) Ar.nil)))) (Tg.nm 0) (Itb.rng1 B.range_ (Ex.bin .Add (Ex.int 1) (Ex.call Cq23 (Ar.cons (Ex.var 0) (Ar.cons (Ex.int 3) Ar.nil))))) Cd.no) Ar.nil))) (xP B Cq23 Cq7 Cq8 Cq3)
end
abbrev cF:Stmt:=top 64
abbrev wA:List Str:=["_law_form_here"]
abbrev lD:List Str:=["_law_form_here"]
def xG(B:Bi Ω.mg Ω.K):Bl Ω:=
 Bl.cons (Sm.ret (Ex.ms cU (Ex.str ",") (Ex.comp ["_law_number"] [none] (Ex.typ yx B.str_ (Ar.cons (Ex.var 0) Ar.nil)) (Tg.nm 0) (Itb.seq (Ex.var 0)) Cd.no))) Bl.nil
abbrev cI:Stmt:=top 65
abbrev xu:List Str:=["_law_table","_law_place"]
abbrev kZ:List Str:=["_law_table","_law_place"]
def xQ{Fq5:Ct}(Cq5:Cal Ω "_law_form_text" 1 1 Fq5):Bl Ω:=
 Bl.cons (Sm.ret (Ex.catS (Ex.ixS (Ex.str "abc") (Ex.var 0)) (Ex.ms cU (Ex.str "") (Ex.comp ["_law_form_here"] [none] (Ex.catS (Ex.str "@") (Ex.call Cq5 (Ar.cons (Ex.var 0) Ar.nil))) (Tg.nm 0) (Itb.seq (Ex.var 1)) Cd.no)))) Bl.nil
abbrev gY:Stmt:=top 66
abbrev Hw:List Str:=["_law_program_here","_law_lines","_law_loops","_law_deeds","_law_low","_law_high","_law_table","_law_place","_law_start","_law_reads","_law_factor","_law_one","_law_where"]
abbrev zG:List Str:=["_law_program_here"]
section
variable (B : Bi Ω.mg Ω.K) {Fq5 : Ct} (Cq5 : Cal Ω "_law_form_text" 1 1 Fq5) {Fq2 : Ct} (Cq2 : Cal Ω "_law_cell_text" 2 2 Fq2)
def xm(B:Bi Ω.mg Ω.K){Fq5:Ct}(Cq5:Cal Ω "_law_form_text" 1 1 Fq5){Fq2:Ct}(Cq2:Cal Ω "_law_cell_text" 2 2 Fq2):Bl Ω:=
 Bl.cons (Sm.forL (Tg.tup [10,11,12]) (Ex.var 9) (Bl.cons (Sm.expr (Ex.m_append (Ex.var 1) (Ex.ms cU (Ex.str " ") (Ex.lst (Ar.cons (Ex.str "and") (Ar.cons (Ex.typ yx B.str_ (Ar.cons (Ex.var 10) Ar.nil)) (Ar.cons (Ex.str "of") (Ar.cons (Ex.call Cq2 (Ar.cons (Ex.var 11) (Ar.cons (Ex.var 12) Ar.nil))) Ar.nil)))))))) Bl.nil)) Bl.nil
def Bd:Bl Ω:=
 Bl.cons (Sm.expr (Ex.m_append (Ex.var 1) (Ex.ms cU (Ex.str " ") (Ex.lst (Ar.cons (Ex.str "set") (Ar.cons (Ex.call Cq2 (Ar.cons (Ex.var 6) (Ar.cons (Ex.var 7) Ar.nil))) (Ar.cons (Ex.str "be") (Ar.cons (Ex.call Cq5 (Ar.cons (Ex.var 8) Ar.nil)) Ar.nil)))))))) (xm B Cq5 Cq2)
def wU(B:Bi Ω.mg Ω.K){Fq5:Ct}(Cq5:Cal Ω "_law_form_text" 1 1 Fq5){Fq2:Ct}(Cq2:Cal Ω "_law_cell_text" 2 2 Fq2):Bl Ω:=
 Bl.cons (Sm.forL (Tg.tup [6,7,8,9]) (Ex.var 3) (Bd B Cq5 Cq2)) Bl.nil
def wL:Bl Ω:=
 Bl.cons (Sm.forL (Tg.tup [4,5]) (Ex.var 2) (Bl.cons (Sm.expr (Ex.m_append (Ex.var 1) (Ex.ms cU (Ex.str " ") (Ex.lst (Ar.cons (Ex.str "loop") (Ar.cons (Ex.call Cq5 (Ar.cons (Ex.var 4) Ar.nil)) (Ar.cons (Ex.str "to") (Ar.cons (Ex.call Cq5 (Ar.cons (Ex.var 5) Ar.nil)) Ar.nil)))))))) Bl.nil)) (wU B Cq5 Cq2)
def Aq:Bl Ω:=
 Bl.cons (Sm.expr (Ex.m_append (Ex.var 1) (Ex.str "nest"))) (wL B Cq5 Cq2)
def Dz(B:Bi Ω.mg Ω.K){Fq5:Ct}(Cq5:Cal Ω "_law_form_text" 1 1 Fq5){Fq2:Ct}(Cq2:Cal Ω "_law_cell_text" 2 2 Fq2):Bl Ω:=
 Bl.cons (Sm.ret (Ex.ms cU (Ex.str "\n") (Ex.var 1))) Bl.nil
def Ef:Bl Ω:=
 Bl.cons (Sm.forL (Tg.tup [2,3]) (Ex.ix (Ex.var 0) (Ex.int 1)) (Aq B Cq5 Cq2)) (Dz B Cq5 Cq2)
def Hz:Bl Ω:=
 Bl.cons (Sm.set 1 (Ex.own (Ar.cons (Ex.ms cU (Ex.str " ") (Ex.binL false .Add (Ex.lst (Ar.cons (Ex.str "tables") Ar.nil)) (Ex.comp ["_law_width"] [none] (Ex.typ yx B.str_ (Ar.cons (Ex.var 0) Ar.nil)) (Tg.nm 0) (Itb.seq (Ex.ix (Ex.var 0) (Ex.int 0))) Cd.no))) Ar.nil))) (Ef B Cq5 Cq2)
end
abbrev aK:Stmt:=top 67
abbrev aR:List Str:=["_law_thing"]
abbrev aO:List Str:=["_law_thing"]
def xr(B:Bi Ω.mg Ω.K){Fq9:Ct}{lv:Nat}(Cq9:Cal Ω "_law_numbers" lv 1 Fq9):Bl Ω:=
 Bl.cons (Sm.ret (Ex.and (Bo.cons (Ex.isi B.isinstance_ (Ex.var 0) .int B.int_) (Bo.one (Ex.not (Ex.isi B.isinstance_ (Ex.var 0) .bool B.bool_)))))) Bl.nil
def aU(B:Bi Ω.mg Ω.K){Fq9:Ct}{lv:Nat}(Cq9:Cal Ω "_law_numbers" lv 1 Fq9):Bl Ω:=
 Bl.cons (Sm.ite (Te.val (Ex.isi B.isinstance_ (Ex.var 0) .tuple B.tuple_)) (Bl.cons (Sm.ret (Ex.cmp .NotIn (Ex.bl false) (Ex.comp ["_law_part"] [none] (Ex.call Cq9 (Ar.cons (Ex.var 0) Ar.nil)) (Tg.nm 0) (Itb.seq (Ex.var 0)) Cd.no))) Bl.nil) Bl.nil) (xr B Cq9)
abbrev je:Stmt:=top 68
abbrev QK:List Str:=["_law_script","_law_pen_here","_law_program_here","_law_text_here","_law_found","_law_told"]
abbrev QC:List Str:=["_law_script"]
section
variable (B : Bi Ω.mg Ω.K) {Fq52 : Ct} (Cq52 : Cal Ω "read" 11 1 Fq52) {Fq54 : Ct} (Cq54 : Cal Ω "shown" 6 1 Fq54) {Fq21 : Ct} (Cq21 : Cal Ω "_law_pen" 2 1 Fq21) {Fq22 : Ct} (Cq22 : Cal Ω "_law_program" 5 1 Fq22) {Fq24 : Ct} (Cq24 : Cal Ω "_law_text" 3 1 Fq24) {Fq9 : Ct} (Cq9 : Cal Ω "_law_numbers" 11 1 Fq9)
def LC(B:Bi Ω.mg Ω.K){Fq52:Ct}(Cq52:Cal Ω "read" 11 1 Fq52){Fq54:Ct}(Cq54:Cal Ω "shown" 6 1 Fq54){Fq21:Ct}(Cq21:Cal Ω "_law_pen" 2 1 Fq21){Fq22:Ct}(Cq22:Cal Ω "_law_program" 5 1 Fq22){Fq24:Ct}(Cq24:Cal Ω "_law_text" 3 1 Fq24){Fq9:Ct}(Cq9:Cal Ω "_law_numbers" 11 1 Fq9):Bl Ω:=
 Bl.cons (Sm.ret (Ex.and (Bo.cons (Ex.cmp .Eq (Ex.call Cq54 (Ar.cons (Ex.var 5) Ar.nil)) (Ex.var 3)) (Bo.one (Ex.cmp .Eq (Ex.call Cq52 (Ar.cons (Ex.var 4) Ar.nil)) (Ex.var 2)))))) Bl.nil
def Kq:Bl Ω:=
 Bl.cons (Sm.ite (Te.or (Bt.cons (Te.cmp .NotEq (Ex.var 5) (Ex.var 2)) (Bt.one (Te.not (Te.val (Ex.call Cq9 (Ar.cons (Ex.var 5) Ar.nil))))))) (Bl.cons (Sm.ret (Ex.bl false)) Bl.nil) Bl.nil) (LC B Cq52 Cq54 Cq21 Cq22 Cq24 Cq9)
def Lw:Bl Ω:=
 Bl.cons (Sm.set 5 (Ex.call Cq52 (Ar.cons (Ex.var 3) Ar.nil))) (Kq B Cq52 Cq54 Cq21 Cq22 Cq24 Cq9)
def Kl:Bl Ω:=
 Bl.cons (Sm.ite (Te.or (Bt.cons (Te.not (Te.val (Ex.isiS B.isinstance_ (Ex.var 4) B.str_))) (Bt.one (Te.cmp .NotEq (Ex.var 4) (Ex.var 3))))) (Bl.cons (Sm.ret (Ex.bl false)) Bl.nil) Bl.nil) (Lw B Cq52 Cq54 Cq21 Cq22 Cq24 Cq9)
def Ma:Bl Ω:=
 Bl.cons (Sm.set 4 (Ex.call Cq54 (Ar.cons (Ex.var 2) Ar.nil))) (Kl B Cq52 Cq54 Cq21 Cq22 Cq24 Cq9)
def Ld:Bl Ω:=
 Bl.cons (Sm.set 3 (Ex.call Cq24 (Ar.cons (Ex.var 2) Ar.nil))) (Ma B Cq52 Cq54 Cq21 Cq22 Cq24 Cq9)
def Lx:Bl Ω:=
 Bl.cons (Sm.set 2 (Ex.call Cq22 (Ar.cons (Ex.var 1) Ar.nil))) (Ld B Cq52 Cq54 Cq21 Cq22 Cq24 Cq9)
def RQ:Bl Ω:=
 Bl.cons (Sm.set 1 (Ex.call Cq21 (Ar.cons (Ex.var 0) Ar.nil))) (Lx B Cq52 Cq54 Cq21 Cq22 Cq24 Cq9)
end
end
end K52
local macro_rules | `(tactic| walk_at "n") => `(tactic| ((conv => whnf); repeat (with_reducible first | apply RF.cLt | apply RF.cLe | apply RF.cGt | apply RF.cGe | apply RF.cEqI | apply RF.cNeI | apply RF.cEqB | apply RF.cNeB | apply RF.cIsN | apply RF.cIsB | apply RF.cIsNotB | apply RF.cIsNot); (conv => whnf)))
local macro_rules | `(tactic| walk_at "at") => `(tactic| first | (with_reducible assumption) | exact DL.set_get (by first | (with_reducible assumption) | exact DL.set_get (by with_reducible assumption)))
local macro_rules | `(tactic| walk_at "o") => `(tactic| first | omega | decide | (simp; done) | (simp; omega))
local macro_rules | `(tactic| walk_at "a1") => `(tactic| first
 | refine RF.wM1 (by first | exact .inl ⟨by walk_at "o", by walk_at "o"⟩ | exact .inr ⟨by walk_at "o", by walk_at "o"⟩) ?_
 | refine RF.wM2 ⟨by decide, by decide, by decide⟩ ?_
 | refine RF.wM3 ⟨by omega, by omega⟩ ?_
 | refine RF.wM4 (by omega) ?_
 | ((fail_if_success (with_reducible show (_ /\ ∃ _ : Nat -> List DL.D -> DL.Store -> Prop, _))); refine RF.wM5 (by walk_at "o") ?_)
 | refine RF.wM6 (by walk_at "o") ?_
 | (refine' RF.wM7 ?h1 ?h2 ?h3; (case h1 => walk_at "at"); (case h2 => exact rfl); (try rw [List.set_set]))
 | (refine' RF.wM8 ?h1 ?h2 ?h3; (case h1 => walk_at "at"); (case h2 => exact rfl))
 | refine RF.wM9 rfl ?_)
local macro_rules | `(tactic| walk_at "a") => `(tactic| (walk_at "n"; repeat (walk_at "a1"; walk_at "n")))
local macro_rules | `(tactic| walk_at "b") => `(tactic| (walk_at "n"; repeat ((first | walk_at "a1" | apply RF.bT | apply RF.bF | apply RF.dT | apply RF.dF); walk_at "n")))
namespace K52
open PySem L2 DL RF XE
variable {cs ws : List Int} {i k n d t c : Nat} {S : Store} {a b : Int} {ds : List D} {W : Bool -> Store -> Prop}
variable {Ω : Wd} {f : Addr} {fd : FuncData}
def whole:D->Bool
 | .int _=>true
 | _=>false
def aZ(x:D)(a b:Int):Bool:=match x with
 | .tup ds=>decide (a≤(ds.length:Int))&&decide ((ds.length:Int)≤b)
 | _=>false
def cD(x:D)(d:Int):Bool:=match x with
 | .tup ds=>decide ((ds.length:Int)=d+1)&&ds.all whole
 | _=>false
def gW:Ct:=λ ds S W=>∃x,ds=[x]/\W (.bl (whole x)) S
def d8:Ct:=λ ds S W=>∃x a b,ds=[x,.int a,.int b]/\W (.bl (aZ x a b)) S
def mL:Ct:=λ ds S W=>∃x d,ds=[x,.int d]/\d≤1000/\W (.bl (cD x d)) S
def comesTo(f:Int)(fs cs:List Int):Int:=f+(List.zipWith (λ a b=>a*b) fs cs).sum
def uP:Ct:=λ ds S W=>∃f fs cs,ds=[.tup (.int f::fs.map .int),.tup (cs.map .int)]/\fs.length≤1000/\(∀c∈cs,-(2 ^ 64)<c/\c<2 ^ 64)/\W (.int (comesTo f fs cs)) S
theorem G8(ds:List D):(ds.map whole).all id=ds.all whole:=by rw[List.all_map];rfl
theorem Cq{fs:List Int}{d:D}(h:(List.zipWith (λ x y=>D.tup [x,y]) (fs.map D.int) (cs.map D.int))[i]? =some d):∃a b,fs[i]? =some a/\cs[i]? =some b/\d=.tup [.int a,.int b]:=by
 rw[List.getElem?_zipWith,y7,y7]at h
 cases e1:fs[i]? with
 | none=>rw[e1]at h;cases h
 | some a=>
   cases e2:cs[i]? with
   | none=>rw[e1,e2]at h;cases h
   | some b=>rw[e1,e2]at h;cases h;exact⟨a,b,rfl,rfl,rfl⟩
theorem wQ(F:Fun Ω.K "is_whole" "is_whole" cT f fd)(N0:Ω.cd=none)(B:Bi Ω.mg Ω.K):Ok Ω 1 f fd mq gW:=by
 refine au N0 (N:=yu) F (yo B) (by kernel_rfl!) ?_
 rintro ds S W ⟨x,rfl,hw⟩ hl
 walk_at "n"
 refine⟨λ c=>?_,λ c=>?_⟩
 . walk_at "n"
   have e:(!isD .bool x)=whole x:=by cases x<;>first | rfl | exact ff c | exact tf c
   rw[e];exact hw
 . have e:whole x=false:=by cases x<;>first | rfl | exact ff c | exact tf c
   rw[e]at hw;exact hw
theorem pP(F:Fun Ω.K "is_tuple_of" "is_tuple_of" bM f fd)(N0:Ω.cd=none)(B:Bi Ω.mg Ω.K):Ok Ω 1 f fd iW d8:=by
 refine au N0 (N:=qX) F (rT B) (by kernel_rfl!) ?_
 rintro ds S W ⟨x,a,b,rfl,hw⟩ hl
 walk_at "n"
 cases x with
 | tup ds=>
   refine⟨λ _=>?_,λ c=>tf c⟩
   walk_at "n"
   refine⟨λ c1=>?_,λ c1=>?_⟩
   . have e:aZ (.tup ds) a b=false:=by show(decide _&&decide _)=false;rw[c1];rfl
     rw[e]at hw;exact hw
   . walk_at "n"
     have e:aZ (.tup ds) a b=decide ((ds.length:Int)≤b):=by show(decide _&&decide _)=_;rw[c1];rfl
     rw[e]at hw;exact hw
 | _=>exact⟨λ c=>ff c,λ _=>hw⟩
theorem zy(F:Fun Ω.K "is_form" "is_form" dJ f fd)(N0:Ω.cd=none)(B:Bi Ω.mg Ω.K)(Cq45:Cal Ω "is_whole" 1 1 gW)(Cq44:Cal Ω "is_tuple_of" 1 3 d8):Ok Ω 2 f fd nM mL:=by
 refine au N0 (N:=Bs) F (Bq B Cq45 Cq44) (by kernel_rfl!) ?_
 rintro ds S W ⟨x,d,rfl,hd,hw⟩ hl
 walk_at "n"
 refine⟨rfl,_,_,_,rfl,?_⟩
 refine⟨λ c=>?_,λ c=>?_⟩
 . cases x with
   | tup ds=>
     have hlen:(ds.length:Int)=d+1:=by
      have c':(decide (d+1≤(ds.length:Int))&&decide ((ds.length:Int)≤d+1))=true:=c
      rw[Bool.and_eq_true,decide_eq_true_eq,decide_eq_true_eq]at c'
      omega
     walk_at "n"
     refine fW ⟨by omega,λ i acc S'=>acc=(ds.take i).map (λ d=>.bl (whole d))/\S'=S,⟨rfl,rfl⟩,?_,?_⟩
     . rintro i e acc S' he ⟨rfl,rfl⟩
       walk_at "n"
       refine⟨λ _=>⟨rfl,_,rfl,?_,rfl⟩,λ z=>tf z⟩
       rw[bA he,List.map_append];rfl
     . rintro acc S' ⟨rfl,rfl⟩
       rw[List.take_length]
       refine⟨ds.map whole,by rw[List.map_map];rfl,?_⟩
       have e2:cD (.tup ds) d=(ds.map whole).all id:=by
        show(decide _&&_)=_
        rw[decide_eq_true hlen,G8];rfl
       rw[e2]at hw;exact hw
   | _=>exact ff c
 . have e:cD x d=false:=by
    cases x with
    | tup ds=>
      have c':(decide (d+1≤(ds.length:Int))&&decide ((ds.length:Int)≤d+1))=false:=c
      show(decide _&&_)=false
      rw[Bool.and_eq_false_iff,decide_eq_false_iff_not,decide_eq_false_iff_not]at c'
      rw[decide_eq_false (by omega)];rfl
    | _=>rfl
   rw[e]at hw;exact hw
theorem xT(F:Fun Ω.K "comes_to" "comes_to" di f fd)(N0:Ω.cd=none)(B:Bi Ω.mg Ω.K):Ok Ω 1 f fd mO uP:=by
 refine au N0 (N:=yG) F (zb B) (by kernel_rfl!) ?_
 rintro ds S W ⟨g,fs,cs,rfl,hfs,hcs,hw⟩ hl
 walk_at "n"
 refine⟨_,oF _ _,?_⟩
 walk_at "n"
 rw[eH]
 refine fW ⟨by rw[List.length_zipWith,y6];omega,λ i acc S'=>acc=((List.zipWith (λ a b=>a*b) fs cs).take i).map D.int/\S'=S,⟨rfl,rfl⟩,?_,?_⟩
 . rintro i e acc S' he ⟨rfl,rfl⟩
   obtain⟨a,b,h1,h2,rfl⟩:=Cq he
   walk_at "n"
   refine⟨rfl,λ _=>⟨.inr (hcs b (y3 h2)),?_,rfl⟩,λ z=>tf z⟩
   have e3:(List.zipWith (λ a b=>a*b) fs cs)[i]? =some (a*b):=by rw[List.getElem?_zipWith,h1,h2]
   rw[bA e3,List.map_append];rfl
 . rintro acc S' ⟨rfl,rfl⟩
   have e:(List.zipWith (λ x y=>D.tup [x,y]) (fs.map D.int) (cs.map D.int)).length=(List.zipWith (λ a b=>a*b) fs cs).length:=by simp
   rw[e,List.take_length]
   exact⟨_,rfl,hw⟩
def small:D->Bool
 | .int n=>decide (-2≤n)&&decide (n≤2)
 | _=>false
def Rf:List D->Bool
 | .int a::fs=>decide (-9≤a)&&(decide (a≤9)&&fs.all small)
 | _=>false
def bJ(x:D)(d:Int):Bool:=cD x d&&Rf (match x with | .tup ds=>ds | _=>[])
def ir(x:D)(d:Int):Bool:=match x with
 | .tup [a,b]=>bJ a d&&bJ b d
 | _=>false
def fU(x:D):Bool:=match x with
 | .tup ds=>(decide (1≤(ds.length:Int))&&decide ((ds.length:Int)≤3))&&(ds.mapIdx λ i d=>ir d i).all id
 | _=>false
def uY:Ct:=λ ds S W=>∃x d,ds=[x,.int d]/\0≤d/\d≤1000/\W (.bl (bJ x d)) S
def yH:Ct:=λ ds S W=>∃x d,ds=[x,.int d]/\0≤d/\d≤1000/\W (.bl (ir x d)) S
def uU:Ct:=λ ds S W=>∃x,ds=[x]/\W (.bl (fU x)) S
theorem ints_of:∀{ds:List D},ds.all whole=true->∃ns:List Int,ds=ns.map .int
 | [],_=>⟨[],rfl⟩
 | d::ds,h=>by
   rw[List.all_cons]at h
   obtain⟨h1,h2⟩:=aa h
   obtain⟨ns,rfl⟩:=ints_of h2
   cases d with
   | int i=>exact⟨i::ns,rfl⟩
   | _=>exact ff h1
theorem jk{x:D}{d:Int}(h:cD x d=true)(hd:0≤d):∃a fs,x=.tup (.int a::List.map .int fs)/\(fs.length:Int)=d:=by
 cases x with
 | tup ds=>
   obtain⟨h1,h2⟩:=aa h
   have h1:=of_decide_eq_true h1
   cases ds with
   | nil=>simp at h1;omega
   | cons e es=>
     rw[List.all_cons]at h2
     obtain⟨h2,h3⟩:=aa h2
     have h4:=ints_of h3
     obtain⟨ns,rfl⟩:=h4
     cases e with
     | int a=>exact⟨a,ns,rfl,by simp at h1;omega⟩
     | _=>exact ff h2
 | _=>exact ff h
theorem zz(p:D->Bool)(ds:List D):(ds.map p).all id=ds.all p:=by rw[List.all_map];rfl
theorem wB (F:Fun Ω.K "is_bound" "is_bound" dq f fd)(N0:Ω.cd=none)(B:Bi Ω.mg Ω.K)(Cq33:Cal Ω "is_form" 2 2 mL):Ok Ω 3 f fd lY uY:=by
 refine au N0 (N:=Af) F (zN B Cq33) (by kernel_rfl!) ?_
 rintro ds S W ⟨x,d,rfl,hd0,hd,hw⟩ hl
 walk_at "a"
 refine⟨rfl,_,_,rfl,hd,?_⟩
 walk_at "a"
 cases h:cD x d with
 | false=>
   have e:bJ x d=false:=by unfold bJ;rw[h];rfl
   rw[e]at hw
   exact⟨λ _=>hw,λ z=>tf z⟩
 | true=>
   refine⟨λ z=>ff z,λ _=>?_⟩
   obtain⟨a,fs,rfl,hf⟩:=jk h hd0
   have e:bJ (.tup (.int a::fs.map .int)) d=(decide (-9≤a)&&(decide (a≤9)&&(fs.map D.int).all small)):=by unfold bJ;rw[h];rfl
   rw[e]at hw
   walk_at "a"
   refine⟨_,oF _ _,?_⟩
   walk_at "a"
   refine⟨λ h1=>?_,λ h1=>?_⟩
   . have h1:decide (-9≤a)=false:=h1
     rw[h1]at hw
     exact⟨λ z=>ff z,λ _=>hw⟩
   have h1:decide (-9≤a)=true:=h1
   rw[h1,Bool.true_and]at hw
   walk_at "a"
   refine⟨λ h2=>?_,λ h2=>?_⟩
   . rw [h2,Bool.true_and]at hw
     walk_at "a"
     rw[eH]
     refine cX (λ d=>.bl (small d)) (by simp;omega) ?_ ?_
     . intro i e he Q hq
       rw[y7]at he
       cases e1:fs[i]? with
       | none=>rw[e1]at he;cases he
       | some n=>
         rw[e1]at he
         cases he
         walk_at "a"
         refine⟨λ h3=>?_,λ h3=>?_⟩
         . have h3:decide (-2≤n)=false:=h3
           have e:small (.int n)=false:=by show(decide _&&_)=false;rw[h3];rfl
           rw[e]at hq
           exact hq
         . have h3:decide (-2≤n)=true:=h3
           walk_at "a"
           have e:small (.int n)=decide (n≤2):=by show(decide _&&_)=_;rw[h3];rfl
           rw[e]at hq
           exact hq
     . refine⟨(fs.map D.int).map small,by simp only[List.map_map];rfl,?_⟩
       rw[zz];exact hw
   . rw[h2]at hw
     exact hw
theorem zM(F:Fun Ω.K "is_loop" "is_loop" dM f fd)(N0:Ω.cd=none)(Cq44:Cal Ω "is_tuple_of" 1 3 d8)(Cq31:Cal Ω "is_bound" 3 2 uY):Ok Ω 4 f fd nU yH:=by
 refine au N0 (N:=Bg) F (Bu Cq44 Cq31) (by kernel_rfl!) ?_
 rintro ds S W ⟨x,d,rfl,hd0,hd,hw⟩ hl
 walk_at "a"
 refine⟨rfl,_,_,_,rfl,?_⟩
 walk_at "a"
 cases x with
 | tup ds=>
   match ds,hw with
   | [a,b],hw=>
     refine⟨λ _=>?_,λ z=>tf z⟩
     walk_at "a"
     refine⟨rfl,_,_,rfl,hd0,hd,?_⟩
     have e:ir (.tup [a,b]) d=(bJ a d&&bJ b d):=rfl
     rw[e]at hw
     refine⟨λ h=>?_,λ h=>?_⟩
     . rw[h,Bool.true_and]at hw
       walk_at "a"
       exact⟨rfl,_,_,rfl,hd0,hd,hw⟩
     . rw[h]at hw;exact hw
   | [],hw=>exact⟨λ z=>ff z,λ _=>hw⟩
   | [_],hw=>exact⟨λ z=>ff z,λ _=>hw⟩
   | _::_::_::es,hw=>
     refine⟨λ z=>?_,λ _=>hw⟩
     obtain⟨_,z⟩:=aa z
     have z:=of_decide_eq_true z
     simp at z;omega
 | _=>exact⟨λ z=>ff z,λ _=>hw⟩
theorem ww(F:Fun Ω.K "is_loops" "is_loops" du f fd)(N0:Ω.cd=none)(B:Bi Ω.mg Ω.K)(Cq44:Cal Ω "is_tuple_of" 1 3 d8)(Cq34:Cal Ω "is_loop" 4 2 yH):Ok Ω 5 f fd lQ uU:=by
 refine au N0 (N:=yw) F (Aa B Cq44 Cq34) (by kernel_rfl!) ?_
 rintro ds S W ⟨x,rfl,hw⟩ hl
 walk_at "a"
 refine⟨rfl,_,_,_,rfl,?_⟩
 walk_at "a"
 cases x with
 | tup ds=>
   have e:fU (.tup ds)=((decide (1≤(ds.length:Int))&&decide ((ds.length:Int)≤3))&&(ds.mapIdx λ i d=>ir d i).all id):=rfl
   rw[e]at hw
   refine⟨λ h=>?_,λ h=>?_⟩
   . have h:(decide (1≤(ds.length:Int))&&decide ((ds.length:Int)≤3))=true:=h
     rw[h,Bool.true_and]at hw
     have hlen:=of_decide_eq_true (aa h).2
     walk_at "a"
     refine cX (λ p=>match p with | .tup [.int i,d]=>.bl (ir d i) | _=>.non) (by simp;omega) ?_ ?_
     . intro i e he Q hq
       rw[List.getElem?_mapIdx]at he
       cases e1:ds[i]? with
       | none=>rw[e1]at he;cases he
       | some d0=>
         rw[e1]at he
         cases he
         have hi:i<ds.length:=(z0.mp e1).1
         walk_at "a"
         refine⟨rfl,?_⟩
         walk_at "a"
         exact⟨rfl,_,_,rfl,by omega,by omega,hq⟩
     . refine⟨ds.mapIdx λ i d=>ir d i,?_,hw⟩
       apply List.ext_getElem?
       intro i
       simp only[y7,List.getElem?_mapIdx]
       cases ds[i]?<;>rfl
   . have h:(decide (1≤(ds.length:Int))&&decide ((ds.length:Int)≤3))=false:=h
     rw[h]at hw
     exact hw
 | _=>exact⟨λ z=>ff z,λ _=>hw⟩
def qR:Ct:=λ ds S W=>∃ns k,ds=[.lst (List.map .int ns),.int k]/\0≤k/\∀v,W (.int v) S
def Dk:Ct:=λ ds S W=>∃ns,ds=[.lst (List.map .int ns)]/\ns.length≤63/\∀a c n m z,0≤a->W (.loc S.length) (S++[ik ns a c n m z])
def gr:Ct:=λ ds S W=>∃k m,ds=[.loc k,.int m]/\Pen S k/\0<m/\m<1000000000000000000000000000000000000000000000000000000000000/\∀v S',0≤v->v<m->Upd S k S'->Pen S' k->W (.int v) S'
theorem aJ{m:Int}{W:WD}(hp:Pen S k)(h0:0<m)(h1:m<1000000000000000000000000000000000000000000000000000000000000)(w:∀v S',0≤v->v<m->Upd S k S'->Pen S' k->W (.int v) S'):([D.loc k,.int m].length=2/\gr [.loc k,.int m] S W):=⟨rfl,k,m,rfl,hp,h0,h1,w⟩
theorem zP(F:Fun Ω.K "_law_cell_at" "_law_cell_at" dO f fd)(N0:Ω.cd=none)(B:Bi Ω.mg Ω.K):Ok Ω 1 f fd nZ qR:=by
 refine au N0 (N:=Bw) F (Be B) (by kernel_rfl!) ?_
 rintro ds S W ⟨ns,k,rfl,hk,hw⟩ hl
 walk_at "n"
 refine⟨λ c=>?_,λ c=>?_⟩
 . walk_at "n"
   have c':=of_decide_eq_true c
   obtain⟨x,h1,h2⟩:=Hm hk c'
   rw[y7]at h2
   cases e:ns[k.toNat]? with
   | none=>rw[e]at h2;cases h2
   | some v=>
     rw[e]at h2
     cases h2
     exact⟨_,h1,hw v⟩
 . exact hw 0
theorem Jh(F:Fun Ω.K "_law_pen" "_law_pen" ju f fd)(N0:Ω.cd=none)(B:Bi Ω.mg Ω.K)(Cq1:Cal Ω "_law_cell_at" 1 2 qR):Ok Ω 2 f fd BJ Dk:=by
 refine au N0 (N:=K6) F (Mu B Cq1) (by kernel_rfl!) ?_
 rintro ds S W ⟨ns,rfl,hn,hw⟩ hl
 walk_at "n"
 have hc:(cutD (ns.map D.int) none (some 63)).length≤63:=Nat.le_trans (tB _ _ _) (by rw[y6];exact hn)
 refine fW ⟨by rw[List.length_mapIdx];omega,λ i acc S'=>(∃ms:List Int,acc=ms.map D.int)/\S'=S,⟨⟨[],rfl⟩,rfl⟩,?_,?_⟩
 . rintro i e acc S' he ⟨⟨ms,rfl⟩,rfl⟩
   rw[List.getElem?_mapIdx]at he
   cases e1:(cutD (ns.map D.int) none (some 63))[i]? with
   | none=>rw[e1]at he;cases he
   | some d0=>
     rw[e1]at he
     cases he
     have hi:i<63:=w9 (z0.mp e1).1 hc
     obtain⟨v,_,rfl⟩:=List.mem_map.mp (Ko (y3 e1))
     have hkk:(0:Int)≤(i:Int)*i/\(i:Int)*i≤63*63:=⟨Int.mul_nonneg (by omega) (by omega),Int.mul_le_mul (by omega) (by omega) (by omega) (by omega)⟩
     refine⟨rfl,λ _=>⟨by decide,.inl ⟨by omega,by omega⟩,.inr ⟨by omega,by omega⟩,⟨ms++[_],by rw[List.map_append];rfl⟩,rfl⟩,λ z=>tf z⟩
 . rintro acc S' ⟨⟨ms,rfl⟩,rfl⟩
   refine⟨_,rfl,by decide,?_⟩
   walk_at "n"
   refine⟨rfl,ns,1,rfl,by decide,λ c=>?_⟩
   walk_at "n"
   refine⟨rfl,ns,0,rfl,by decide,λ m=>?_⟩
   walk_at "n"
   refine⟨by decide,by show 6≤1000000;decide,?_⟩
   exact hw 1 c 0 (m % 2) _ (by decide)
theorem FN(F:Fun Ω.K "_law_take" "_law_take" iC f fd)(N0:Ω.cd=none)(Cq1:Cal Ω "_law_cell_at" 1 2 qR):Ok Ω 2 f fd yO gr:=by
 refine au N0 (N:=Jd) F (Ig Cq1) (by kernel_rfl!) ?_
 rintro ds S W ⟨k,m,rfl,⟨ns,a,c,n,y,z,hk,ha⟩,h0,h1,hw⟩ hl
 have k2:∀l:List D,(S.set k l)[k]? =some l:=λ l=>set_get hk
 have fin:∀a c n z v,0≤a->W (.int (v % m)) (S.set k (ik ns a c n y z)):=λ a c n z v ha=>
  hw _ _ (Int.emod_nonneg _ (by omega)) (Int.emod_lt_of_pos _ h0) ⟨ns,a,c,n,y,z,rfl,ha⟩ ⟨ns,a,c,n,y,z,k2 _,ha⟩
 have rest:∀a c n,0≤a->(rN Cq1).wp [some (.loc k),some (.int m),none] (S.set k (ik ns a c n y z)) {nx:=λ _ S1=>W .non S1,rt:=W}:=by
  intro a c n ha
  walk_at "n"
  refine⟨_,_,k2 _,rfl,?_⟩
  walk_at "n"
  refine⟨_,_,k2 _,rfl,?_⟩
  rw[List.set_set]
  walk_at "n"
  refine⟨_,_,k2 _,rfl,h0,?_⟩
  walk_at "n"
  refine⟨_,_,k2 _,rfl,⟨h0,by omega⟩,_,_,k2 _,rfl,?_⟩
  rw[List.set_set]
  walk_at "n"
  exact fin a _ _ z c ha
 have hself:S.set k (ik ns a c n y z)=S:=by
  obtain⟨hl',e⟩:=z0.mp hk
  rw[←e,List.set_getElem_self]
 walk_at "n"
 refine⟨_,_,hk,rfl,?_⟩
 walk_at "n"
 refine⟨λ q=>?_,λ q=>?_⟩
 . walk_at "n"
   refine⟨_,_,hk,rfl,.inr ⟨by decide,by decide⟩,by decide,_,_,hk,rfl,_,_,k2 _,rfl,.inr ⟨by decide,by decide⟩,by decide,⟨by decide,by decide⟩,h0,?_⟩
   exact fin a c n _ _ ha
 . walk_at "n"
   refine⟨_,_,hk,rfl,?_⟩
   walk_at "n"
   refine⟨λ q=>?_,λ q=>?_⟩
   . walk_at "n"
     refine⟨_,_,hk,rfl,_,_,hk,rfl,?_⟩
     walk_at "n"
     refine⟨_,_,k2 _,rfl,_,_,k2 _,rfl,rfl,ns,a+1,rfl,by omega,λ v=>?_⟩
     walk_at "n"
     refine⟨_,_,k2 _,rfl,?_⟩
     rw[List.set_set]
     walk_at "n"
     refine⟨_,_,k2 _,rfl,?_⟩
     rw[List.set_set]
     exact rest (a+1) v 0 (by omega)
   . have:=rest a c n ha
     rw[hself]at this
     exact this
abbrev Fm:=Int×List Int
abbrev Lp:=Fm×Fm
def dF(f:Fm):D:=.tup (.int f.1::f.2.map .int)
def dC(cs:List Int):D:=.tup (cs.map .int)
def dL(l:Lp):D:=.tup [dF l.1,dF l.2]
def atC(f:Fm)(cs:List Int):Int:=comesTo f.1 f.2 cs
def upI(a:Int)(n:Nat):List Int:=(List.range n).map λ(k:Nat)=>a+(k:Int)
def bf(lo hi:Fm)(cs:List Int):List (List Int):=(upI (atC lo cs) (atC hi cs-atC lo cs).toNat).map λ c=>cs++[c]
def aD(lo hi:Fm)(ahead:List (List Int)):List (List Int):=ahead.flatMap (bf lo hi)
def cnt(ls:List Lp):List (List Int):=ls.foldl (λ acc l=>aD l.1 l.2 acc) [[]]
def Sm6(ns:List Int):Prop:=ns.length≤10/\∀n∈ns,-1000000≤n/\n≤1000000
def SmF(f:Fm):Prop:= -1000000≤f.1/\f.1≤1000000/\Sm6 f.2
theorem vP:∀(fs cs:List Int),(∀n∈fs,-1000000≤n/\n≤1000000)->(∀n∈cs,-1000000≤n/\n≤1000000)-> -(1000000000000*(cs.length:Int))≤(List.zipWith (λ a b=>a*b) fs cs).sum/\(List.zipWith (λ a b=>a*b) fs cs).sum≤1000000000000*(cs.length:Int)
 | [],cs,_,_=>by simp;omega
 | f::fs,[],_,_=>by simp
 | f::fs,c::cs,h1,h2=>by
   have ih:=vP fs cs (λ n hn=>h1 n (y9 _ hn)) (λ n hn=>h2 n (y9 _ hn))
   have hf:=h1 f x6
   have hc:=h2 c x6
   have hp:(f*c).natAbs≤1000000*1000000:=by rw[Int.natAbs_mul];exact Nat.mul_le_mul (by omega) (by omega)
   simp only[List.zipWith_cons_cons,List.sum_cons,List.length_cons]
   omega
theorem v6{f:Fm}(hf:SmF f)(hc:Sm6 cs): -(2 ^ 62)≤atC f cs/\atC f cs<2 ^ 62:=by
 have:=vP f.2 cs hf.2.2.2 hc.2
 have h1:=hf.1
 have h2:=hf.2.1
 have h3:=hc.1
 unfold atC comesTo
 omega
theorem Mw(a:Int)(n:Nat):(upI a n).length=n:=by simp[upI]
theorem KZ(h:i<n):(upI a n)[i]? =some (a+i):=by simp[upI,h]
theorem Ii(a:Int)(n:Nat):DL.upTo a n=(upI a n).map D.int:=by simp[DL.upTo,upI,Function.comp_def]
theorem eU(lo hi:Fm)(cs:List Int):(bf lo hi cs).length=(atC hi cs-atC lo cs).toNat:=by simp[bf,Mw]
theorem iM{lo hi:Fm}{ahead:List (List Int)}(h:ahead[i]? =some cs):aD lo hi (ahead.take (i+1))=aD lo hi (ahead.take i)++bf lo hi cs:=by
 unfold aD
 rw[bA h,List.flatMap_append];simp
theorem HF{lo hi:Fm}{ahead:List (List Int)}(h:ahead[i]? =some cs):(aD lo hi (ahead.take i)).length+(bf lo hi cs).length≤(aD lo hi ahead).length:=by
 have e:aD lo hi ahead=aD lo hi (ahead.take (i+1))++aD lo hi (ahead.drop (i+1)):=by
  unfold aD
  rw[←List.flatMap_append,List.take_append_drop]
 rw[e,iM h,x8,x8];omega
theorem Fi(xs:List (List Int)):az (xs.map dC)=true:=by
 induction xs with
 | nil=>rfl
 | cons x xs ih=>
   simp only[List.map_cons,az,ih,Bool.and_true]
   show az (x.map D.int)=true
   induction x with
   | nil=>rfl
   | cons y ys ih=>simp only[List.map_cons,az,ih,Bool.and_true];rfl
def sZ:Ct:=λ ds S W=>∃ahead lo hi,ds=[.lst (List.map dC ahead),dF lo,dF hi]/\SmF lo/\SmF hi/\(∀cs∈ahead,Sm6 cs)/\ahead.length≤1000000/\(aD lo hi ahead).length≤1000000/\flat S/\hand W ((aD lo hi ahead).map dC) S
theorem j8(F:Fun Ω.K "with_next_count" "with_next_count" bh f fd)(N0:Ω.cd=none)(B:Bi Ω.mg Ω.K)(Cq26:Cal Ω "comes_to" 1 2 uP):Ok Ω 2 f fd fJ sZ:=by
 refine au N0 (N:=lK) F (Bl.frz (lJ B Cq26)) (by kernel_rfl!) ?_
 rintro ds S W ⟨ahead,lo,hi,rfl,hlo,hhi,hah,hz0,hz,hS,hw⟩ hl
 walk_at "b"
 refine bG ⟨λ i Γ' S'=>(∃o4 o5,Γ'=[some (.lst (ahead.map dC)),some (dF lo),some (dF hi),some (.loc S.length),o4,o5])/\S'=S++[(aD lo hi (ahead.take i)).map dC],⟨⟨_,_,rfl⟩,rfl⟩,?_,?_⟩
 . rintro i e Γ' S' he ⟨⟨o4,o5,rfl⟩,rfl⟩
   rw[y7]at he
   cases e1:ahead[i]? with
   | none=>rw[e1]at he;cases he
   | some cs=>
     rw[e1]at he
     cases he
     have hcs:=hah cs (y3 e1)
     have b1:=v6 hlo hcs
     have b2:=v6 hhi hcs
     have h64:∀c∈cs,-(2 ^ 64)<c/\c<2 ^ 64:=λ c hc=>by have:=hcs.2 c hc;omega
     walk_at "b"
     refine⟨rfl,lo.1,lo.2,cs,rfl,by have:=hlo.2.2.1;omega,h64,?_⟩
     walk_at "b"
     refine⟨rfl,hi.1,hi.2,cs,rfl,by have:=hhi.2.2.1;omega,h64,?_⟩
     walk_at "b"
     refine⟨⟨b1.1,b1.2,b2.1,b2.2⟩,bG ⟨λ j Γ' S'=>(∃o5,Γ'=[some (.lst (ahead.map dC)),some (dF lo),some (dF hi),some (.loc S.length),some (dC cs),o5])/\S'=S++[(aD lo hi (ahead.take i)++(bf lo hi cs).take j).map dC],⟨⟨_,rfl⟩,by simp⟩,?_,?_⟩⟩
     . rintro j e Γ' S' he ⟨⟨o5,rfl⟩,rfl⟩
       obtain⟨hj,rfl⟩:=fP he
       have hj':j<(bf lo hi cs).length:=by rw[eU];exact hj
       have lf:=HF (lo:=lo) (hi:=hi) e1
       walk_at "b"
       refine⟨by simp;have:=hcs.1;omega,_,aM _ _,by simp;omega,?_⟩
       refine⟨⟨_,rfl⟩,?_⟩
       rw[dh]
       have e3:(bf lo hi cs)[j]? =some (cs++[atC lo cs+(j:Int)]):=by
        unfold bf
        rw[y7,KZ (by rw[eU]at hj';exact hj')];rfl
       have e4:dC (cs++[atC lo cs+(j:Int)])=D.tup (cs.map D.int++[D.int (comesTo lo.1 lo.2 cs+(j:Int))]):=by
        unfold dC;rw[List.map_append];rfl
       rw[bA e3,←List.append_assoc,List.map_append (l₂:=[_]),List.map_singleton,e4]
     . rintro Γ' S' ⟨⟨o5,rfl⟩,rfl⟩
       refine⟨⟨_,_,rfl⟩,?_⟩
       have e5:(bf lo hi cs).take (DL.upTo (comesTo lo.1 lo.2 cs) (comesTo hi.1 hi.2 cs-comesTo lo.1 lo.2 cs).toNat).length=bf lo hi cs:=by
        rw[aC];exact List.take_of_length_le (by rw[eU];exact y8 _)
       rw[e5,iM e1]
 . rintro Γ' S' ⟨⟨o4,o5,rfl⟩,rfl⟩
   rw[y6,List.take_length]
   exact z6 hw (Fi _) hS
def Fits(ls:List Lp):Prop:=(∀l∈ls,SmF l.1/\SmF l.2)/\∀i,i≤ls.length->(cnt (ls.take i)).length≤1000000/\∀cs∈cnt (ls.take i),Sm6 cs
def pM:Ct:=λ ds S W=>∃ls,ds=[.tup (List.map dL ls)]/\1≤ls.length/\Fits ls/\flat S/\hand W ((cnt ls).map dC) S
theorem j4{ls:List Lp}{l:Lp}(h:ls[i]? =some l):cnt (ls.take (i+1))=aD l.1 l.2 (cnt (ls.take i)):=by
 unfold cnt
 rw[bA h,List.foldl_append];rfl
theorem uf(F:Fun Ω.K "counts_of" "counts_of" cJ f fd)(N0:Ω.cd=none)(Cq63:Cal Ω "with_next_count" 2 3 sZ):Ok Ω 3 f fd lg pM:=by
 refine au N0 (N:=wR) F (Bl.frz (wM Cq63)) (by kernel_rfl!) ?_
 rintro ds S W ⟨ls,rfl,hn,hf,hS,hw⟩ hl
 walk_at "b"
 have turn:∀(i:Nat)(e:D),(ls.map dL)[i]? =some e->∃l,ls[i]? =some l/\e=dL l:=λ i e he=>by
  rw[y7]at he
  cases e1:ls[i]? with
  | none=>rw[e1]at he;cases he
  | some l=>rw[e1]at he;cases he;exact⟨l,rfl,rfl⟩
 have step:∀(i:Nat)(l:Lp)(W:WD),ls[i]? =some l->hand W ((cnt (ls.take (i+1))).map dC) S->sZ [.lst ((cnt (ls.take i)).map dC),dF l.1,dF l.2] S W:=λ i l W h w=>by
  have hi:=(z0.mp h).1
  obtain⟨a,b⟩:=hf.1 l (y3 h)
  obtain⟨c,d⟩:=hf.2 i (by omega)
  obtain⟨c',d'⟩:=hf.2 (i+1) (by omega)
  rw[j4 h]at c' w
  exact⟨_,_,_,rfl,a,b,d,c,c',hS,w⟩
 rcases hw with hw | hw
 . refine bG ⟨λ i Γ' S'=>(∃o2 o3,Γ'=[some (.tup (ls.map dL)),some (.lst ((cnt (ls.take i)).map dC)),o2,o3])/\S'=S,⟨⟨_,_,rfl⟩,rfl⟩,?_,?_⟩
   . rintro i e Γ' S' he ⟨⟨o2,o3,rfl⟩,rfl⟩
     obtain⟨l,hl',rfl⟩:=turn i e he
     walk_at "b"
     refine⟨rfl,?_⟩
     walk_at "n"
     exact⟨rfl,step i l _ hl' (.inl ⟨⟨_,_,rfl⟩,rfl⟩)⟩
   . rintro Γ' S' ⟨⟨o2,o3,rfl⟩,rfl⟩
     rw[y6,List.take_length]
     exact .inl hw
 . refine bG ⟨λ i Γ' S'=>(i<ls.length/\(∃o2 o3,Γ'=[some (.tup (ls.map dL)),some (.lst ((cnt (ls.take i)).map dC)),o2,o3])/\S'=S)∨(i=ls.length/\(∃o2 o3,Γ'=[some (.tup (ls.map dL)),some (.loc S.length),o2,o3])/\S'=S++[(cnt ls).map dC]),.inl ⟨by omega,⟨_,_,rfl⟩,rfl⟩,?_,?_⟩
   . rintro i e Γ' S' he q
     obtain⟨l,hl',rfl⟩:=turn i e he
     have hi:=(z0.mp hl').1
     rcases q with⟨_,⟨o2,o3,rfl⟩,rfl⟩ | ⟨q,_⟩
     . walk_at "b"
       refine⟨rfl,?_⟩
       walk_at "n"
       by_cases hlast:i+1=ls.length
       . refine⟨rfl,step i l _ hl' (.inr (.inr ⟨hlast,⟨_,_,rfl⟩,?_⟩))⟩
         rw[hlast,List.take_length]
       . exact⟨rfl,step i l _ hl' (.inl (.inl ⟨by omega,⟨_,_,rfl⟩,rfl⟩))⟩
     . omega
   . rintro Γ' S' q
     rw[y6]at q
     rcases q with⟨q,_⟩ | ⟨_,⟨o2,o3,rfl⟩,rfl⟩
     . omega
     . exact .inl hw
def BdF(f:Fm)(k:Nat):Prop:=f.2.length=k/\ -9≤f.1/\f.1≤9/\∀n∈f.2,-2≤n/\n≤2
theorem DX{g m:Int}(hg: -2≤g/\g≤2)(ha: -m≤a/\a≤m): -(2*m)≤g*a/\g*a≤2*m:=by
 have:g= -2∨g= -1∨g=0∨g=1∨g=2:=by omega
 rcases this with rfl | rfl | rfl | rfl | rfl<;>omega
def bnd:Nat->Int
 | 0=>0
 | 1=>9
 | 2=>27
 | _=>117
def Cs(i:Nat)(cs:List Int):Prop:=cs.length=i/\∀c∈cs,-(bnd i)≤c/\c≤bnd i
theorem jx{f:Fm}(hi:i≤2)(hf:BdF f i)(hc:Cs i cs): -(bnd (i+1))≤atC f cs/\atC f cs≤bnd (i+1):=by
 obtain⟨a,fs⟩:=f
 obtain⟨h1,h2,h3,h4⟩:=hf
 obtain⟨c1,c2⟩:=hc
 dsimp only at h1 h2 h3 h4
 unfold atC comesTo
 have:i=0∨i=1∨i=2:=by omega
 rcases this with rfl | rfl | rfl
 . match fs,cs,h1,c1 with
   | [],[],_,_=>simp[bnd];omega
 . match fs,cs,h1,c1 with
   | [g],[x],_,_=>
     have:=DX (h4 g (by simp)) (c2 x (by simp))
     simp[bnd]at this ⊢;omega
 . match fs,cs,h1,c1 with
   | [g,g'],[x,x'],_,_=>
     have t1:=DX (h4 g (by simp)) (c2 x (by simp))
     have t2:=DX (h4 g' (by simp)) (c2 x' (by simp))
     simp[bnd]at t1 t2 ⊢;omega
theorem NB:bnd i≤bnd (i+1):=by
 match i with
 | 0=>decide
 | 1=>decide
 | 2=>decide
 | i+3=>exact Int.le_refl _
theorem zq(i:Nat):bnd i≤117:=by
 match i with
 | 0=>decide
 | 1=>decide
 | 2=>decide
 | i+3=>exact Int.le_refl _
theorem Mx{lo hi:Fm}{ds:List Int}(hi2:i≤2)(hlo:BdF lo i)(hhi:BdF hi i)(hc:Cs i cs)(h:ds∈bf lo hi cs):Cs (i+1) ds:=by
 unfold bf at h
 obtain⟨c,hc',rfl⟩:=List.mem_map.mp h
 unfold upI at hc'
 obtain⟨k,hk,rfl⟩:=List.mem_map.mp hc'
 have hk:=List.mem_range.mp hk
 have b1:=jx hi2 hlo hc
 have b2:=jx hi2 hhi hc
 refine⟨by simp[hc.1],λ c h=>?_⟩
 rcases List.mem_append.mp h with h | h
 . have:=hc.2 c h
   have:=NB (i:=i)
   omega
 . have:c=atC lo cs+(k:Int):=by simpa using h
   omega
def Lps(ls:List Lp):Prop:=1≤ls.length/\ls.length≤3/\∀(i:Nat)(l:Lp),ls[i]? =some l->BdF l.1 i/\BdF l.2 i
theorem qZ{ls:List Lp}(h:Lps ls):∀i,i≤ls.length->∀cs∈cnt (ls.take i),Cs i cs
 | 0,_,cs,hc=>by
   have:cs=[]:=by simpa[cnt]using hc
   subst this
   exact⟨rfl,λ c hc=>by simp at hc⟩
 | i+1,hi,cs,hc=>by
   have hl:=y0 (l:=ls) (i:=i) (by omega)
   rw[j4 hl]at hc
   obtain⟨ds,hd,hc⟩:=List.mem_flatMap.mp hc
   have:=h.2.2 i _ hl
   have h3:=h.2.1
   exact Mx (by omega) this.1 this.2 (qZ h i (by omega) ds hd) hc
def yJ:Nat->Nat
 | 0=>1
 | 1=>18
 | 2=>972
 | _=>227448
theorem yP{lo hi:Fm}{m:Nat}:∀{ahead:List (List Int)},(∀cs∈ahead,(bf lo hi cs).length≤m)->(aD lo hi ahead).length≤ahead.length*m
 | [],_=>by simp[aD]
 | a::as,h=>by
   have ih:=yP (ahead:=as) λ cs hc=>h cs (y9 _ hc)
   have:=h a x6
   unfold aD at ih ⊢
   rw[List.flatMap_cons,x8,List.length_cons,Nat.succ_mul]
   omega
theorem uR{ls:List Lp}(h:Lps ls):∀i,i≤ls.length->(cnt (ls.take i)).length≤yJ i
 | 0,_=>by simp[cnt,yJ]
 | i+1,hi=>by
   have hl:=y0 (l:=ls) (i:=i) (by omega)
   have ih:=uR h i (by omega)
   have h3:=h.2.1
   have hb:=h.2.2 i _ hl
   rw[j4 hl]
   have hm:∀cs∈cnt (ls.take i),(bf ls[i].1 ls[i].2 cs).length≤(2*bnd (i+1)).toNat:=λ cs hc=>by
    have c:=qZ h i (by omega) cs hc
    have b1:=jx (by omega) hb.1 c
    have b2:=jx (by omega) hb.2 c
    rw[eU];omega
   have:=yP hm
   have:i=0∨i=1∨i=2:=by omega
   rcases this with rfl | rfl | rfl<;>simp[bnd,yJ]at* <;>omega
theorem Lps.fits{ls:List Lp}(h:Lps ls):Fits ls:=by
 refine⟨λ l hl=>?_,λ i hi=>⟨?_,λ cs hc=>?_⟩⟩
 . obtain⟨i,hi⟩:=List.getElem?_of_mem hl
   have hl':=(z0.mp hi).1
   have h3:=h.2.1
   obtain⟨⟨a1,a2,a3,a4⟩,b1,b2,b3,b4⟩:=h.2.2 i l hi
   exact⟨⟨by omega,by omega,by omega,λ n hn=>by have:=a4 n hn;omega⟩,by omega,by omega,by omega,λ n hn=>by have:=b4 n hn;omega⟩
 . have:=uR h i hi
   have h3:=h.2.1
   have:i=0∨i=1∨i=2∨i=3:=by omega
   rcases this with rfl | rfl | rfl | rfl<;>simp only[yJ]at* <;>omega
 . have c:=qZ h i hi cs hc
   have h3:=h.2.1
   exact⟨by have:=c.1;omega,λ n hn=>by have:=c.2 n hn;have:=zq i;omega⟩
def kI(a b:Int):D->Bool
 | .int n=>decide (a≤n)&&decide (n≤b)
 | _=>false
def pU(n:Int):Bool:=decide ((if n<0 then-n else n)<10 ^ Int.toNat 30)
def t8:D->Bool
 | .int n=>pU n
 | _=>false
def parts:D->List D
 | .tup ds=>ds
 | _=>[]
def eE(x:D):Bool:=aZ x 1 3&&(parts x).all (kI 1 2)
def isPlace(d:Int)(x:D):Bool:=cD x d&&(parts x).all (kI (-99) 99)
def isStart(x:D)(d:Int):Bool:=cD x d&&(parts x).all t8
def jr(t p:D)(ws:List Int)(d:Int):Bool:=match t with
 | .int n=>(decide (0≤n)&&decide (n<(ws.length:Int)))&&(aZ p (ws.getD n.toNat 0) (ws.getD n.toNat 0)&&(parts p).all (isPlace d))
 | _=>false
def jT(ws:List Int)(d:Int)(x:D):Bool:=match x with
 | .tup [f,t,p]=>t8 f&&jr t p ws d
 | _=>false
def m8(x:D)(ws:List Int)(d:Int):Bool:=aZ x 0 3&&(parts x).all (jT ws d)
def fu(ws:List Int)(d:Int)(x:D):Bool:=match x with
 | .tup [t,p,s,r]=>jr t p ws d&&(isStart s d&&m8 r ws d)
 | _=>false
def iy(ws:List Int)(x:D):Bool:=match x with
 | .tup [l,ds]=>fU l&&(aZ ds 1 4&&(parts ds).all (fu ws ((parts l).length:Int)))
 | _=>false
def fM(x:D)(ws:List Int):Bool:=aZ x 1 3&&(parts x).all (iy ws)
def xY:Ct:=λ ds S W=>∃n,ds=[.int n]/\W (.bl (pU n)) S
def pA:Ct:=λ ds S W=>∃x,ds=[x]/\W (.bl (eE x)) S
def pO:Ct:=λ ds S W=>∃x d,ds=[x,.int d]/\0≤d/\d≤1000/\W (.bl (isPlace d x)) S
def vo:Ct:=λ ds S W=>∃x d,ds=[x,.int d]/\0≤d/\d≤1000/\W (.bl (isStart x d)) S
def Ws(ws:List Int):Prop:=ws.length≤3/\∀w∈ws,1≤w/\w≤2
def Ej:Ct:=λ ds S W=>∃t p ws d,ds=[t,p,.tup (List.map .int ws),.int d]/\Ws ws/\0≤d/\d≤1000/\W (.bl (jr t p ws d)) S
def An:Ct:=λ ds S W=>∃x ws d,ds=[x,.tup (List.map .int ws),.int d]/\Ws ws/\0≤d/\d≤1000/\W (.bl (jT ws d x)) S
def uX:Ct:=λ ds S W=>∃x ws d,ds=[x,.tup (List.map .int ws),.int d]/\Ws ws/\0≤d/\d≤1000/\W (.bl (m8 x ws d)) S
def yU:Ct:=λ ds S W=>∃x ws d,ds=[x,.tup (List.map .int ws),.int d]/\Ws ws/\0≤d/\d≤1000/\W (.bl (fu ws d x)) S
def Am:Ct:=λ ds S W=>∃x ws,ds=[x,.tup (List.map .int ws)]/\Ws ws/\W (.bl (iy ws x)) S
def tU:Ct:=λ ds S W=>∃x ws,ds=[x,.tup (List.map .int ws)]/\Ws ws/\W (.bl (fM x ws)) S
theorem dm{p:D->Bool}{W:WD}(w:W (.bl (ds.all p)) S):gF.wp [.lst (ds.map λ d=>.bl (p d))] S W:=
 ⟨ds.map p,by rw[List.map_map];rfl,by rw[zz];exact w⟩
theorem vL(h:aZ (.tup ds) a b=true):a≤(ds.length:Int)/\(ds.length:Int)≤b:=by
 obtain⟨h1,h2⟩:=aa h
 exact⟨of_decide_eq_true h1,of_decide_eq_true h2⟩
theorem cA{x:D}(h:aZ x a b=true):∃ds,x=.tup ds/\a≤(ds.length:Int)/\(ds.length:Int)≤b:=by
 cases x with
 | tup ds=>exact⟨ds,rfl,vL h⟩
 | _=>exact ff h
theorem m9{n:Int}{Q:WD}(hq:Q (.bl (kI a b (.int n))) S):(decide (a≤n)=false->Q (.bl false) S)/\(decide (a≤n)=true->Q (.bl (decide (n≤b))) S):=by
 have e:kI a b (.int n)=(decide (a≤n)&&decide (n≤b)):=rfl
 rw[e]at hq
 exact⟨λ h=>by rw[h]at hq;exact hq,λ h=>by rw[h]at hq;exact hq⟩
theorem jW(F:Fun Ω.K "has_few_figures" "has_few_figures" bu f fd)(N0:Ω.cd=none)(B:Bi Ω.mg Ω.K):Ok Ω 1 f fd fG xY:=by
 refine au N0 (N:=lF) F (lL B) (by kernel_rfl!) ?_
 rintro ds S W ⟨n,rfl,hw⟩ hl
 walk_at "b"
 exact hw
theorem uF(F:Fun Ω.K "is_widths" "is_widths" cN f fd)(N0:Ω.cd=none)(B:Bi Ω.mg Ω.K)(Cq45:Cal Ω "is_whole" 1 1 gW)(Cq44:Cal Ω "is_tuple_of" 1 3 d8):Ok Ω 2 f fd lE pA:=by
 refine au N0 (N:=xJ) F (wj B Cq45 Cq44) (by kernel_rfl!) ?_
 rintro ds S W ⟨x,rfl,hw⟩ hl
 walk_at "b"
 refine⟨rfl,_,_,_,rfl,?_⟩
 walk_at "b"
 unfold eE at hw
 refine⟨λ h=>?_,λ h=>by rw[h]at hw;exact hw⟩
 rw[h]at hw
 obtain⟨ds,rfl,l1,l2⟩:=cA h
 walk_at "b"
 refine cX (λ d=>.bl (kI 1 2 d)) (by omega) ?_ (dm hw)
 intro i e he Q hq
 walk_at "b"
 refine⟨rfl,_,rfl,?_⟩
 cases e with
 | int n=>
   walk_at "b"
   refine⟨(m9 hq).1,λ h=>?_⟩
   walk_at "b"
   exact(m9 hq).2 h
 | _=>walk_at "b";exact hq
theorem mJ(F:Fun Ω.K "is_place_form" "is_place_form" bB f fd)(N0:Ω.cd=none)(B:Bi Ω.mg Ω.K)(Cq33:Cal Ω "is_form" 2 2 mL):Ok Ω 3 f fd gJ pO:=by
 refine au N0 (N:=nD) F (nC B Cq33) (by kernel_rfl!) ?_
 rintro ds S W ⟨x,d,rfl,hd0,hd,hw⟩ hl
 walk_at "b"
 refine⟨rfl,_,_,rfl,hd,?_⟩
 walk_at "b"
 unfold isPlace at hw
 refine⟨λ h=>?_,λ h=>by rw[h]at hw;exact hw⟩
 rw[h]at hw
 obtain⟨a,fs,rfl,hf⟩:=jk h hd0
 walk_at "b"
 refine cX (λ d=>.bl (kI (-99) 99 d)) (by simp;omega) ?_ (dm hw)
 intro i e he Q hq
 have:∃n,e=.int n:=by
  have:=y3 he
  rcases List.mem_cons.mp this with rfl | h
  . exact⟨_,rfl⟩
  . obtain⟨n,_,rfl⟩:=List.mem_map.mp h
    exact⟨n,rfl⟩
 obtain⟨n,rfl⟩:=this
 walk_at "b"
 refine⟨(m9 hq).1,λ h=>?_⟩
 walk_at "b"
 exact(m9 hq).2 h
theorem wO(F:Fun Ω.K "is_start" "is_start" cV f fd)(N0:Ω.cd=none)(B:Bi Ω.mg Ω.K)(Cq33:Cal Ω "is_form" 2 2 mL)(Cq30:Cal Ω "has_few_figures" 1 1 xY):Ok Ω 3 f fd lM vo:=by
 refine au N0 (N:=Ao) F (yV B Cq33 Cq30) (by kernel_rfl!) ?_
 rintro ds S W ⟨x,d,rfl,hd0,hd,hw⟩ hl
 walk_at "b"
 refine⟨rfl,_,_,rfl,hd,?_⟩
 walk_at "b"
 unfold isStart at hw
 refine⟨λ h=>?_,λ h=>by rw[h]at hw;exact hw⟩
 rw[h]at hw
 obtain⟨a,fs,rfl,hf⟩:=jk h hd0
 walk_at "b"
 refine cX (λ d=>.bl (t8 d)) (by simp;omega) ?_ (dm hw)
 intro i e he Q hq
 have:∃n,e=.int n:=by
  have:=y3 he
  rcases List.mem_cons.mp this with rfl | h
  . exact⟨_,rfl⟩
  . obtain⟨n,_,rfl⟩:=List.mem_map.mp h
    exact⟨n,rfl⟩
 obtain⟨n,rfl⟩:=this
 walk_at "b"
 exact⟨rfl,_,rfl,hq⟩
theorem iu(F:Fun Ω.K "is_table_with_place" "is_table_with_place" aV f fd)(N0:Ω.cd=none)(B:Bi Ω.mg Ω.K)(Cq45:Cal Ω "is_whole" 1 1 gW)(Cq44:Cal Ω "is_tuple_of" 1 3 d8)(Cq39:Cal Ω "is_place_form" 3 2 pO):Ok Ω 4 f fd dD Ej:=by
 refine au N0 (N:=iT) F (iQ B Cq45 Cq44 Cq39) (by kernel_rfl!) ?_
 rintro ds S W ⟨t,p,ws,d,rfl,hws,hd0,hd,hw⟩ hl
 walk_at "b"
 refine⟨rfl,_,rfl,?_⟩
 cases t with
 | int n=>
   have e:jr (.int n) p ws d=((decide (0≤n)&&decide (n<(ws.length:Int)))&&(aZ p (ws.getD n.toNat 0) (ws.getD n.toNat 0)&&(parts p).all (isPlace d))):=rfl
   rw[e]at hw
   have hl3:((ws.map D.int).length:Int)=(ws.length:Int):=by rw[y6]
   walk_at "b"
   refine⟨λ h=>?_,λ h=>?_⟩
   . rw[h]at hw
     walk_at "b"
     exact hw
   rw[h,Bool.true_and]at hw
   walk_at "b"
   rw[hl3]
   refine⟨λ h2=>?_,λ h2=>?_⟩
   . have h2:decide (n<(ws.length:Int))=false:=nt h2
     rw[h2]at hw
     walk_at "b"
     exact hw
   have h2:decide (n<(ws.length:Int))=true:=by
    cases q:decide (n<(ws.length:Int))with
    | true=>rfl
    | false=>rw[q]at h2;exact tf h2
   rw[h2,Bool.true_and]at hw
   have h0:=of_decide_eq_true h
   have h1:=of_decide_eq_true h2
   have hk:n.toNat<ws.length:=by omega
   have ew:ws.getD n.toNat 0=ws[n.toNat]:=by simp[List.getD,hk]
   have at1:atI (ws.map D.int) n=some (.int (ws.getD n.toNat 0)):=by
    have:=dz (xs:=ws.map D.int) (j:=n.toNat) (v:=.int ws[n.toNat]) (by rw[y7,y0 hk];rfl)
    rw[Int.toNat_of_nonneg h0]at this
    rw[ew];exact this
   have hw12:=hws.2 _ (List.getElem_mem hk)
   rw[←ew]at hw12
   generalize ws.getD n.toNat 0=w at at1 hw hw12
   walk_at "b"
   refine⟨_,at1,?_⟩
   walk_at "b"
   refine⟨_,at1,?_⟩
   walk_at "b"
   refine⟨rfl,_,_,_,rfl,?_⟩
   walk_at "b"
   refine⟨λ h3=>?_,λ h3=>by rw[h3]at hw;exact hw⟩
   rw[h3]at hw
   obtain⟨ds,rfl,l1,l2⟩:=cA h3
   walk_at "b"
   refine cX (λ x=>.bl (isPlace d x)) (by omega) ?_ (dm hw)
   intro i e he Q hq
   walk_at "b"
   exact⟨rfl,_,_,rfl,hd0,hd,hq⟩
 | _=>walk_at "b";exact hw
theorem yR(F:Fun Ω.K "is_read" "is_read" dR f fd)(N0:Ω.cd=none)(Cq45:Cal Ω "is_whole" 1 1 gW)(Cq44:Cal Ω "is_tuple_of" 1 3 d8)(Cq30:Cal Ω "has_few_figures" 1 1 xY)(Cq43:Cal Ω "is_table_with_place" 4 4 Ej):Ok Ω 5 f fd n8 An:=by
 refine au N0 (N:=Ay) F (Aw Cq45 Cq44 Cq30 Cq43) (by kernel_rfl!) ?_
 rintro ds S W ⟨x,ws,d,rfl,hws,hd0,hd,hw⟩ hl
 walk_at "b"
 refine⟨rfl,_,_,_,rfl,?_⟩
 cases h:aZ x 3 3 with
 | false=>
   have e:jT ws d x=false:=by
    cases x with
    | tup ds=>
      match ds,h with
      | [a,b,c],h=>exact tf h
      | [],_=>rfl
      | [_],_=>rfl
      | [_,_],_=>rfl
      | _::_::_::_::_,_=>rfl
    | _=>rfl
   rw[e]at hw
   walk_at "b"
   exact hw
 | true=>
   obtain⟨ds,rfl,l1,l2⟩:=cA h
   match ds,l1,l2,hw with
   | [f, t,p],_,_,hw=>
     walk_at "b"
     refine⟨rfl,_,rfl,?_⟩
     have e:jT ws d (.tup [f,t,p])=(t8 f&&jr t p ws d):=rfl
     rw[e]at hw
     cases f with
     | int n=>
       walk_at "b"
       refine⟨rfl,_,rfl,?_⟩
       have e:t8 (.int n)=pU n:=rfl
       rw[e]at hw
       cases h2:pU n with
       | true=>
         rw[h2]at hw
         walk_at "b"
         exact⟨rfl,_,_,_,_,rfl,hws,hd0,hd,hw⟩
       | false=>
         rw[h2]at hw
         walk_at "b"
         exact hw
     | _=>walk_at "b";exact hw
   | [],l1,_,_=>simp at l1
   | [_],l1,_,_=>simp at l1
   | [_,_],l1,_,_=>simp at l1
   | _::_::_::_::es,_,l2,_=>simp at l2;omega
theorem wF(F:Fun Ω.K "is_reads" "is_reads" cY f fd)(N0:Ω.cd=none)(B:Bi Ω.mg Ω.K)(Cq44:Cal Ω "is_tuple_of" 1 3 d8)(Cq40:Cal Ω "is_read" 5 3 An):Ok Ω 6 f fd mD uX:=by
 refine au N0 (N:=zZ) F (zV B Cq44 Cq40) (by kernel_rfl!) ?_
 rintro ds S W ⟨x,ws,d,rfl,hws,hd0,hd,hw⟩ hl
 walk_at "b"
 refine⟨rfl,_,_,_,rfl,?_⟩
 walk_at "b"
 unfold m8 at hw
 refine⟨λ h=>?_,λ h=>by rw[h]at hw;exact hw⟩
 rw[h]at hw
 obtain⟨ds,rfl,l1,l2⟩:=cA h
 walk_at "b"
 refine cX (λ x=>.bl (jT ws d x)) (by omega) ?_ (dm hw)
 intro i e he Q hq
 walk_at "b"
 exact⟨rfl,_,_,_,rfl,hws,hd0,hd,hq⟩
theorem yC(F:Fun Ω.K "is_deed" "is_deed" dX f fd)(N0:Ω.cd=none)(Cq44:Cal Ω "is_tuple_of" 1 3 d8)(Cq42:Cal Ω "is_start" 3 2 vo)(Cq43:Cal Ω "is_table_with_place" 4 4 Ej)(Cq41:Cal Ω "is_reads" 6 3 uX):Ok Ω 7 f fd nQ yU:=by
 refine au N0 (N:=Br) F (Bb Cq44 Cq42 Cq43 Cq41) (by kernel_rfl!) ?_
 rintro ds S W ⟨x,ws,d,rfl,hws,hd0,hd,hw⟩ hl
 walk_at "b"
 refine⟨rfl,_,_,_,rfl,?_⟩
 cases h:aZ x 4 4 with
 | false=>
   have e:fu ws d x=false:=by
    cases x with
    | tup ds=>
      match ds,h with
      | [a,b,c,d],h=>exact tf h
      | [],_=>rfl
      | [_],_=>rfl
      | [_,_],_=>rfl
      | [_,_,_],_=>rfl
      | _::_::_::_::_::_,_=>rfl
    | _=>rfl
   rw[e]at hw
   walk_at "b"
   exact hw
 | true=>
   obtain⟨ds,rfl,l1,l2⟩:=cA h
   match ds,l1,l2,hw with
   | [t, p,s,r],_,_,hw=>
     have e:fu ws d (.tup [t,p,s,r])=(jr t p ws d&&(isStart s d&&m8 r ws d)):=rfl
     rw[e]at hw
     walk_at "b"
     refine⟨rfl,_,_,_,_,rfl,hws,hd0,hd,?_⟩
     cases h2:jr t p ws d with
     | false=>
       rw[h2]at hw
       walk_at "b"
       exact hw
     | true=>
       rw[h2,Bool.true_and]at hw
       walk_at "b"
       refine⟨rfl,_,_,rfl,hd0,hd,?_⟩
       cases h3:isStart s d with
       | false=>
         rw[h3]at hw
         walk_at "b"
         exact hw
       | true=>
         rw[h3,Bool.true_and]at hw
         walk_at "b"
         exact⟨rfl,_,_,_,rfl,hws,hd0,hd,hw⟩
   | [],l1,_,_=>simp at l1
   | [_],l1,_,_=>simp at l1
   | [_,_],l1,_,_=>simp at l1
   | [_,_,_],l1,_,_=>simp at l1
   | _::_::_::_::_::es,_,l2,_=>simp at l2;omega
theorem zg(F:Fun Ω.K "is_nest" "is_nest" dU f fd)(N0:Ω.cd=none)(B:Bi Ω.mg Ω.K)(Cq44:Cal Ω "is_tuple_of" 1 3 d8)(Cq35:Cal Ω "is_loops" 5 1 uU)(Cq32:Cal Ω "is_deed" 7 3 yU):Ok Ω 8 f fd nP Am:=by
 refine au N0 (N:=Bv) F (Ba B Cq44 Cq35 Cq32) (by kernel_rfl!) ?_
 rintro ds S W ⟨x,ws,rfl,hws,hw⟩ hl
 walk_at "b"
 refine⟨rfl,_,_,_,rfl,?_⟩
 cases h:aZ x 2 2 with
 | false=>
   have e:iy ws x=false:=by
    cases x with
    | tup ds=>
      match ds,h with
      | [a,b],h=>exact tf h
      | [],_=>rfl
      | [_],_=>rfl
      | _::_::_::_,_=>rfl
    | _=>rfl
   rw[e]at hw
   walk_at "b"
   exact hw
 | true=>
   obtain⟨ds,rfl,l1,l2⟩:=cA h
   match ds,l1,l2,hw with
   | [l, dd],_,_,hw=>
     have e:iy ws (.tup [l,dd])=(fU l&&(aZ dd 1 4&&(parts dd).all (fu ws ((parts l).length:Int)))):=rfl
     rw[e]at hw
     walk_at "b"
     refine⟨rfl,_,rfl,?_⟩
     cases h2:fU l with
     | false=>
       rw[h2]at hw
       walk_at "b"
       exact hw
     | true=>
       rw[h2,Bool.true_and]at hw
       cases l with
       | tup ls=>
         have hlen:(ls.length:Int)≤3:=of_decide_eq_true (aa (aa h2).1).2
         have hw:W (.bl (aZ dd 1 4&&(parts dd).all (fu ws (ls.length:Int)))) S:=hw
         walk_at "b"
         refine⟨rfl,_,_,_,rfl,?_⟩
         walk_at "b"
         refine⟨λ h3=>?_,λ h3=>by rw[h3]at hw;exact hw⟩
         rw[h3]at hw
         obtain⟨es,rfl,l1,l2⟩:=cA h3
         walk_at "b"
         refine cX (λ x=>.bl (fu ws (ls.length:Int) x)) (by omega) ?_ (dm hw)
         intro i e he Q hq
         walk_at "b"
         exact⟨rfl,_,_,_,rfl,hws,by omega,by omega,hq⟩
       | _=>exact ff h2
   | [],l1,_,_=>simp at l1
   | [_],l1,_,_=>simp at l1
   | _::_::_::es,_,l2,_=>simp at l2;omega
theorem xW(F:Fun Ω.K "is_nests" "is_nests" cZ f fd)(N0:Ω.cd=none)(B:Bi Ω.mg Ω.K)(Cq44:Cal Ω "is_tuple_of" 1 3 d8)(Cq36:Cal Ω "is_nest" 8 2 Am):Ok Ω 9 f fd lU tU:=by
 refine au N0 (N:=zL) F (zF B Cq44 Cq36) (by kernel_rfl!) ?_
 rintro ds S W ⟨x,ws,rfl,hws,hw⟩ hl
 walk_at "b"
 refine⟨rfl,_,_,_,rfl,?_⟩
 walk_at "b"
 unfold fM at hw
 refine⟨λ h=>?_,λ h=>by rw[h]at hw;exact hw⟩
 rw[h]at hw
 obtain⟨ds,rfl,l1,l2⟩:=cA h
 walk_at "b"
 refine cX (λ x=>.bl (iy ws x)) (by omega) ?_ (dm hw)
 intro i e he Q hq
 walk_at "b"
 exact⟨rfl,_,_,rfl,hws,hq⟩
structure Rd where
 fac:Int
 tab:Nat
 pl:List Fm
structure Dd where
 tab:Nat
 pl:List Fm
 st:Fm
 rds:List Rd
structure Ns where
 lps:List Lp
 dds:List Dd
structure Pg where
 ws:List Int
 nss:List Ns
def dP(pl:List Fm):D:=.tup (pl.map dF)
def dRd(r:Rd):D:=.tup [.int r.fac,.int r.tab,dP r.pl]
def dDd(x:Dd):D:=.tup [.int x.tab,dP x.pl,dF x.st,.tup (x.rds.map dRd)]
def dNs(n:Ns):D:=.tup [.tup (n.lps.map dL),.tup (n.dds.map dDd)]
def dWs(ws:List Int):D:=.tup (ws.map .int)
def dPg(p:Pg):D:=.tup [dWs p.ws,.tup (p.nss.map dNs)]
def many(nss:List Ns):Int:=(nss.map λ n=>((cnt n.lps).length:Int)*(n.dds.length:Int)).sum
def HY(n:Ns):Prop:=1≤n.lps.length/\Fits n.lps/\n.dds.length≤1000
def zY:Ct:=λ ds S W=>∃nss,ds=[.tup (List.map dNs nss)]/\nss.length≤1000/\(∀n∈nss,HY n)/\flat S/\W (.int (many nss)) S
theorem GX(h:eE (dWs ws)=true):Ws ws:=by
 obtain⟨h1,h2⟩:=aa h
 have:=vL h1
 refine⟨by simp at this;omega,λ w hw=>?_⟩
 have h3:=List.all_eq_true.mp h2 (.int w) (List.mem_map.mpr ⟨w,hw,rfl⟩)
 obtain⟨a,b⟩:=aa h3
 exact⟨of_decide_eq_true a,of_decide_eq_true b⟩
theorem km(F:Fun Ω.K "number_of_steps" "number_of_steps" bj f fd)(N0:Ω.cd=none)(B:Bi Ω.mg Ω.K)(Cq27:Cal Ω "counts_of" 3 1 pM):Ok Ω 4 f fd fH zY:=by
 refine au N0 (N:=lH) F (lG B Cq27) (by kernel_rfl!) ?_
 rintro ds S W ⟨nss,rfl,hz,hok,hS,hw⟩ hl
 walk_at "b"
 refine bK (λ n=>.int (((cnt n.lps).length:Int)*(n.dds.length:Int))) (by omega) ?_ ?_
 . intro i n hn Q hq
   obtain⟨h1,h2,h3⟩:=hok n (y3 hn)
   have h4:=(h2.2 n.lps.length (y8 _)).1
   rw[List.take_length]at h4
   walk_at "b"
   refine⟨rfl,?_⟩
   walk_at "b"
   refine⟨rfl,_,rfl,h1,h2,hS,.inl ?_⟩
   have e1:(((cnt n.lps).map dC).length:Int)=((cnt n.lps).length:Int):=by rw[y6]
   have e2:((n.dds.map dDd).length:Int)=(n.dds.length:Int):=by rw[y6]
   walk_at "n"
   rw[e1,e2]
   exact⟨.inl ⟨by omega,by omega⟩,hq⟩
 . exact⟨nss.map λ(n:Ns)=>((cnt n.lps).length:Int)*(n.dds.length:Int),by rw[List.map_map];rfl,hw⟩
theorem _root_.DL.Pen.lt(p:Pen S k):k<S.length:=by
 obtain⟨ns,a,c,n,m,z,h,_⟩:=p
 exact(z0.mp h).1
theorem _root_.DL.Pen.app(J:Store)(p:Pen S k):Pen (S++J) k:=by
 have hl:=p.lt
 obtain⟨ns,a,c,n,m,z,h,ha⟩:=p
 exact⟨ns,a,c,n,m,z,by rw[x9 hl];exact h,ha⟩
theorem _root_.DL.Upd.split{T:Store}{J:Store}(p:Pen S k)(u:Upd (S++J) k T):∃S',T=S'++J/\Upd S k S'/\Pen S' k:=by
 have hl:=p.lt
 obtain⟨ns,a,c,n,m,z,rfl,hn⟩:=u
 have u:Upd S k (S.set k (ik ns a c n m z)):=⟨ns,a,c,n,m,z,rfl,hn⟩
 exact⟨S.set k (ik ns a c n m z),by rw[List.set_append_left k _ hl],u,u.pen p⟩
theorem nj{P:Int->Prop}:∀{ys:List D},(∀(i:Nat)(y:D),ys[i]? =some y->∃n:Int,y=D.int n/\P n)->∃fs:List Int,ys=fs.map D.int/\∀n∈fs,P n
 | [],_=>⟨[],rfl,by simp⟩
 | y::ys,h=>by
   obtain⟨n,rfl,hn⟩:=h 0 y rfl
   obtain⟨fs,rfl,hf⟩:=nj (ys:=ys) λ i y h'=>h (i+1) y (by simpa using h')
   exact⟨n::fs,rfl,by
    intro m hm
    rcases List.mem_cons.mp hm with rfl | hm
    . exact hn
    . exact hf m hm⟩
theorem rY{α:Type}{f:α->D}{P:α->Prop}:∀{ys:List D},(∀(i:Nat)(y:D),ys[i]? =some y->∃a,y=f a/\P a)->∃as:List α,ys=as.map f/\∀a∈as,P a
 | [],_=>⟨[],rfl,by simp⟩
 | y::ys,h=>by
   obtain⟨a,rfl,ha⟩:=h 0 y rfl
   obtain⟨as,rfl,has⟩:=rY (ys:=ys) λ i y h'=>h (i+1) y (by simpa using h')
   exact⟨a::as,rfl,by
    intro b hb
    rcases List.mem_cons.mp hb with rfl | hb
    . exact ha
    . exact has b hb⟩
theorem Jr(hs:List Int)(a:Nat)(v:Int):(hs.map D.int).take a++[D.int v]++(hs.map D.int).drop (a+1)=(hs.take a++[v]++hs.drop (a+1)).map D.int:=by
 simp[List.map_take,List.map_drop]
theorem jf(ns:List Int):az (ns.map D.int)=true:=by
 induction ns with
 | nil=>rfl
 | cons y ys ih=>simp only[List.map_cons,az,ih,Bool.and_true];rfl
theorem oK(f:Fm):aB (dF f)=true:=jf (f.1::f.2)
theorem bC{α:Type}{f:α->D}(h:∀a,aB (f a)=true):∀l:List α,az (l.map f)=true
 | []=>rfl
 | a::l=>by simp only[List.map_cons,az,h,bC h l,Bool.and_true]
theorem JB(l:Lp):aB (dL l)=true:=by
 show az [dF l.1,dF l.2]=true
 simp only[az,oK,Bool.and_true]
theorem Gu(ls:List Lp):aB (.tup (ls.map dL))=true:=bC JB ls
theorem yM(pl:List Fm):aB (dP pl)=true:=bC oK pl
theorem Gp(r:Rd):aB (dRd r)=true:=by
 show az [D.int _,D.int _,dP r.pl]=true
 simp only[az,yM,Bool.and_true];rfl
theorem vV(x:Dd):aB (dDd x)=true:=by
 show az [D.int _,dP x.pl,dF x.st,.tup (x.rds.map dRd)]=true
 have:aB (.tup (x.rds.map dRd))=true:=bC Gp x.rds
 simp only[az,yM,oK,this,Bool.and_true];rfl
theorem mH(n:Ns):aB (dNs n)=true:=by
 show az [.tup (n.lps.map dL),.tup (n.dds.map dDd)]=true
 have h2:aB (.tup (n.dds.map dDd))=true:=bC vV _
 simp only[az,Gu,h2,Bool.and_true]
theorem jd(p:Pg):aB (dPg p)=true:=by
 show az [dWs p.ws,.tup (p.nss.map dNs)]=true
 have h1:aB (dWs p.ws)=true:=jf _
 have h2:aB (.tup (p.nss.map dNs))=true:=bC mH _
 simp only[az,h1,h2,Bool.and_true]
theorem _root_.DL.Upd.flat{S':Store}(u:Upd S k S')(h:flat S):RF.flat S':=by
 obtain⟨ns,a,c,n,m,z,rfl,_⟩:=u
 intro l hl
 rcases List.mem_or_eq_of_mem_set hl with hl | rfl
 . exact h l hl
 . have:az [D.lst (ns.map .int),.int a,.int c,.int n,.int m,.int z]=true:=by
    have e:aB (D.lst (ns.map .int))=true:=jf ns
    simp only[az,e,Bool.and_true];rfl
   exact this
theorem Al{J:Store}(h:flat S)(hJ:∀l∈J,az l=true):flat (S++J):=by
 intro x hx
 rcases List.mem_append.mp hx with hx | hx
 . exact h x hx
 . exact hJ x hx
theorem rm{d:D}{Γ:Gam}{W:Gam->Prop}(h:W (Γ.set i (some d))):(Tg.nm i).wp d Γ W:=h
def WsA(ws:List Int):Prop:=1≤ws.length/\ws.length≤3/\∀w∈ws,1≤w/\w≤2
def C64(cs:List Int):Prop:=∀c∈cs,-(2 ^ 64)<c/\c<2 ^ 64
def Ek:Ct:=λ ds S W=>∃(f:Fm) (cs:List Int),ds=[dF f,dC cs]/\f.2.length≤1000/\C64 cs/\W (.int (atC f cs)) S
theorem Ly(F:Fun Ω.K "_law_at" "_law_at" mC f fd)(N0:Ω.cd=none)(B:Bi Ω.mg Ω.K):Ok Ω 1 f fd Gh Ek:=by
 refine au N0 (N:=Ng) F (Qf B) (by kernel_rfl!) ?_
 rintro ds S W ⟨⟨g,fs⟩,cs,rfl,hfs,hcs,hw⟩ hl
 dsimp only at hfs
 walk_at "n"
 refine⟨_,oF _ _,?_⟩
 walk_at "n"
 rw[eH]
 refine fW ⟨by show(List.zipWith (λ x y=>D.tup [x,y]) (fs.map D.int) (cs.map D.int)).length≤1000000;rw[List.length_zipWith,y6];omega,λ i acc S'=>acc=((List.zipWith (λ a b=>a*b) fs cs).take i).map D.int/\S'=S,⟨rfl,rfl⟩,?_,?_⟩
 . rintro i e acc S' he ⟨rfl,rfl⟩
   obtain⟨a,b,h1,h2,rfl⟩:=Cq he
   walk_at "n"
   refine⟨rfl,λ _=>⟨.inr (hcs b (y3 h2)),?_,rfl⟩,λ z=>tf z⟩
   have e3:(List.zipWith (λ a b=>a*b) fs cs)[i]? =some (a*b):=by rw[List.getElem?_zipWith,h1,h2]
   rw[bA e3,List.map_append];rfl
 . rintro acc S' ⟨rfl,rfl⟩
   have e:(List.zipWith (λ x y=>D.tup [x,y]) (fs.map D.int) (cs.map D.int)).length=(List.zipWith (λ a b=>a*b) fs cs).length:=by simp
   rw[e,List.take_length]
   exact⟨_,rfl,hw⟩
def gone(ls:List Lp):List (List Int):=ls.foldl (λ acc l=>(aD l.1 l.2 acc).take 1000) [[]]
theorem lV{ls:List Lp}{l:Lp}(h:ls[i]? =some l):gone (ls.take (i+1))=(aD l.1 l.2 (gone (ls.take i))).take 1000:=by
 unfold gone
 rw[bA h,List.foldl_append];rfl
theorem kh{ls:List Lp}(h:Lps ls):∀i,i≤ls.length->gone (ls.take i)=(cnt (ls.take i)).take 1000
 | 0,_=>rfl
 | i+1,hi=>by
   have hl:=y0 (l:=ls) (i:=i) (by omega)
   have h3:=h.2.1
   have ih:=kh h i (by omega)
   have n:=uR h i (by omega)
   have:(cnt (ls.take i)).length≤1000:=by
    have:i=0∨i=1∨i=2:=by omega
    rcases this with rfl | rfl | rfl<;>simp only[yJ]at n<;>omega
   rw[List.take_of_length_le this]at ih
   rw[lV hl,ih,j4 hl]
theorem zc{ls:List Lp}(h:Lps ls)(hf:(gone ls).length≤300):gone ls=cnt ls:=by
 have e:=kh h ls.length (y8 _)
 rw[List.take_length]at e
 rw[e]at hf ⊢
 rw[List.length_take]at hf
 exact List.take_of_length_le (by omega)
theorem Mg{ls:List Lp}(h:Lps ls){i:Nat}(hi:i≤ls.length):∀cs∈gone (ls.take i),Cs i cs:=λ cs hc=>by
 rw[kh h i hi]at hc
 exact qZ h i hi cs (List.mem_of_mem_take hc)
theorem oZ(ls:List Lp)(i:Nat)(hi:i≤ls.length):(gone (ls.take i)).length≤1000:=by
 cases i with
 | zero=>simp[gone]
 | succ i=>
   rw[lV (y0 (l:=ls) (i:=i) (by omega)),List.length_take];omega
theorem gK{d:D}(h:dI S d=some ds):d=.lst ds∨∃k,d=.loc k/\S[k]? =some ds:=by
 cases d with
 | lst es=>cases h;exact .inl rfl
 | loc k=>exact .inr ⟨k,rfl,h⟩
 | _=>cases h
theorem Dj{α:Type}(a b:List α)(n:Nat):(a.take n++b).take n=(a++b).take n:=by
 by_cases h:n≤a.length
 . rw[List.take_append_of_le_length (by rw[List.length_take];omega),List.take_take,Nat.min_self,List.take_append_of_le_length h]
 . have:a.take n=a:=List.take_of_length_le (by omega)
   rw[this]
def Ep(cs:List Int):D->D
 | .int c=>dC (cs++[c])
 | d=>d
theorem FW(lo hi:Fm)(cs:List Int):(DL.upTo (atC lo cs) (atC hi cs-atC lo cs).toNat).map (Ep cs)=(bf lo hi cs).map dC:=by
 rw[Ii,List.map_map]
 unfold bf
 rw[List.map_map];rfl
def mY(S:Store)(ls:List Lp)(G:List (List Int))(g:D)(lo hi:Fm)(m:Nat)(Γ':Gam)(T:Store):Prop:=∃J k o5,T=S++J/\Γ'=[some (.tup (ls.map dL)),some g,some (dF lo),some (dF hi),some (.loc k),o5]/\T[k]? =some (((aD lo hi (G.take m)).take 1000).map dC)/\dI T g=some (G.map dC)/\S.length≤k/\∀j,g=.loc j->j≠k
def vq:Ct:=λ ds S W=>∃ls:List Lp,ds=[.tup (ls.map dL)]/\Lps ls/\flat S/\W (.int (gone ls).length) S
theorem Hf(F:Fun Ω.K "_law_many" "_law_many" iG f fd)(N0:Ω.cd=none)(B:Bi Ω.mg Ω.K)(Cq0:Cal Ω "_law_at" 1 2 Ek):Ok Ω 2 f fd Ae vq:=by
 refine au N0 (N:=HQ) F (Bl.drp (Jy B Cq0)) (by kernel_rfl!) ?_
 rintro ds S W ⟨ls,rfl,hL,hS,hw⟩ hl
 walk_at "b"
 refine bG ⟨λ i Γ' T=>∃J g o2 o3 o4 o5,T=S++J/\Γ'=[some (.tup (ls.map dL)),some g,o2,o3,o4,o5]/\dI T g=some ((gone (ls.take i)).map dC),⟨[],.lst [.tup []],_,_,_,_,by simp,rfl,rfl⟩,?_,?_⟩
 . rintro i e Γ' T he ⟨J,g,o2,o3,o4,o5,rfl,rfl,hg⟩
   obtain⟨l,e1,rfl⟩:=cR he
   have hi:=(z0.mp e1).1
   have h3:=hL.2.1
   obtain⟨lo,hi_⟩:=l
   obtain⟨b1,b2⟩:=hL.2.2 i _ e1
   dsimp only at b1 b2
   have hcs:=Mg hL (i:=i) (by omega)
   have hgl:=oZ ls i (by omega)
   have hgo:=lV e1
   generalize hG:gone (ls.take i)=G at*
   dsimp only at hgo
   have hlt:∀j,g=.loc j->j<(S++J).length:=λ j e=>by subst e;exact(z0.mp hg).1
   have hg1:dI (S++J++[[]]) g=some (G.map dC):=by
    rcases gK hg with rfl | ⟨j,rfl,hj⟩
    . rfl
    . show(S++J++[[]])[j]? =_
      rw[x9 (hlt j rfl)];exact hj
   have start:mY S ls G g lo hi_ 0 [some (.tup (ls.map dL)),some g,some (dF lo),some (dF hi_),some (.loc (S++J).length),o5] (S++J++[[]]):=
    ⟨J++[[]],(S++J).length,o5,by simp,rfl,by rw[aM];rfl,hg1,by simp,λ j e=>by have:=hlt j e;omega⟩
   have stop:∀Γ' T,mY S ls G g lo hi_ (G.map dC).length Γ' T->∀Wf:DL.Fin,(∀G' T',(∃J g o2 o3 o4 o5,T'=S++J/\G'=[some (.tup (ls.map dL)),some g,o2,o3,o4,o5]/\dI T' g=some ((gone (ls.take (i+1))).map dC))->Wf.nx G' T')->(kY B Cq0).wp Γ' T Wf:=by
    rintro Γ' T ⟨J',k,o5,rfl,rfl,hk,_,_,_⟩ Wf hnx
    rw[y6,List.take_length,←hgo]at hk
    walk_at "b"
    exact hnx _ _ ⟨J',.loc k,_,_,_,_,rfl,rfl,hk⟩
   have turn:∀(m:Nat)(d:D)(Γ':Gam)(T:Store),(G.map dC)[m]? =some d->mY S ls G g lo hi_ m Γ' T->∀Wf:DL.Fin,(∀G' T',mY S ls G g lo hi_ (m+1) G' T'->Wf.nx G' T')->(nW B Cq0).wp (Γ'.set 5 (some d)) T Wf:=by
    rintro m d Γ' T hd ⟨J',k,o5,rfl,rfl,hk,hg',hsk,hne⟩ Wf hnx
    obtain⟨cs,e2,rfl⟩:=cR hd
    have hc:=hcs cs (y3 e2)
    have hb1:=zq (i+1)
    have a1:=jx (by omega) b1 hc
    have a2:=jx (by omega) b2 hc
    have h64:C64 cs:=λ c h=>by have:=hc.2 c h;have:=zq i;omega
    have hkl:=(z0.mp hk).1
    have hz:(((aD lo hi_ (G.take m)).take 1000).map dC).length≤1000:=by rw[y6,List.length_take];omega
    have hn:(bf lo hi_ cs).length≤300:=by rw[eU];omega
    simp only[List.set_cons_succ,List.set_cons_zero]
    walk_at "b"
    refine⟨rfl,lo,cs,rfl,by rw[b1.1];omega,h64,?_⟩
    walk_at "b"
    refine⟨rfl,hi_,cs,rfl,by rw[b2.1];omega,h64,?_⟩
    walk_at "b"
    refine⟨⟨by omega,by omega,by omega,by omega⟩,cX (Ep cs) (by rw[aC];omega) ?_ ?_⟩
    . intro j d hd Q hq
      obtain⟨hj,rfl⟩:=fP hd
      walk_at "b"
      refine⟨by rw[y6,hc.1,List.length_singleton];omega,?_⟩
      have e4:Ep cs (.int (atC lo cs+(j:Int)))=D.tup (cs.map D.int++[D.int (atC lo cs+(j:Int))]):=by
       show dC (cs++[_])=_
       unfold dC;rw[List.map_append];rfl
      rw[e4]at hq
      exact hq
    rw[FW]
    refine⟨_,_,hk,rfl,by have e9:((bf lo hi_ cs).map dC).length=(bf lo hi_ cs).length:=y6 _;omega,?_⟩
    walk_at "b"
    refine⟨_,by show((S++J').set k _)[k]? =_;exact List.getElem?_set_self hkl,?_⟩
    rw[yD (by decide)]
    have eX:((((aD lo hi_ (G.take m)).take 1000).map dC++(bf lo hi_ cs).map dC).take (1000:Int).toNat)=((aD lo hi_ (G.take (m+1))).take 1000).map dC:=by
     rw[iM e2,←List.map_append,←List.map_take]
     show List.map dC (List.take 1000 _)=_
     rw[Dj]
    rw[eX]
    generalize (((aD lo hi_ (G.take m)).take 1000).map dC++(bf lo hi_ cs).map dC)=X
    have eS:(S++J').set k X=S++J'.set (k-S.length) X:=List.set_append_right _ _ hsk
    have hlen2:((S++J').set k X).length=(S++J').length:=List.length_set
    refine hnx _ _ ⟨J'.set (k-S.length) X++[((aD lo hi_ (G.take (m+1))).take 1000).map dC],((S++J').set k X).length,_,by rw[eS,List.append_assoc],rfl,aM _ _,?_,by rw[hlen2];simp,?_⟩
    . rcases gK hg' with rfl | ⟨j,rfl,hj⟩
      . rfl
      . have hjl:=(z0.mp hj).1
        show((S++J').set k X++[_])[j]? =_
        rw[x9 (by rw[hlen2];exact hjl),List.getElem?_set_ne (Ne.symm (hne j rfl))];exact hj
    . intro j e
      subst e
      have hjl:=(z0.mp (show(S++J')[j]? =_ from hg')).1
      omega
   walk_at "b"
   refine⟨rfl,?_⟩
   walk_at "b"
   rcases gK hg with rfl | ⟨j,rfl,hj⟩
   . walk_at "b"
     refine bG ⟨mY S ls G _ lo hi_,start,λ m d Γ' T hd hi=>?_,λ Γ' T h=>?_⟩
     . refine rm ?_
       exact turn m d Γ' T hd hi _ λ _ _ h=>h
     . exact stop Γ' T h _ λ _ _ h=>h
   . walk_at "b"
     refine⟨_,hg1,Kr ⟨mY S ls G _ lo hi_,start,λ m Γ' T h=>?_,λ m d Γ' T hd hi=>?_,λ Γ' T h=>?_⟩⟩
     . obtain⟨J',k,o5,_,_,_,h',_⟩:=h
       exact h'
     . refine rm ?_
       exact turn m d Γ' T hd hi _ λ _ _ h=>h
     . exact stop Γ' T h _ λ _ _ h=>h
 . rintro Γ' T ⟨J,g,o2,o3,o4,o5,rfl,rfl,hg⟩
   rw[y6,List.take_length]at hg
   have hfin:Drp S.length W (.int (gone ls).length) (S++J):=.inr ⟨J,S,rfl,y8 _,rfl,hS,hw⟩
   rcases gK hg with rfl | ⟨j,rfl,hj⟩
   . walk_at "b"
     rw[y6]
     exact hfin
   . walk_at "b"
     refine⟨_,hj,?_⟩
     rw[y6]
     exact hfin
theorem all_map{α:Type}{enc:α->D}{q:D->Bool}{l:List α}(h:∀a∈l,q (enc a)=true):(l.map enc).all q=true:=by
 rw[List.all_eq_true]
 intro x hx
 obtain⟨a,ha,rfl⟩:=List.mem_map.mp hx
 exact h a ha
theorem gk{α:Type}{enc:α->D}{l:List α}(h1:a≤(l.length:Int))(h2:(l.length:Int)≤b):aZ (.tup (l.map enc)) a b=true:=by
 show(decide _&&decide _)=true
 rw[y6,decide_eq_true h1,decide_eq_true h2];rfl
theorem tK{f:Fm}(h:f.2.length=d):cD (dF f) (d:Int)=true:=by
 show(decide _&&((f.1::f.2).map D.int).all whole)=true
 rw[decide_eq_true (by simp;omega),all_map (λ _ _=>rfl)];rfl
theorem Fx{n:Int}(h1:a≤n)(h2:n≤b):kI a b (.int n)=true:=by
 show(decide _&&decide _)=true
 rw[decide_eq_true h1,decide_eq_true h2];rfl
def FmV(d:Nat)(f:Fm):Prop:=f.2.length=d/\(-99≤f.1/\f.1≤99)/\∀n∈f.2,-99≤n/\n≤99
def TpV(ws:List Int)(d t:Nat)(pl:List Fm):Prop:=∃w,ws[t]? =some w/\(pl.length:Int)=w/\∀f∈pl,FmV d f
def FmS(d:Nat)(f:Fm):Prop:=f.2.length=d/\(-1000000000000000000000000000000<f.1/\f.1<1000000000000000000000000000000)/\∀n∈f.2,-1000000000000000000000000000000<n/\n<1000000000000000000000000000000
def RdV(ws:List Int)(d:Nat)(r:Rd):Prop:=(-1000000000000000000000000000000<r.fac/\r.fac<1000000000000000000000000000000)/\TpV ws d r.tab r.pl
def DdV(ws:List Int)(d:Nat)(x:Dd):Prop:=TpV ws d x.tab x.pl/\FmS d x.st/\x.rds.length≤3/\∀r∈x.rds,RdV ws d r
def NsV(ws:List Int)(n:Ns):Prop:=Lps n.lps/\1≤n.dds.length/\n.dds.length≤4/\∀x∈n.dds,DdV ws n.lps.length x
def PgV(p:Pg):Prop:=WsA p.ws/\1≤p.nss.length/\p.nss.length≤3/\(∀n∈p.nss,NsV p.ws n)/\many p.nss≤60
theorem QL:(10:Int) ^ (30:Int).toNat=1000000000000000000000000000000:=by decide
theorem Ga{n:Int}(h1: -1000000000000000000000000000000<n)(h2:n<1000000000000000000000000000000):pU n=true:=by
 unfold pU
 rw[QL]
 exact decide_eq_true (by split<;>omega)
theorem yN{f:Fm}(h:FmV d f):∀n∈f.1::f.2,-99≤n/\n≤99:=λ n hn=>by
 rcases List.mem_cons.mp hn with rfl | hn
 . exact h.2.1
 . exact h.2.2 n hn
theorem Ie{f:Fm}(h:FmV d f):isPlace (d:Int) (dF f)=true:=by
 show(cD (dF f) (d:Int)&&((f.1::f.2).map D.int).all (kI (-99) 99))=true
 rw[tK h.1,all_map λ n hn=>Fx (yN h n hn).1 (yN h n hn).2];rfl
theorem JP{f:Fm}(h:FmS d f):isStart (dF f) (d:Int)=true:=by
 have hb:∀n∈f.1::f.2,-1000000000000000000000000000000<n/\n<1000000000000000000000000000000:=λ n hn=>by
  rcases List.mem_cons.mp hn with rfl | hn
  . exact h.2.1
  . exact h.2.2 n hn
 show(cD (dF f) (d:Int)&&((f.1::f.2).map D.int).all t8)=true
 rw[tK h.1,all_map λ n hn=>Ga (hb n hn).1 (hb n hn).2];rfl
theorem J4{pl:List Fm}(h:TpV ws d t pl):jr (.int t) (dP pl) ws (d:Int)=true:=by
 obtain⟨w,hw,hl,hf⟩:=h
 have ht:=(z0.mp hw).1
 have e:ws.getD ((t:Int)).toNat 0=w:=by simp[List.getD,hw]
 show((decide _&&decide _)&&(aZ (.tup (pl.map dF)) (ws.getD ((t:Int)).toNat 0) (ws.getD ((t:Int)).toNat 0)&&(pl.map dF).all (isPlace d)))=true
 rw[e,decide_eq_true (p:=(0:Int)≤t) (by omega),decide_eq_true (p:=(t:Int)<ws.length) (by omega),gk (by omega) (by omega),all_map λ f hf'=>Ie (hf f hf')];rfl
theorem Lk{x:Dd}(h:DdV ws d x):fu ws (d:Int) (dDd x)=true:=by
 obtain⟨h1,h2,h3,h4⟩:=h
 show(jr (.int x.tab) (dP x.pl) ws d&&(isStart (dF x.st) d&&(aZ (.tup (x.rds.map dRd)) 0 3&&(x.rds.map dRd).all (jT ws d))))=true
 rw[J4 h1,JP h2,gk (by omega) (by omega),all_map λ r hr=>?_]
 . rfl
 . obtain⟨a,c⟩:=h4 r hr
   show(pU r.fac&&jr (.int r.tab) (dP r.pl) ws d)=true
   rw[Ga (by omega) (by omega),J4 c];rfl
theorem yz{f:Fm}(h:BdF f i):bJ (dF f) (i:Int)=true:=by
 obtain⟨h1,h2,h3,h4⟩:=h
 show(cD (dF f) (i:Int)&&(decide _&&(decide _&&(f.2.map D.int).all small)))=true
 rw[tK h1,decide_eq_true h2,decide_eq_true h3,all_map λ n hn=>?_]
 . rfl
 . have:=h4 n hn
   show(decide _&&decide _)=true
   rw[decide_eq_true this.1,decide_eq_true this.2];rfl
theorem Io{ls:List Lp}(h:Lps ls):fU (.tup (ls.map dL))=true:=by
 obtain⟨h1,h2,h3⟩:=h
 show((decide _&&decide _)&&((ls.map dL).mapIdx λ i d=>ir d i).all id)=true
 rw[y6,decide_eq_true (by omega),decide_eq_true (by omega),List.all_eq_true.mpr λ b hb=>?_]
 . rfl
 . obtain⟨i,hi⟩:=List.getElem?_of_mem hb
   rw[List.getElem?_mapIdx,y7]at hi
   cases e:ls[i]? with
   | none=>rw[e]at hi;cases hi
   | some l=>
     rw[e]at hi
     cases hi
     show(bJ (dF l.1) i&&bJ (dF l.2) i)=true
     rw[yz (h3 i l e).1,yz (h3 i l e).2];rfl
theorem Mm{n:Ns}(h:NsV ws n):iy ws (dNs n)=true:=by
 obtain⟨h1,h2,h3,h5⟩:=h
 show(fU (.tup (n.lps.map dL))&&(aZ (.tup (n.dds.map dDd)) 1 4&&(n.dds.map dDd).all (fu ws ((n.lps.map dL).length:Int))))=true
 rw[Io h1,gk (by omega) (by omega),y6,all_map λ x hx=>Lk (h5 x hx)];rfl
theorem NsV.ok{n:Ns}(h:NsV ws n):HY n:=⟨h.1.1,h.1.fits,by have:=h.2.2.1;omega⟩
theorem Gk(h:WsA ws):eE (dWs ws)=true:=by
 obtain⟨w1,w2,w3⟩:=h
 show(aZ (.tup (ws.map D.int)) 1 3&&(ws.map D.int).all (kI 1 2))=true
 rw[gk (by omega) (by omega),all_map λ w hw=>Fx (w3 w hw).1 (w3 w hw).2];rfl
theorem Jp{p:Pg}(h:PgV p):fM (.tup (p.nss.map dNs)) p.ws=true:=by
 obtain⟨_,n1,n2,n3,n4⟩:=h
 show(aZ (.tup (p.nss.map dNs)) 1 3&&(p.nss.map dNs).all (iy p.ws))=true
 rw[gk (by omega) (by omega),all_map λ n hn=>Mm (n3 n hn)];rfl
def oU:Ct:=λ ds S W=>∃(k j:Nat),ds=[.loc k,.int j]/\Pen S k/\j≤10/\∀l S',BdF l.1 j->BdF l.2 j->Upd S k S'->Pen S' k->W (dL l) S'
theorem Hn(F:Fun Ω.K "_law_loop" "_law_loop" iI f fd)(N0:Ω.cd=none)(B:Bi Ω.mg Ω.K)(Cq23:Cal Ω "_law_take" 2 2 gr):Ok Ω 3 f fd yZ oU:=by
 refine au N0 (N:=Il) F (JK B Cq23) (by kernel_rfl!) ?_
 rintro ds S W ⟨k,j,rfl,hp,h1,hw⟩ hl
 have fin:∀(lo hi:Fm)(S':Store) o4,BdF lo j->BdF hi j->Upd S k S'->Pen S' k->(rK B Cq23).wp [some (.loc k),some (.int j),some (dF lo),some (dF hi),o4] S' {nx:=λ _ S1=>W .non S1,rt:=W}:=by
  intro lo hi S' o4 h1 h2 u p
  walk_at "b"
  exact hw (lo,hi) _ h1 h2 u p
 have three:∀(lo hi:Fm)(S':Store),BdF lo j->BdF hi j->Upd S k S'->Pen S' k->(qt B Cq23).wp [some (.loc k),some (.int j),some (dF lo),some (dF hi),none] S' {nx:=λ _ S1=>W .non S1,rt:=W}:=by
  intro lo hi S' h1' h2' u p
  walk_at "b"
  refine⟨λ q=>?_,λ q=>⟨λ z=>ff z,λ _=>fin lo hi S' none h1' h2' u p⟩⟩
  have q:=of_decide_eq_true q
  walk_at "b"
  refine aJ p (by decide) (by decide) λ v S3 v0 v1 u3 p3=>?_
  have u3':=u.trans u3
  walk_at "b"
  refine⟨λ _=>?_,λ _=>fin lo hi S3 none h1' h2' u3' p3⟩
  walk_at "b"
  refine aJ p3 q (by omega) λ a S4 a0 a1 u4 p4=>?_
  have u4':=u3'.trans u4
  walk_at "b"
  refine aJ p4 (by decide) (by decide) λ x S5 x0 x1 u5 p5=>?_
  have u5':=u4'.trans u5
  walk_at "b"
  have c1:=tB (D.int hi.1::hi.2.map D.int) none (some (1+a))
  have c2:=tB (D.int hi.1::hi.2.map D.int) (some (1+a+1)) none
  obtain⟨l1,l2,l3,l4⟩:=h2'
  rw[List.length_cons,y6,l1]at c1 c2
  refine⟨by rw[List.length_singleton];omega,?_⟩
  walk_at "b"
  rw[yD (by omega),Jc (by omega)]
  have e1:(1+a).toNat=a.toNat+1:=by omega
  have e2:(1+a+1).toNat=a.toNat+2:=by omega
  rw[e1,e2]
  have e3:(D.int hi.1::hi.2.map D.int).take (a.toNat+1)++[D.int (x-2)]++(D.int hi.1::hi.2.map D.int).drop (a.toNat+2)=D.int hi.1::(hi.2.take a.toNat++[x-2]++hi.2.drop (a.toNat+1)).map D.int:=by
   rw[←Jr];rfl
  rw[e3]
  refine hw (lo,(hi.1,hi.2.take a.toNat++[x-2]++hi.2.drop (a.toNat+1))) S5 h1' ⟨?_,l2,l3,λ n hn=>?_⟩ u5' p5
  . simp;omega
  . rcases List.mem_append.mp hn with hn | hn
    . rcases List.mem_append.mp hn with hn | hn
      . exact l4 n (List.mem_of_mem_take hn)
      . have:n=x-2:=by simpa using hn
        omega
    . exact l4 n (List.mem_of_mem_drop hn)
 have two:∀(lo:Fm)(S':Store),BdF lo j->Upd S k S'->Pen S' k->(qQ B Cq23).wp [some (.loc k),some (.int j),some (dF lo),none,none] S' {nx:=λ _ S1=>W .non S1,rt:=W}:=by
  rintro⟨a,fs⟩ S' ⟨l1,l2,l3,l4⟩ u p
  dsimp only at l1 l2 l3 l4
  walk_at "b"
  refine⟨_,dz (j:=0) rfl,?_⟩
  walk_at "b"
  refine aJ p (by decide) (by decide) λ v S3 v0 v1 u3 p3=>?_
  have u3':=u.trans u3
  walk_at "b"
  have e1:cutD (D.int a::fs.map D.int) (some 1) none=fs.map D.int:=eH _ _
  dsimp only
  rw[e1]
  refine⟨by simp;omega,?_⟩
  generalize hm:(if a+v<9 then a+v else 9)=m
  have hmin: -9≤m/\m≤9:=by rw[←hm];split<;>omega
  exact three (a,fs) (m,fs) _ ⟨l1,l2,l3,l4⟩ ⟨l1,hmin.1,hmin.2,l4⟩ u3' p3
 walk_at "b"
 refine aJ hp (by decide) (by decide) λ v S1 v0 v1 u1 p1=>?_
 walk_at "b"
 refine⟨⟨by omega,by omega⟩,eY (λ _ y=>∃n:Int,y=.int n/\(-2≤n/\n≤2)) (λ S'=>Upd S k S'/\Pen S' k) (by rw[aC];omega) ⟨u1,p1⟩ ?_ ?_⟩
 . rintro i d S' hd ⟨u,p⟩ R hR
   walk_at "b"
   refine aJ p (by decide) (by decide) λ w S2 w0 w1 u2 p2=>?_
   walk_at "b"
   exact hR _ _ ⟨_,rfl,by omega,by omega⟩ ⟨u.trans u2,p2⟩
 rintro ys S2 hlen hys ⟨u2,p2⟩
 obtain⟨fs,rfl,hf⟩:=nj hys
 rw[aC,y6]at hlen
 have hlo:BdF (v-9,fs) j:=⟨by simpa using hlen,by show-9≤v-9;omega,by show v-9≤9;omega,hf⟩
 walk_at "b"
 refine aJ p2 (by decide) (by decide) λ way S3 w0 w1 u3 p3=>?_
 have u3:=u2.trans u3
 walk_at "b"
 refine⟨λ _=>?_,λ _=>two (v-9,fs) S3 hlo u3 p3⟩
 walk_at "b"
 refine aJ p3 (by decide) (by decide) λ v' S4 v0' v1' u4 p4=>?_
 walk_at "b"
 refine⟨⟨by omega,by omega⟩,eY (λ _ y=>∃n:Int,y=.int n/\(-2≤n/\n≤2)) (λ S'=>Upd S k S'/\Pen S' k) (by rw[aC];omega) ⟨u3.trans u4,p4⟩ ?_ ?_⟩
 . rintro i d S' hd ⟨u,p⟩ R hR
   walk_at "b"
   refine aJ p (by decide) (by decide) λ w S2 w0 w1 u2 p2=>?_
   walk_at "b"
   exact hR _ _ ⟨_,rfl,by omega,by omega⟩ ⟨u.trans u2,p2⟩
 rintro ys S5 hlen' hys' ⟨u5,p5⟩
 obtain⟨gs,rfl,hg⟩:=nj hys'
 rw[aC,y6]at hlen'
 walk_at "b"
 exact hw ((v-9,fs),(v'-9,gs)) _ hlo ⟨by simpa using hlen',by show-9≤v'-9;omega,by show v'-9≤9;omega,hg⟩ u5 p5
def t7:Ct:=λ ds S W=>∃k:Nat,ds=[.loc k,.int 9]/\Pen S k/\∀n S',-1000000000000000000000000000000<n->n<1000000000000000000000000000000->Upd S k S'->Pen S' k->W (.int n) S'
theorem Dn(F:Fun Ω.K "_law_great" "_law_great" gC f fd)(N0:Ω.cd=none)(Cq23:Cal Ω "_law_take" 2 2 gr):Ok Ω 3 f fd v7 t7:=by
 refine au N0 (N:=Hq) F (G9 Cq23) (by kernel_rfl!) ?_
 rintro ds S W ⟨k,rfl,hp,hw⟩ hl
 walk_at "b"
 refine aJ hp (by decide) (by decide) λ v S1 v0 v1 u1 p1=>?_
 walk_at "b"
 by_cases hv:v=0
 . rw[decide_eq_false (by omega)]
   walk_at "b"
   refine aJ p1 (by decide) (by decide) λ a S2 a0 a1 u2 p2=>?_
   have u2:=u1.trans u2
   have h9:(10:Int) ^ Int.toNat 9=1000000000:=by decide
   have h21:(10:Int) ^ Int.toNat 21=1000000000000000000000:=by decide
   rw[h9]at a1
   walk_at "n"
   refine⟨⟨by decide,by decide,by decide⟩,?_⟩
   walk_at "n"
   refine⟨.inl ⟨by omega,by omega⟩,?_⟩
   walk_at "b"
   refine aJ p2 (by decide) (by decide) λ b S3 b0 b1 u3 p3=>?_
   have u3:=u2.trans u3
   rw[h9]at b1
   walk_at "b"
   refine aJ p3 (by decide) (by decide) λ c S4 c0 c1 u4 p4=>?_
   have u4:=u3.trans u4
   have hc:c=0∨c=1:=by omega
   walk_at "n"
   refine⟨.inl ⟨by omega,by omega⟩,?_⟩
   walk_at "n"
   refine⟨.inr ⟨by omega,by omega⟩,?_⟩
   rw[h21]
   rcases hc with rfl | rfl
   . exact hw _ _ (by omega) (by omega) u4 p4
   . exact hw _ _ (by omega) (by omega) u4 p4
 . rw[decide_eq_true (by omega)]
   walk_at "b"
   refine aJ p1 (by decide) (by decide) λ a S2 a0 a1 u2 p2=>?_
   walk_at "b"
   exact hw _ _ (by omega) (by omega) (u1.trans u2) p2
def ql:Ct:=λ ds S W=>∃(k d:Nat),ds=[.loc k,.int d,.int 99]/\Pen S k/\d≤10/\∀f S',FmV d f->Upd S k S'->Pen S' k->W (dF f) S'
theorem Gy(F:Fun Ω.K "_law_form" "_law_form" ig f fd)(N0:Ω.cd=none)(B:Bi Ω.mg Ω.K)(Cq23:Cal Ω "_law_take" 2 2 gr):Ok Ω 3 f fd zj ql:=by
 refine au N0 (N:=Iw) F (Jm B Cq23) (by kernel_rfl!) ?_
 rintro ds S W ⟨k,d,rfl,hp,hd,hw⟩ hl
 have two:∀(z:Int)(S':Store),2≤z->z≤99->Upd S k S'->Pen S' k->(rQ B Cq23).wp [some (.loc k),some (.int d),some (.int z)] S' {nx:=λ _ S1=>W .non S1,rt:=W}:=by
  intro z S' z2 z9 u p
  walk_at "b"
  refine⟨⟨by omega,by omega⟩,eY (λ _ y=>∃n:Int,y=.int n/\(-99≤n/\n≤99)) (λ S'=>Upd S k S'/\Pen S' k) (by rw[aC];omega) ⟨u,p⟩ ?_ ?_⟩
  . rintro i e S' he ⟨u,p⟩ R hR
    walk_at "b"
    refine aJ p (by omega) (by omega) λ w S2 w0 w1 u2 p2=>?_
    walk_at "b"
    exact hR _ _ ⟨_,rfl,by omega,by omega⟩ ⟨u.trans u2,p2⟩
  rintro ys S' hlen hys ⟨u,p⟩
  obtain⟨fs,rfl,hf⟩:=nj hys
  rw[aC,y6]at hlen
  cases fs with
  | nil=>simp at hlen
  | cons a fs=>
    walk_at "b"
    exact hw (a,fs) _ ⟨by simp at hlen;show fs.length=d;omega,hf a x6,λ n hn=>hf n (y9 _ hn)⟩ u p
 walk_at "b"
 refine aJ hp (by decide) (by decide) λ v S1 v0 v1 u1 p1=>?_
 walk_at "n"
 by_cases hv:v=0
 . rw[decide_eq_true hv]
   walk_at "n"
   exact⟨λ _=>two 2 S1 (by decide) (by decide) u1 p1,λ z=>tf z⟩
 . rw[decide_eq_false hv]
   exact⟨λ z=>ff z,λ _=>two 99 S1 (by decide) (by decide) u1 p1⟩
theorem Ke{t:Int}(hw:WsA ws)(h0:0≤t)(h1:t<(ws.map D.int).length):∃w:Int,atI (ws.map D.int) t=some (.int w)/\ws[t.toNat]? =some w/\1≤w/\w≤2:=by
 obtain⟨x,a,b⟩:=Hm h0 h1
 rw[y7]at b
 cases e:ws[t.toNat]? with
 | none=>rw[e]at b;cases b
 | some w=>rw[e]at b;cases b;exact⟨w,a,rfl,hw.2.2 w (y3 e)⟩
def ou:Ct:=λ ds S W=>∃(k d:Nat) (ws:List Int),ds=[.loc k,dWs ws,.int d]/\Pen S k/\flat S/\d≤10/\WsA ws/\∀x S',DdV ws d x->Upd S k S'->Pen S' k->flat S'->W (dDd x) S'
def Ft(S:Store)(k d:Nat)(ws:List Int)(t:Int)(pl:List Fm)(st:Fm)(i:Nat)(Γ':Gam)(T:Store):Prop:=∃S2 rds o6 o7,T=S2++[List.map dRd rds]/\Upd S k S2/\Pen S2 k/\rds.length=i/\(∀r∈rds,RdV ws d r)/\Γ'=[some (.loc k),some (dWs ws),some (.int d),some (.int t),some (.tup (pl.map dF)),some (dF st),some (.loc S.length),o6,o7]
theorem Cz{l:List D}(h:n=S.length):(S++[l])[n]? =some l:=by subst h;exact aM _ _
theorem JM{l l':List D}(h:n=S.length):(S++[l]).set n l'=S++[l']:=by subst h;exact dh _ _ _
theorem G5(F:Fun Ω.K "_law_deed" "_law_deed" iH f fd)(N0:Ω.cd=none)(B:Bi Ω.mg Ω.K)(Cq23:Cal Ω "_law_take" 2 2 gr)(Cq6:Cal Ω "_law_great" 3 2 t7)(Cq4:Cal Ω "_law_form" 3 3 ql):Ok Ω 4 f fd zT ou:=by
 refine au N0 (N:=Im) F (Bl.drp (JW B Cq23 Cq6 Cq4)) (by kernel_rfl!) ?_
 rintro ds S W ⟨k,d,ws,rfl,hp,hS,hd,hws,hw⟩ hl
 obtain⟨hw1,hw2,hw3⟩:=id hws
 have hlen:((ws.map D.int).length:Int)=(ws.length:Int):=by rw[y6]
 walk_at "b"
 refine aJ hp (by rw[hlen];omega) (by rw[hlen];omega) λ t S1 t0 t1 u1 p1=>?_
 obtain⟨w,g1,g2,gw1,gw2⟩:=Ke hws t0 t1
 walk_at "n"
 refine⟨_,g1,?_⟩
 walk_at "b"
 refine⟨⟨by omega,by omega⟩,eY (λ _ y=>∃f,y=dF f/\FmV d f) (λ S'=>Upd S k S'/\Pen S' k) (by rw[aC];omega) ⟨u1,p1⟩ ?_ ?_⟩
 . rintro i e S' he ⟨u,p⟩ R hR
   walk_at "b"
   exact⟨rfl,k,d,rfl,p,hd,λ f S4 hf u4 p4=>hR _ _ ⟨f,rfl,hf⟩ ⟨u.trans u4,p4⟩⟩
 rintro ys S2 hyl hys ⟨u2,p2⟩
 obtain⟨pl,rfl,hpl⟩:=rY hys
 rw[aC,y6]at hyl
 walk_at "b"
 refine⟨⟨by omega,by omega⟩,eY (λ _ y=>∃n:Int,y=.int n/\(-1000000000000000000000000000000<n/\n<1000000000000000000000000000000)) (λ S'=>Upd S k S'/\Pen S' k) (by rw[aC];omega) ⟨u2,p2⟩ ?_ ?_⟩
 . rintro i e S' he ⟨u,p⟩ R hR
   walk_at "b"
   exact⟨rfl,k,rfl,p,λ n S4 h1 h2 u4 p4=>hR _ _ ⟨n,rfl,h1,h2⟩ ⟨u.trans u4,p4⟩⟩
 rintro ys S2 hyl2 hys2 ⟨u2,p2⟩
 obtain⟨fs,rfl,hfs⟩:=nj hys2
 rw[aC,y6]at hyl2
 obtain⟨st,hst,est⟩:∃st:Fm,FmS d st/\D.tup (fs.map D.int)=dF st:=by
  cases fs with
  | nil=>simp at hyl2
  | cons a fs=>exact⟨(a,fs),⟨by simp at hyl2;show fs.length=d;omega,hfs a x6,λ n hn=>hfs n (y9 _ hn)⟩,rfl⟩
 walk_at "b"
 rw[est]
 refine aJ (p2.app _) (by decide) (by decide) λ n T n0 n1 u5 p5=>?_
 obtain⟨S5,rfl,u5,p5⟩:=u5.split p2
 have u5:=u2.trans u5
 walk_at "n"
 refine⟨⟨by omega,by omega⟩,bG ⟨Ft S k d ws t pl st,⟨S5,[],none,none,rfl,u5,p5,rfl,λ r h=>(by cases h),by rw[←u2.len];rfl⟩,?_,?_⟩⟩
 . rintro i e Γ' T he ⟨S6,rds,o6,o7,rfl,u6,p6,hrl,hrd,rfl⟩
   obtain⟨hi,rfl⟩:=fP he
   suffices body:∀Wf:DL.Fin,(∀G T,Ft S k d ws t pl st (i+1) G T->Wf.nx G T)->(oh B Cq23 Cq6 Cq4).wp [some (.loc k),some (dWs ws),some (.int d),some (.int t),some (.tup (pl.map dF)),some (dF st),some (.loc S.length),some (.int (0+(i:Int))),o7] (S6++[rds.map dRd]) Wf by
    refine rm ?_
    simp only[List.set_cons_succ,List.set_cons_zero]
    exact body _ λ G T h=>h
   intro Wf hnx
   walk_at "b"
   refine aJ (p6.app _) (by rw[hlen];omega) (by rw[hlen];omega) λ o T7 o0 o1 u7 p7=>?_
   obtain⟨S7,rfl,u7,p7⟩:=u7.split p6
   have u7:=u6.trans u7
   obtain⟨w',g1',g2',gw1',gw2'⟩:=Ke hws o0 o1
   walk_at "b"
   refine⟨rfl,k,rfl,p7.app _,λ fc T8 f0 f1 u8 p8=>?_⟩
   obtain⟨S8,rfl,u8,p8⟩:=u8.split p7
   have u8:=u7.trans u8
   walk_at "n"
   refine⟨_,g1',?_⟩
   walk_at "b"
   refine⟨⟨by omega,by omega⟩,eY (λ _ y=>∃f,y=dF f/\FmV d f) (λ T=>∃S',T=S'++[rds.map dRd]/\Upd S k S'/\Pen S' k) (by rw[aC];omega) ⟨S8,rfl,u8,p8⟩ ?_ ?_⟩
   . rintro j e T he ⟨S',rfl,u,p⟩ R hR
     walk_at "b"
     refine⟨rfl,k,d,rfl,p.app _,hd,λ f T4 hf u4 p4=>?_⟩
     obtain⟨S5,rfl,u5,p5⟩:=u4.split p
     exact hR _ _ ⟨f,rfl,hf⟩ ⟨S5,rfl,u.trans u5,p5⟩
   rintro ys T hyl' hys' ⟨S10,rfl,u10,p10⟩
   obtain⟨pl',rfl,hpl'⟩:=rY hys'
   rw[aC,y6]at hyl'
   walk_at "b"
   refine⟨_,Cz u10.len.symm,by simp;omega,?_⟩
   rw[JM u10.len.symm]
   obtain⟨on,rfl⟩:∃on:Nat,o=(on:Int):=⟨o.toNat,by omega⟩
   refine hnx _ _ ⟨S10,rds++[⟨fc,on,pl'⟩],_,_,by rw[List.map_append];rfl,u10,p10,by simp[hrl],λ r hr=>?_,rfl⟩
   rcases List.mem_append.mp hr with hr | hr
   . exact hrd r hr
   . have:r=⟨fc,on,pl'⟩:=by simpa using hr
     subst this
     exact⟨⟨f0,f1⟩,w',by simpa using g2',by show(pl'.length:Int)=w';omega,hpl'⟩
 . rintro Γ' T ⟨S6,rds,o6,o7,rfl,u6,p6,hrl,hrd,rfl⟩
   rw[aC]at hrl
   obtain⟨tn,rfl⟩:∃tn:Nat,t=(tn:Int):=⟨t.toNat,by omega⟩
   walk_at "b"
   have u7:=u6
   have p7:=p6
   refine⟨_,Cz u7.len.symm,?_⟩
   walk_at "b"
   have ok:DdV ws d ⟨tn,pl,st,rds⟩:=⟨⟨w,by simpa using g2,by show(pl.length:Int)=w;omega,hpl⟩,hst,by show rds.length≤3;omega,hrd⟩
   exact .inr ⟨[_],S6,rfl,by rw[u7.len];exact y8 _,vV ⟨tn,pl,st,rds⟩,u7.flat hS,hw ⟨tn,pl,st,rds⟩ _ ok u7 p7 (u7.flat hS)⟩
def pF:Ct:=λ ds S W=>∃k:Nat,ds=[.loc k]/\Pen S k/\flat S/\∀p S',PgV p->Upd S k S'->Pen S' k->flat S'->W (dPg p) S'
theorem Qm{ys:List D}(h1:1≤ys.length)(h3:ys.length≤3)(h:∀(i:Nat)(y:D),ys[i]? =some y->∃l:Lp,y=dL l/\BdF l.1 i/\BdF l.2 i):∃ls:List Lp,ys=ls.map dL/\Lps ls:=by
 have :∀(ys:List D)(k:Nat),(∀(i:Nat)(y:D),ys[i]? =some y->∃l:Lp,y=dL l/\BdF l.1 (i+k)/\BdF l.2 (i+k))->∃ls:List Lp,ys=ls.map dL/\∀(i:Nat)(l:Lp),ls[i]? =some l->BdF l.1 (i+k)/\BdF l.2 (i+k):=by
  intro ys
  induction ys with
  | nil=>exact λ k _=>⟨[],rfl,λ i l h=>by simp at h⟩
  | cons y ys ih=>
    intro k h
    obtain⟨l,rfl,hl⟩:=h 0 y rfl
    obtain⟨ls,rfl,hls⟩:=ih (k+1) λ i y hy=>by
     have:=h (i+1) y (by simpa using hy)
     rw[show i+1+k=i+(k+1) by omega]at this
     exact this
    refine⟨l::ls,rfl,λ i l' h'=>?_⟩
    cases i with
    | zero=>simp at h';subst h';exact hl
    | succ i=>
      have:=hls i l' (by simpa using h')
      rw[show i+1+k=i+(k+1) by omega];exact this
 obtain⟨ls,rfl,hls⟩:=this ys 0 h
 rw[y6]at h1 h3
 exact⟨ls,rfl,h1,h3,hls⟩
def lpV(v:Int):List Lp:=[((0,[]),(v,[]))]
theorem Qt{v:Int}(h0:0≤v)(h9:v≤9):Lps (lpV v):=by
 refine⟨y8 _,by show 1≤3;decide,λ i l h=>?_⟩
 match i,h with
 | 0,h=>
   cases h
   exact⟨⟨rfl,by show(-9:Int)≤0;decide,by show(0:Int)≤9;decide,λ n h=>(by cases h)⟩,rfl,by show-9≤v;omega,h9,λ n h=>(by cases h)⟩
 | i+1,h=>simp[lpV]at h
theorem Ks{v:Int}(h0:0≤v):(cnt (lpV v)).length=v.toNat:=by
 have e:cnt (lpV v)=aD (0,[]) (v,[]) [[]]:=rfl
 rw[e]
 unfold aD
 simp only[List.flatMap_cons,List.flatMap_nil,List.append_nil,eU]
 simp[atC,comesTo]
theorem G3(nss:List Ns)(n:Ns):many (nss++[n])=many nss+((cnt n.lps).length:Int)*(n.dds.length:Int):=by
 unfold many
 rw[List.map_append,List.sum_append];simp
def JX(S:Store)(k:Nat)(ws:List Int)(i:Nat)(Γ':Gam)(T:Store):Prop:=∃S2 nss left o4 o5 o6,T=S2++[List.map dNs nss]/\Upd S k S2/\Pen S2 k/\nss.length=i/\(∀n∈nss,NsV ws n)/\0≤left/\many nss+left=60/\Γ'=[some (.loc k),some (dWs ws),some (.loc S.length),some (.int left),o4,o5,o6]
theorem yS(F:Fun Ω.K "_law_program" "_law_program" dN f fd)(N0:Ω.cd=none)(B:Bi Ω.mg Ω.K)(Cq23:Cal Ω "_law_take" 2 2 gr)(Cq7:Cal Ω "_law_loop" 3 2 oU)(Cq8:Cal Ω "_law_many" 2 1 vq)(Cq3:Cal Ω "_law_deed" 4 3 ou):Ok Ω 5 f fd nT pF:=by
 refine au N0 (N:=Ax) F (Bl.drp (Bh B Cq23 Cq7 Cq8 Cq3)) (by kernel_rfl!) ?_
 rintro ds S W ⟨k,rfl,hp,hS,hw⟩ hl
 walk_at "b"
 refine aJ hp (by decide) (by decide) λ v S1 v0 v1 u1 p1=>?_
 walk_at "b"
 refine⟨⟨by omega,by omega⟩,eY (λ _ y=>∃n:Int,y=.int n/\(1≤n/\n≤2)) (λ S'=>Upd S k S'/\Pen S' k) (by rw[aC];omega) ⟨u1,p1⟩ ?_ ?_⟩
 . rintro i d S' hd ⟨u,p⟩ R hR
   walk_at "b"
   refine aJ p (by decide) (by decide) λ w S2 w0 w1 u2 p2=>?_
   walk_at "b"
   exact hR _ _ ⟨_,rfl,by omega,by omega⟩ ⟨u.trans u2,p2⟩
 rintro ys S2 hyl hys ⟨u2,p2⟩
 obtain⟨ws,rfl,hws⟩:=nj hys
 rw[aC,y6]at hyl
 have hW:WsA ws:=⟨by omega,by omega,hws⟩
 walk_at "b"
 refine aJ (p2.app _) (by decide) (by decide) λ mv T m0 m1 u3 p3=>?_
 obtain⟨S3,rfl,u3,p3⟩:=u3.split p2
 have u3:=u2.trans u3
 walk_at "n"
 refine⟨⟨by omega,by omega⟩,bG ⟨JX S k ws,⟨S3,[],60,none,none,none,rfl,u3,p3,rfl,λ r h=>(by cases h),by decide,by decide,by rw[←u2.len];rfl⟩,?_,?_⟩⟩
 . rintro i e Γ' T he ⟨S4,nss,left,o4,o5,o6,rfl,u4,p4,hnl,hns,l0,l60,rfl⟩
   obtain⟨hi,rfl⟩:=fP he
   have hm0:0≤many nss:=by
    unfold many
    have:∀l:List Int,(∀x∈l,0≤x)->0≤l.sum:=by
     intro l
     induction l with
     | nil=>intro _;simp
     | cons x l ih=>
       intro h
       have:=h x x6
       have:=ih λ y hy=>h y (y9 _ hy)
       rw[List.sum_cons];omega
    refine this _ λ x hx=>?_
    obtain⟨n,_,rfl⟩:=List.mem_map.mp hx
    exact Int.mul_nonneg (by omega) (by omega)
   suffices body:∀Wf:DL.Fin,(∀G T,JX S k ws (i+1) G T->Wf.nx G T)->(jU B Cq23 Cq7 Cq8 Cq3).wp [some (.loc k),some (dWs ws),some (.loc S.length),some (.int left),some (.int (0+(i:Int))),o5,o6] (S4++[nss.map dNs]) Wf by
    refine rm ?_
    simp only[List.set_cons_succ,List.set_cons_zero]
    exact body _ λ G T h=>h
   intro Wf hnx
   have fl:∀{S':Store},Upd S k S'->flat (S'++[nss.map dNs]):=λ u=>Al (u.flat hS) λ l h=>by rw[List.mem_singleton.mp h];exact bC mH _
   have rest:∀(ls:List Lp)(mn:Nat)(S':Store),Upd S k S'->Pen S' k->Lps ls->1≤mn->mn≤4->((gone ls).length:Int)*(mn:Int)≤left->
    (iw B Cq23 Cq7 Cq8 Cq3).wp [some (.loc k),some (dWs ws),some (.loc S.length),some (.int left),some (.int (0+(i:Int))),some (.tup (ls.map dL)),some (.int mn)] (S'++[nss.map dNs]) Wf:=by
    intro ls mn S' u p hL m1 m4 hle
    have hgl:=oZ ls ls.length (y8 _)
    rw[List.take_length]at hgl
    have l3:=hL.2.1
    have hfew:(gone ls).length≤300:=by
     have:((gone ls).length:Int)*1≤((gone ls).length:Int)*(mn:Int):=Int.mul_le_mul_of_nonneg_left (by omega) (by omega)
     omega
    have hge:=zc hL hfew
    have hpos:0≤((gone ls).length:Int)*(mn:Int):=Int.mul_nonneg (by omega) (by omega)
    walk_at "b"
    refine⟨rfl,ls,rfl,hL,fl u,?_⟩
    walk_at "n"
    refine⟨.inl ⟨by omega,by omega⟩,?_⟩
    walk_at "b"
    refine⟨⟨by omega,by omega⟩,eY (λ _ y=>∃x,y=dDd x/\DdV ws ls.length x) (λ T=>∃S',T=S'++[nss.map dNs]/\Upd S k S'/\Pen S' k) (by rw[aC];omega) ⟨S',rfl,u,p⟩ ?_ ?_⟩
    . rintro j e T he ⟨S5,rfl,u5,p5⟩ R hR
      walk_at "b"
      rw[y6]
      refine⟨rfl,k,ls.length,ws,rfl,p5.app _,fl u5,by omega,hW,λ x T hx u6 p6 f6=>?_⟩
      obtain⟨S6,rfl,u6,p6⟩:=u6.split p5
      exact hR _ _ ⟨x,rfl,hx⟩ ⟨S6,rfl,u5.trans u6,p6⟩
    rintro ys T hyl hys ⟨S7,rfl,u7,p7⟩
    obtain⟨dds,rfl,hdds⟩:=rY hys
    rw[aC,y6]at hyl
    have hdl:dds.length=mn:=by omega
    walk_at "b"
    refine⟨_,by rw[←u7.len];exact aM _ _,by simp;omega,?_⟩
    rw[←u7.len,dh]
    refine hnx _ _ ⟨S7,nss++[⟨ls,dds⟩],left-((gone ls).length:Int)*(mn:Int),some (.int (0+(i:Int))),some (.tup (ls.map dL)),some (.int mn),by rw[List.map_append];rfl,u7,p7,by simp[hnl],λ r hr=>?_,by omega,?_,by rw[←u7.len];rfl⟩
    . rcases List.mem_append.mp hr with hr | hr
      . exact hns r hr
      . have:r=⟨ls,dds⟩:=by simpa using hr
        subst this
        exact⟨hL,by show 1≤dds.length;omega,by show dds.length≤4;omega,hdds⟩
    . rw[G3]
      show many nss+((cnt ls).length:Int)*(dds.length:Int)+_=60
      rw[hge,hdl];omega
   walk_at "b"
   refine aJ (p4.app _) (by decide) (by decide) λ nv T n0 n1 u5 p5=>?_
   obtain⟨S5,rfl,u5,p5⟩:=u5.split p4
   have u5:=u4.trans u5
   walk_at "b"
   refine⟨⟨by omega,by omega⟩,eY (λ i y=>∃l:Lp,y=dL l/\BdF l.1 i/\BdF l.2 i) (λ T=>∃S',T=S'++[nss.map dNs]/\Upd S k S'/\Pen S' k) (by rw[aC];omega) ⟨S5,rfl,u5,p5⟩ ?_ ?_⟩
   . rintro j e T he ⟨S6,rfl,u6,p6⟩ R hR
     obtain⟨hj,rfl⟩:=fP he
     have e2:(0:Int)+(j:Int)=(j:Int):=by omega
     rw[e2]
     walk_at "b"
     refine⟨rfl,k,j,rfl,p6.app _,by omega,λ l T a b u7 p7=>?_⟩
     obtain⟨S7,rfl,u7,p7⟩:=u7.split p6
     exact hR _ _ ⟨l,rfl,a,b⟩ ⟨S7,rfl,u6.trans u7,p7⟩
   rintro ys T hlen hys ⟨S6,rfl,u6,p6⟩
   rw[aC]at hlen
   obtain⟨ls,rfl,hL⟩:=Qm (by omega) (by omega) hys
   walk_at "b"
   refine aJ (p6.app _) (by decide) (by decide) λ dv T d0 d1 u7 p7=>?_
   obtain⟨S7,rfl,u7,p7⟩:=u7.split p6
   have u7:=u6.trans u7
   obtain⟨mn,hmn⟩:∃n:Nat,1+dv=(n:Int):=⟨(1+dv).toNat,by omega⟩
   walk_at "b"
   rw[hmn]
   refine⟨rfl,ls,rfl,hL,fl u7,?_⟩
   have hgl0:=oZ ls ls.length (y8 _)
   rw[List.take_length]at hgl0
   walk_at "n"
   refine⟨.inl ⟨by omega,by omega⟩,?_⟩
   walk_at "n"
   refine⟨λ q=>?_,λ q=>?_⟩
   . have hdv:0≤left/(mn:Int):=Int.ediv_nonneg l0 (by omega)
     walk_at "b"
     generalize hm:(if left/(mn:Int)<9 then left/(mn:Int)else 9)=m
     have hm1:0≤m/\m≤9/\m≤left/(mn:Int):=by rw[←hm];split<;>omega
     refine aJ (p7.app _) (by omega) (by omega) λ x T x0 x1 u8 p8=>?_
     obtain⟨S8,rfl,u8,p8⟩:=u8.split p7
     have u8:=u7.trans u8
     have hV:=Qt (v:=x) x0 (by omega)
     have hc:=Ks (v:=x) x0
     have hgl:(gone (lpV x)).length≤300:=by
      have e:=kh hV (lpV x).length (y8 _)
      rw[List.take_length]at e
      rw[e,List.length_take,hc];omega
     have hge:=zc hV hgl
     walk_at "b"
     refine rest (lpV x) mn S8 u8 p8 hV (by omega) (by omega) ?_
     rw[hge,hc,Int.toNat_of_nonneg x0]
     have h1:x*(mn:Int)≤left/(mn:Int)*(mn:Int):=Int.mul_le_mul_of_nonneg_right (by omega) (by omega)
     have h2:left/(mn:Int)*(mn:Int)≤left:=Int.ediv_mul_le _ (by omega)
     omega
   . have q:=of_decide_eq_false q
     exact rest ls mn S7 u7 p7 hL (by omega) (by omega) (by omega)
 . rintro Γ' T ⟨S4,nss,left,o4,o5,o6,rfl,u4,p4,hnl,hns,l0,l60,rfl⟩
   rw[aC]at hnl
   walk_at "b"
   refine⟨_,by rw[←u4.len];exact aM _ _,?_⟩
   walk_at "b"
   exact .inr ⟨[_],S4,rfl,by rw[u4.len];exact y8 _,jd ⟨ws,nss⟩,u4.flat hS,hw ⟨ws,nss⟩ _ ⟨hW,by show 1≤nss.length;omega,by show nss.length≤3;omega,hns,by show many nss≤60;omega⟩ u4 p4 (u4.flat hS)⟩
def tV:XCt:=λ ds S W WE=>∃x y,ds=[x,y]/\flat S/\(eE x=false->WE "NoProgram" S)/\(eE x=true->∃ws,x=dWs ws/\(fM y ws=false->WE "NoProgram" S)/\(fM y ws=true->∃nss,y=.tup (List.map dNs nss)/\nss.length≤1000/\(∀n∈nss,HY n)/\(60<many nss->WE "TooMany" S)/\(many nss≤60->W (.tup [x,y]) S)))
theorem rP(F:Fun Ω.K "program_of" "program_of" cj f fd)(N0:Ω.cd=none)(B:Bi Ω.mg Ω.K)(E:ExF Ω.mg Ω.K XL XT)(Cq46:Cal Ω "is_widths" 2 1 pA)(Cq37:Cal Ω "is_nests" 9 2 tU)(Cq49:Cal Ω "number_of_steps" 4 1 zY):OkX Ω 10 f fd jM tV:=by
 refine Rv N0 (N:=tW) F (tG B E Cq46 Cq37 Cq49) (by kernel_rfl!) ?_
 rintro ds S W WE ⟨x,y,rfl,hS,h1,h2⟩ hl
 walk_at "b"
 refine⟨rfl,_,rfl,?_⟩
 cases hx:eE x with
 | false=>
   walk_at "b"
   exact h1 hx
 | true=>
   obtain⟨ws,rfl,h3,h4⟩:=h2 hx
   have hws:=GX hx
   walk_at "b"
   refine⟨rfl,_,_,rfl,hws,?_⟩
   cases hy:fM y ws with
   | false=>
     walk_at "b"
     exact h3 hy
   | true=>
     obtain⟨nss,rfl,hz,hok,h5,h6⟩:=h4 hy
     walk_at "b"
     refine⟨rfl,_,rfl,hz,hok,hS,?_⟩
     walk_at "b"
     by_cases h60:60<many nss
     . rw[decide_eq_true h60]
       walk_at "b"
       exact h5 h60
     . rw[decide_eq_false h60]
       walk_at "b"
       exact h6 (by omega)
theorem s44:Str.ofString ","=mkS [44]:=by decide+kernel
theorem s64:Str.ofString "@"=mkS [64]:=by decide+kernel
theorem s32:Str.ofString " "=mkS [32]:=by decide+kernel
theorem s10:Str.ofString "\n"=mkS [10]:=by decide+kernel
theorem s45:Str.ofString "-"=mkS [45]:=by decide+kernel
theorem s00:Str.ofString ""=mkS []:=by decide+kernel
def jj(n:Int):Prop:=n.natAbs<10 ^ 30
def FmB(f:Fm):Prop:=f.2.length≤3/\∀n∈f.1::f.2,jj n
def PlB(pl:List Fm):Prop:=pl.length≤2/\∀f∈pl,FmB f
def RdB(r:Rd):Prop:=jj r.fac/\r.tab<3/\PlB r.pl
def DdB(x:Dd):Prop:=x.tab<3/\PlB x.pl/\FmB x.st/\x.rds.length≤3/\∀r∈x.rds,RdB r
def LpB(l:Lp):Prop:=FmB l.1/\FmB l.2
def NsB(n:Ns):Prop:=n.lps.length≤3/\(∀l∈n.lps,LpB l)/\n.dds.length≤4/\∀x∈n.dds,DdB x
def PgB(p:Pg):Prop:=(p.ws.length≤3/\∀w∈p.ws,jj w)/\p.nss.length≤3/\∀n∈p.nss,NsB n
def fS(f:Fm):Str:=Txt.join "," ((f.1::f.2).map nS)
def lt3:List Str:=["a","b","c"]
def ltS(t:Nat):Str:=mkS [97+t]
def cS(t:Nat)(pl:List Fm):Str:=Txt.join "@" (ltS t::pl.map fS)
inductive Ln where
 | nest | loop(l:Lp) | deed(x:Dd) | rd(r:Rd)
def Ln.w:Ln->List Str
 | .nest=>["nest"]
 | .loop l=>["loop",fS l.1,"to",fS l.2]
 | .deed x=>["set",cS x.tab x.pl,"be",fS x.st]
 | .rd r=>["and",nS r.fac,"of",cS r.tab r.pl]
def liS(ws:List Str):Str:=Txt.join " " ws
abbrev dLn(l:Ln):D:=.str (liS l.w)
def dH(x:Dd):List Ln:=.deed x::x.rds.map .rd
def ji(n:Ns):List Ln:=.nest::(n.lps.map .loop++n.dds.flatMap dH)
def lns(nss:List Ns):List Ln:=nss.flatMap ji
def hdW(ws:List Int):List Str:="tables"::ws.map nS
def pS(p:Pg):Str:=Txt.join "\n" (liS (hdW p.ws)::(lns p.nss).map λ l=>liS l.w)
theorem jt{sep:Str}{xs:List Str}{B:Nat}(hB:∀x∈xs,x.length≤B)(hn:xs.length≤n):(Txt.join sep xs).length≤n*(B+sep.length):=by
 show(Builtin.Str.glued sep xs).length≤_
 rw[StrLaws.glued_eq_join]
 have h1:=StrLaws.join_length_le sep xs
 have h2:=StrLaws.sumLen_le xs hB
 have h3:xs.length*(B+sep.length)≤n*(B+sep.length):=Nat.mul_le_mul_right _ hn
 rw[Nat.mul_add]at h3
 omega
theorem iZ{sep:Str}{xs:List Str}{B:Nat}(hB:∀x∈xs,x.length≤B)(hn:xs.length≤n)(h:n*(B+sep.length)≤16000000):JoinOk sep xs=true:=by
 have h3:xs.length*(B+sep.length)≤n*(B+sep.length):=Nat.mul_le_mul_right _ hn
 rw[Nat.mul_add]at h3
 unfold JoinOk
 have:=StrLaws.joinFits (sep:=sep) hB (by omega)
 rw[this];rfl
theorem lX{n:Int}(h:jj n):(nS n).length≤31:=by
 rw[fO,fL];exact Mz (k:=29) h
theorem jF{n:Int}(h:jj n):n.natAbs.log2<1920:=by
 by_cases hz:n.natAbs=0
 . rw[hz];decide
 . exact(Nat.log2_lt hz).mpr (w9 (Nat.lt_trans h (by decide:(10:Nat) ^ 30<2 ^ 100)) (Nat.pow_le_pow_right (by decide) (by decide)))
theorem oE{f:Fm}(h:FmB f):∀x∈(f.1::f.2).map nS,x.length≤31:=λ x hx=>by
 obtain⟨n,hn,rfl⟩:=List.mem_map.mp hx
 exact lX (h.2 n hn)
theorem ue{f:Fm}(h:FmB f):((f.1::f.2).map nS).length≤4:=by
 rw[y6,List.length_cons];have:=h.1;omega
theorem d7{f:Fm}(h:FmB f):(fS f).length≤128:=jt (oE h) (ue h)
theorem yX{pl:List Fm}(h:PlB pl):∀x∈ltS t::pl.map fS,x.length≤128:=λ x hx=>by
 rcases List.mem_cons.mp hx with rfl | hx
 . unfold ltS;rw[vp];show 1≤128;decide
 . obtain⟨f,hf,rfl⟩:=List.mem_map.mp hx
   exact d7 (h.2 f hf)
theorem Cg{pl:List Fm}(h:PlB pl):(ltS t::pl.map fS).length≤3:=by
 rw[List.length_cons,y6];have:=h.1;omega
theorem lZ{pl:List Fm}(h:PlB pl):(cS t pl).length≤387:=jt (yX h) (Cg h)
def LnB:Ln->Prop
 | .nest=>True
 | .loop l=>LpB l
 | .deed x=>DdB x
 | .rd r=>RdB r
theorem le4{a b c d:Str}{B:Nat}(ha:a.length≤B)(hb:b.length≤B)(hc:c.length≤B)(hd:d.length≤B):∀x∈[a,b,c,d],x.length≤B:=λ x hx=>by
 simp only[List.mem_cons,List.not_mem_nil,or_false]at hx
 rcases hx with rfl | rfl | rfl | rfl<;>assumption
theorem nu{l:Ln}(h:LnB l):(∀x∈l.w,x.length≤387)/\l.w.length≤4:=by
 cases l with
 | nest=>exact⟨λ x hx=>by rw[List.mem_singleton.mp hx];decide+kernel,by decide⟩
 | loop l=>exact⟨le4 (by decide+kernel) (Nat.le_trans (d7 h.1) (by decide)) (by decide+kernel) (Nat.le_trans (d7 h.2) (by decide)),y8 _⟩
 | deed x=>exact⟨le4 (by decide+kernel) (lZ h.2.1) (by decide+kernel) (Nat.le_trans (d7 h.2.2.1) (by decide)),y8 _⟩
 | rd r=>exact⟨le4 (by decide+kernel) (Nat.le_trans (lX h.1) (by decide)) (by decide+kernel) (lZ h.2.2),y8 _⟩
theorem Qp{l:Ln}(h:LnB l):(liS l.w).length≤1552:=jt (nu h).1 (nu h).2
theorem Eb{l:Ln}(h:LnB l):JoinOk " " l.w=true:=iZ (nu h).1 (nu h).2 (by decide+kernel)
theorem kj(h:ws.length≤3/\∀w∈ws,jj w):(∀x∈hdW ws,x.length≤31)/\(hdW ws).length≤4:=by
 refine⟨λ x hx=>?_,by unfold hdW;rw[List.length_cons,y6];omega⟩
 rcases List.mem_cons.mp hx with rfl | hx
 . decide+kernel
 . obtain⟨n,hn,rfl⟩:=List.mem_map.mp hx
   exact lX (h.2 n hn)
theorem Ox{x:Dd}(h:DdB x):∀l∈dH x,LnB l:=λ l hl=>by
 rcases List.mem_cons.mp hl with rfl | hl
 . exact h
 . obtain⟨r,hr,rfl⟩:=List.mem_map.mp hl
   exact h.2.2.2.2 r hr
theorem Qe{n:Ns}(h:NsB n):∀l∈ji n,LnB l:=λ l hl=>by
 rcases List.mem_cons.mp hl with rfl | hl
 . trivial
 . rcases List.mem_append.mp hl with hl | hl
   . obtain⟨r,hr,rfl⟩:=List.mem_map.mp hl
     exact h.2.1 r hr
   . obtain⟨x,hx,hl⟩:=List.mem_flatMap.mp hl
     exact Ox (h.2.2.2 x hx) l hl
theorem xX{nss:List Ns}(h:∀n∈nss,NsB n):∀l∈lns nss,LnB l:=λ l hl=>by
 obtain⟨x,hx,hl⟩:=List.mem_flatMap.mp hl
 exact Qe (h x hx) l hl
theorem jg{α β:Type}{f:α->List β}{B:Nat}:∀{l:List α},(∀a∈l,(f a).length≤B)->(l.flatMap f).length≤l.length*B
 | [],_=>by simp
 | a::l,h=>by
   have h1:=h a x6
   have h2:=jg (f:=f) (l:=l) λ b hb=>h b (y9 _ hb)
   rw[List.flatMap_cons,x8,List.length_cons,Nat.succ_mul];omega
theorem FZ{x:Dd}(h:DdB x):(dH x).length≤4:=by unfold dH;rw[List.length_cons,y6];have:=h.2.2.2.1;omega
theorem yq{n:Ns}(h:NsB n):(ji n).length≤20:=by
 have h1:=jg (f:=dH) (l:=n.dds) (B:=4) λ x hx=>FZ (h.2.2.2 x hx)
 have h2:=h.1
 have h3:=h.2.2.1
 unfold ji
 rw[List.length_cons,x8,y6]
 omega
theorem Dr{nss:List Ns}(h:∀n∈nss,NsB n):(lns nss).length≤nss.length*20:=jg λ x hx=>yq (h x hx)
def plS(p:Pg):List Str:=liS (hdW p.ws)::(lns p.nss).map λ l=>liS l.w
theorem gZ{p:Pg}(h:PgB p):(∀x∈plS p,x.length≤1552)/\(plS p).length≤61:=by
 refine⟨λ x hx=>?_,?_⟩
 . rcases List.mem_cons.mp hx with rfl | hx
   . exact Nat.le_trans (jt (kj h.1).1 (kj h.1).2) (by decide+kernel)
   . obtain⟨l,hl,rfl⟩:=List.mem_map.mp hx
     exact Qp (xX h.2.2 l hl)
 . have:=Dr h.2.2
   have:=h.2.1
   unfold plS
   rw[List.length_cons,y6];omega
theorem Ql{p:Pg}(h:PgB p):(pS p).length≤100000:=Nat.le_trans (jt (gZ h).1 (gZ h).2) (by decide+kernel)
theorem iV{n:Int}(h1: -b<n)(h2:n<b)(hb:b≤1000000000000000000000000000000):jj n:=by unfold jj;omega
theorem tpB{pl:List Fm}(hws:WsA ws)(hd:d≤3)(h:TpV ws d t pl):t<3/\PlB pl:=by
 obtain⟨w,hw,hl,hf⟩:=h
 have ht:=(z0.mp hw).1
 have:=hws.2.1
 have:=(hws.2.2 w (y3 hw)).2
 refine⟨by omega,by omega,λ f hf'=>?_⟩
 obtain⟨a,b,c⟩:=hf f hf'
 refine⟨by omega,λ n hn=>?_⟩
 rcases List.mem_cons.mp hn with rfl | hn
 . exact iV (b:=100) (by omega) (by omega) (by decide)
 . have:=c n hn;exact iV (b:=100) (by omega) (by omega) (by decide)
theorem PgV.bq{p:Pg}(h:PgV p):PgB p:=by
 obtain⟨hws,n1,n3,hn,_⟩:=h
 refine⟨⟨hws.2.1,λ w hw=>?_⟩,n3,λ n hn'=>?_⟩
 . have:=hws.2.2 w hw;exact iV (b:=3) (by omega) (by omega) (by decide)
 . obtain⟨hL,d1,d4,hd⟩:=hn n hn'
   refine⟨hL.2.1,λ l hl=>?_,d4,λ x hx=>?_⟩
   . obtain⟨i,hi⟩:=List.getElem?_of_mem hl
     have hlt:=(z0.mp hi).1
     have l3:=hL.2.1
     have go:∀{f:Fm},BdF f i->FmB f:=λ{f} h=>by
      obtain⟨a,b,c,d⟩:=h
      refine⟨by omega,λ n hn=>?_⟩
      rcases List.mem_cons.mp hn with rfl | hn
      . exact iV (b:=10) (by omega) (by omega) (by decide)
      . have:=d n hn;exact iV (b:=3) (by omega) (by omega) (by decide)
     exact⟨go (hL.2.2 i l hi).1,go (hL.2.2 i l hi).2⟩
   . obtain⟨h1,h2,h3,h4⟩:=hd x hx
     have l3:=hL.2.1
     refine⟨(tpB hws l3 h1).1,(tpB hws l3 h1).2,⟨by rw[h2.1];exact l3,λ n hn=>?_⟩,h3,λ r hr=>?_⟩
     . rcases List.mem_cons.mp hn with rfl | hn
       . exact iV h2.2.1.1 h2.2.1.2 (by decide)
       . have:=h2.2.2 n hn;exact iV this.1 this.2 (by decide)
     . obtain⟨a,c⟩:=h4 r hr
       exact⟨iV a.1 a.2 (by decide),(tpB hws l3 c).1,(tpB hws l3 c).2⟩
theorem li4(a b c d:Str):(liS [a,b,c,d]).cps.toList=a.cps.toList++32::(b.cps.toList++32::(c.cps.toList++32::d.cps.toList)):=by
 unfold liS
 rw[s32,m7];rfl
theorem f4{p q a b c d:Str}(hp:p=a++" ")(hq:q=" "++(c++" ")):(((Str.empty++p)++b)++q)++d=liS [a,b,c,d]:=by
 refine vy ?_
 rw[li4,hp,hq,s32]
 simp only[fK,bD]
 simp[Str.empty]
def dB:Ct:=λ ds S W=>∃f,ds=[dF f]/\FmB f/\W (.str (fS f)) S
theorem sH(F:Fun Ω.K "shown_form" "shown_form" bW f fd)(N0:Ω.cd=none)(B:Bi Ω.mg Ω.K):Ok Ω 1 f fd jG dB:=by
 refine au N0 (N:=ug) F (tZ B) (by kernel_rfl!) ?_
 rintro ds S W ⟨f,rfl,hf,hw⟩ hl
 walk_at "b"
 refine bK (xs:=f.1::f.2) (enc:=D.int) (λ n=>.str (nS n)) (by rw[List.length_cons];have:=hf.1;omega) ?_ ?_
 . intro i n hn Q hq
   walk_at "b"
   exact⟨jF (hf.2 n (y3 hn)),hq⟩
 . exact⟨_,(f.1::f.2).map nS,rfl,by rw[List.map_map];rfl,iZ (oE hf) (ue hf) (by decide+kernel),hw⟩
theorem um(F:Fun Ω.K "_law_form_text" "_law_form_text" cF f fd)(N0:Ω.cd=none)(B:Bi Ω.mg Ω.K):Ok Ω 1 f fd lD dB:=by
 refine au N0 (N:=wA) F (xG B) (by kernel_rfl!) ?_
 rintro ds S W ⟨f,rfl,hf,hw⟩ hl
 walk_at "b"
 refine bK (xs:=f.1::f.2) (enc:=D.int) (λ n=>.str (nS n)) (by rw[List.length_cons];have:=hf.1;omega) ?_ ?_
 . intro i n hn Q hq
   walk_at "b"
   exact⟨jF (hf.2 n (y3 hn)),hq⟩
 . exact⟨_,(f.1::f.2).map nS,rfl,by rw[List.map_map];rfl,iZ (oE hf) (ue hf) (by decide+kernel),hw⟩
def fY:Ct:=λ ds S W=>∃(t:Nat) (pl:List Fm),ds=[.int t,dP pl]/\t<3/\PlB pl/\W (.str (cS t pl)) S
theorem Qa:∀{t:Nat},t<3->atI lt3 (t:Int)=some (ltS t)
 | 0,_=>by decide+kernel
 | 1,_=>by decide+kernel
 | 2,_=>by decide+kernel
 | _+3,h=>absurd h (by omega)
theorem Ol:∀{t:Nat},t<3->atI (Str.ofString "abc").cps.toList (t:Int)=some (97+t)
 | 0,_=>by decide+kernel
 | 1,_=>by decide+kernel
 | 2,_=>by decide+kernel
 | _+3,h=>absurd h (by omega)
theorem BV(c:Nat)(x:List Nat):∀r:List (List Nat),jn c (x::r)=x++(r.map λ y=>c::y).flatten
 | []=>by simp[jn]
 | y::r=>by
   rw[KQ (by simp),BV c y r];simp
theorem Fy(t:Nat)(pl:List Fm):(⟨#[97+t]⟩:Str)++Txt.join "" (pl.map λ f=>Str.ofString "@"++fS f)=cS t pl:=by
 refine vy ?_
 unfold cS
 rw[s64,s00,m7,fK,Hg]
 show[97+t]++_=jn 64 ((mkS [97+t]).cps.toList::_)
 rw[bD,BV,List.map_map,List.map_map,List.map_map]
 congr 3
 funext f
 show(mkS [64]++fS f).cps.toList=_
 rw[fK,bD];rfl
theorem qy(F:Fun Ω.K "shown_cell" "shown_cell" bZ f fd)(N0:Ω.cd=none)(B:Bi Ω.mg Ω.K)(Cq57:Cal Ω "shown_form" 1 1 dB):Ok Ω 2 f fd jE fY:=by
 refine au N0 (N:=uW) F (uM B Cq57) (by kernel_rfl!) ?_
 rintro ds S W ⟨t,pl,rfl,ht,hp,hw⟩ hl
 walk_at "b"
 refine⟨(t:Int),ltS t,rfl,Qa ht,?_⟩
 walk_at "b"
 refine bK (xs:=pl) (enc:=dF) (λ f=>.str (fS f)) (by have:=hp.1;omega) ?_ ?_
 . intro i f hf Q hq
   walk_at "b"
   exact⟨rfl,f,rfl,hp.2 f (y3 hf),hq⟩
 . refine⟨_,_,rfl,rfl,by rw[y6];have:=hp.1;simp;omega,?_⟩
   exact⟨_,ltS t::pl.map fS,rfl,by rw[List.map_cons,List.map_map];rfl,iZ (yX hp) (Cg hp) (by decide+kernel),hw⟩
theorem uz(F:Fun Ω.K "_law_cell_text" "_law_cell_text" cI f fd)(N0:Ω.cd=none)(Cq5:Cal Ω "_law_form_text" 1 1 dB):Ok Ω 2 f fd kZ fY:=by
 refine au N0 (N:=xu) F (xQ Cq5) (by kernel_rfl!) ?_
 rintro ds S W ⟨t,pl,rfl,ht,hp,hw⟩ hl
 walk_at "b"
 refine⟨_,_,97+t,rfl,rfl,by decide+kernel,Ol ht,?_⟩
 walk_at "b"
 refine bK (xs:=pl) (enc:=dF) (λ f=>.str (Str.ofString "@"++fS f)) (by have:=hp.1;omega) ?_ ?_
 . intro i f hf Q hq
   have hb:=hp.2 f (y3 hf)
   walk_at "b"
   refine⟨rfl,f,rfl,hb,?_⟩
   exact ⟨_, _, rfl, rfl, by have:=d7 hb;have:(Str.ofString "@").length=1:=by decide+kernel
                             omega,hq⟩
 . have hw2:∀x∈pl.map λ f=>Str.ofString "@"++fS f,x.length≤129:=λ x hx=>by
    obtain⟨f,hf,rfl⟩:=List.mem_map.mp hx
    have:=d7 (hp.2 f hf)
    have:(Str.ofString "@").length=1:=by decide+kernel
    rw[len_app];omega
   have hm:(pl.map λ f=>Str.ofString "@"++fS f).length≤2:=by rw[y6];exact hp.1
   refine⟨_,pl.map λ f=>Str.ofString "@"++fS f,rfl,by rw[List.map_map];rfl,iZ hw2 hm (by decide+kernel),?_⟩
   refine⟨_,_,rfl,rfl,?_,?_⟩
   . have:=jt (sep:=Str.ofString "") hw2 hm
     have e:(Str.ofString "").length=0:=by decide+kernel
     have e2:(⟨#[97+t]⟩:Str).length=1:=rfl
     rw[e]at this
     rw[e2];omega
   . rw[Fy];exact hw
theorem Pr:Str.ofString "loop "=Str.ofString "loop"++Str.ofString " ":=by decide+kernel
theorem SM:Str.ofString " to "=Str.ofString " "++(Str.ofString "to"++Str.ofString " "):=by decide+kernel
theorem Q9:Str.ofString "and "=Str.ofString "and"++Str.ofString " ":=by decide+kernel
theorem Sh:Str.ofString " of "=Str.ofString " "++(Str.ofString "of"++Str.ofString " "):=by decide+kernel
theorem Rq:Str.ofString "set "=Str.ofString "set"++Str.ofString " ":=by decide+kernel
theorem SN:Str.ofString " be "=Str.ofString " "++(Str.ofString "be"++Str.ofString " "):=by decide+kernel
def vI:Ct:=λ ds S W=>∃l,ds=[dL l]/\LpB l/\W (dLn (.loop l)) S
def vD:Ct:=λ ds S W=>∃r:Rd,ds=[.int r.fac,.int r.tab,dP r.pl]/\RdB r/\W (dLn (.rd r)) S
def ud:Ct:=λ ds S W=>∃x,ds=[dDd x]/\DdB x/\W (.lst ((dH x).map dLn)) S
def uB:Ct:=λ ds S W=>∃n:Ns,ds=[.tup (n.lps.map dL),.tup (n.dds.map dDd)]/\NsB n/\flat S/\hand W ((ji n).map dLn) S
def gV:Ct:=λ ds S W=>∃p,ds=[dPg p]/\PgB p/\flat S/\W (.str (pS p)) S
theorem Es{p a q b:Str}(hp:p.length≤100)(ha:a.length≤1000)(hq:q.length≤100)(hb:b.length≤1000):(Str.empty++p).length≤1000000/\(Str.empty++p++a).length≤1000000/\(Str.empty++p++a++q).length≤1000000/\(Str.empty++p++a++q++b).length≤1000000:=by
 have e:Str.empty.length=0:=rfl
 simp only[len_app,e]
 omega
theorem rJ(F:Fun Ω.K "shown_loop" "shown_loop" bV f fd)(N0:Ω.cd=none)(Cq57:Cal Ω "shown_form" 1 1 dB):Ok Ω 2 f fd jQ vI:=by
 refine au N0 (N:=u9) F (vd Cq57) (by kernel_rfl!) ?_
 rintro ds S W ⟨l,rfl,hb,hw⟩ hl
 walk_at "b"
 refine⟨rfl,l.1,rfl,hb.1,?_⟩
 walk_at "b"
 refine⟨rfl,l.2,rfl,hb.2,?_⟩
 have h1:=d7 hb.1
 have h2:=d7 hb.2
 obtain⟨z1,z2,z3,z4⟩:=Es (p:=Str.ofString "loop ") (a:=fS l.1) (q:=Str.ofString " to ") (b:=fS l.2) (by decide+kernel) (by omega) (by decide+kernel) (by omega)
 refine⟨z1,by omega,z2,z3,by omega,z4,z4,?_⟩
 rw[f4 (a:=Str.ofString "loop") (c:=Str.ofString "to") Pr SM]
 exact hw
theorem q8(F:Fun Ω.K "shown_read" "shown_read" bR f fd)(N0:Ω.cd=none)(Cq55:Cal Ω "shown_cell" 2 2 fY):Ok Ω 3 f fd jL vD:=by
 refine au N0 (N:=vA) F (vJ Cq55) (by kernel_rfl!) ?_
 rintro ds S W ⟨r,rfl,hb,hw⟩ hl
 walk_at "b"
 refine⟨rfl,r.tab,r.pl,rfl,hb.2.1,hb.2.2,?_⟩
 have h1:=lX hb.1
 have h2:=lZ (t:=r.tab) hb.2.2
 obtain⟨z1,z2,z3,z4⟩:=Es (p:=Str.ofString "and ") (a:=nS r.fac) (q:=Str.ofString " of ") (b:=cS r.tab r.pl) (by decide+kernel) (by omega) (by decide+kernel) (by omega)
 refine⟨z1,jF hb.1,z2,z3,by omega,z4,z4,?_⟩
 rw[f4 (a:=Str.ofString "and") (c:=Str.ofString "of") Q9 Sh]
 exact hw
theorem sS(F:Fun Ω.K "shown_deed" "shown_deed" bQ f fd)(N0:Ω.cd=none)(Cq57:Cal Ω "shown_form" 1 1 dB)(Cq55:Cal Ω "shown_cell" 2 2 fY)(Cq60:Cal Ω "shown_read" 3 3 vD):Ok Ω 4 f fd jP ud:=by
 refine au N0 (N:=uT) F (vB Cq57 Cq55 Cq60) (by kernel_rfl!) ?_
 rintro ds S W ⟨x,rfl,hb,hw⟩ hl
 obtain⟨b1,b2,b3,b4,b5⟩:=hb
 walk_at "b"
 refine⟨rfl,x.tab,x.pl,rfl,b1,b2,?_⟩
 walk_at "b"
 refine⟨rfl,x.st,rfl,b3,?_⟩
 walk_at "b"
 refine bK (xs:=x.rds) (enc:=dRd) (λ r=>dLn (.rd r)) (by omega) ?_ ?_
 . intro i r hr Q hq
   walk_at "b"
   exact⟨rfl,rfl,r,rfl,b5 r (y3 hr),hq⟩
 walk_at "b"
 have h1:=d7 b3
 have h2:=lZ (t:=x.tab) b2
 obtain⟨z1,z2,z3,z4⟩:=Es (p:=Str.ofString "set ") (a:=cS x.tab x.pl) (q:=Str.ofString " be ") (b:=fS x.st) (by decide+kernel) (by omega) (by decide+kernel) (by omega)
 refine⟨by omega,z2,z3,by omega,z4,z4,(by show 1≤1000000;decide),?_⟩
 rw[f4 (a:=Str.ofString "set") (c:=Str.ofString "be") Rq SN]
 walk_at "b"
 refine⟨_,_,rfl,rfl,by rw[y6];simp;omega,?_⟩
 have e:(dH x).map dLn=[dLn (.deed x)]++x.rds.map (λ r=>dLn (.rd r)):=by
  unfold dH
  rw[List.map_cons,List.map_map];rfl
 rw[e]at hw
 exact hw
theorem rA(l:List Ln):az (l.map dLn)=true:=bC (λ _=>rfl) l
theorem eZ{α β:Type}{f:α->List β}{l:List α}{a:α}(h:l[i]? =some a):(l.take (i+1)).flatMap f=(l.take i).flatMap f++f a:=by
 rw[bA h,List.flatMap_append];simp
theorem Di{α β:Type}{f:α->List β}{l:List α}{a:α}(h:l[i]? =some a):((l.take i).flatMap f).length+(f a).length≤(l.flatMap f).length:=by
 have e:l.flatMap f=(l.take (i+1)).flatMap f++(l.drop (i+1)).flatMap f:=by
  rw[←List.flatMap_append,List.take_append_drop]
 rw[e,eZ h,x8,x8];omega
theorem sU(F:Fun Ω.K "shown_nest" "shown_nest" bU f fd)(N0:Ω.cd=none)(Cq58:Cal Ω "shown_loop" 2 1 vI)(Cq56:Cal Ω "shown_deed" 4 1 ud):Ok Ω 5 f fd jH uB:=by
 refine au N0 (N:=vf) F (Bl.frz (uv Cq58 Cq56)) (by kernel_rfl!) ?_
 rintro ds S W ⟨n,rfl,hb,hS,hw⟩ hl
 have hn:=yq hb
 obtain⟨b1,b2,b3,b4⟩:=hb
 walk_at "b"
 refine bK (xs:=n.lps) (enc:=dL) (λ l=>dLn (.loop l)) (by omega) ?_ ?_
 . intro i l hl Q hq
   walk_at "b"
   exact⟨rfl,l,rfl,b2 l (y3 hl),hq⟩
 refine⟨_,_,rfl,rfl,by rw[y6];simp;omega,?_⟩
 have e0:[D.str "nest"]++n.lps.map (λ l=>dLn (.loop l))=(Ln.nest::n.lps.map Ln.loop).map dLn:=by
  rw[List.map_cons,List.map_map];rfl
 rw[e0]
 walk_at "b"
 refine bG ⟨λ i Γ' S'=>(∃o3,Γ'=[some (.tup (n.lps.map dL)),some (.tup (n.dds.map dDd)),some (.loc S.length),o3])/\S'=S++[(Ln.nest::(n.lps.map Ln.loop++(n.dds.take i).flatMap dH)).map dLn],⟨⟨_,rfl⟩,by simp⟩,?_,?_⟩
 . rintro i e Γ' S' he ⟨⟨o3,rfl⟩,rfl⟩
   obtain⟨x,hx,rfl⟩:=cR he
   have hlen:=Di (f:=dH) hx
   walk_at "b"
   refine⟨rfl,x,rfl,b4 x (y3 hx),?_⟩
   refine⟨_,_,aM _ _,rfl,?_,?_⟩
   . unfold ji at hn
     simp only[List.length_cons,x8,y6]at hn ⊢
     omega
   . refine⟨⟨_,rfl⟩,?_⟩
     rw[dh,eZ hx,←List.map_append,List.cons_append,List.append_assoc]
 . rintro Γ' S' ⟨⟨o3,rfl⟩,rfl⟩
   rw[y6,List.take_length]
   walk_at "b"
   exact z6 hw (rA _) hS
abbrev hdD(ws:List Int):D:=.str (liS (hdW ws))
theorem J1(p:Pg):List.map D.str (plS p)=hdD p.ws::(lns p.nss).map dLn:=by
 unfold plS
 rw[List.map_cons,List.map_map];rfl
theorem J3{p:Pg}(h:PgB p):JoinOk "\n" (plS p)=true:=iZ (gZ h).1 (gZ h).2 (by decide+kernel)
theorem GZ(ws:List Int)(l:List Ln):az (hdD ws::l.map dLn)=true:=by
 show(_&&az _)=true
 rw[rA];rfl
theorem Ku(h:flat S)(ws:List Int)(l:List Ln):flat (S++[hdD ws::l.map dLn]):=Al h λ x hx=>by rw[List.mem_singleton.mp hx];exact GZ ws l
theorem zQ{nss:List Ns}{n:Ns}(h:nss[i]? =some n):lns (nss.take (i+1))=lns (nss.take i)++ji n:=eZ h
theorem Gq{p:Pg}(h:PgB p)(i:Nat):(lns (p.nss.take i)).length≤60:=by
 have h1:=Dr (nss:=p.nss.take i) λ n hn=>h.2.2 n (List.mem_of_mem_take hn)
 have h2:=h.2.1
 have h3:(p.nss.take i).length≤3:=by rw[List.length_take];omega
 have h4:(p.nss.take i).length*20≤3*20:=Nat.mul_le_mul_right _ h3
 omega
theorem Dv(F:Fun Ω.K "shown" "shown" gn f fd)(N0:Ω.cd=none)(B:Bi Ω.mg Ω.K)(Cq59:Cal Ω "shown_nest" 5 2 uB):Ok Ω 6 f fd v5 gV:=by
 refine au N0 (N:=Ho) F (Bl.drp (Fd B Cq59)) (by kernel_rfl!) ?_
 rintro ds S W ⟨p,rfl,hb,hS,hw⟩ hl
 have hn:=kj hb.1
 walk_at "b"
 refine bK (xs:=p.ws) (enc:=D.int) (λ n=>.str (nS n)) (by have:=hb.1.1;omega) ?_ ?_
 . intro i n hn Q hq
   walk_at "b"
   exact⟨jF (hb.1.2 n (y3 hn)),hq⟩
 refine⟨_,_,rfl,rfl,by rw[y6];have:=hb.1.1;simp;omega,?_⟩
 refine⟨_,hdW p.ws,rfl,by unfold hdW;rw[List.map_cons,List.map_map];rfl,iZ hn.1 hn.2 (by decide+kernel),?_⟩
 refine⟨(by show 1≤1000000;decide),?_⟩
 walk_at "b"
 refine bG ⟨λ i Γ' S'=>(∃o2 o3,Γ'=[some (dPg p),some (.loc S.length),o2,o3])/\S'=S++[hdD p.ws::(lns (p.nss.take i)).map dLn],⟨⟨_,_,rfl⟩,rfl⟩,?_,?_⟩
 . rintro i e Γ' S' he ⟨⟨o2,o3,rfl⟩,rfl⟩
   obtain⟨n,hx,rfl⟩:=cR he
   have hnb:=hb.2.2 n (y3 hx)
   have l1:=Gq hb i
   have l2:=yq hnb
   walk_at "b"
   refine⟨rfl,rfl,n,rfl,hnb,Ku hS _ _,.inl ?_⟩
   refine⟨_,_,aM _ _,rfl,?_,?_⟩
   . simp only[List.length_cons,y6];omega
   . refine⟨⟨_,_,rfl⟩,?_⟩
     rw[dh,zQ hx,List.map_append,List.cons_append]
 . rintro Γ' S' ⟨⟨o2,o3,rfl⟩,rfl⟩
   rw[y6,List.take_length]
   walk_at "b"
   refine⟨_,plS p,rfl,by rw[J1];exact aM _ _,J3 hb,?_⟩
   exact .inr ⟨[_],S,rfl,y8 _,rfl,hS,hw⟩
def TxG(p:Pg)(k:Nat)(Γ':Gam):Prop:=∃o2 o3 o4 o5 o6 o7 o8 o9 oA oB oC,Γ'=[some (dPg p),some (.loc k),o2,o3,o4,o5,o6,o7,o8,o9,oA,oB,oC]
def TxN(p:Pg)(k:Nat)(n:Ns)(Γ':Gam):Prop:=∃o4 o5 o6 o7 o8 o9 oA oB oC,Γ'=[some (dPg p),some (.loc k),some (.tup (n.lps.map dL)),some (.tup (n.dds.map dDd)),o4,o5,o6,o7,o8,o9,oA,oB,oC]
def TxD(p:Pg)(k:Nat)(n:Ns)(x:Dd)(Γ':Gam):Prop:=∃o4 o5 oA oB oC,Γ'=[some (dPg p),some (.loc k),some (.tup (n.lps.map dL)),some (.tup (n.dds.map dDd)),o4,o5,some (.int x.tab),some (dP x.pl),some (dF x.st),some (.tup (x.rds.map dRd)),oA,oB,oC]
abbrev TxS(S:Store)(p:Pg)(L:List Ln):Store:=S++[hdD p.ws::L.map dLn]
theorem nq{p:Pg}{L:List Ln}{l:Ln}:(TxS S p L).set S.length ((hdD p.ws::L.map dLn)++[dLn l])=TxS S p (L++[l]):=by
 rw[dh]
 show _=S++[hdD p.ws::(L++[l]).map dLn]
 rw[List.map_append];rfl
theorem Hu(F:Fun Ω.K "_law_text" "_law_text" gY f fd)(N0:Ω.cd=none)(B:Bi Ω.mg Ω.K)(Cq5:Cal Ω "_law_form_text" 1 1 dB)(Cq2:Cal Ω "_law_cell_text" 2 2 fY):Ok Ω 3 f fd zG gV:=by
 refine au N0 (N:=Hw) F (Bl.drp (Hz B Cq5 Cq2)) (by kernel_rfl!) ?_
 rintro ds S W ⟨p,rfl,hb,hS,hw⟩ hl
 have hn:=kj hb.1
 walk_at "b"
 refine bK (xs:=p.ws) (enc:=D.int) (λ n=>.str (nS n)) (by have:=hb.1.1;omega) ?_ ?_
 . intro i n hn Q hq
   walk_at "b"
   exact⟨jF (hb.1.2 n (y3 hn)),hq⟩
 refine⟨_,_,rfl,rfl,by rw[y6];have:=hb.1.1;simp;omega,?_⟩
 refine⟨_,hdW p.ws,rfl,by unfold hdW;rw[List.map_cons,List.map_map];rfl,iZ hn.1 hn.2 (by decide+kernel),?_⟩
 refine⟨(by show 1≤1000000;decide),?_⟩
 walk_at "b"
 refine bG ⟨λ i Γ' S'=>TxG p S.length Γ'/\S'=TxS S p (lns (p.nss.take i)),⟨⟨_,_,_,_,_,_,_,_,_,_,_,rfl⟩,rfl⟩,?_,?_⟩
 . rintro i e Γ' S' he ⟨⟨o2,o3,o4,o5,o6,o7,o8,o9,oA,oB,oC,rfl⟩,rfl⟩
   obtain⟨n,hx,rfl⟩:=cR he
   have hnb:=hb.2.2 n (y3 hx)
   have l1:=Gq hb i
   obtain⟨b1,b2,b3,b4⟩:=hnb
   walk_at "b"
   refine⟨rfl,_,aM _ _,by simp only[List.length_cons,y6];omega,?_⟩
   rw[show D.str (Str.ofString "nest")=dLn .nest from rfl,nq]
   walk_at "b"
   refine bG ⟨λ j Γ' S'=>TxN p S.length n Γ'/\S'=TxS S p (lns (p.nss.take i)++[.nest]++(n.lps.take j).map .loop),⟨⟨_,_,_,_,_,_,_,_,_,rfl⟩,by simp⟩,?_,?_⟩
   . rintro j e Γ' S' he ⟨⟨o4,o5,o6,o7,o8,o9,oA,oB,oC,rfl⟩,rfl⟩
     obtain⟨l,hx,rfl⟩:=cR he
     have hlb:=b2 l (y3 hx)
     walk_at "b"
     refine⟨rfl,rfl,l.1,rfl,hlb.1,?_⟩
     walk_at "b"
     refine⟨rfl,l.2,rfl,hlb.2,?_⟩
     walk_at "b"
     refine⟨_,(Ln.loop l).w,rfl,rfl,Eb (l:=.loop l) hlb,?_⟩
     refine⟨_,aM _ _,by simp only[List.length_cons,y6,x8,List.length_take,List.length_nil];omega,?_⟩
     refine⟨⟨_,_,_,_,_,_,_,_,_,rfl⟩,?_⟩
     rw[show D.str (Txt.join (Str.ofString " ") (Ln.loop l).w)=dLn (.loop l)from rfl,nq,bA hx,List.map_append,←List.append_assoc]
     rfl
   . rintro Γ' S' ⟨⟨o4,o5,o6,o7,o8,o9,oA,oB,oC,rfl⟩,rfl⟩
     rw[y6,List.take_length]
     walk_at "b"
     refine bG ⟨λ j Γ' S'=>TxN p S.length n Γ'/\S'=TxS S p (lns (p.nss.take i)++[.nest]++n.lps.map .loop++(n.dds.take j).flatMap dH),⟨⟨_,_,_,_,_,_,_,_,_,rfl⟩,by simp⟩,?_,?_⟩
     . rintro j e Γ' S' he ⟨⟨o4,o5,o6,o7,o8,o9,oA,oB,oC,rfl⟩,rfl⟩
       obtain⟨x,hx,rfl⟩:=cR he
       have hxb:=b4 x (y3 hx)
       have l3:=jg (f:=dH) (l:=n.dds.take j) (B:=4) λ x hx=>FZ (b4 x (List.mem_of_mem_take hx))
       have l4:(n.dds.take j).length≤4:=by rw[List.length_take];omega
       obtain⟨c1,c2,c3,c4,c5⟩:=hxb
       walk_at "b"
       refine⟨rfl,rfl,x.tab,x.pl,rfl,c1,c2,?_⟩
       walk_at "b"
       refine⟨rfl,x.st,rfl,c3,?_⟩
       walk_at "b"
       refine⟨_,(Ln.deed x).w,rfl,rfl,Eb (l:=.deed x) ⟨c1,c2,c3,c4,c5⟩,?_⟩
       refine⟨_,aM _ _,by simp only[List.length_cons,y6,x8,List.length_nil];omega,?_⟩
       rw[show D.str (Txt.join (Str.ofString " ") (Ln.deed x).w)=dLn (.deed x)from rfl,nq]
       walk_at "b"
       refine bG ⟨λ m Γ' S'=>TxD p S.length n x Γ'/\S'=TxS S p (lns (p.nss.take i)++[.nest]++n.lps.map .loop++(n.dds.take j).flatMap dH++[.deed x]++(x.rds.take m).map .rd),⟨⟨_,_,_,_,_,rfl⟩,by simp⟩,?_,?_⟩
       . rintro m e Γ' S' he ⟨⟨o4,o5,oA,oB,oC,rfl⟩,rfl⟩
         obtain⟨r,hr,rfl⟩:=cR he
         have hrb:=c5 r (y3 hr)
         walk_at "b"
         refine⟨rfl,jF hrb.1,?_⟩
         walk_at "b"
         refine⟨rfl,r.tab,r.pl,rfl,hrb.2.1,hrb.2.2,?_⟩
         walk_at "b"
         refine⟨_,(Ln.rd r).w,rfl,rfl,Eb (l:=.rd r) hrb,?_⟩
         refine⟨_,aM _ _,by simp only[List.length_cons,y6,x8,List.length_take,List.length_nil];omega,?_⟩
         refine⟨⟨_,_,_,_,_,rfl⟩,?_⟩
         rw[show D.str (Txt.join (Str.ofString " ") (Ln.rd r).w)=dLn (.rd r)from rfl,nq,bA hr,List.map_append,←List.append_assoc]
         rfl
       . rintro Γ' S' ⟨⟨o4,o5,oA,oB,oC,rfl⟩,rfl⟩
         rw[y6,List.take_length]
         refine⟨⟨_,_,_,_,_,_,_,_,_,rfl⟩,?_⟩
         rw[eZ hx]
         unfold dH
         simp only[List.append_assoc,List.cons_append,List.nil_append]
     . rintro Γ' S' ⟨⟨o4,o5,o6,o7,o8,o9,oA,oB,oC,rfl⟩,rfl⟩
       rw[y6,List.take_length]
       refine⟨⟨_,_,_,_,_,_,_,_,_,_,_,rfl⟩,?_⟩
       rw[zQ hx]
       unfold ji
       simp only[List.append_assoc,List.cons_append,List.nil_append]
 . rintro Γ' S' ⟨⟨o2,o3,o4,o5,o6,o7,o8,o9,oA,oB,oC,rfl⟩,rfl⟩
   rw[y6,List.take_length]
   walk_at "b"
   refine⟨_,plS p,rfl,by rw[J1];exact aM _ _,J3 hb,?_⟩
   exact .inr ⟨[_],S,rfl,y8 _,rfl,hS,hw⟩
theorem LQ(c:Nat):inT ⟨#[c]⟩ "0123456789"=dgB c:=by
 show(!(Builtin.Str.occurrences (Str.ofString "0123456789") ⟨#[c]⟩ 0 (Str.ofString "0123456789").length 1).isEmpty)=_
 rw[StrLaws.found_one]
 have e:(Str.ofString "0123456789").cps.toList=[48,49,50,51,52,53,54,55,56,57]:=by decide+kernel
 rw[e]
 unfold dgB
 by_cases h:48≤c/\c≤57
 . rw[decide_eq_true h.1,decide_eq_true h.2]
   exact decide_eq_true (by simp only[List.mem_cons,List.not_mem_nil,or_false];omega)
 . have e2:(decide (48≤c)&&decide (c≤57))=false:=by
    rw[Bool.and_eq_false_iff]
    by_cases h1:48≤c
    . exact .inr (decide_eq_false (by omega))
    . exact .inl (decide_eq_false h1)
   rw[e2]
   exact decide_eq_false (by simp only[List.mem_cons,List.not_mem_nil,or_false];omega)
theorem yp(a b:List Nat):(mkS a==mkS b)=(a==b):=by
 by_cases h:a=b
 . subst h;simp
 . rw[beq_eq_false_iff_ne.mpr h,beq_eq_false_iff_ne.mpr λ e=>h (by rw[←bD a,e,bD])]
theorem s48:Str.ofString "0"=mkS [48]:=by decide+kernel
def Jz:Ct:=λ ds S W=>∃x:Str,ds=[.str x]/\x.length≤100000/\W (.str (mkS (woS x.cps.toList))) S
theorem nH(F:Fun Ω.K "without_sign" "without_sign" bI f fd)(N0:Ω.cd=none):Ok Ω 1 f fd iJ Jz:=by
 refine au N0 (N:=pY) F (pR) (by kernel_rfl!) ?_
 rintro ds S W ⟨x,rfl,hz,hw⟩ hl
 walk_at "b"
 refine⟨_,rfl,?_⟩
 rw[s45,Kf]
 unfold woS at hw
 by_cases h:x.cps.toList.head? =some 45
 . rw[if_pos h]at hw
   rw[decide_eq_true h]
   walk_at "b"
   refine⟨_,rfl,by omega,?_⟩
   rw[Dt x (by
    rw[fO]
    cases e:x.cps.toList with
    | nil=>rw[e]at h;cases h
    | cons a l=>simp)]
   exact hw
 . rw[if_neg h,mZ]at hw
   rw[decide_eq_false h]
   walk_at "b"
   exact hw
def ul:Ct:=λ ds S W=>∃x:Str,ds=[.str x]/\x.length≤100000/\W (.bl (yc x.cps.toList)) S
theorem PJ(l:List Nat):(woS l).length≤l.length:=by
 unfold woS
 split
 . rw[List.length_drop];omega
 . exact y8 _
theorem ur(F:Fun Ω.K "is_number" "is_number" cH f fd)(N0:Ω.cd=none)(B:Bi Ω.mg Ω.K)(Cq65:Cal Ω "without_sign" 1 1 Jz):Ok Ω 2 f fd lz ul:=by
 refine au N0 (N:=wW) F (xK B Cq65) (by kernel_rfl!) ?_
 rintro ds S W ⟨x,rfl,hz,hw⟩ hl
 have hlen:=PJ x.cps.toList
 rw[←fO]at hlen
 unfold yc at hw
 walk_at "b"
 refine⟨rfl,x,rfl,hz,?_⟩
 generalize hg:woS x.cps.toList=g at*
 have hx1:(x==Str.ofString "0")=(x.cps.toList==[48]):=by rw[s48,←yp,mZ]
 walk_at "b"
 refine jX ?_
 rw[s00,yp]
 cases g with
 | nil=>
   walk_at "b"
   exact hw
 | cons c r=>
   have e0:((c::r)==([]:List Nat))=false:=by simp
   rw[e0]
   walk_at "b"
   refine bK (xs:=(mkS (c::r)).cps.toList) (enc:=λ c=>D.str ⟨#[c]⟩) (λ c=>.bl (dgB c)) (by rw[bD];omega) ?_ ?_
   . intro i a ha Q hq
     walk_at "b"
     refine⟨_,_,rfl,rfl,?_⟩
     rw[LQ];exact hq
   rw[bD]
   refine⟨(c::r).map dgB,by rw[List.map_map];rfl,?_⟩
   have e1:((c::r).map dgB).all id=(c::r).all dgB:=by rw[List.all_map];rfl
   rw[e1]
   cases ha:(c::r).all dgB with
   | false=>
     rw[ha]at hw
     walk_at "b"
     exact hw
   | true=>
     rw[ha]at hw
     walk_at "b"
     refine⟨_,_,c,rfl,rfl,by rw[vp];omega,by rw[bD];exact dz (j:=0) rfl,?_⟩
     refine Ec ?_
     have e2:((⟨#[c]⟩:Str)==Str.ofString "0")=(some c==some 48):=by
      rw[s48,show(⟨#[c]⟩:Str)=mkS [c]from rfl,yp]
      by_cases h:c=48
      . subst h;rfl
      . rw[beq_eq_false_iff_ne.mpr (by simpa using h),beq_eq_false_iff_ne.mpr (by simpa using h)]
     rw[e2]
     rw[List.head?_cons]at hw
     cases hc:(some c==some 48)with
     | false=>
       rw[hc]at hw
       walk_at "b"
       exact hw
     | true=>
       rw[hc]at hw
       walk_at "b"
       refine jX ?_
       rw[hx1]
       exact hw
def jO:Ct:=λ ds S W=>∃n:Int,ds=[.str (nS n)]/\jj n/\W (.int n) S
theorem oX(F:Fun Ω.K "number_read" "number_read" bL f fd)(N0:Ω.cd=none)(B:Bi Ω.mg Ω.K)(Cq38:Cal Ω "is_number" 2 1 ul):Ok Ω 3 f fd jh jO:=by
 refine au N0 (N:=rR) F (qH B Cq38) (by kernel_rfl!) ?_
 rintro ds S W ⟨n,rfl,hn,hw⟩ hl
 have h1:=lX hn
 walk_at "b"
 refine⟨rfl,_,rfl,by omega,?_⟩
 rw[fL,HD]
 walk_at "b"
 refine⟨_,rfl,by omega,?_⟩
 rw[show(99:Int)=((99:Nat):Int)from rfl,Jf _ (by omega)]
 refine⟨n,HH ?_,by omega,hw⟩
 rw[←fL,←fO];omega
theorem GR{c s:Nat}:∀{xs:List (List Nat)},c∈jn s xs->c=s∨∃x∈xs,c∈x
 | [],h=>by cases h
 | [x],h=>.inr ⟨x,x6,h⟩
 | x ::y::r,h=>by
   rcases List.mem_append.mp h with h | h
   . exact .inr ⟨x,x6,h⟩
   . rcases List.mem_cons.mp h with h | h
     . exact .inl h
     . rcases GR h with h | ⟨z,hz,h⟩
       . exact .inl h
       . exact .inr ⟨z,y9 _ hz,h⟩
theorem mem_join{s:Nat}{xs:List Str}(h:c∈(Txt.join (mkS [s]) xs).cps.toList):c=s∨∃x∈xs,c∈x.cps.toList:=by
 rw[m7]at h
 rcases GR h with h | ⟨x,hx,h⟩
 . exact .inl h
 . obtain⟨y,hy,rfl⟩:=List.mem_map.mp hx
   exact .inr ⟨y,hy,h⟩
def sgN(c:Nat):Prop:=c=45∨(48≤c/\c≤57)
theorem xZ{n:Int}(h:c∈(nS n).cps.toList):sgN c:=by rw[fL]at h;exact KN n c h
theorem DQ{f:Fm}(h:c∈(fS f).cps.toList):c=44∨sgN c:=by
 unfold fS at h
 rw[s44]at h
 rcases mem_join h with h | ⟨x,hx,h⟩
 . exact .inl h
 . obtain⟨n,_,rfl⟩:=List.mem_map.mp hx
   exact .inr (xZ h)
theorem Rk{pl:List Fm}(h:c∈(cS t pl).cps.toList):c=64∨c=97+t∨c=44∨sgN c:=by
 unfold cS at h
 rw[s64]at h
 rcases mem_join h with h | ⟨x,hx,h⟩
 . exact .inl h
 . rcases List.mem_cons.mp hx with rfl | hx
   . unfold ltS at h
     rw[bD]at h
     exact .inr (.inl (by simpa using h))
   . obtain⟨n,_,rfl⟩:=List.mem_map.mp hx
     exact .inr (.inr (DQ h))
theorem CW(f:Fm):Txt.split (fS f) ","=(f.1::f.2).map nS:=by
 unfold fS
 rw[s44]
 refine fD (by simp) λ x hx h=>?_
 obtain⟨n,_,rfl⟩:=List.mem_map.mp hx
 have:=xZ h
 unfold sgN at this;omega
theorem Dg(t:Nat)(pl:List Fm)(ht:t<3):Txt.split (cS t pl) "@"=ltS t::pl.map fS:=by
 unfold cS
 rw[s64]
 refine fD (by simp) λ x hx h=>?_
 rcases List.mem_cons.mp hx with rfl | hx
 . unfold ltS at h
   rw[bD]at h
   have:64=97+t:=by simpa using h
   omega
 . obtain⟨n,_,rfl⟩:=List.mem_map.mp hx
   have:=DQ h
   unfold sgN at this;omega
theorem BL{l:Ln}(hl:LnB l){x:Str}(hx:x∈l.w){c:Nat}(h:c∈x.cps.toList):33≤c:=by
 have lit:∀{s:String},((Str.ofString s).cps.toList.all λ c=>decide (33≤c))=true->x=Str.ofString s->33≤c:=λ{s} e ex=>by
  subst ex
  exact of_decide_eq_true (List.all_eq_true.mp e c h)
 have fo:∀{f:Fm},x=fS f->33≤c:=λ{f} ex=>by
  subst ex
  have:=DQ h
  unfold sgN at this;omega
 have ce:∀{t:Nat}{pl:List Fm},x=cS t pl->33≤c:=λ{t pl} ex=>by
  subst ex
  have:=Rk h
  unfold sgN at this;omega
 cases l with
 | nest=>exact lit (s:="nest") (by decide+kernel) (List.mem_singleton.mp hx)
 | loop l=>
   simp only[Ln.w,List.mem_cons,List.not_mem_nil,or_false]at hx
   rcases hx with e | e | e | e
   . exact lit (by decide+kernel) e
   . exact fo e
   . exact lit (by decide+kernel) e
   . exact fo e
 | deed y=>
   simp only[Ln.w,List.mem_cons,List.not_mem_nil,or_false]at hx
   rcases hx with e | e | e | e
   . exact lit (by decide+kernel) e
   . exact ce e
   . exact lit (by decide+kernel) e
   . exact fo e
 | rd r=>
   simp only[Ln.w,List.mem_cons,List.not_mem_nil,or_false]at hx
   rcases hx with e | e | e | e
   . exact lit (by decide+kernel) e
   . subst e
     have:=xZ h
     unfold sgN at this;omega
   . exact lit (by decide+kernel) e
   . exact ce e
theorem R6(l:Ln):l.w≠[]:=by cases l<;>simp[Ln.w]
theorem Em{l:Ln}(hl:LnB l):Txt.split (liS l.w) " "=l.w:=by
 unfold liS
 rw[s32]
 refine fD (R6 l) λ x hx h=>?_
 have:=BL hl hx h
 omega
theorem J5{x:Str}(hx:x∈hdW ws){c:Nat}(h:c∈x.cps.toList):33≤c:=by
 rcases List.mem_cons.mp hx with rfl | hx
 . exact of_decide_eq_true (List.all_eq_true.mp (by decide+kernel:((Str.ofString "tables").cps.toList.all λ c=>decide (33≤c))=true) c h)
 . obtain⟨n,_,rfl⟩:=List.mem_map.mp hx
   have:=xZ h
   unfold sgN at this;omega
theorem JT(ws:List Int):Txt.split (liS (hdW ws)) " "=hdW ws:=by
 unfold liS
 rw[s32]
 refine fD (by simp[hdW]) λ x hx h=>?_
 have:=J5 hx h
 omega
theorem Hd{p:Pg}(h:PgB p):Txt.split (pS p) "\n"=plS p:=by
 show Txt.split (Txt.join "\n" (plS p)) "\n"=_
 rw[s10]
 refine fD (by simp[plS]) λ x hx hc=>?_
 rcases List.mem_cons.mp hx with rfl | hx
 . unfold liS at hc
   rw[s32]at hc
   rcases mem_join hc with hc | ⟨y,hy,hc⟩
   . omega
   . have:=J5 hy hc;omega
 . obtain⟨l,hl,rfl⟩:=List.mem_map.mp hx
   unfold liS at hc
   rw[s32]at hc
   rcases mem_join hc with hc | ⟨y,hy,hc⟩
   . omega
   . have:=BL (xX h.2.2 l hl) hy hc;omega
def jD:Ct:=λ ds S W=>∃f,ds=[.str (fS f)]/\FmB f/\W (dF f) S
def mQ:Ct:=λ ds S W=>∃(t:Nat) (pl:List Fm),ds=[.str (cS t pl)]/\t<3/\PlB pl/\W (.tup [.int t,dP pl]) S
theorem uw(F:Fun Ω.K "form_read" "form_read" cL f fd)(N0:Ω.cd=none)(B:Bi Ω.mg Ω.K)(Cq50:Cal Ω "number_read" 3 1 jO):Ok Ω 4 f fd lB jD:=by
 refine au N0 (N:=wH) F (xF B Cq50) (by kernel_rfl!) ?_
 rintro ds S W ⟨f,rfl,hf,hw⟩ hl
 have h1:=d7 hf
 walk_at "b"
 refine⟨_,rfl,by decide+kernel,by omega,.inl ?_⟩
 rw[CW,List.map_map]
 refine bK (xs:=f.1::f.2) (enc:=D.str ∘ nS) D.int (by rw[List.length_cons];have:=hf.1;omega) ?_ ?_
 . intro i n hn Q hq
   walk_at "b"
   exact⟨rfl,n,rfl,hf.2 n (y3 hn),hq⟩
 . exact hw
theorem Nk:∀{t:Nat},t<3->lt3.contains (ltS t)=true
 | 0,_=>by decide+kernel
 | 1,_=>by decide+kernel
 | 2,_=>by decide+kernel
 | _+3,h=>absurd h (by omega)
theorem Gx:∀{t:Nat},t<3->lt3[t]? =some (ltS t)/\∀m,m<t->lt3[m]?≠some (ltS t)
 | 0,_=>⟨by decide+kernel,λ m h=>absurd h (by omega)⟩
 | 1,_=>⟨by decide+kernel,λ m h=>by
   have:m=0:=by omega
   subst this;decide+kernel⟩
 | 2,_=>⟨by decide+kernel,λ m h=>by
   have:m=0∨m=1:=by omega
   rcases this with rfl | rfl<;>decide+kernel⟩
 | _+3,h=>absurd h (by omega)
theorem uK(F:Fun Ω.K "cell_read" "cell_read" cM f fd)(N0:Ω.cd=none)(B:Bi Ω.mg Ω.K)(Cq29:Cal Ω "form_read" 4 1 jD):Ok Ω 5 f fd lr mQ:=by
 refine au N0 (N:=wK) F (wy B Cq29) (by kernel_rfl!) ?_
 rintro ds S W ⟨t,pl,rfl,ht,hp,hw⟩ hl
 have h1:=lZ (t:=t) hp
 walk_at "b"
 refine⟨_,rfl,by decide+kernel,by omega,.inl ?_⟩
 rw[show(Txt.split (cS t pl) "@").map D.str=D.str (ltS t)::pl.map (D.str ∘ fS) by rw[Dg t pl ht,List.map_cons,List.map_map]]
 walk_at "b"
 refine⟨_,dz (j:=0) rfl,_,rfl,?_⟩
 rw[show List.contains [Str.ofString "a",Str.ofString "b",Str.ofString "c"] (ltS t)=true from Nk ht]
 walk_at "b"
 refine⟨_,dz (j:=0) rfl,_,t,rfl,(Gx ht).1,(Gx ht).2,?_⟩
 walk_at "b"
 rw[eH]
 refine bK (xs:=pl) (enc:=D.str ∘ fS) dF (by have:=hp.1;omega) ?_ ?_
 . intro i f hf Q hq
   walk_at "b"
   exact⟨rfl,f,rfl,hp.2 f (y3 hf),hq⟩
 . walk_at "b"
   exact hw
abbrev dW(ws:List Str):D:=.lst (ws.map D.str)
def rB:Ct:=λ ds S W=>∃a b c d:Str,ds=[dW [a,b,c,d],.str c]/\W .non S
theorem iR(F:Fun Ω.K "refuse_other_words" "refuse_other_words" aW f fd)(N0:Ω.cd=none)(B:Bi Ω.mg Ω.K):Ok Ω 1 f fd dY rB:=by
 refine au N0 (N:=jo) F (jm B) (by kernel_rfl!) ?_
 rintro ds S W ⟨a,b,c,d,rfl,hw⟩ hl
 walk_at "b"
 refine Ec ?_
 rw[beq_self_eq_true]
 walk_at "b"
 exact hw
def uQ:Ct:=λ ds S W=>∃l,ds=[dW (Ln.loop l).w]/\LpB l/\W (dL l) S
def vh:Ct:=λ ds S W=>∃x,ds=[dW (Ln.deed x).w]/\DdB x/\W (dDd ⟨x.tab,x.pl,x.st,[]⟩) S
def tD:Ct:=λ ds S W=>∃(x:Dd) (r:Rd),ds=[dDd x,dW (Ln.rd r).w]/\x.rds.length≤1000/\RdB r/\W (dDd ⟨x.tab,x.pl,x.st,x.rds++[r]⟩) S
theorem tR(F:Fun Ω.K "loop_read" "loop_read" cQ f fd)(N0:Ω.cd=none)(Cq29:Cal Ω "form_read" 4 1 jD)(Cq53:Cal Ω "refuse_other_words" 1 2 rB):Ok Ω 5 f fd lq uQ:=by
 refine au N0 (N:=xV) F (wY Cq29 Cq53) (by kernel_rfl!) ?_
 rintro ds S W ⟨l,rfl,hb,hw⟩ hl
 walk_at "b"
 refine⟨rfl,_,_,_,_,rfl,?_⟩
 walk_at "b"
 refine⟨rfl,l.1,rfl,hb.1,?_⟩
 walk_at "b"
 refine⟨rfl,l.2,rfl,hb.2,?_⟩
 walk_at "b"
 exact hw
theorem tH(F:Fun Ω.K "deed_read" "deed_read" cG f fd)(N0:Ω.cd=none)(Cq29:Cal Ω "form_read" 4 1 jD)(Cq25:Cal Ω "cell_read" 5 1 mQ)(Cq53:Cal Ω "refuse_other_words" 1 2 rB):Ok Ω 6 f fd kW vh:=by
 refine au N0 (N:=wk) F (xx Cq29 Cq25 Cq53) (by kernel_rfl!) ?_
 rintro ds S W ⟨x,rfl,hb,hw⟩ hl
 obtain⟨b1,b2,b3,b4,b5⟩:=hb
 walk_at "b"
 refine⟨rfl,_,_,_,_,rfl,?_⟩
 walk_at "b"
 refine⟨rfl,x.tab,x.pl,rfl,b1,b2,?_⟩
 walk_at "b"
 refine⟨rfl,x.st,rfl,b3,?_⟩
 walk_at "b"
 exact hw
theorem uC(F:Fun Ω.K "with_read" "with_read" cO f fd)(N0:Ω.cd=none)(Cq50:Cal Ω "number_read" 3 1 jO)(Cq25:Cal Ω "cell_read" 5 1 mQ)(Cq53:Cal Ω "refuse_other_words" 1 2 rB):Ok Ω 6 f fd lu tD:=by
 refine au N0 (N:=wg) F (xH Cq50 Cq25 Cq53) (by kernel_rfl!) ?_
 rintro ds S W ⟨x,r,rfl,hx,hb,hw⟩ hl
 obtain⟨b1,b2,b3⟩:=hb
 walk_at "b"
 refine⟨rfl,_,_,_,_,rfl,?_⟩
 walk_at "b"
 refine⟨rfl,r.fac,rfl,b1,?_⟩
 walk_at "b"
 refine⟨rfl,r.tab,r.pl,rfl,b2,b3,?_⟩
 walk_at "b"
 rw[yD (by decide)]
 refine⟨by simp,?_⟩
 have e:dDd ⟨x.tab,x.pl,x.st,x.rds++[r]⟩=.tup [.int x.tab,dP x.pl,dF x.st,.tup (x.rds.map dRd++[dRd r])]:=by
  show D.tup [_,_,_,.tup ((x.rds++[r]).map dRd)]=_
  rw[List.map_append];rfl
 rw[e]at hw
 exact hw
def pK(n:Ns)(l:Ln)(n':Ns):Prop:=match l with
 | .nest=>False
 | .loop l=>n.dds=[]/\n'=⟨n.lps++[l],[]⟩
 | .deed x=>n'=⟨n.lps,n.dds++[⟨x.tab,x.pl,x.st,[]⟩]⟩
 | .rd r=>∃A x,n.dds=A++[x]/\n'=⟨n.lps,A++[⟨x.tab,x.pl,x.st,x.rds++[r]⟩]⟩
def Put(a:List Ns)(l:Ln)(b:List Ns):Prop:=(l=.nest/\b=a++[⟨[],[]⟩])∨∃A n n',a=A++[n]/\pK n l n'/\b=A++[n']
inductive Rns':List Ns->List Ln->List Ns->Prop
 | nil(a:List Ns):Rns' a [] a
 | cons{a b c:List Ns}{l:Ln}{ls:List Ln}(h:Put a l b)(t:Rns' b ls c):Rns' a (l::ls) c
theorem Rns'.app{a b c:List Ns}{xs ys:List Ln}(h:Rns' a xs b)(t:Rns' b ys c):Rns' a (xs++ys) c:=by
 induction h with
 | nil=>exact t
 | cons h _ ih=>exact .cons h (ih t)
theorem qU(A:List Ns):∀(ls L:List Lp),Rns' (A++[⟨L,[]⟩]) (ls.map .loop) (A++[⟨L++ls,[]⟩])
 | [],L=>by rw[List.append_nil];exact .nil _
 | l::ls,L=>by
   have:=qU A ls (L++[l])
   rw[List.append_assoc]at this
   exact .cons (.inr ⟨A,_,_,rfl,⟨rfl,rfl⟩,rfl⟩) this
theorem rO(A:List Ns)(L:List Lp)(E:List Dd)(x:Dd):∀(rs R:List Rd),Rns' (A++[⟨L,E++[⟨x.tab,x.pl,x.st,R⟩]⟩]) (rs.map .rd) (A++[⟨L,E++[⟨x.tab,x.pl,x.st,R++rs⟩]⟩])
 | [],R=>by rw[List.append_nil];exact .nil _
 | r::rs,R=>by
   have:=rO A L E x rs (R++[r])
   rw[List.append_assoc]at this
   exact .cons (.inr ⟨A,_,_,rfl,⟨E,_,rfl,rfl⟩,rfl⟩) this
theorem sW(A:List Ns)(L:List Lp):∀(xs E:List Dd),Rns' (A++[⟨L,E⟩]) (xs.flatMap dH) (A++[⟨L,E++xs⟩])
 | [],E=>by rw[List.append_nil];exact .nil _
 | x::xs,E=>by
   have h1:=rO A L E x x.rds []
   rw[List.nil_append]at h1
   have h2:=sW A L xs (E++[x])
   rw[List.append_assoc]at h2
   rw[List.flatMap_cons]
   exact Rns'.app (xs:=dH x) (.cons (.inr ⟨A,_,_,rfl,rfl,rfl⟩) h1) h2
theorem qT:∀(nss A:List Ns),Rns' A (lns nss) (A++nss)
 | [],A=>by rw[List.append_nil];exact .nil _
 | n::nss,A=>by
   have h1:=(qU A n.lps []).app (sW A ([]++n.lps) n.dds [])
   rw[List.nil_append,List.nil_append]at h1
   have h2:=qT nss (A++[n])
   rw[List.append_assoc]at h2
   show Rns' A (ji n++lns nss) _
   exact Rns'.app (xs:=ji n) (.cons (.inl ⟨rfl,rfl⟩) h1) h2
def SzN(k:Nat)(n:Ns):Prop:=n.lps.length≤k/\n.dds.length≤k/\∀x∈n.dds,x.rds.length≤k
def Sz(k:Nat)(a:List Ns):Prop:=a.length≤k/\∀n∈a,SzN k n
theorem SzN.up{n:Ns}(h:SzN k n):SzN (k+1) n:=⟨by have:=h.1;omega,by have:=h.2.1;omega,λ x hx=>by have:=h.2.2 x hx;omega⟩
theorem pK.sz{n n':Ns}{l:Ln}(h:SzN k n)(p:pK n l n'):SzN (k+1) n':=by
 obtain⟨h1,h2,h3⟩:=h
 cases l with
 | nest=>exact p.elim
 | loop l=>
   obtain⟨e,rfl⟩:=p
   exact⟨by simp;omega,by simp,λ x hx=>by cases hx⟩
 | deed x=>
   obtain rfl:n'=_:=p
   refine⟨by show n.lps.length≤_;omega,by simp;omega,λ y hy=>?_⟩
   rcases List.mem_append.mp hy with hy | hy
   . have:=h3 y hy;omega
   . rw[List.mem_singleton.mp hy];simp
 | rd r=>
   obtain⟨A,x,e,rfl⟩:=p
   rw[e]at h2 h3
   simp only[x8,List.length_cons,List.length_nil]at h2
   refine⟨by show n.lps.length≤_;omega,by simp;omega,λ y hy=>?_⟩
   rcases List.mem_append.mp hy with hy | hy
   . have:=h3 y (List.mem_append_left _ hy);omega
   . rw[List.mem_singleton.mp hy]
     have:=h3 x (by simp)
     simp;omega
theorem Put.sz{a b:List Ns}{l:Ln}(h:Sz k a)(p:Put a l b):Sz (k+1) b:=by
 obtain⟨h1,h2⟩:=h
 rcases p with⟨_,rfl⟩ | ⟨A,n,n',rfl,p,rfl⟩
 . refine⟨by simp;omega,λ m hm=>?_⟩
   rcases List.mem_append.mp hm with hm | hm
   . exact(h2 m hm).up
   . rw[List.mem_singleton.mp hm];exact⟨by simp,by simp,λ x hx=>by cases hx⟩
 . simp only[x8,List.length_cons,List.length_nil]at h1
   refine⟨by simp;omega,λ m hm=>?_⟩
   rcases List.mem_append.mp hm with hm | hm
   . exact(h2 m (List.mem_append_left _ hm)).up
   . rw[List.mem_singleton.mp hm];exact pK.sz (h2 n (by simp)) p
def tY:Ct:=λ ds S W=>∃(n n':Ns) (l:Ln),ds=[dNs n,dW l.w]/\SzN 1000 n/\LnB l/\pK n l n'/\W (dNs n') S
theorem Cw{α:Type}(A:List α)(x:α):atI (A++[x]) (-1)=some x:=by
 unfold atI
 have:L2.ixN (A++[x]).length (-1)=some A.length:=by
  unfold L2.ixN;simp;omega
 rw[this];simp
theorem Ij(A:List D)(x:D):cutD (A++[x]) none (some (-1))=A:=by
 unfold cutD
 rw[HT.sIx_none]
 have e:HT.sIx (A++[x]).length (A++[x]).length (some (-1))=A.length:=by
  unfold HT.sIx
  simp
  omega
 rw[e,List.drop_zero,Nat.sub_zero,List.take_left']
 rfl
theorem uG(F:Fun Ω.K "with_line" "with_line" cP f fd)(N0:Ω.cd=none)(Cq47:Cal Ω "loop_read" 5 1 uQ)(Cq28:Cal Ω "deed_read" 6 1 vh)(Cq64:Cal Ω "with_read" 6 2 tD):Ok Ω 7 f fd lC tY:=by
 refine au N0 (N:=wN) F (xg Cq47 Cq28 Cq64) (by kernel_rfl!) ?_
 rintro ds S W ⟨n,n',l,rfl,hz,hb,hp,hw⟩ hl
 obtain⟨z1,z2,z3⟩:=hz
 cases l with
 | nest=>exact hp.elim
 | loop l=>
   obtain⟨e,rfl⟩:=hp
   walk_at "b"
   refine jX ?_
   rw[beq_self_eq_true]
   walk_at "b"
   rw[e]
   refine⟨_,rfl,by show 0≤1000000;decide,?_⟩
   walk_at "b"
   refine⟨rfl,l,rfl,hb,?_⟩
   walk_at "b"
   rw[show n.lps.map dL++[dL l]=(n.lps++[l]).map dL by rw[List.map_append];rfl]
   exact hw
 | deed x=>
   obtain rfl:n'=_:=hp
   walk_at "b"
   refine jX ?_
   rw[show(Str.ofString "set"==Str.ofString "loop")=false by decide+kernel]
   walk_at "b"
   refine jX ?_
   rw[beq_self_eq_true]
   walk_at "b"
   refine⟨rfl,x,rfl,hb,?_⟩
   walk_at "b"
   rw[show n.dds.map dDd++[dDd ⟨x.tab,x.pl,x.st,[]⟩]=(n.dds++[(⟨x.tab,x.pl,x.st,[]⟩:Dd)]).map dDd by rw[List.map_append];rfl]
   exact hw
 | rd r=>
   obtain⟨A,x,e,rfl⟩:=hp
   have ed:n.dds.map dDd=A.map dDd++[dDd x]:=by rw[e,List.map_append];rfl
   rw[e]at z2 z3
   simp only[x8,List.length_cons,List.length_nil]at z2
   have zx:=z3 x (by simp)
   walk_at "b"
   refine jX ?_
   rw[show(Str.ofString "and"==Str.ofString "loop")=false by decide+kernel]
   walk_at "b"
   refine jX ?_
   rw[show(Str.ofString "and"==Str.ofString "set")=false by decide+kernel]
   walk_at "b"
   refine jX ?_
   rw[beq_self_eq_true]
   walk_at "b"
   rw[ed]
   refine⟨_,rfl,by simp;omega,?_⟩
   rw[show(!(A.map dDd++[dDd x]).isEmpty)=true by simp]
   walk_at "b"
   rw[Ij]
   refine⟨_,Cw _ _,?_⟩
   refine⟨rfl,x,r,rfl,zx,hb,?_⟩
   walk_at "b"
   rw[show A.map dDd++[dDd ⟨x.tab,x.pl,x.st,x.rds++[r]⟩]=(A++[(⟨x.tab,x.pl,x.st,x.rds++[r]⟩:Dd)]).map dDd by rw[List.map_append];rfl]
   exact hw
theorem DP{a b c d:Str}(w:W false S):aN .Eq (dW [a,b,c,d]) (dW ["nest"]) S W:=by
 unfold aN
 refine⟨⟨rfl,rfl,by show 0+1≤50;decide⟩,?_⟩
 have e:eqD (vw S (dW [a,b,c,d])) (vw S (dW ["nest"]))=false:=by
  show(_&&false)=false
  rw[Bool.and_false]
 rw[e];exact w
theorem RP(w:W true S):aN .Eq (dW ["nest"]) (dW ["nest"]) S W:=by
 unfold aN
 refine⟨⟨rfl,rfl,by show 0+1≤50;decide⟩,?_⟩
 exact w
def oV:Ct:=λ ds S W=>∃nss,ds=[.lst ((lns nss).map λ l=>dW l.w)]/\(∀n∈nss,NsB n)/\nss.length≤3/\flat S/\W (.tup (nss.map dNs)) S
theorem w_not{l:Ln}(h:l≠.nest)(w:W false S):aN .Eq (dW l.w) (dW ["nest"]) S W:=by
 cases l with
 | nest=>exact absurd rfl h
 | loop l=>exact DP w
 | deed x=>exact DP w
 | rd r=>exact DP w
theorem pK.ne{n n':Ns}{l:Ln}(h:pK n l n'):l≠.nest:=by rintro rfl;exact h
theorem qG(F:Fun Ω.K "nests_read" "nests_read" cu f fd)(N0:Ω.cd=none)(B:Bi Ω.mg Ω.K)(Cq62:Cal Ω "with_line" 7 2 tY):Ok Ω 8 f fd jJ oV:=by
 refine au N0 (N:=vm) F (Bl.drp (uN B Cq62)) (by kernel_rfl!) ?_
 rintro ds S W ⟨nss,rfl,hb,h3,hS,hw⟩ hl
 have hn:=Dr hb
 walk_at "b"
 refine bG ⟨λ i Γ' S'=>∃cur o2,Γ'=[some (.lst ((lns nss).map λ l=>dW l.w)),some (.loc S.length),o2]/\S'=S++[cur.map dNs]/\Rns' cur ((lns nss).drop i) nss/\Sz i cur,⟨[],_,rfl,rfl,by simpa using qT nss [],by simp,λ n hn=>by cases hn⟩,?_,?_⟩
 . rintro i e Γ' S' he ⟨cur,o2,rfl,rfl,hr,hz⟩
   obtain⟨l,hx,rfl⟩:=cR he
   have hi:=(z0.mp hx).1
   have hlb:=xX hb l (y3 hx)
   have ed:(lns nss).drop i=l::(lns nss).drop (i+1):=by
    rw[List.drop_eq_getElem_cons hi]
    rw[y0 hi]at hx
    rw[Option.some.inj hx]
   rw[ed]at hr
   cases hr with
   | @cons _ b _ _ _ hp ht=>
     have hz2:=Put.sz hz hp
     have z1:=hz.1
     suffices body:∀Wf:DL.Fin,(∀G T,(∃cur o2,G=[some (.lst ((lns nss).map λ l=>dW l.w)),some (.loc S.length),o2]/\T=S++[cur.map dNs]/\Rns' cur ((lns nss).drop (i+1)) nss/\Sz (i+1) cur)->Wf.nx G T)->(Bl.cons (Sm.ite (Te.cmp .Eq (Ex.var 2) (Ex.lst (Ar.cons (Ex.str "nest") Ar.nil))) (Bl.cons (Sm.expr (Ex.m_append (Ex.var 1) (Ex.tup (Ar.cons (Ex.tup Ar.nil) (Ar.cons (Ex.tup Ar.nil) Ar.nil))))) Bl.nil) (Bl.cons (Sm.ite (Te.lval (Ex.var 1)) (Bl.cons (Sm.setIx (Ex.var 1) (Ex.neg (Ex.int 1)) (Ex.call Cq62 (Ar.cons (Ex.ix (Ex.var 1) (Ex.neg (Ex.int 1))) (Ar.cons (Ex.var 2) Ar.nil)))) Bl.nil) (Bl.cons Sm.never Bl.nil)) Bl.nil)) Bl.nil).wp [some (.lst ((lns nss).map λ l=>dW l.w)),some (.loc S.length),some (dW l.w)] (S++[cur.map dNs]) Wf by
      refine rm ?_
      simp only[List.set_cons_succ,List.set_cons_zero]
      exact body _ λ G T h=>h
     intro Wf hnx
     rcases hp with⟨rfl,rfl⟩ | ⟨A,n,n',rfl,hp,rfl⟩
     . walk_at "b"
       refine RP ?_
       walk_at "b"
       refine⟨_,aM _ _,by rw[y6];omega,?_⟩
       refine hnx _ _ ⟨_,_,rfl,?_,ht,hz2⟩
       rw[dh,List.map_append];rfl
     . have em:(A++[n]).map dNs=A.map dNs++[dNs n]:=by rw[List.map_append];rfl
       walk_at "b"
       refine w_not hp.ne ?_
       walk_at "b"
       rw[em]
       refine⟨_,by show(match (S++[A.map dNs++[dNs n]])[S.length]? with | some ds=>D.lst ds | none=>.loc S.length)=_;rw[aM],.inr ⟨_,rfl,aM _ _⟩,?_,?_⟩
       . simp only[x8,y6,List.length_cons,List.length_nil]at z1 ⊢;omega
       rw[show(!(A.map dNs++[dNs n]).isEmpty)=true by simp]
       walk_at "b"
       refine⟨_,_,aM _ _,Cw _ _,?_⟩
       obtain⟨s1,s2,s3⟩:=hz.2 n (by simp)
       refine⟨rfl,n,n',l,rfl,⟨by omega,by omega,λ x hx=>by have:=s3 x hx;omega⟩,hlb,hp,?_⟩
       walk_at "b"
       refine⟨_,A.length,aM _ _,?_,?_⟩
       . unfold L2.ixN;simp;omega
       refine hnx _ _ ⟨_,_,rfl,?_,ht,hz2⟩
       rw[dh,List.map_append]
       congr 2
       have e:A.length=(A.map dNs).length:=by rw[y6]
       rw[e];simp
 . rintro Γ' S' ⟨cur,o2,rfl,rfl,hr,hz⟩
   rw[y6,List.drop_length]at hr
   cases hr
   walk_at "b"
   refine⟨_,aM _ _,?_⟩
   exact .inr ⟨[_],S,rfl,y8 _,bC mH _,hS,hw⟩
def pG:Ct:=λ ds S W=>∃ws:List Int,ds=[dW (hdW ws)]/\(ws.length≤3/\∀w∈ws,jj w)/\W (dWs ws) S
theorem qi(F:Fun Ω.K "widths_read" "widths_read" bN f fd)(N0:Ω.cd=none)(B:Bi Ω.mg Ω.K)(Cq50:Cal Ω "number_read" 3 1 jO):Ok Ω 4 f fd iY pG:=by
 refine au N0 (N:=rE) F (rW B Cq50) (by kernel_rfl!) ?_
 rintro ds S W ⟨ws,rfl,hb,hw⟩ hl
 have e:dW (hdW ws)=.lst (D.str "tables"::ws.map (D.str ∘ nS)):=by
  show D.lst ((hdW ws).map D.str)=_
  unfold hdW;rw[List.map_cons,List.map_map]
 rw[e]
 walk_at "b"
 refine⟨_,dz (j:=0) rfl,?_⟩
 refine Ec ?_
 rw[beq_self_eq_true]
 walk_at "b"
 rw[eH]
 refine bK (xs:=ws) (enc:=D.str ∘ nS) D.int (by omega) ?_ ?_
 . intro i n hn Q hq
   walk_at "b"
   exact⟨rfl,n,rfl,hb.2 n (y3 hn),hq⟩
 . walk_at "b"
   exact hw
def uE:Ct:=λ ds S W=>∃p,ds=[.str (pS p)]/\PgV p/\flat S/\W (dPg p) S
theorem Dm{α β:Type}{f g:α->β}{l:List α}(h:∀a∈l,f a=g a):l.map f=l.map g:=List.map_congr_left h
theorem Je{p:Pg}(h:PgB p):(plS p).map (λ s=>D.lst ((Txt.split s " ").map D.str))=dW (hdW p.ws)::(lns p.nss).map λ l=>dW l.w:=by
 unfold plS
 rw[List.map_cons,List.map_map,JT]
 congr 1
 refine Dm λ l hl=>?_
 show D.lst ((Txt.split (liS l.w) " ").map D.str)=_
 rw[Em (xX h.2.2 l hl)]
theorem GD(F:Fun Ω.K "read" "read" il f fd)(N0:Ω.cd=none)(B:Bi Ω.mg Ω.K)(Cq51:zE Ω "program_of" 10 2 tV)(Cq48:Cal Ω "nests_read" 8 1 oV)(Cq61:Cal Ω "widths_read" 4 1 pG):Ok Ω 11 f fd zr uE:=by
 refine au N0 (N:=JQ) F (Iv B Cq51 Cq48 Cq61) (by kernel_rfl!) ?_
 rintro ds S W ⟨p,rfl,hv,hS,hw⟩ hl
 have hb:=hv.bq
 obtain⟨ws,nss⟩:=p
 obtain⟨hws,n1,n3,hns,h60⟩:=id hv
 dsimp only at hws n1 n3 hns h60
 have h1:=Ql hb
 have h2:=gZ hb
 walk_at "b"
 refine⟨_,rfl,by decide+kernel,by omega,.inl ?_⟩
 rw[Hd hb]
 refine bK (xs:=plS ⟨ws,nss⟩) (enc:=D.str) (λ s=>D.lst ((Txt.split s " ").map D.str)) (by omega) ?_ ?_
 . intro i s hs Q hq
   walk_at "b"
   refine⟨_,rfl,by decide+kernel,?_,.inl hq⟩
   have:=h2.1 s (y3 hs)
   omega
 rw[Je hb]
 walk_at "b"
 refine⟨_,dz (j:=0) rfl,?_⟩
 refine⟨rfl,ws,rfl,hb.1,?_⟩
 walk_at "b"
 rw[eH]
 refine⟨rfl,nss,rfl,hb.2.2,n3,hS,?_⟩
 walk_at "b"
 refine⟨rfl,_,_,rfl,hS,λ z=>(by rw[Gk hws]at z;cases z),λ _=>⟨ws,rfl,λ z=>(by rw[show fM (.tup (nss.map dNs)) ws=true from Jp hv]at z;cases z),λ _=>⟨nss,rfl,by omega,λ n hn=>(hns n hn).ok,λ z=>absurd z (by omega),λ _=>?_⟩⟩⟩
 exact hw
def gH:Nat->D->Bool
 | 0,_=>false
 | _+1,.int _=>true
 | n+1,.tup ds=>decide (ds.length≤1000)&&ds.all (gH n)
 | _+1,_=>false
def aG(n:Nat):Ct:=λ ds S W=>∃d,ds=[d]/\gH n d=true/\W (.bl true) S
theorem qu(ds:List D)(S:Store)(W:WD)(h:aG 0 ds S W):False:=by
 obtain⟨d,_,h,_⟩:=h
 exact y4 h
theorem Hx{α:Type}(xs:List α):((xs.map λ _=>D.bl true).any λ d=>eqD d (.bl false))=false:=by
 induction xs with
 | nil=>rfl
 | cons x xs ih=>rw[List.map_cons,List.any_cons,ih];rfl
theorem Ah{α:Type}(xs:List α):cz (xs.map λ _=>D.bl true)=true/\bc (xs.map λ _=>D.bl true)≤50:=by
 induction xs with
 | nil=>exact⟨rfl,by simp[bc]⟩
 | cons x xs ih=>
   refine⟨by simp only[List.map_cons,cz,ih.1,Bool.and_true];rfl,?_⟩
   have:=ih.2
   simp only[List.map_cons,bc,deep]
   omega
theorem Gm{α:Type}{xs:List α}(w:W true S):aN .NotIn (.bl false) (.lst (xs.map λ _=>D.bl true)) S W:=by
 refine Qu (ds:=xs.map λ _=>D.bl true) rfl rfl (Ah xs).1 (Ah xs).2 ?_
 show W (!(List.any _ λ d=>eqD d (.bl false))) S
 rw[Hx];exact w
theorem aQ{Ω:Wd}(B:Bi Ω.mg Ω.K){lv m:Nat}(Cq9:Cal Ω "_law_numbers" lv 1 (aG m)):∀(ds:List D)(S:Store)(W:WD),aG (m+1) ds S W->ds.length=aO.length->(aU B Cq9).wp (ds.map some++List.replicate (aR.length-ds.length) none) S {nx:=λ _ S1=>W .non S1,rt:=W}:=by
 rintro ds S W ⟨d,rfl,hd,hw⟩ hl
 cases d with
 | int n=>
   walk_at "b"
   exact hw
 | tup ds=>
   obtain⟨h1,h2⟩:=aa hd
   have h1:=of_decide_eq_true h1
   walk_at "b"
   refine cX (λ _=>.bl true) (by omega) ?_ ?_
   . intro i d hd Q hq
     walk_at "b"
     exact⟨rfl,d,rfl,List.all_eq_true.mp h2 d (y3 hd),hq⟩
   . refine Gm ?_
     exact hw
 | _=>exact(y4 hd).elim
theorem uA(F:Fun Ω.K "_law_numbers" "_law_numbers" aK f fd)(N0:Ω.cd=none)(B:Bi Ω.mg Ω.K)(Cq9:Cal Ω "_law_numbers" 0 1 (aG 0)):Ok Ω 1 f fd aO (aG 1):=
 au N0 (N:=aR) F (aU B Cq9) (by kernel_rfl!) (aQ B Cq9)
theorem ut(F:Fun Ω.K "_law_numbers" "_law_numbers" aK f fd)(N0:Ω.cd=none)(B:Bi Ω.mg Ω.K)(Cq9:Cal Ω "_law_numbers" 1 1 (aG 1)):Ok Ω 2 f fd aO (aG 2):=
 au N0 (N:=aR) F (aU B Cq9) (by kernel_rfl!) (aQ B Cq9)
theorem uZ(F:Fun Ω.K "_law_numbers" "_law_numbers" aK f fd)(N0:Ω.cd=none)(B:Bi Ω.mg Ω.K)(Cq9:Cal Ω "_law_numbers" 2 1 (aG 2)):Ok Ω 3 f fd aO (aG 3):=
 au N0 (N:=aR) F (aU B Cq9) (by kernel_rfl!) (aQ B Cq9)
theorem vG(F:Fun Ω.K "_law_numbers" "_law_numbers" aK f fd)(N0:Ω.cd=none)(B:Bi Ω.mg Ω.K)(Cq9:Cal Ω "_law_numbers" 3 1 (aG 3)):Ok Ω 4 f fd aO (aG 4):=
 au N0 (N:=aR) F (aU B Cq9) (by kernel_rfl!) (aQ B Cq9)
theorem uH(F:Fun Ω.K "_law_numbers" "_law_numbers" aK f fd)(N0:Ω.cd=none)(B:Bi Ω.mg Ω.K)(Cq9:Cal Ω "_law_numbers" 4 1 (aG 4)):Ok Ω 5 f fd aO (aG 5):=
 au N0 (N:=aR) F (aU B Cq9) (by kernel_rfl!) (aQ B Cq9)
theorem tQ(F:Fun Ω.K "_law_numbers" "_law_numbers" aK f fd)(N0:Ω.cd=none)(B:Bi Ω.mg Ω.K)(Cq9:Cal Ω "_law_numbers" 5 1 (aG 5)):Ok Ω 6 f fd aO (aG 6):=
 au N0 (N:=aR) F (aU B Cq9) (by kernel_rfl!) (aQ B Cq9)
theorem uh(F:Fun Ω.K "_law_numbers" "_law_numbers" aK f fd)(N0:Ω.cd=none)(B:Bi Ω.mg Ω.K)(Cq9:Cal Ω "_law_numbers" 6 1 (aG 6)):Ok Ω 7 f fd aO (aG 7):=
 au N0 (N:=aR) F (aU B Cq9) (by kernel_rfl!) (aQ B Cq9)
theorem u0(F:Fun Ω.K "_law_numbers" "_law_numbers" aK f fd)(N0:Ω.cd=none)(B:Bi Ω.mg Ω.K)(Cq9:Cal Ω "_law_numbers" 7 1 (aG 7)):Ok Ω 8 f fd aO (aG 8):=
 au N0 (N:=aR) F (aU B Cq9) (by kernel_rfl!) (aQ B Cq9)
theorem uJ(F:Fun Ω.K "_law_numbers" "_law_numbers" aK f fd)(N0:Ω.cd=none)(B:Bi Ω.mg Ω.K)(Cq9:Cal Ω "_law_numbers" 8 1 (aG 8)):Ok Ω 9 f fd aO (aG 9):=
 au N0 (N:=aR) F (aU B Cq9) (by kernel_rfl!) (aQ B Cq9)
theorem sJ(F:Fun Ω.K "_law_numbers" "_law_numbers" aK f fd)(N0:Ω.cd=none)(B:Bi Ω.mg Ω.K)(Cq9:Cal Ω "_law_numbers" 9 1 (aG 9)):Ok Ω 10 f fd aO (aG 10):=
 au N0 (N:=aR) F (aU B Cq9) (by kernel_rfl!) (aQ B Cq9)
theorem sE(F:Fun Ω.K "_law_numbers" "_law_numbers" aK f fd)(N0:Ω.cd=none)(B:Bi Ω.mg Ω.K)(Cq9:Cal Ω "_law_numbers" 10 1 (aG 10)):Ok Ω 11 f fd aO (aG 11):=
 au N0 (N:=aR) F (aU B Cq9) (by kernel_rfl!) (aQ B Cq9)
theorem Jw{l:List D}(h:∀d∈l,deep d≤n):bc l≤n:=by
 induction l with
 | nil=>exact Nat.zero_le _
 | cons d l ih=>
   have:=h d x6
   have:=ih λ x hx=>h x (y9 _ hx)
   show max (deep d) (bc l)≤n
   omega
theorem iU{α:Type}{f:α->D}(h:∀a,deep (f a)≤n)(l:List α):deep (.tup (l.map f))≤n+1:=by
 have:bc (l.map f)≤n:=Jw λ d hd=>by obtain⟨a,_,rfl⟩:=List.mem_map.mp hd;exact h a
 show bc (l.map f)+1≤n+1
 omega
theorem Le(ws:List Int):deep (dWs ws)≤1:=iU (n:=0) (λ _=>y8 _) ws
theorem jz(f:Fm):deep (dF f)≤1:=iU (n:=0) (λ _=>y8 _) (f.1::f.2)
theorem Lf(l:Lp):deep (dL l)≤2:=by
 have:=jz l.1
 have:=jz l.2
 show max (deep (dF l.1)) (max (deep (dF l.2)) 0)+1≤2
 omega
theorem Hy(r:Rd):deep (dRd r)≤3:=by
 have:=iU jz r.pl
 show max 0 (max 0 (max (deep (.tup (r.pl.map dF))) 0))+1≤3
 omega
theorem JL(x:Dd):deep (dDd x)≤5:=by
 have:=iU jz x.pl
 have:=jz x.st
 have:=iU Hy x.rds
 show max 0 (max (deep (.tup (x.pl.map dF))) (max (deep (dF x.st)) (max (deep (.tup (x.rds.map dRd))) 0)))+1≤5
 omega
theorem Jq(n:Ns):deep (dNs n)≤7:=by
 have:=iU Lf n.lps
 have:=iU JL n.dds
 show max (deep (.tup (n.lps.map dL))) (max (deep (.tup (n.dds.map dDd))) 0)+1≤7
 omega
theorem Cv(ws:List Int)(nss:List Ns):aB (.tup [dWs ws,.tup (nss.map dNs)])=true/\deep (.tup [dWs ws,.tup (nss.map dNs)])≤50:=by
 refine⟨jd ⟨ws,nss⟩,?_⟩
 have:=Le ws
 have:=iU Jq nss
 show max (deep (dWs ws)) (max (deep (.tup (nss.map dNs))) 0)+1≤50
 omega
theorem j7{α:Type}{f:α->D}(h:∀a,okD (f a)=true):∀l:List α,cz (l.map f)=true
 | []=>rfl
 | a::l=>by simp only[List.map_cons,cz,h,j7 h l,Bool.and_true]
theorem sG(f:Fm):okD (dF f)=true:=j7 (f:=D.int) (λ _=>rfl) (f.1::f.2)
theorem Rt(l:Lp):okD (dL l)=true:=by
 show(okD (dF l.1)&&(okD (dF l.2)&&true))=true
 rw[sG,sG];rfl
theorem Qy(r:Rd):okD (dRd r)=true:=by
 show(true&&(true&&(cz (r.pl.map dF)&&true)))=true
 rw[j7 sG];rfl
theorem Oz(x:Dd):okD (dDd x)=true:=by
 show(true&&(cz (x.pl.map dF)&&(okD (dF x.st)&&(cz (x.rds.map dRd)&&true))))=true
 rw[j7 sG,sG,j7 Qy];rfl
theorem MF(n:Ns):okD (dNs n)=true:=by
 show(cz (n.lps.map dL)&&(cz (n.dds.map dDd)&&true))=true
 rw[j7 Rt,j7 Oz];rfl
theorem Fq(p:Pg):okD (dPg p)=true:=by
 show(cz (p.ws.map D.int)&&(cz (p.nss.map dNs)&&true))=true
 rw[j7 λ _=>rfl,j7 MF];rfl
theorem eq_self{p:Pg}(w:W true S):aN .Eq (dPg p) (dPg p) S W:=by
 have e:=kJ (dPg p) (jd p)
 have e2:deep (dPg p)≤50:=(Cv p.ws p.nss).2
 unfold aN
 exact⟨⟨Fq p,Fq p,e2⟩,by show W (eqD (dPg p) (dPg p)) S;rw[e];exact w⟩
theorem pB{α:Type}{f:α->D}{l:List α}(hl:l.length≤1000)(h:∀a∈l,gH k (f a)=true):gH (k+1) (.tup (l.map f))=true:=by
 show(decide _&&List.all _ _)=true
 rw[decide_eq_true (by rw[y6];exact hl),Bool.true_and,List.all_eq_true]
 intro d hd
 obtain⟨a,ha,rfl⟩:=List.mem_map.mp hd
 exact h a ha
theorem qx{f:Fm}(k:Nat)(h:FmB f):gH (k+2) (dF f)=true:=pB (f:=D.int) (l:=f.1::f.2) (by rw[List.length_cons];have:=h.1;omega) λ _ _=>rfl
theorem yL(hl:ds.length≤1000)(h:∀d∈ds,gH k d=true):gH (k+1) (.tup ds)=true:=by
 show(decide _&&List.all _ _)=true
 rw[decide_eq_true hl,Bool.true_and,List.all_eq_true]
 exact h
theorem Ht{pl:List Fm}(k:Nat)(h:PlB pl):gH (k+3) (dP pl)=true:=pB (by have:=h.1;omega) λ f hf=>qx k (h.2 f hf)
theorem K9{r:Rd}(h:RdB r):gH 5 (dRd r)=true:=yL (by show 3≤1000;decide) λ d hd=>by
 simp only[List.mem_cons,List.not_mem_nil,or_false]at hd
 rcases hd with rfl | rfl | rfl
 . rfl
 . rfl
 . exact Ht 1 h.2.2
theorem KJ{x:Dd}(h:DdB x):gH 7 (dDd x)=true:=yL (by show 4≤1000;decide) λ d hd=>by
 simp only[List.mem_cons,List.not_mem_nil,or_false]at hd
 rcases hd with rfl | rfl | rfl | rfl
 . rfl
 . exact Ht 3 h.2.1
 . exact qx 4 h.2.2.1
 . exact pB (by have:=h.2.2.2.1;omega) λ r hr=>K9 (h.2.2.2.2 r hr)
theorem Mr{n:Ns}(h:NsB n):gH 9 (dNs n)=true:=yL (by show 2≤1000;decide) λ d hd=>by
 simp only[List.mem_cons,List.not_mem_nil,or_false]at hd
 rcases hd with rfl | rfl
 . refine pB (by have:=h.1;omega) λ l hl=>?_
   obtain⟨b1,b2⟩:=h.2.1 l hl
   refine yL (by show 2≤1000;decide) λ d hd=>?_
   simp only[List.mem_cons,List.not_mem_nil,or_false]at hd
   rcases hd with rfl | rfl
   . exact qx 4 b1
   . exact qx 4 b2
 . exact pB (by have:=h.2.2.1;omega) λ x hx=>KJ (h.2.2.2 x hx)
theorem Lj{p:Pg}(h:PgB p):gH 11 (dPg p)=true:=yL (by show 2≤1000;decide) λ d hd=>by
 simp only[List.mem_cons,List.not_mem_nil,or_false]at hd
 rcases hd with rfl | rfl
 . exact pB (by have:=h.1.1;omega) λ _ _=>rfl
 . exact pB (by have:=h.2.1;omega) λ n hn=>Mr (h.2.2 n hn)
theorem Om(F:Fun Ω.K "law" "law" je f fd)(N0:Ω.cd=none)(B:Bi Ω.mg Ω.K)(Cq52:Cal Ω "read" 11 1 uE)(Cq54:Cal Ω "shown" 6 1 gV)(Cq21:Cal Ω "_law_pen" 2 1 Dk)(Cq22:Cal Ω "_law_program" 5 1 pF)(Cq24:Cal Ω "_law_text" 3 1 gV)(Cq9:Cal Ω "_law_numbers" 11 1 (aG 11)):Ok Ω 12 f fd QC qY:=by
 refine au N0 (N:=QK) F (RQ B Cq52 Cq54 Cq21 Cq22 Cq24 Cq9) (by kernel_rfl!) ?_
 rintro ds S W ⟨ns,rfl,hn,hw,rfl⟩ hl
 walk_at "b"
 refine⟨rfl,ns,rfl,hn,λ a c n m z ha=>?_⟩
 have hp0:Pen [ik ns a c n m z] 0:=⟨ns,a,c,n,m,z,rfl,ha⟩
 have hf0:flat [ik ns a c n m z]:=λ l h=>by
  rw[List.mem_singleton.mp h]
  have e:aB (D.lst (ns.map .int))=true:=jf ns
  show az [D.lst (ns.map .int),.int a,.int c,.int n,.int m,.int z]=true
  simp only[az,e,Bool.and_true];rfl
 generalize ik ns a c n m z=pn at*
 walk_at "b"
 refine⟨rfl,0,rfl,hp0,hf0,λ p S1 hP u1 p1 f1=>?_⟩
 have hB:=hP.bq
 walk_at "b"
 refine⟨rfl,p,rfl,hB,f1,?_⟩
 walk_at "b"
 refine⟨rfl,p,rfl,hB,f1,?_⟩
 walk_at "b"
 refine Ec ?_
 rw[beq_self_eq_true]
 walk_at "b"
 refine⟨rfl,p,rfl,hP,f1,?_⟩
 walk_at "b"
 refine KR (jd p) (Cv p.ws p.nss).2 ?_
 walk_at "b"
 refine⟨rfl,_,rfl,Lj hB,?_⟩
 walk_at "b"
 refine⟨rfl,p,rfl,hB,f1,?_⟩
 walk_at "b"
 refine jX ?_
 rw[beq_self_eq_true]
 walk_at "b"
 refine⟨rfl,p,rfl,hP,f1,?_⟩
 walk_at "b"
 refine eq_self ?_
 walk_at "b"
 exact hw _
end K52
namespace K52
open PySem PySem.Spec L2 DL RF XE
open PyProof.Rows
variable {Ω : Wd} {f : Addr} {fd : FuncData}
theorem by1{G:List Value->Prop}(h:∀a0:Value,G [a0]):∀us:List Value,us.length=1->G us
 | [a0],_=>h a0
theorem by2{G:List Value->Prop}(h:∀a0 a1:Value,G [a0,a1]):∀us:List Value,us.length=2->G us
 | [a0,a1],_=>h a0 a1
theorem by3{G:List Value->Prop}(h:∀a0 a1 a2:Value,G [a0,a1,a2]):∀us:List Value,us.length=3->G us
 | [a0,a1,a2],_=>h a0 a1 a2
theorem by4{G:List Value->Prop}(h:∀a0 a1 a2 a3:Value,G [a0,a1,a2,a3]):∀us:List Value,us.length=4->G us
 | [a0,a1,a2,a3],_=>h a0 a1 a2 a3
theorem all_mk{l:PySem.W.OpenLaw}{w:World}{K:PySem.W.Frag}{h:Heap}{mg:Str->Option Value}{fa f0 f1 f2 f3 f4 f5 f6 f7 f8 f9 f10 f11 f12 f13 f14 f15 f16 f17 f18 f19 f20 f21 f22 f23 f24 f25 f26 f27 f28 f29 f30 f31 f32 f33 f34 f35 f36 f37 f38 f39 f40 f41 f42 f43 f44 f45 f46 f47 f48 f49 f50 f51 f52 f53 f54 f55:Addr}(X:K.In h)(G:h.Ns mainGlobals mg)(hfa:mg "law"=some (.ref fa))
 {od0 an0:Option Addr}{sl0:Array (Option Value)}{oc0 kV0 dc0 pm0 cd0 ct0:Value}
 {od1 an1:Option Addr}{sl1:Array (Option Value)}{oc1 kV1 dc1 pm1 cd1 ct1:Value}
 {od2 an2:Option Addr}{sl2:Array (Option Value)}{oc2 kV2 dc2 pm2 cd2 ct2:Value}
 {od3 an3:Option Addr}{sl3:Array (Option Value)}{oc3 kV3 dc3 pm3 cd3 ct3:Value}
 {od4 an4:Option Addr}{sl4:Array (Option Value)}{oc4 kV4 dc4 pm4 cd4 ct4:Value}
 {od5 an5:Option Addr}{sl5:Array (Option Value)}{oc5 kV5 dc5 pm5 cd5 ct5:Value}
 {od6 an6:Option Addr}{sl6:Array (Option Value)}{oc6 kV6 dc6 pm6 cd6 ct6:Value}
 {od7 an7:Option Addr}{sl7:Array (Option Value)}{oc7 kV7 dc7 pm7 cd7 ct7:Value}
 {od8 an8:Option Addr}{sl8:Array (Option Value)}{oc8 kV8 dc8 pm8 cd8 ct8:Value}
 {od9 an9:Option Addr}{sl9:Array (Option Value)}{oc9 kV9 dc9 pm9 cd9 ct9:Value}
 {od10 an10:Option Addr}{sl10:Array (Option Value)}{oc10 kV10 dc10 pm10 cd10 ct10:Value}
 {od11 an11:Option Addr}{sl11:Array (Option Value)}{oc11 kV11 dc11 pm11 cd11 ct11:Value}
 {od12 an12:Option Addr}{sl12:Array (Option Value)}{oc12 kV12 dc12 pm12 cd12 ct12:Value}
 {od13 an13:Option Addr}{sl13:Array (Option Value)}{oc13 kV13 dc13 pm13 cd13 ct13:Value}
 {od14 an14:Option Addr}{sl14:Array (Option Value)}{oc14 kV14 dc14 pm14 cd14 ct14:Value}
 {od15 an15:Option Addr}{sl15:Array (Option Value)}{oc15 kV15 dc15 pm15 cd15 ct15:Value}
 {od16 an16:Option Addr}{sl16:Array (Option Value)}{oc16 kV16 dc16 pm16 cd16 ct16:Value}
 {od17 an17:Option Addr}{sl17:Array (Option Value)}{oc17 kV17 dc17 pm17 cd17 ct17:Value}
 {od18 an18:Option Addr}{sl18:Array (Option Value)}{oc18 kV18 dc18 pm18 cd18 ct18:Value}
 {od19 an19:Option Addr}{sl19:Array (Option Value)}{oc19 kV19 dc19 pm19 cd19 ct19:Value}
 {od20 an20:Option Addr}{sl20:Array (Option Value)}{oc20 kV20 dc20 pm20 cd20 ct20:Value}
 {od21 an21:Option Addr}{sl21:Array (Option Value)}{oc21 kV21 dc21 pm21 cd21 ct21:Value}
 {od22 an22:Option Addr}{sl22:Array (Option Value)}{oc22 kV22 dc22 pm22 cd22 ct22:Value}
 {od23 an23:Option Addr}{sl23:Array (Option Value)}{oc23 kV23 dc23 pm23 cd23 ct23:Value}
 {od24 an24:Option Addr}{sl24:Array (Option Value)}{oc24 kV24 dc24 pm24 cd24 ct24:Value}
 {od25 an25:Option Addr}{sl25:Array (Option Value)}{oc25 kV25 dc25 pm25 cd25 ct25:Value}
 {od26 an26:Option Addr}{sl26:Array (Option Value)}{oc26 kV26 dc26 pm26 cd26 ct26:Value}
 {od27 an27:Option Addr}{sl27:Array (Option Value)}{oc27 kV27 dc27 pm27 cd27 ct27:Value}
 {od28 an28:Option Addr}{sl28:Array (Option Value)}{oc28 kV28 dc28 pm28 cd28 ct28:Value}
 {od29 an29:Option Addr}{sl29:Array (Option Value)}{oc29 kV29 dc29 pm29 cd29 ct29:Value}
 {od30 an30:Option Addr}{sl30:Array (Option Value)}{oc30 kV30 dc30 pm30 cd30 ct30:Value}
 {od31 an31:Option Addr}{sl31:Array (Option Value)}{oc31 kV31 dc31 pm31 cd31 ct31:Value}
 {od32 an32:Option Addr}{sl32:Array (Option Value)}{oc32 kV32 dc32 pm32 cd32 ct32:Value}
 {od33 an33:Option Addr}{sl33:Array (Option Value)}{oc33 kV33 dc33 pm33 cd33 ct33:Value}
 {od34 an34:Option Addr}{sl34:Array (Option Value)}{oc34 kV34 dc34 pm34 cd34 ct34:Value}
 {od35 an35:Option Addr}{sl35:Array (Option Value)}{oc35 kV35 dc35 pm35 cd35 ct35:Value}
 {od36 an36:Option Addr}{sl36:Array (Option Value)}{oc36 kV36 dc36 pm36 cd36 ct36:Value}
 {od37 an37:Option Addr}{sl37:Array (Option Value)}{oc37 kV37 dc37 pm37 cd37 ct37:Value}
 {od38 an38:Option Addr}{sl38:Array (Option Value)}{oc38 kV38 dc38 pm38 cd38 ct38:Value}
 {od39 an39:Option Addr}{sl39:Array (Option Value)}{oc39 kV39 dc39 pm39 cd39 ct39:Value}
 {od40 an40:Option Addr}{sl40:Array (Option Value)}{oc40 kV40 dc40 pm40 cd40 ct40:Value}
 {od41 an41:Option Addr}{sl41:Array (Option Value)}{oc41 kV41 dc41 pm41 cd41 ct41:Value}
 {od42 an42:Option Addr}{sl42:Array (Option Value)}{oc42 kV42 dc42 pm42 cd42 ct42:Value}
 {od43 an43:Option Addr}{sl43:Array (Option Value)}{oc43 kV43 dc43 pm43 cd43 ct43:Value}
 {od44 an44:Option Addr}{sl44:Array (Option Value)}{oc44 kV44 dc44 pm44 cd44 ct44:Value}
 {od45 an45:Option Addr}{sl45:Array (Option Value)}{oc45 kV45 dc45 pm45 cd45 ct45:Value}
 {od46 an46:Option Addr}{sl46:Array (Option Value)}{oc46 kV46 dc46 pm46 cd46 ct46:Value}
 {od47 an47:Option Addr}{sl47:Array (Option Value)}{oc47 kV47 dc47 pm47 cd47 ct47:Value}
 {od48 an48:Option Addr}{sl48:Array (Option Value)}{oc48 kV48 dc48 pm48 cd48 ct48:Value}
 {od49 an49:Option Addr}{sl49:Array (Option Value)}{oc49 kV49 dc49 pm49 cd49 ct49:Value}
 {od50 an50:Option Addr}{sl50:Array (Option Value)}{oc50 kV50 dc50 pm50 cd50 ct50:Value}
 {od51 an51:Option Addr}{sl51:Array (Option Value)}{oc51 kV51 dc51 pm51 cd51 ct51:Value}
 {od52 an52:Option Addr}{sl52:Array (Option Value)}{oc52 kV52 dc52 pm52 cd52 ct52:Value}
 {od53 an53:Option Addr}{sl53:Array (Option Value)}{oc53 kV53 dc53 pm53 cd53 ct53:Value}
 {od54 an54:Option Addr}{sl54:Array (Option Value)}{oc54 kV54 dc54 pm54 cd54 ct54:Value}
 {od55 an55:Option Addr}{sl55:Array (Option Value)}{oc55 kV55 dc55 pm55 cd55 ct55:Value}
 (a0:PySem.W.nsIn K mainGlobals "is_whole"=some (some (.ref f0)))(l0:K.lookup f0=some ⟨oc0,od0,.func (PySem.W.fnOf "is_whole" "is_whole" (ao cT) (ak cT) (aj cT) .none kV0 dc0 pm0 an0 cd0 ct0),sl0⟩)(c0:PySem.W.codeIn K cd0 "is_whole"=true)(k0:PySem.W.keepIn K (.ref f0)=true)
 (a1:PySem.W.nsIn K mainGlobals "is_tuple_of"=some (some (.ref f1)))(l1:K.lookup f1=some ⟨oc1,od1,.func (PySem.W.fnOf "is_tuple_of" "is_tuple_of" (ao bM) (ak bM) (aj bM) .none kV1 dc1 pm1 an1 cd1 ct1),sl1⟩)(c1:PySem.W.codeIn K cd1 "is_tuple_of"=true)(k1:PySem.W.keepIn K (.ref f1)=true)
 (a2:PySem.W.nsIn K mainGlobals "is_widths"=some (some (.ref f2)))(l2:K.lookup f2=some ⟨oc2,od2,.func (PySem.W.fnOf "is_widths" "is_widths" (ao cN) (ak cN) (aj cN) .none kV2 dc2 pm2 an2 cd2 ct2),sl2⟩)(c2:PySem.W.codeIn K cd2 "is_widths"=true)(k2:PySem.W.keepIn K (.ref f2)=true)
 (a3:PySem.W.nsIn K mainGlobals "is_form"=some (some (.ref f3)))(l3:K.lookup f3=some ⟨oc3,od3,.func (PySem.W.fnOf "is_form" "is_form" (ao dJ) (ak dJ) (aj dJ) .none kV3 dc3 pm3 an3 cd3 ct3),sl3⟩)(c3:PySem.W.codeIn K cd3 "is_form"=true)(k3:PySem.W.keepIn K (.ref f3)=true)
 (a4:PySem.W.nsIn K mainGlobals "is_bound"=some (some (.ref f4)))(l4:K.lookup f4=some ⟨oc4,od4,.func (PySem.W.fnOf "is_bound" "is_bound" (ao dq) (ak dq) (aj dq) .none kV4 dc4 pm4 an4 cd4 ct4),sl4⟩)(c4:PySem.W.codeIn K cd4 "is_bound"=true)(k4:PySem.W.keepIn K (.ref f4)=true)
 (a5:PySem.W.nsIn K mainGlobals "is_loop"=some (some (.ref f5)))(l5:K.lookup f5=some ⟨oc5,od5,.func (PySem.W.fnOf "is_loop" "is_loop" (ao dM) (ak dM) (aj dM) .none kV5 dc5 pm5 an5 cd5 ct5),sl5⟩)(c5:PySem.W.codeIn K cd5 "is_loop"=true)(k5:PySem.W.keepIn K (.ref f5)=true)
 (a6:PySem.W.nsIn K mainGlobals "is_loops"=some (some (.ref f6)))(l6:K.lookup f6=some ⟨oc6,od6,.func (PySem.W.fnOf "is_loops" "is_loops" (ao du) (ak du) (aj du) .none kV6 dc6 pm6 an6 cd6 ct6),sl6⟩)(c6:PySem.W.codeIn K cd6 "is_loops"=true)(k6:PySem.W.keepIn K (.ref f6)=true)
 (a7:PySem.W.nsIn K mainGlobals "has_few_figures"=some (some (.ref f7)))(l7:K.lookup f7=some ⟨oc7,od7,.func (PySem.W.fnOf "has_few_figures" "has_few_figures" (ao bu) (ak bu) (aj bu) .none kV7 dc7 pm7 an7 cd7 ct7),sl7⟩)(c7:PySem.W.codeIn K cd7 "has_few_figures"=true)(k7:PySem.W.keepIn K (.ref f7)=true)
 (a8:PySem.W.nsIn K mainGlobals "is_start"=some (some (.ref f8)))(l8:K.lookup f8=some ⟨oc8,od8,.func (PySem.W.fnOf "is_start" "is_start" (ao cV) (ak cV) (aj cV) .none kV8 dc8 pm8 an8 cd8 ct8),sl8⟩)(c8:PySem.W.codeIn K cd8 "is_start"=true)(k8:PySem.W.keepIn K (.ref f8)=true)
 (a9:PySem.W.nsIn K mainGlobals "is_place_form"=some (some (.ref f9)))(l9:K.lookup f9=some ⟨oc9,od9,.func (PySem.W.fnOf "is_place_form" "is_place_form" (ao bB) (ak bB) (aj bB) .none kV9 dc9 pm9 an9 cd9 ct9),sl9⟩)(c9:PySem.W.codeIn K cd9 "is_place_form"=true)(k9:PySem.W.keepIn K (.ref f9)=true)
 (a10:PySem.W.nsIn K mainGlobals "is_table_with_place"=some (some (.ref f10)))(l10:K.lookup f10=some ⟨oc10,od10,.func (PySem.W.fnOf "is_table_with_place" "is_table_with_place" (ao aV) (ak aV) (aj aV) .none kV10 dc10 pm10 an10 cd10 ct10),sl10⟩)(c10:PySem.W.codeIn K cd10 "is_table_with_place"=true)(k10:PySem.W.keepIn K (.ref f10)=true)
 (a11:PySem.W.nsIn K mainGlobals "is_read"=some (some (.ref f11)))(l11:K.lookup f11=some ⟨oc11,od11,.func (PySem.W.fnOf "is_read" "is_read" (ao dR) (ak dR) (aj dR) .none kV11 dc11 pm11 an11 cd11 ct11),sl11⟩)(c11:PySem.W.codeIn K cd11 "is_read"=true)(k11:PySem.W.keepIn K (.ref f11)=true)
 (a12:PySem.W.nsIn K mainGlobals "is_reads"=some (some (.ref f12)))(l12:K.lookup f12=some ⟨oc12,od12,.func (PySem.W.fnOf "is_reads" "is_reads" (ao cY) (ak cY) (aj cY) .none kV12 dc12 pm12 an12 cd12 ct12),sl12⟩)(c12:PySem.W.codeIn K cd12 "is_reads"=true)(k12:PySem.W.keepIn K (.ref f12)=true)
 (a13:PySem.W.nsIn K mainGlobals "is_deed"=some (some (.ref f13)))(l13:K.lookup f13=some ⟨oc13,od13,.func (PySem.W.fnOf "is_deed" "is_deed" (ao dX) (ak dX) (aj dX) .none kV13 dc13 pm13 an13 cd13 ct13),sl13⟩)(c13:PySem.W.codeIn K cd13 "is_deed"=true)(k13:PySem.W.keepIn K (.ref f13)=true)
 (a14:PySem.W.nsIn K mainGlobals "is_nest"=some (some (.ref f14)))(l14:K.lookup f14=some ⟨oc14,od14,.func (PySem.W.fnOf "is_nest" "is_nest" (ao dU) (ak dU) (aj dU) .none kV14 dc14 pm14 an14 cd14 ct14),sl14⟩)(c14:PySem.W.codeIn K cd14 "is_nest"=true)(k14:PySem.W.keepIn K (.ref f14)=true)
 (a15:PySem.W.nsIn K mainGlobals "is_nests"=some (some (.ref f15)))(l15:K.lookup f15=some ⟨oc15,od15,.func (PySem.W.fnOf "is_nests" "is_nests" (ao cZ) (ak cZ) (aj cZ) .none kV15 dc15 pm15 an15 cd15 ct15),sl15⟩)(c15:PySem.W.codeIn K cd15 "is_nests"=true)(k15:PySem.W.keepIn K (.ref f15)=true)
 (a16:PySem.W.nsIn K mainGlobals "comes_to"=some (some (.ref f16)))(l16:K.lookup f16=some ⟨oc16,od16,.func (PySem.W.fnOf "comes_to" "comes_to" (ao di) (ak di) (aj di) .none kV16 dc16 pm16 an16 cd16 ct16),sl16⟩)(c16:PySem.W.codeIn K cd16 "comes_to"=true)(k16:PySem.W.keepIn K (.ref f16)=true)
 (a17:PySem.W.nsIn K mainGlobals "with_next_count"=some (some (.ref f17)))(l17:K.lookup f17=some ⟨oc17,od17,.func (PySem.W.fnOf "with_next_count" "with_next_count" (ao bh) (ak bh) (aj bh) .none kV17 dc17 pm17 an17 cd17 ct17),sl17⟩)(c17:PySem.W.codeIn K cd17 "with_next_count"=true)(k17:PySem.W.keepIn K (.ref f17)=true)
 (a18:PySem.W.nsIn K mainGlobals "counts_of"=some (some (.ref f18)))(l18:K.lookup f18=some ⟨oc18,od18,.func (PySem.W.fnOf "counts_of" "counts_of" (ao cJ) (ak cJ) (aj cJ) .none kV18 dc18 pm18 an18 cd18 ct18),sl18⟩)(c18:PySem.W.codeIn K cd18 "counts_of"=true)(k18:PySem.W.keepIn K (.ref f18)=true)
 (a19:PySem.W.nsIn K mainGlobals "number_of_steps"=some (some (.ref f19)))(l19:K.lookup f19=some ⟨oc19,od19,.func (PySem.W.fnOf "number_of_steps" "number_of_steps" (ao bj) (ak bj) (aj bj) .none kV19 dc19 pm19 an19 cd19 ct19),sl19⟩)(c19:PySem.W.codeIn K cd19 "number_of_steps"=true)(k19:PySem.W.keepIn K (.ref f19)=true)
 (a20:PySem.W.nsIn K mainGlobals "program_of"=some (some (.ref f20)))(l20:K.lookup f20=some ⟨oc20,od20,.func (PySem.W.fnOf "program_of" "program_of" (ao cj) (ak cj) (aj cj) .none kV20 dc20 pm20 an20 cd20 ct20),sl20⟩)(c20:PySem.W.codeIn K cd20 "program_of"=true)(k20:PySem.W.keepIn K (.ref f20)=true)
 (a21:PySem.W.nsIn K mainGlobals "without_sign"=some (some (.ref f21)))(l21:K.lookup f21=some ⟨oc21,od21,.func (PySem.W.fnOf "without_sign" "without_sign" (ao bI) (ak bI) (aj bI) .none kV21 dc21 pm21 an21 cd21 ct21),sl21⟩)(c21:PySem.W.codeIn K cd21 "without_sign"=true)(k21:PySem.W.keepIn K (.ref f21)=true)
 (a22:PySem.W.nsIn K mainGlobals "is_number"=some (some (.ref f22)))(l22:K.lookup f22=some ⟨oc22,od22,.func (PySem.W.fnOf "is_number" "is_number" (ao cH) (ak cH) (aj cH) .none kV22 dc22 pm22 an22 cd22 ct22),sl22⟩)(c22:PySem.W.codeIn K cd22 "is_number"=true)(k22:PySem.W.keepIn K (.ref f22)=true)
 (a23:PySem.W.nsIn K mainGlobals "number_read"=some (some (.ref f23)))(l23:K.lookup f23=some ⟨oc23,od23,.func (PySem.W.fnOf "number_read" "number_read" (ao bL) (ak bL) (aj bL) .none kV23 dc23 pm23 an23 cd23 ct23),sl23⟩)(c23:PySem.W.codeIn K cd23 "number_read"=true)(k23:PySem.W.keepIn K (.ref f23)=true)
 (a24:PySem.W.nsIn K mainGlobals "form_read"=some (some (.ref f24)))(l24:K.lookup f24=some ⟨oc24,od24,.func (PySem.W.fnOf "form_read" "form_read" (ao cL) (ak cL) (aj cL) .none kV24 dc24 pm24 an24 cd24 ct24),sl24⟩)(c24:PySem.W.codeIn K cd24 "form_read"=true)(k24:PySem.W.keepIn K (.ref f24)=true)
 (a25:PySem.W.nsIn K mainGlobals "refuse_other_words"=some (some (.ref f25)))(l25:K.lookup f25=some ⟨oc25,od25,.func (PySem.W.fnOf "refuse_other_words" "refuse_other_words" (ao aW) (ak aW) (aj aW) .none kV25 dc25 pm25 an25 cd25 ct25),sl25⟩)(c25:PySem.W.codeIn K cd25 "refuse_other_words"=true)(k25:PySem.W.keepIn K (.ref f25)=true)
 (a26:PySem.W.nsIn K mainGlobals "loop_read"=some (some (.ref f26)))(l26:K.lookup f26=some ⟨oc26,od26,.func (PySem.W.fnOf "loop_read" "loop_read" (ao cQ) (ak cQ) (aj cQ) .none kV26 dc26 pm26 an26 cd26 ct26),sl26⟩)(c26:PySem.W.codeIn K cd26 "loop_read"=true)(k26:PySem.W.keepIn K (.ref f26)=true)
 (a27:PySem.W.nsIn K mainGlobals "cell_read"=some (some (.ref f27)))(l27:K.lookup f27=some ⟨oc27,od27,.func (PySem.W.fnOf "cell_read" "cell_read" (ao cM) (ak cM) (aj cM) .none kV27 dc27 pm27 an27 cd27 ct27),sl27⟩)(c27:PySem.W.codeIn K cd27 "cell_read"=true)(k27:PySem.W.keepIn K (.ref f27)=true)
 (a28:PySem.W.nsIn K mainGlobals "deed_read"=some (some (.ref f28)))(l28:K.lookup f28=some ⟨oc28,od28,.func (PySem.W.fnOf "deed_read" "deed_read" (ao cG) (ak cG) (aj cG) .none kV28 dc28 pm28 an28 cd28 ct28),sl28⟩)(c28:PySem.W.codeIn K cd28 "deed_read"=true)(k28:PySem.W.keepIn K (.ref f28)=true)
 (a29:PySem.W.nsIn K mainGlobals "with_read"=some (some (.ref f29)))(l29:K.lookup f29=some ⟨oc29,od29,.func (PySem.W.fnOf "with_read" "with_read" (ao cO) (ak cO) (aj cO) .none kV29 dc29 pm29 an29 cd29 ct29),sl29⟩)(c29:PySem.W.codeIn K cd29 "with_read"=true)(k29:PySem.W.keepIn K (.ref f29)=true)
 (a30:PySem.W.nsIn K mainGlobals "with_line"=some (some (.ref f30)))(l30:K.lookup f30=some ⟨oc30,od30,.func (PySem.W.fnOf "with_line" "with_line" (ao cP) (ak cP) (aj cP) .none kV30 dc30 pm30 an30 cd30 ct30),sl30⟩)(c30:PySem.W.codeIn K cd30 "with_line"=true)(k30:PySem.W.keepIn K (.ref f30)=true)
 (a31:PySem.W.nsIn K mainGlobals "nests_read"=some (some (.ref f31)))(l31:K.lookup f31=some ⟨oc31,od31,.func (PySem.W.fnOf "nests_read" "nests_read" (ao cu) (ak cu) (aj cu) .none kV31 dc31 pm31 an31 cd31 ct31),sl31⟩)(c31:PySem.W.codeIn K cd31 "nests_read"=true)(k31:PySem.W.keepIn K (.ref f31)=true)
 (a32:PySem.W.nsIn K mainGlobals "widths_read"=some (some (.ref f32)))(l32:K.lookup f32=some ⟨oc32,od32,.func (PySem.W.fnOf "widths_read" "widths_read" (ao bN) (ak bN) (aj bN) .none kV32 dc32 pm32 an32 cd32 ct32),sl32⟩)(c32:PySem.W.codeIn K cd32 "widths_read"=true)(k32:PySem.W.keepIn K (.ref f32)=true)
 (a33:PySem.W.nsIn K mainGlobals "read"=some (some (.ref f33)))(l33:K.lookup f33=some ⟨oc33,od33,.func (PySem.W.fnOf "read" "read" (ao il) (ak il) (aj il) .none kV33 dc33 pm33 an33 cd33 ct33),sl33⟩)(c33:PySem.W.codeIn K cd33 "read"=true)(k33:PySem.W.keepIn K (.ref f33)=true)
 (a34:PySem.W.nsIn K mainGlobals "shown_form"=some (some (.ref f34)))(l34:K.lookup f34=some ⟨oc34,od34,.func (PySem.W.fnOf "shown_form" "shown_form" (ao bW) (ak bW) (aj bW) .none kV34 dc34 pm34 an34 cd34 ct34),sl34⟩)(c34:PySem.W.codeIn K cd34 "shown_form"=true)(k34:PySem.W.keepIn K (.ref f34)=true)
 (a35:PySem.W.nsIn K mainGlobals "shown_loop"=some (some (.ref f35)))(l35:K.lookup f35=some ⟨oc35,od35,.func (PySem.W.fnOf "shown_loop" "shown_loop" (ao bV) (ak bV) (aj bV) .none kV35 dc35 pm35 an35 cd35 ct35),sl35⟩)(c35:PySem.W.codeIn K cd35 "shown_loop"=true)(k35:PySem.W.keepIn K (.ref f35)=true)
 (a36:PySem.W.nsIn K mainGlobals "shown_cell"=some (some (.ref f36)))(l36:K.lookup f36=some ⟨oc36,od36,.func (PySem.W.fnOf "shown_cell" "shown_cell" (ao bZ) (ak bZ) (aj bZ) .none kV36 dc36 pm36 an36 cd36 ct36),sl36⟩)(c36:PySem.W.codeIn K cd36 "shown_cell"=true)(k36:PySem.W.keepIn K (.ref f36)=true)
 (a37:PySem.W.nsIn K mainGlobals "shown_read"=some (some (.ref f37)))(l37:K.lookup f37=some ⟨oc37,od37,.func (PySem.W.fnOf "shown_read" "shown_read" (ao bR) (ak bR) (aj bR) .none kV37 dc37 pm37 an37 cd37 ct37),sl37⟩)(c37:PySem.W.codeIn K cd37 "shown_read"=true)(k37:PySem.W.keepIn K (.ref f37)=true)
 (a38:PySem.W.nsIn K mainGlobals "shown_deed"=some (some (.ref f38)))(l38:K.lookup f38=some ⟨oc38,od38,.func (PySem.W.fnOf "shown_deed" "shown_deed" (ao bQ) (ak bQ) (aj bQ) .none kV38 dc38 pm38 an38 cd38 ct38),sl38⟩)(c38:PySem.W.codeIn K cd38 "shown_deed"=true)(k38:PySem.W.keepIn K (.ref f38)=true)
 (a39:PySem.W.nsIn K mainGlobals "shown_nest"=some (some (.ref f39)))(l39:K.lookup f39=some ⟨oc39,od39,.func (PySem.W.fnOf "shown_nest" "shown_nest" (ao bU) (ak bU) (aj bU) .none kV39 dc39 pm39 an39 cd39 ct39),sl39⟩)(c39:PySem.W.codeIn K cd39 "shown_nest"=true)(k39:PySem.W.keepIn K (.ref f39)=true)
 (a40:PySem.W.nsIn K mainGlobals "shown"=some (some (.ref f40)))(l40:K.lookup f40=some ⟨oc40,od40,.func (PySem.W.fnOf "shown" "shown" (ao gn) (ak gn) (aj gn) .none kV40 dc40 pm40 an40 cd40 ct40),sl40⟩)(c40:PySem.W.codeIn K cd40 "shown"=true)(k40:PySem.W.keepIn K (.ref f40)=true)
 (a41:PySem.W.nsIn K mainGlobals "_law_cell_at"=some (some (.ref f41)))(l41:K.lookup f41=some ⟨oc41,od41,.func (PySem.W.fnOf "_law_cell_at" "_law_cell_at" (ao dO) (ak dO) (aj dO) .none kV41 dc41 pm41 an41 cd41 ct41),sl41⟩)(c41:PySem.W.codeIn K cd41 "_law_cell_at"=true)(k41:PySem.W.keepIn K (.ref f41)=true)
 (a42:PySem.W.nsIn K mainGlobals "_law_pen"=some (some (.ref f42)))(l42:K.lookup f42=some ⟨oc42,od42,.func (PySem.W.fnOf "_law_pen" "_law_pen" (ao ju) (ak ju) (aj ju) .none kV42 dc42 pm42 an42 cd42 ct42),sl42⟩)(c42:PySem.W.codeIn K cd42 "_law_pen"=true)(k42:PySem.W.keepIn K (.ref f42)=true)
 (a43:PySem.W.nsIn K mainGlobals "_law_take"=some (some (.ref f43)))(l43:K.lookup f43=some ⟨oc43,od43,.func (PySem.W.fnOf "_law_take" "_law_take" (ao iC) (ak iC) (aj iC) .none kV43 dc43 pm43 an43 cd43 ct43),sl43⟩)(c43:PySem.W.codeIn K cd43 "_law_take"=true)(k43:PySem.W.keepIn K (.ref f43)=true)
 (a44:PySem.W.nsIn K mainGlobals "_law_loop"=some (some (.ref f44)))(l44:K.lookup f44=some ⟨oc44,od44,.func (PySem.W.fnOf "_law_loop" "_law_loop" (ao iI) (ak iI) (aj iI) .none kV44 dc44 pm44 an44 cd44 ct44),sl44⟩)(c44:PySem.W.codeIn K cd44 "_law_loop"=true)(k44:PySem.W.keepIn K (.ref f44)=true)
 (a45:PySem.W.nsIn K mainGlobals "_law_at"=some (some (.ref f45)))(l45:K.lookup f45=some ⟨oc45,od45,.func (PySem.W.fnOf "_law_at" "_law_at" (ao mC) (ak mC) (aj mC) .none kV45 dc45 pm45 an45 cd45 ct45),sl45⟩)(c45:PySem.W.codeIn K cd45 "_law_at"=true)(k45:PySem.W.keepIn K (.ref f45)=true)
 (a46:PySem.W.nsIn K mainGlobals "_law_many"=some (some (.ref f46)))(l46:K.lookup f46=some ⟨oc46,od46,.func (PySem.W.fnOf "_law_many" "_law_many" (ao iG) (ak iG) (aj iG) .none kV46 dc46 pm46 an46 cd46 ct46),sl46⟩)(c46:PySem.W.codeIn K cd46 "_law_many"=true)(k46:PySem.W.keepIn K (.ref f46)=true)
 (a47:PySem.W.nsIn K mainGlobals "_law_great"=some (some (.ref f47)))(l47:K.lookup f47=some ⟨oc47,od47,.func (PySem.W.fnOf "_law_great" "_law_great" (ao gC) (ak gC) (aj gC) .none kV47 dc47 pm47 an47 cd47 ct47),sl47⟩)(c47:PySem.W.codeIn K cd47 "_law_great"=true)(k47:PySem.W.keepIn K (.ref f47)=true)
 (a48:PySem.W.nsIn K mainGlobals "_law_form"=some (some (.ref f48)))(l48:K.lookup f48=some ⟨oc48,od48,.func (PySem.W.fnOf "_law_form" "_law_form" (ao ig) (ak ig) (aj ig) .none kV48 dc48 pm48 an48 cd48 ct48),sl48⟩)(c48:PySem.W.codeIn K cd48 "_law_form"=true)(k48:PySem.W.keepIn K (.ref f48)=true)
 (a49:PySem.W.nsIn K mainGlobals "_law_deed"=some (some (.ref f49)))(l49:K.lookup f49=some ⟨oc49,od49,.func (PySem.W.fnOf "_law_deed" "_law_deed" (ao iH) (ak iH) (aj iH) .none kV49 dc49 pm49 an49 cd49 ct49),sl49⟩)(c49:PySem.W.codeIn K cd49 "_law_deed"=true)(k49:PySem.W.keepIn K (.ref f49)=true)
 (a50:PySem.W.nsIn K mainGlobals "_law_program"=some (some (.ref f50)))(l50:K.lookup f50=some ⟨oc50,od50,.func (PySem.W.fnOf "_law_program" "_law_program" (ao dN) (ak dN) (aj dN) .none kV50 dc50 pm50 an50 cd50 ct50),sl50⟩)(c50:PySem.W.codeIn K cd50 "_law_program"=true)(k50:PySem.W.keepIn K (.ref f50)=true)
 (a51:PySem.W.nsIn K mainGlobals "_law_form_text"=some (some (.ref f51)))(l51:K.lookup f51=some ⟨oc51,od51,.func (PySem.W.fnOf "_law_form_text" "_law_form_text" (ao cF) (ak cF) (aj cF) .none kV51 dc51 pm51 an51 cd51 ct51),sl51⟩)(c51:PySem.W.codeIn K cd51 "_law_form_text"=true)(k51:PySem.W.keepIn K (.ref f51)=true)
 (a52:PySem.W.nsIn K mainGlobals "_law_cell_text"=some (some (.ref f52)))(l52:K.lookup f52=some ⟨oc52,od52,.func (PySem.W.fnOf "_law_cell_text" "_law_cell_text" (ao cI) (ak cI) (aj cI) .none kV52 dc52 pm52 an52 cd52 ct52),sl52⟩)(c52:PySem.W.codeIn K cd52 "_law_cell_text"=true)(k52:PySem.W.keepIn K (.ref f52)=true)
 (a53:PySem.W.nsIn K mainGlobals "_law_text"=some (some (.ref f53)))(l53:K.lookup f53=some ⟨oc53,od53,.func (PySem.W.fnOf "_law_text" "_law_text" (ao gY) (ak gY) (aj gY) .none kV53 dc53 pm53 an53 cd53 ct53),sl53⟩)(c53:PySem.W.codeIn K cd53 "_law_text"=true)(k53:PySem.W.keepIn K (.ref f53)=true)
 (a54:PySem.W.nsIn K mainGlobals "_law_numbers"=some (some (.ref f54)))(l54:K.lookup f54=some ⟨oc54,od54,.func (PySem.W.fnOf "_law_numbers" "_law_numbers" (ao aK) (ak aK) (aj aK) .none kV54 dc54 pm54 an54 cd54 ct54),sl54⟩)(c54:PySem.W.codeIn K cd54 "_law_numbers"=true)(k54:PySem.W.keepIn K (.ref f54)=true)
 (a55:PySem.W.nsIn K mainGlobals "law"=some (some (.ref f55)))(l55:K.lookup f55=some ⟨oc55,od55,.func (PySem.W.fnOf "law" "law" (ao je) (ak je) (aj je) .none kV55 dc55 pm55 an55 cd55 ct55),sl55⟩)(c55:PySem.W.codeIn K cd55 "law"=true)(k55:PySem.W.keepIn K (.ref f55)=true)
 {t_ENOUGH_SIGNS:Tok}(z_ENOUGH_SIGNS:PySem.W.nsIn K mainGlobals "ENOUGH_SIGNS"=some (some (.int 99 t_ENOUGH_SIGNS)))
 {t_FIGURES:Tok}(z_FIGURES:PySem.W.nsIn K mainGlobals "FIGURES"=some (some (.str "0123456789" t_FIGURES)))
 (z_LETTERS:gtB K "LETTERS" ["a","b","c"]=true)
 {t_MOST_STEPS:Tok}(z_MOST_STEPS:PySem.W.nsIn K mainGlobals "MOST_STEPS"=some (some (.int 60 t_MOST_STEPS)))
 (z_abs:PySem.W.nsIn K mainGlobals "abs"=some none)
 (z_all:PySem.W.nsIn K mainGlobals "all"=some none)
 (z_bool:PySem.W.nsIn K mainGlobals "bool"=some none)
 (z_enumerate:PySem.W.nsIn K mainGlobals "enumerate"=some none)
 (z_int:PySem.W.nsIn K mainGlobals "int"=some none)
 (z_isinstance:PySem.W.nsIn K mainGlobals "isinstance"=some none)
 (z_len:PySem.W.nsIn K mainGlobals "len"=some none)
 (z_min:PySem.W.nsIn K mainGlobals "min"=some none)
 (z_range:PySem.W.nsIn K mainGlobals "range"=some none)
 (z_str:PySem.W.nsIn K mainGlobals "str"=some none)
 (z_sum:PySem.W.nsIn K mainGlobals "sum"=some none)
 (z_tuple:PySem.W.nsIn K mainGlobals "tuple"=some none)
 (z_zip:PySem.W.nsIn K mainGlobals "zip"=some none)
 (z_ex:XL.all (Jl K XT)=true)
 :∃fd:FuncData,(∀(s:Shared)(v:Value),BindsTo s fd ⟨[v],[]⟩ [("_law_script",v)])/\∀base:Heap,K.In base->base.Ns mainGlobals mg->FnOk l.prog w K mg base CX0 12 fa fd ["_law_script"] (spC K 1 qY):=by
 have e:=hfa.symm.trans (PySem.W.mg_of X G a55)
 cases e
 have F0:=aq (st:=cT) l0 c0 k0
 have b0:=F0.binds (ps:=mq) λ _ _ _ _ _ _=>by1 λ _=>rfl
 have F1:=aq (st:=bM) l1 c1 k1
 have b1:=F1.binds (ps:=iW) λ _ _ _ _ _ _=>by3 λ _ _ _=>rfl
 have F2:=aq (st:=cN) l2 c2 k2
 have b2:=F2.binds (ps:=lE) λ _ _ _ _ _ _=>by1 λ _=>rfl
 have F3:=aq (st:=dJ) l3 c3 k3
 have b3:=F3.binds (ps:=nM) λ _ _ _ _ _ _=>by2 λ _ _=>rfl
 have F4:=aq (st:=dq) l4 c4 k4
 have b4:=F4.binds (ps:=lY) λ _ _ _ _ _ _=>by2 λ _ _=>rfl
 have F5:=aq (st:=dM) l5 c5 k5
 have b5:=F5.binds (ps:=nU) λ _ _ _ _ _ _=>by2 λ _ _=>rfl
 have F6:=aq (st:=du) l6 c6 k6
 have b6:=F6.binds (ps:=lQ) λ _ _ _ _ _ _=>by1 λ _=>rfl
 have F7:=aq (st:=bu) l7 c7 k7
 have b7:=F7.binds (ps:=fG) λ _ _ _ _ _ _=>by1 λ _=>rfl
 have F8:=aq (st:=cV) l8 c8 k8
 have b8:=F8.binds (ps:=lM) λ _ _ _ _ _ _=>by2 λ _ _=>rfl
 have F9:=aq (st:=bB) l9 c9 k9
 have b9:=F9.binds (ps:=gJ) λ _ _ _ _ _ _=>by2 λ _ _=>rfl
 have F10:=aq (st:=aV) l10 c10 k10
 have b10:=F10.binds (ps:=dD) λ _ _ _ _ _ _=>by4 λ _ _ _ _=>rfl
 have F11:=aq (st:=dR) l11 c11 k11
 have b11:=F11.binds (ps:=n8) λ _ _ _ _ _ _=>by3 λ _ _ _=>rfl
 have F12:=aq (st:=cY) l12 c12 k12
 have b12:=F12.binds (ps:=mD) λ _ _ _ _ _ _=>by3 λ _ _ _=>rfl
 have F13:=aq (st:=dX) l13 c13 k13
 have b13:=F13.binds (ps:=nQ) λ _ _ _ _ _ _=>by3 λ _ _ _=>rfl
 have F14:=aq (st:=dU) l14 c14 k14
 have b14:=F14.binds (ps:=nP) λ _ _ _ _ _ _=>by2 λ _ _=>rfl
 have F15:=aq (st:=cZ) l15 c15 k15
 have b15:=F15.binds (ps:=lU) λ _ _ _ _ _ _=>by2 λ _ _=>rfl
 have F16:=aq (st:=di) l16 c16 k16
 have b16:=F16.binds (ps:=mO) λ _ _ _ _ _ _=>by2 λ _ _=>rfl
 have F17:=aq (st:=bh) l17 c17 k17
 have b17:=F17.binds (ps:=fJ) λ _ _ _ _ _ _=>by3 λ _ _ _=>rfl
 have F18:=aq (st:=cJ) l18 c18 k18
 have b18:=F18.binds (ps:=lg) λ _ _ _ _ _ _=>by1 λ _=>rfl
 have F19:=aq (st:=bj) l19 c19 k19
 have b19:=F19.binds (ps:=fH) λ _ _ _ _ _ _=>by1 λ _=>rfl
 have F20:=aq (st:=cj) l20 c20 k20
 have b20:=F20.binds (ps:=jM) λ _ _ _ _ _ _=>by2 λ _ _=>rfl
 have F21:=aq (st:=bI) l21 c21 k21
 have b21:=F21.binds (ps:=iJ) λ _ _ _ _ _ _=>by1 λ _=>rfl
 have F22:=aq (st:=cH) l22 c22 k22
 have b22:=F22.binds (ps:=lz) λ _ _ _ _ _ _=>by1 λ _=>rfl
 have F23:=aq (st:=bL) l23 c23 k23
 have b23:=F23.binds (ps:=jh) λ _ _ _ _ _ _=>by1 λ _=>rfl
 have F24:=aq (st:=cL) l24 c24 k24
 have b24:=F24.binds (ps:=lB) λ _ _ _ _ _ _=>by1 λ _=>rfl
 have F25:=aq (st:=aW) l25 c25 k25
 have b25:=F25.binds (ps:=dY) λ _ _ _ _ _ _=>by2 λ _ _=>rfl
 have F26:=aq (st:=cQ) l26 c26 k26
 have b26:=F26.binds (ps:=lq) λ _ _ _ _ _ _=>by1 λ _=>rfl
 have F27:=aq (st:=cM) l27 c27 k27
 have b27:=F27.binds (ps:=lr) λ _ _ _ _ _ _=>by1 λ _=>rfl
 have F28:=aq (st:=cG) l28 c28 k28
 have b28:=F28.binds (ps:=kW) λ _ _ _ _ _ _=>by1 λ _=>rfl
 have F29:=aq (st:=cO) l29 c29 k29
 have b29:=F29.binds (ps:=lu) λ _ _ _ _ _ _=>by2 λ _ _=>rfl
 have F30:=aq (st:=cP) l30 c30 k30
 have b30:=F30.binds (ps:=lC) λ _ _ _ _ _ _=>by2 λ _ _=>rfl
 have F31:=aq (st:=cu) l31 c31 k31
 have b31:=F31.binds (ps:=jJ) λ _ _ _ _ _ _=>by1 λ _=>rfl
 have F32:=aq (st:=bN) l32 c32 k32
 have b32:=F32.binds (ps:=iY) λ _ _ _ _ _ _=>by1 λ _=>rfl
 have F33:=aq (st:=il) l33 c33 k33
 have b33:=F33.binds (ps:=zr) λ _ _ _ _ _ _=>by1 λ _=>rfl
 have F34:=aq (st:=bW) l34 c34 k34
 have b34:=F34.binds (ps:=jG) λ _ _ _ _ _ _=>by1 λ _=>rfl
 have F35:=aq (st:=bV) l35 c35 k35
 have b35:=F35.binds (ps:=jQ) λ _ _ _ _ _ _=>by1 λ _=>rfl
 have F36:=aq (st:=bZ) l36 c36 k36
 have b36:=F36.binds (ps:=jE) λ _ _ _ _ _ _=>by2 λ _ _=>rfl
 have F37:=aq (st:=bR) l37 c37 k37
 have b37:=F37.binds (ps:=jL) λ _ _ _ _ _ _=>by3 λ _ _ _=>rfl
 have F38:=aq (st:=bQ) l38 c38 k38
 have b38:=F38.binds (ps:=jP) λ _ _ _ _ _ _=>by1 λ _=>rfl
 have F39:=aq (st:=bU) l39 c39 k39
 have b39:=F39.binds (ps:=jH) λ _ _ _ _ _ _=>by2 λ _ _=>rfl
 have F40:=aq (st:=gn) l40 c40 k40
 have b40:=F40.binds (ps:=v5) λ _ _ _ _ _ _=>by1 λ _=>rfl
 have F41:=aq (st:=dO) l41 c41 k41
 have b41:=F41.binds (ps:=nZ) λ _ _ _ _ _ _=>by2 λ _ _=>rfl
 have F42:=aq (st:=ju) l42 c42 k42
 have b42:=F42.binds (ps:=BJ) λ _ _ _ _ _ _=>by1 λ _=>rfl
 have F43:=aq (st:=iC) l43 c43 k43
 have b43:=F43.binds (ps:=yO) λ _ _ _ _ _ _=>by2 λ _ _=>rfl
 have F44:=aq (st:=iI) l44 c44 k44
 have b44:=F44.binds (ps:=yZ) λ _ _ _ _ _ _=>by2 λ _ _=>rfl
 have F45:=aq (st:=mC) l45 c45 k45
 have b45:=F45.binds (ps:=Gh) λ _ _ _ _ _ _=>by2 λ _ _=>rfl
 have F46:=aq (st:=iG) l46 c46 k46
 have b46:=F46.binds (ps:=Ae) λ _ _ _ _ _ _=>by1 λ _=>rfl
 have F47:=aq (st:=gC) l47 c47 k47
 have b47:=F47.binds (ps:=v7) λ _ _ _ _ _ _=>by2 λ _ _=>rfl
 have F48:=aq (st:=ig) l48 c48 k48
 have b48:=F48.binds (ps:=zj) λ _ _ _ _ _ _=>by3 λ _ _ _=>rfl
 have F49:=aq (st:=iH) l49 c49 k49
 have b49:=F49.binds (ps:=zT) λ _ _ _ _ _ _=>by3 λ _ _ _=>rfl
 have F50:=aq (st:=dN) l50 c50 k50
 have b50:=F50.binds (ps:=nT) λ _ _ _ _ _ _=>by1 λ _=>rfl
 have F51:=aq (st:=cF) l51 c51 k51
 have b51:=F51.binds (ps:=lD) λ _ _ _ _ _ _=>by1 λ _=>rfl
 have F52:=aq (st:=cI) l52 c52 k52
 have b52:=F52.binds (ps:=kZ) λ _ _ _ _ _ _=>by2 λ _ _=>rfl
 have F53:=aq (st:=gY) l53 c53 k53
 have b53:=F53.binds (ps:=zG) λ _ _ _ _ _ _=>by1 λ _=>rfl
 have F54:=aq (st:=aK) l54 c54 k54
 have b54:=F54.binds (ps:=aO) λ _ _ _ _ _ _=>by1 λ _=>rfl
 have F55:=aq (st:=je) l55 c55 k55
 refine⟨PySem.W.fnOf "law" "law" (ao je) (ak je) (aj je) .none kV55 dc55 pm55 an55 cd55 ct55,λ s v=>.of_eq rfl,λ base _ _=>?_⟩
 have B:Bi mg K:=⟨⟨_,PySem.W.mg_of X G z_ENOUGH_SIGNS⟩,⟨_,PySem.W.mg_of X G z_FIGURES⟩,RG X G z_LETTERS,⟨_,PySem.W.mg_of X G z_MOST_STEPS⟩,PySem.W.mg_none_of X G z_abs,PySem.W.mg_none_of X G z_all,PySem.W.mg_none_of X G z_bool,PySem.W.mg_none_of X G z_enumerate,PySem.W.mg_none_of X G z_int,PySem.W.mg_none_of X G z_isinstance,PySem.W.mg_none_of X G z_len,PySem.W.mg_none_of X G z_min,PySem.W.mg_none_of X G z_range,PySem.W.mg_none_of X G z_str,PySem.W.mg_none_of X G z_sum,PySem.W.mg_none_of X G z_tuple,PySem.W.mg_none_of X G z_zip⟩
 have E:ExF mg K XL XT:=N5 X G z_ex
 have Cq45:Cal ⟨l.prog,w,K,mg,base,none⟩ "is_whole" 1 1 gW:=callee (Ω:=⟨l.prog,w,K,mg,base,none⟩) F0 (wQ (Ω:=⟨l.prog,w,K,mg,base,none⟩) F0 rfl B) (PySem.W.mg_of X G a0) b0
 have Cq44:Cal ⟨l.prog,w,K,mg,base,none⟩ "is_tuple_of" 1 3 d8:=callee (Ω:=⟨l.prog,w,K,mg,base,none⟩) F1 (pP (Ω:=⟨l.prog,w,K,mg,base,none⟩) F1 rfl B) (PySem.W.mg_of X G a1) b1
 have Cq46:Cal ⟨l.prog,w,K,mg,base,none⟩ "is_widths" 2 1 pA:=callee (Ω:=⟨l.prog,w,K,mg,base,none⟩) F2 (uF (Ω:=⟨l.prog,w,K,mg,base,none⟩) F2 rfl B Cq45 Cq44) (PySem.W.mg_of X G a2) b2
 have Cq33:Cal ⟨l.prog,w,K,mg,base,none⟩ "is_form" 2 2 mL:=callee (Ω:=⟨l.prog,w,K,mg,base,none⟩) F3 (zy (Ω:=⟨l.prog,w,K,mg,base,none⟩) F3 rfl B Cq45 Cq44) (PySem.W.mg_of X G a3) b3
 have Cq31:Cal ⟨l.prog,w,K,mg,base,none⟩ "is_bound" 3 2 uY:=callee (Ω:=⟨l.prog,w,K,mg,base,none⟩) F4 (wB (Ω:=⟨l.prog,w,K,mg,base,none⟩) F4 rfl B Cq33) (PySem.W.mg_of X G a4) b4
 have Cq34:Cal ⟨l.prog,w,K,mg,base,none⟩ "is_loop" 4 2 yH:=callee (Ω:=⟨l.prog,w,K,mg,base,none⟩) F5 (zM (Ω:=⟨l.prog,w,K,mg,base,none⟩) F5 rfl Cq44 Cq31) (PySem.W.mg_of X G a5) b5
 have Cq35:Cal ⟨l.prog,w,K,mg,base,none⟩ "is_loops" 5 1 uU:=callee (Ω:=⟨l.prog,w,K,mg,base,none⟩) F6 (ww (Ω:=⟨l.prog,w,K,mg,base,none⟩) F6 rfl B Cq44 Cq34) (PySem.W.mg_of X G a6) b6
 have Cq30:Cal ⟨l.prog,w,K,mg,base,none⟩ "has_few_figures" 1 1 xY:=callee (Ω:=⟨l.prog,w,K,mg,base,none⟩) F7 (jW (Ω:=⟨l.prog,w,K,mg,base,none⟩) F7 rfl B) (PySem.W.mg_of X G a7) b7
 have Cq42:Cal ⟨l.prog,w,K,mg,base,none⟩ "is_start" 3 2 vo:=callee (Ω:=⟨l.prog,w,K,mg,base,none⟩) F8 (wO (Ω:=⟨l.prog,w,K,mg,base,none⟩) F8 rfl B Cq33 Cq30) (PySem.W.mg_of X G a8) b8
 have Cq39:Cal ⟨l.prog,w,K,mg,base,none⟩ "is_place_form" 3 2 pO:=callee (Ω:=⟨l.prog,w,K,mg,base,none⟩) F9 (mJ (Ω:=⟨l.prog,w,K,mg,base,none⟩) F9 rfl B Cq33) (PySem.W.mg_of X G a9) b9
 have Cq43:Cal ⟨l.prog,w,K,mg,base,none⟩ "is_table_with_place" 4 4 Ej:=callee (Ω:=⟨l.prog,w,K,mg,base,none⟩) F10 (iu (Ω:=⟨l.prog,w,K,mg,base,none⟩) F10 rfl B Cq45 Cq44 Cq39) (PySem.W.mg_of X G a10) b10
 have Cq40:Cal ⟨l.prog,w,K,mg,base,none⟩ "is_read" 5 3 An:=callee (Ω:=⟨l.prog,w,K,mg,base,none⟩) F11 (yR (Ω:=⟨l.prog,w,K,mg,base,none⟩) F11 rfl Cq45 Cq44 Cq30 Cq43) (PySem.W.mg_of X G a11) b11
 have Cq41:Cal ⟨l.prog,w,K,mg,base,none⟩ "is_reads" 6 3 uX:=callee (Ω:=⟨l.prog,w,K,mg,base,none⟩) F12 (wF (Ω:=⟨l.prog,w,K,mg,base,none⟩) F12 rfl B Cq44 Cq40) (PySem.W.mg_of X G a12) b12
 have Cq32:Cal ⟨l.prog,w,K,mg,base,none⟩ "is_deed" 7 3 yU:=callee (Ω:=⟨l.prog,w,K,mg,base,none⟩) F13 (yC (Ω:=⟨l.prog,w,K,mg,base,none⟩) F13 rfl Cq44 Cq42 Cq43 Cq41) (PySem.W.mg_of X G a13) b13
 have Cq36:Cal ⟨l.prog,w,K,mg,base,none⟩ "is_nest" 8 2 Am:=callee (Ω:=⟨l.prog,w,K,mg,base,none⟩) F14 (zg (Ω:=⟨l.prog,w,K,mg,base,none⟩) F14 rfl B Cq44 Cq35 Cq32) (PySem.W.mg_of X G a14) b14
 have Cq37:Cal ⟨l.prog,w,K,mg,base,none⟩ "is_nests" 9 2 tU:=callee (Ω:=⟨l.prog,w,K,mg,base,none⟩) F15 (xW (Ω:=⟨l.prog,w,K,mg,base,none⟩) F15 rfl B Cq44 Cq36) (PySem.W.mg_of X G a15) b15
 have Cq26:Cal ⟨l.prog,w,K,mg,base,none⟩ "comes_to" 1 2 uP:=callee (Ω:=⟨l.prog,w,K,mg,base,none⟩) F16 (xT (Ω:=⟨l.prog,w,K,mg,base,none⟩) F16 rfl B) (PySem.W.mg_of X G a16) b16
 have Cq63:Cal ⟨l.prog,w,K,mg,base,none⟩ "with_next_count" 2 3 sZ:=callee (Ω:=⟨l.prog,w,K,mg,base,none⟩) F17 (j8 (Ω:=⟨l.prog,w,K,mg,base,none⟩) F17 rfl B Cq26) (PySem.W.mg_of X G a17) b17
 have Cq27:Cal ⟨l.prog,w,K,mg,base,none⟩ "counts_of" 3 1 pM:=callee (Ω:=⟨l.prog,w,K,mg,base,none⟩) F18 (uf (Ω:=⟨l.prog,w,K,mg,base,none⟩) F18 rfl Cq63) (PySem.W.mg_of X G a18) b18
 have Cq49:Cal ⟨l.prog,w,K,mg,base,none⟩ "number_of_steps" 4 1 zY:=callee (Ω:=⟨l.prog,w,K,mg,base,none⟩) F19 (km (Ω:=⟨l.prog,w,K,mg,base,none⟩) F19 rfl B Cq27) (PySem.W.mg_of X G a19) b19
 have Cq51:zE ⟨l.prog,w,K,mg,base,none⟩ "program_of" 10 2 tV:=Kh (Ω:=⟨l.prog,w,K,mg,base,none⟩) F20 (rP (Ω:=⟨l.prog,w,K,mg,base,none⟩) F20 rfl B E Cq46 Cq37 Cq49) (PySem.W.mg_of X G a20) b20
 have Cq65:Cal ⟨l.prog,w,K,mg,base,none⟩ "without_sign" 1 1 Jz:=callee (Ω:=⟨l.prog,w,K,mg,base,none⟩) F21 (nH (Ω:=⟨l.prog,w,K,mg,base,none⟩) F21 rfl) (PySem.W.mg_of X G a21) b21
 have Cq38:Cal ⟨l.prog,w,K,mg,base,none⟩ "is_number" 2 1 ul:=callee (Ω:=⟨l.prog,w,K,mg,base,none⟩) F22 (ur (Ω:=⟨l.prog,w,K,mg,base,none⟩) F22 rfl B Cq65) (PySem.W.mg_of X G a22) b22
 have Cq50:Cal ⟨l.prog,w,K,mg,base,none⟩ "number_read" 3 1 jO:=callee (Ω:=⟨l.prog,w,K,mg,base,none⟩) F23 (oX (Ω:=⟨l.prog,w,K,mg,base,none⟩) F23 rfl B Cq38) (PySem.W.mg_of X G a23) b23
 have Cq29:Cal ⟨l.prog,w,K,mg,base,none⟩ "form_read" 4 1 jD:=callee (Ω:=⟨l.prog,w,K,mg,base,none⟩) F24 (uw (Ω:=⟨l.prog,w,K,mg,base,none⟩) F24 rfl B Cq50) (PySem.W.mg_of X G a24) b24
 have Cq53:Cal ⟨l.prog,w,K,mg,base,none⟩ "refuse_other_words" 1 2 rB:=callee (Ω:=⟨l.prog,w,K,mg,base,none⟩) F25 (iR (Ω:=⟨l.prog,w,K,mg,base,none⟩) F25 rfl B) (PySem.W.mg_of X G a25) b25
 have Cq47:Cal ⟨l.prog,w,K,mg,base,none⟩ "loop_read" 5 1 uQ:=callee (Ω:=⟨l.prog,w,K,mg,base,none⟩) F26 (tR (Ω:=⟨l.prog,w,K,mg,base,none⟩) F26 rfl Cq29 Cq53) (PySem.W.mg_of X G a26) b26
 have Cq25:Cal ⟨l.prog,w,K,mg,base,none⟩ "cell_read" 5 1 mQ:=callee (Ω:=⟨l.prog,w,K,mg,base,none⟩) F27 (uK (Ω:=⟨l.prog,w,K,mg,base,none⟩) F27 rfl B Cq29) (PySem.W.mg_of X G a27) b27
 have Cq28:Cal ⟨l.prog,w,K,mg,base,none⟩ "deed_read" 6 1 vh:=callee (Ω:=⟨l.prog,w,K,mg,base,none⟩) F28 (tH (Ω:=⟨l.prog,w,K,mg,base,none⟩) F28 rfl Cq29 Cq25 Cq53) (PySem.W.mg_of X G a28) b28
 have Cq64:Cal ⟨l.prog,w,K,mg,base,none⟩ "with_read" 6 2 tD:=callee (Ω:=⟨l.prog,w,K,mg,base,none⟩) F29 (uC (Ω:=⟨l.prog,w,K,mg,base,none⟩) F29 rfl Cq50 Cq25 Cq53) (PySem.W.mg_of X G a29) b29
 have Cq62:Cal ⟨l.prog,w,K,mg,base,none⟩ "with_line" 7 2 tY:=callee (Ω:=⟨l.prog,w,K,mg,base,none⟩) F30 (uG (Ω:=⟨l.prog,w,K,mg,base,none⟩) F30 rfl Cq47 Cq28 Cq64) (PySem.W.mg_of X G a30) b30
 have Cq48:Cal ⟨l.prog,w,K,mg,base,none⟩ "nests_read" 8 1 oV:=callee (Ω:=⟨l.prog,w,K,mg,base,none⟩) F31 (qG (Ω:=⟨l.prog,w,K,mg,base,none⟩) F31 rfl B Cq62) (PySem.W.mg_of X G a31) b31
 have Cq61:Cal ⟨l.prog,w,K,mg,base,none⟩ "widths_read" 4 1 pG:=callee (Ω:=⟨l.prog,w,K,mg,base,none⟩) F32 (qi (Ω:=⟨l.prog,w,K,mg,base,none⟩) F32 rfl B Cq50) (PySem.W.mg_of X G a32) b32
 have Cq52:Cal ⟨l.prog,w,K,mg,base,none⟩ "read" 11 1 uE:=callee (Ω:=⟨l.prog,w,K,mg,base,none⟩) F33 (GD (Ω:=⟨l.prog,w,K,mg,base,none⟩) F33 rfl B Cq51 Cq48 Cq61) (PySem.W.mg_of X G a33) b33
 have Cq57:Cal ⟨l.prog,w,K,mg,base,none⟩ "shown_form" 1 1 dB:=callee (Ω:=⟨l.prog,w,K,mg,base,none⟩) F34 (sH (Ω:=⟨l.prog,w,K,mg,base,none⟩) F34 rfl B) (PySem.W.mg_of X G a34) b34
 have Cq58:Cal ⟨l.prog,w,K,mg,base,none⟩ "shown_loop" 2 1 vI:=callee (Ω:=⟨l.prog,w,K,mg,base,none⟩) F35 (rJ (Ω:=⟨l.prog,w,K,mg,base,none⟩) F35 rfl Cq57) (PySem.W.mg_of X G a35) b35
 have Cq55:Cal ⟨l.prog,w,K,mg,base,none⟩ "shown_cell" 2 2 fY:=callee (Ω:=⟨l.prog,w,K,mg,base,none⟩) F36 (qy (Ω:=⟨l.prog,w,K,mg,base,none⟩) F36 rfl B Cq57) (PySem.W.mg_of X G a36) b36
 have Cq60:Cal ⟨l.prog,w,K,mg,base,none⟩ "shown_read" 3 3 vD:=callee (Ω:=⟨l.prog,w,K,mg,base,none⟩) F37 (q8 (Ω:=⟨l.prog,w,K,mg,base,none⟩) F37 rfl Cq55) (PySem.W.mg_of X G a37) b37
 have Cq56:Cal ⟨l.prog,w,K,mg,base,none⟩ "shown_deed" 4 1 ud:=callee (Ω:=⟨l.prog,w,K,mg,base,none⟩) F38 (sS (Ω:=⟨l.prog,w,K,mg,base,none⟩) F38 rfl Cq57 Cq55 Cq60) (PySem.W.mg_of X G a38) b38
 have Cq59:Cal ⟨l.prog,w,K,mg,base,none⟩ "shown_nest" 5 2 uB:=callee (Ω:=⟨l.prog,w,K,mg,base,none⟩) F39 (sU (Ω:=⟨l.prog,w,K,mg,base,none⟩) F39 rfl Cq58 Cq56) (PySem.W.mg_of X G a39) b39
 have Cq54:Cal ⟨l.prog,w,K,mg,base,none⟩ "shown" 6 1 gV:=callee (Ω:=⟨l.prog,w,K,mg,base,none⟩) F40 (Dv (Ω:=⟨l.prog,w,K,mg,base,none⟩) F40 rfl B Cq59) (PySem.W.mg_of X G a40) b40
 have Cq1:Cal ⟨l.prog,w,K,mg,base,none⟩ "_law_cell_at" 1 2 qR:=callee (Ω:=⟨l.prog,w,K,mg,base,none⟩) F41 (zP (Ω:=⟨l.prog,w,K,mg,base,none⟩) F41 rfl B) (PySem.W.mg_of X G a41) b41
 have Cq21:Cal ⟨l.prog,w,K,mg,base,none⟩ "_law_pen" 2 1 Dk:=callee (Ω:=⟨l.prog,w,K,mg,base,none⟩) F42 (Jh (Ω:=⟨l.prog,w,K,mg,base,none⟩) F42 rfl B Cq1) (PySem.W.mg_of X G a42) b42
 have Cq23:Cal ⟨l.prog,w,K,mg,base,none⟩ "_law_take" 2 2 gr:=callee (Ω:=⟨l.prog,w,K,mg,base,none⟩) F43 (FN (Ω:=⟨l.prog,w,K,mg,base,none⟩) F43 rfl Cq1) (PySem.W.mg_of X G a43) b43
 have Cq7:Cal ⟨l.prog,w,K,mg,base,none⟩ "_law_loop" 3 2 oU:=callee (Ω:=⟨l.prog,w,K,mg,base,none⟩) F44 (Hn (Ω:=⟨l.prog,w,K,mg,base,none⟩) F44 rfl B Cq23) (PySem.W.mg_of X G a44) b44
 have Cq0:Cal ⟨l.prog,w,K,mg,base,none⟩ "_law_at" 1 2 Ek:=callee (Ω:=⟨l.prog,w,K,mg,base,none⟩) F45 (Ly (Ω:=⟨l.prog,w,K,mg,base,none⟩) F45 rfl B) (PySem.W.mg_of X G a45) b45
 have Cq8:Cal ⟨l.prog,w,K,mg,base,none⟩ "_law_many" 2 1 vq:=callee (Ω:=⟨l.prog,w,K,mg,base,none⟩) F46 (Hf (Ω:=⟨l.prog,w,K,mg,base,none⟩) F46 rfl B Cq0) (PySem.W.mg_of X G a46) b46
 have Cq6:Cal ⟨l.prog,w,K,mg,base,none⟩ "_law_great" 3 2 t7:=callee (Ω:=⟨l.prog,w,K,mg,base,none⟩) F47 (Dn (Ω:=⟨l.prog,w,K,mg,base,none⟩) F47 rfl Cq23) (PySem.W.mg_of X G a47) b47
 have Cq4:Cal ⟨l.prog,w,K,mg,base,none⟩ "_law_form" 3 3 ql:=callee (Ω:=⟨l.prog,w,K,mg,base,none⟩) F48 (Gy (Ω:=⟨l.prog,w,K,mg,base,none⟩) F48 rfl B Cq23) (PySem.W.mg_of X G a48) b48
 have Cq3:Cal ⟨l.prog,w,K,mg,base,none⟩ "_law_deed" 4 3 ou:=callee (Ω:=⟨l.prog,w,K,mg,base,none⟩) F49 (G5 (Ω:=⟨l.prog,w,K,mg,base,none⟩) F49 rfl B Cq23 Cq6 Cq4) (PySem.W.mg_of X G a49) b49
 have Cq22:Cal ⟨l.prog,w,K,mg,base,none⟩ "_law_program" 5 1 pF:=callee (Ω:=⟨l.prog,w,K,mg,base,none⟩) F50 (yS (Ω:=⟨l.prog,w,K,mg,base,none⟩) F50 rfl B Cq23 Cq7 Cq8 Cq3) (PySem.W.mg_of X G a50) b50
 have Cq5:Cal ⟨l.prog,w,K,mg,base,none⟩ "_law_form_text" 1 1 dB:=callee (Ω:=⟨l.prog,w,K,mg,base,none⟩) F51 (um (Ω:=⟨l.prog,w,K,mg,base,none⟩) F51 rfl B) (PySem.W.mg_of X G a51) b51
 have Cq2:Cal ⟨l.prog,w,K,mg,base,none⟩ "_law_cell_text" 2 2 fY:=callee (Ω:=⟨l.prog,w,K,mg,base,none⟩) F52 (uz (Ω:=⟨l.prog,w,K,mg,base,none⟩) F52 rfl Cq5) (PySem.W.mg_of X G a52) b52
 have Cq24:Cal ⟨l.prog,w,K,mg,base,none⟩ "_law_text" 3 1 gV:=callee (Ω:=⟨l.prog,w,K,mg,base,none⟩) F53 (Hu (Ω:=⟨l.prog,w,K,mg,base,none⟩) F53 rfl B Cq5 Cq2) (PySem.W.mg_of X G a53) b53
 have Cq10:Cal ⟨l.prog,w,K,mg,base,none⟩ "_law_numbers" 0 1 (aG 0):=callee (Ω:=⟨l.prog,w,K,mg,base,none⟩) F54 (Ia λ ds S W h=>qu ds S W h) (PySem.W.mg_of X G a54) b54
 have Cq11:Cal ⟨l.prog,w,K,mg,base,none⟩ "_law_numbers" 1 1 (aG 1):=callee (Ω:=⟨l.prog,w,K,mg,base,none⟩) F54 (uA (Ω:=⟨l.prog,w,K,mg,base,none⟩) F54 rfl B Cq10) (PySem.W.mg_of X G a54) b54
 have Cq13:Cal ⟨l.prog,w,K,mg,base,none⟩ "_law_numbers" 2 1 (aG 2):=callee (Ω:=⟨l.prog,w,K,mg,base,none⟩) F54 (ut (Ω:=⟨l.prog,w,K,mg,base,none⟩) F54 rfl B Cq11) (PySem.W.mg_of X G a54) b54
 have Cq14:Cal ⟨l.prog,w,K,mg,base,none⟩ "_law_numbers" 3 1 (aG 3):=callee (Ω:=⟨l.prog,w,K,mg,base,none⟩) F54 (uZ (Ω:=⟨l.prog,w,K,mg,base,none⟩) F54 rfl B Cq13) (PySem.W.mg_of X G a54) b54
 have Cq15:Cal ⟨l.prog,w,K,mg,base,none⟩ "_law_numbers" 4 1 (aG 4):=callee (Ω:=⟨l.prog,w,K,mg,base,none⟩) F54 (vG (Ω:=⟨l.prog,w,K,mg,base,none⟩) F54 rfl B Cq14) (PySem.W.mg_of X G a54) b54
 have Cq16:Cal ⟨l.prog,w,K,mg,base,none⟩ "_law_numbers" 5 1 (aG 5):=callee (Ω:=⟨l.prog,w,K,mg,base,none⟩) F54 (uH (Ω:=⟨l.prog,w,K,mg,base,none⟩) F54 rfl B Cq15) (PySem.W.mg_of X G a54) b54
 have Cq17:Cal ⟨l.prog,w,K,mg,base,none⟩ "_law_numbers" 6 1 (aG 6):=callee (Ω:=⟨l.prog,w,K,mg,base,none⟩) F54 (tQ (Ω:=⟨l.prog,w,K,mg,base,none⟩) F54 rfl B Cq16) (PySem.W.mg_of X G a54) b54
 have Cq18:Cal ⟨l.prog,w,K,mg,base,none⟩ "_law_numbers" 7 1 (aG 7):=callee (Ω:=⟨l.prog,w,K,mg,base,none⟩) F54 (uh (Ω:=⟨l.prog,w,K,mg,base,none⟩) F54 rfl B Cq17) (PySem.W.mg_of X G a54) b54
 have Cq19:Cal ⟨l.prog,w,K,mg,base,none⟩ "_law_numbers" 8 1 (aG 8):=callee (Ω:=⟨l.prog,w,K,mg,base,none⟩) F54 (u0 (Ω:=⟨l.prog,w,K,mg,base,none⟩) F54 rfl B Cq18) (PySem.W.mg_of X G a54) b54
 have Cq20:Cal ⟨l.prog,w,K,mg,base,none⟩ "_law_numbers" 9 1 (aG 9):=callee (Ω:=⟨l.prog,w,K,mg,base,none⟩) F54 (uJ (Ω:=⟨l.prog,w,K,mg,base,none⟩) F54 rfl B Cq19) (PySem.W.mg_of X G a54) b54
 have Cq12:Cal ⟨l.prog,w,K,mg,base,none⟩ "_law_numbers" 10 1 (aG 10):=callee (Ω:=⟨l.prog,w,K,mg,base,none⟩) F54 (sJ (Ω:=⟨l.prog,w,K,mg,base,none⟩) F54 rfl B Cq20) (PySem.W.mg_of X G a54) b54
 have Cq9:Cal ⟨l.prog,w,K,mg,base,none⟩ "_law_numbers" 11 1 (aG 11):=callee (Ω:=⟨l.prog,w,K,mg,base,none⟩) F54 (sE (Ω:=⟨l.prog,w,K,mg,base,none⟩) F54 rfl B Cq12) (PySem.W.mg_of X G a54) b54
 exact Om (Ω:=⟨l.prog,w,K,mg,base,none⟩) F55 rfl B Cq52 Cq54 Cq21 Cq22 Cq24 Cq9
end K52
local macro_rules|`(universe $[$x]*)=>do return Lean.mkNullNode (←x.mapM fun i=>do
 let n:=Lean.mkIdent (.mkSimple s!"tw{i.getId.toString.toList.tail.foldl (fun a c=>a*62+c.toNat-if c.isDigit then 48 else if c.isUpper then 55 else 61) 0}")
 `(def $n:ident:=()))
namespace PySem.W.Fast
universe uCVLQxzfZe6J uJlpprVNcnHi u295forZ7NO7 uAPFRM2UeHqG uEeEiyIdW0Ks uJEZ1tVnfei7 up4SGj11jtq uTuqlRDyDoZ uK4SDKs1NaoU u5cjlRljpWLN uJScL3a5vzWl uDEd60IMcbGw u9TCx2t2wU8R u6upTRLgWlM5 u31E1GPNSidw uEs0K7PuNHw9 u3KVioDaQcyG uKN7CYDF4uMD uDQmLXcKdBt7 u8BIegl4BpAk uA4NbcaUSavG u7KACIUBY4M4 uDKzQ6xakngr u6xj0TEORi8E uCPhmblqvbno uGExWOT0P8c4 u8Q3q4OX2jH2 u1TO85KwYfu2 uWYzSVKMX3F uFlwGcuO7C2E uCi09Gkw3QZU uAbu7WBqfGqd uE3DtKpge4GI uLyV2xIt9632 uAhhhSCtSX5I u78huaNXJfkf uK6XCKMx9gCB u2K1ICJAsi9A uBTneZC9AKip uDzWBWAp7XbV uGRXwUKA4nqU u8kfcr0iUW0S uBtZ9WkRYxLG uCHOHMuqD0lM uWvJYTnprWb uCFjOqjI5unR uC0E1WaKakdd u2zxvY14rZSb u3ECMy02UE0g uLEEPAm2x2Sb u1djAc6ia4UH uCIfzGsJcHp2 uDvIWwNmHFKL u6L3Cb9PYfAw uGR8wqNOiBsl u1gDRkmOnYXX uJCBlmAbkkxI uK7NDktF2220 uFPoJFeLggox uF9TtBvNyu9p u3UsuaCxXVbv uGqkEEqlpmTN uLA8patPAuEA uBB3mokfLAmK uB11TIdhLpTr u887yYjVrvP8 u3JqqBDHQN9C uJXxQO8z4MHC uGWBd3Ky0BrO u2tZSwvo159S u8DpvefL3kue uGkxGfy5vZyd u79gktbiQBXm u6Vph3lWYNle u26Xc8Wa5Pg3 uKLgJxqLD1da u1gK5pQXlheq u4cyfx1k5AGB uI6aHeXpysm uFlJfsBEofh uKL47zk5Zmib u9MfG9SqfiqQ uJkgpzQNJBff uDzfOJSqW8bJ uJ0rJfIksRFd u1IhMDZtBc1N uIgDoJhhulTP uHwl4wml1DCw uGwn0UbclEqb u577VNwfxE0y u6h0Oopanjk9 uFdd2FKVTIE3 u7ijIjAHC5Hi u1o0dZWLivPS uJIN5LvseIBN uBIepSGq4VvD u31eLluvN3Nz u4WDE3N1lsFD uBJjOYPFcPUM u1efL8qjDSPE uKxASzXNKvMx u6UKq2wuC8b4 u9lLb9U3gUBV uIKkeegvQq42 uFIpTKtnCTih uJ5PKImetPRG u4tWsKprKIPW uF2udQt8KBQZ uF6vGJxUvSsZ uJsCJiqED2w3 uBI0TxE5lzYI uFW5k1B8afrO uJHdNjNXb0Dk uE1MwWODKhFG uLCdLq5rSHPr uFuBFUpFNbe u8QNPuX1EA2F u1ehEac0aYAi uBeuELLLiBhG u7gMjj7eRXby uB39krilnnXC uIvw5Ei4DAtw uIzVFyGLO8T u9TY9bDNKcsL uIkV1u8kG0aT u6oLDwh9Uk88 uI6WBYEJiXeC u8LTKxnsUrpa uK5ljMmk8Rdn u2VstVNBM1LK uWScktOJKlW uEWtloYvDs0G uJUHmJKmPLLq u6nOm3dGHqpY u7NWRiLfYyY8 ubN9sIegpEg uHPWWVzP6D9K u7wLVaMafU2R uJ0Su0YxdeNW uQpEVH8LBk8 uKjtyIc161m6 uDqGp2NomSBS u7mBwIbpL0Ff u6GTl2oMNfuA ucgKMEDdNEl u8V8YnGgwgbQ uAwhkjZ6jcFA uQyGzojM8ss uD8erQiemyvG u1XmlRf28ZF3 uK9JshEFYr4B uLzSOItybMq uJ1YuWYHQc4a uFL104cJahim u3WtN9prhVQz uGSInPd96ceJ u9vLGN7WWkiP uGnrd8H772yM uJ1Eno9fOOg4 uLBSX1kEEWxV u7wlASmnSgwP uhV4bqsaKtt uI57DLzg4Ewi u3oJsFNXiqFD uGxXZTm1r5ef u5tTD93NhKMt u2VlTQd9p3rl uFzzSbugdhCx uAMu65sy847L uAMG3jIXIPbN u2EiKj0yxYqS u6RJ86OojgTU u3QzNPoS8SOM uAggkXPsDUBu uJNWqu7R4GcF u6NGAHOvo2E0 u61kX5FoeLIO u2Dy3cC9XHwp u2RzKNqKqrzK uEMCcAEuAEPs u9qzxkph5Av5 uHmhbVUpntam uKor7Wn4SJYj uIQsIKbRzuP u74by8Nz6Yvf u3VMf5Da8JYP uGWTJ8NkdtfB u3F5E0keql6v uBe5HuWV5kDr uSPyRviJPdE uJm0mbf1WymA u6oHrw1UdC9S uByuAbX1ysZW uEA8nzy3wupz uFTqi4lAixEN uBLbWjhuBXua uIsnYzkmogvb uI654Gz2LyJB u5HiIjPfjhli u5dQ9jkmNKDs u5ol8U7GLWjv u8GZ5rPia995 uEd4d9Ycp7TM uBU4SfIhRNQt u6iQ3fNyG2HF uFNgA9psdIrF uIGXYPc8CfQg uDcLkC8PhmpS u1oKGOKq2coj u2h4vDbEfWtd uHVk2PvWdvX2 u5aXuaBeA3Cc u4x8nKjIYpek uvPu8K5wIJ1 urNr4fOi0bf uATCmRVhtFVe u4DOZNoxZKEw uLoww7Em1hIH uLtHsGTzOsqv u9Gx3HhhpSmz uGveOpi337mA uCUVz491TKw8 u3a7Lurmm617 u9GWBeddkqWr uBg3njKYQ5HJ u5KcBwjRKkDx uArEfz4lB0P0 uH0hfpiCgbGD uFsXBKG8LMil uBys953O4cUg u8kEQh1HBx0X uBrs8q9E72rn u5WrvtIbyUS5 uGFTEk3weptF uENn37rWckNj uIKK9wGMqQhS uEPWuOHBPf7a u1ZLSXrhOEkr u4Ekly2vCMdz uJHyBcXweFou u5lDbLTj6hh ubCoire66o0 uKGmu8beNzmD uAK90DwTSZ78 uDgIUp5je19l uAEuWl44LGcS uQsGbAbIaDr u9TPCwIZfNTd uGnjRVxuk9ei u7uUraMedFK4 u4ffEfZBpad5 u1HpsgvklPIA uKMXDFHU9ssJ u7QtXGNqivZN uBWktPNsRkwX uKyL3GdoVIMY u1WNtR3ijn9N uLIfo9UWhDeB uJyaku12P5Xd uKYBr0zE9Jxn u3hiVL7imfM0 uJWVncWNdVTI uIaHs86e0xXf uEXRYH125XOM u2LV0Nb606RX uG8Eia47C9uz uCJMQU3atF7g uBt0gqMH4Fir uC16PHA43nB u8zruvYxd4jX uvNF6FcE5eB uH54LJlCPg1J uFyaC0znKIaH uBs6WohwtF07 uDi5WR4Wt88t u3P84N2uhaYp u8vfqs54OgsL u2ZXwbZTnuxX uBKlpHCMh694 u4lxR35600DU uE06qKpN4O5I uDiLRGbTUU23 u3oHdy9HtS7T u7uehuH9jclr u5HR4WKlW7lX u3rjkxOmAJ5C u8nBWSQoDiN6 uE7NvFprxeQ0 uIKuNyqawYsS uGfmdEDHMJbr uDw16nApRLap u5sYREZkp7dc u4prm9sTtH3H u57RHC1yPwap uKtbExajkNTT u1zWtoAeP2oF uAsO3PkGyRvL u5X2P1p7jPd9 uAhGwZ1Ze3qZ uE1IcyWxz3jd uE4Zd9jGxody u8A39jhLSU5h u3g8zVx66sFX u5wTlZtDMExg uKq8z2i81sCn u16HpNGcbVB4 uNXvpIasKB uCXEL36WuhrD u4DuBDKdfFaC u15eZH5rLOaT u4anZTwMxsoi u6lFZgLGnKum uEeKzxNCmkRg u3pDeOiXI4lc u76j17wiGhQv u1SlnDAfSCOG u5B7P1pcqlRR uck9JHej4ET u5v1y5ddhGcS u3h0OtZcyy6o uHzltsl8R5q2 uKjHSKFYKhMt u7myHv6xqokF uDK63Lzfys7b u5hhBA7NZR9t u43TtjWcBZLs u7XR8tvJeJJp uEp2qvyq9VEj u5DuCQD7FQ6r uGQKpLhtmfIy u8gyZZNcrpAm u8pWhZL2nFVM u9eGpm5ppzc7 uKRye5RW7cyc u9nKLiqbEEao uAwHifsE9OK2 u1cuEyAhbGh4 u6anzUA4z3wl u94vqxwMfYva uH0QoQrHrgRj uDWS2z6aCDVN uBeGCMzw4yN9 u2zwABsuuxOH u7Mq1IUaVyEV uDBRqnYJYLG9 u4af99LdqlBG u40aXnqRb8U5 uHFQSUbNkOr2 uCClpEiGtdnC u9LJZnDoZUCm uIvy0LETlE2m u4AwqenY0FRW u5eTJMSK6toJ u86aG4xFJWoc
end PySem.W.Fast
open PySem PySem.W PyProof.Rows
set_option maxRecDepth 100000 in
set_option maxHeartbeats 0 in
theorem PySem.Challenge.cw_nestturn_k52_programs_written_holds : PySem.Challenge.rw_nestturn_k52_programs_written.Holds := by
 w_on; o_law; k_head; (case hw => w_witness2)
 k_fill
 refine RF.walk (l := PySem.Challenge.rw_nestturn_k52_programs_written) (lev := 12) (x := "_law_script") rfl rfl ⟨rfl, by decide, by decide⟩ (λ w h Y => by first | exact PySem.W.kIn_of Y | exact PySem.W.km_in_of Y) ?F
 case F =>
  intro w mg fa h KX G hmg
  refine' K52.all_mk KX G hmg ?a0 ?l0 ?c0 ?k0 ?a1 ?l1 ?c1 ?k1 ?a2 ?l2 ?c2 ?k2 ?a3 ?l3 ?c3 ?k3 ?a4 ?l4 ?c4 ?k4 ?a5 ?l5 ?c5 ?k5 ?a6 ?l6 ?c6 ?k6 ?a7 ?l7 ?c7 ?k7 ?a8 ?l8 ?c8 ?k8 ?a9 ?l9 ?c9 ?k9 ?a10 ?l10 ?c10 ?k10 ?a11 ?l11 ?c11 ?k11 ?a12 ?l12 ?c12 ?k12 ?a13 ?l13 ?c13 ?k13 ?a14 ?l14 ?c14 ?k14 ?a15 ?l15 ?c15 ?k15 ?a16 ?l16 ?c16 ?k16 ?a17 ?l17 ?c17 ?k17 ?a18 ?l18 ?c18 ?k18 ?a19 ?l19 ?c19 ?k19 ?a20 ?l20 ?c20 ?k20 ?a21 ?l21 ?c21 ?k21 ?a22 ?l22 ?c22 ?k22 ?a23 ?l23 ?c23 ?k23 ?a24 ?l24 ?c24 ?k24 ?a25 ?l25 ?c25 ?k25 ?a26 ?l26 ?c26 ?k26 ?a27 ?l27 ?c27 ?k27 ?a28 ?l28 ?c28 ?k28 ?a29 ?l29 ?c29 ?k29 ?a30 ?l30 ?c30 ?k30 ?a31 ?l31 ?c31 ?k31 ?a32 ?l32 ?c32 ?k32 ?a33 ?l33 ?c33 ?k33 ?a34 ?l34 ?c34 ?k34 ?a35 ?l35 ?c35 ?k35 ?a36 ?l36 ?c36 ?k36 ?a37 ?l37 ?c37 ?k37 ?a38 ?l38 ?c38 ?k38 ?a39 ?l39 ?c39 ?k39 ?a40 ?l40 ?c40 ?k40 ?a41 ?l41 ?c41 ?k41 ?a42 ?l42 ?c42 ?k42 ?a43 ?l43 ?c43 ?k43 ?a44 ?l44 ?c44 ?k44 ?a45 ?l45 ?c45 ?k45 ?a46 ?l46 ?c46 ?k46 ?a47 ?l47 ?c47 ?k47 ?a48 ?l48 ?c48 ?k48 ?a49 ?l49 ?c49 ?k49 ?a50 ?l50 ?c50 ?k50 ?a51 ?l51 ?c51 ?k51 ?a52 ?l52 ?c52 ?k52 ?a53 ?l53 ?c53 ?k53 ?a54 ?l54 ?c54 ?k54 ?a55 ?l55 ?c55 ?k55 ?z_ENOUGH_SIGNS ?z_FIGURES ?z_LETTERS ?z_MOST_STEPS ?z_abs ?z_all ?z_bool ?z_enumerate ?z_int ?z_isinstance ?z_len ?z_min ?z_range ?z_str ?z_sum ?z_tuple ?z_zip ?z_ex
  (case a0 => k_is)
  (case l0 => k_is)
  (case c0 => k_is)
  (case k0 => k_is)
  (case a1 => k_is)
  (case l1 => k_is)
  (case c1 => k_is)
  (case k1 => k_is)
  (case a2 => k_is)
  (case l2 => k_is)
  (case c2 => k_is)
  (case k2 => k_is)
  (case a3 => k_is)
  (case l3 => k_is)
  (case c3 => k_is)
  (case k3 => k_is)
  (case a4 => k_is)
  (case l4 => k_is)
  (case c4 => k_is)
  (case k4 => k_is)
  (case a5 => k_is)
  (case l5 => k_is)
  (case c5 => k_is)
  (case k5 => k_is)
  (case a6 => k_is)
  (case l6 => k_is)
  (case c6 => k_is)
  (case k6 => k_is)
  (case a7 => k_is)
  (case l7 => k_is)
  (case c7 => k_is)
  (case k7 => k_is)
  (case a8 => k_is)
  (case l8 => k_is)
  (case c8 => k_is)
  (case k8 => k_is)
  (case a9 => k_is)
  (case l9 => k_is)
  (case c9 => k_is)
  (case k9 => k_is)
  (case a10 => k_is)
  (case l10 => k_is)
  (case c10 => k_is)
  (case k10 => k_is)
  (case a11 => k_is)
  (case l11 => k_is)
  (case c11 => k_is)
  (case k11 => k_is)
  (case a12 => k_is)
  (case l12 => k_is)
  (case c12 => k_is)
  (case k12 => k_is)
  (case a13 => k_is)
  (case l13 => k_is)
  (case c13 => k_is)
  (case k13 => k_is)
  (case a14 => k_is)
  (case l14 => k_is)
  (case c14 => k_is)
  (case k14 => k_is)
  (case a15 => k_is)
  (case l15 => k_is)
  (case c15 => k_is)
  (case k15 => k_is)
  (case a16 => k_is)
  (case l16 => k_is)
  (case c16 => k_is)
  (case k16 => k_is)
  (case a17 => k_is)
  (case l17 => k_is)
  (case c17 => k_is)
  (case k17 => k_is)
  (case a18 => k_is)
  (case l18 => k_is)
  (case c18 => k_is)
  (case k18 => k_is)
  (case a19 => k_is)
  (case l19 => k_is)
  (case c19 => k_is)
  (case k19 => k_is)
  (case a20 => k_is)
  (case l20 => k_is)
  (case c20 => k_is)
  (case k20 => k_is)
  (case a21 => k_is)
  (case l21 => k_is)
  (case c21 => k_is)
  (case k21 => k_is)
  (case a22 => k_is)
  (case l22 => k_is)
  (case c22 => k_is)
  (case k22 => k_is)
  (case a23 => k_is)
  (case l23 => k_is)
  (case c23 => k_is)
  (case k23 => k_is)
  (case a24 => k_is)
  (case l24 => k_is)
  (case c24 => k_is)
  (case k24 => k_is)
  (case a25 => k_is)
  (case l25 => k_is)
  (case c25 => k_is)
  (case k25 => k_is)
  (case a26 => k_is)
  (case l26 => k_is)
  (case c26 => k_is)
  (case k26 => k_is)
  (case a27 => k_is)
  (case l27 => k_is)
  (case c27 => k_is)
  (case k27 => k_is)
  (case a28 => k_is)
  (case l28 => k_is)
  (case c28 => k_is)
  (case k28 => k_is)
  (case a29 => k_is)
  (case l29 => k_is)
  (case c29 => k_is)
  (case k29 => k_is)
  (case a30 => k_is)
  (case l30 => k_is)
  (case c30 => k_is)
  (case k30 => k_is)
  (case a31 => k_is)
  (case l31 => k_is)
  (case c31 => k_is)
  (case k31 => k_is)
  (case a32 => k_is)
  (case l32 => k_is)
  (case c32 => k_is)
  (case k32 => k_is)
  (case a33 => k_is)
  (case l33 => k_is)
  (case c33 => k_is)
  (case k33 => k_is)
  (case a34 => k_is)
  (case l34 => k_is)
  (case c34 => k_is)
  (case k34 => k_is)
  (case a35 => k_is)
  (case l35 => k_is)
  (case c35 => k_is)
  (case k35 => k_is)
  (case a36 => k_is)
  (case l36 => k_is)
  (case c36 => k_is)
  (case k36 => k_is)
  (case a37 => k_is)
  (case l37 => k_is)
  (case c37 => k_is)
  (case k37 => k_is)
  (case a38 => k_is)
  (case l38 => k_is)
  (case c38 => k_is)
  (case k38 => k_is)
  (case a39 => k_is)
  (case l39 => k_is)
  (case c39 => k_is)
  (case k39 => k_is)
  (case a40 => k_is)
  (case l40 => k_is)
  (case c40 => k_is)
  (case k40 => k_is)
  (case a41 => k_is)
  (case l41 => k_is)
  (case c41 => k_is)
  (case k41 => k_is)
  (case a42 => k_is)
  (case l42 => k_is)
  (case c42 => k_is)
  (case k42 => k_is)
  (case a43 => k_is)
  (case l43 => k_is)
  (case c43 => k_is)
  (case k43 => k_is)
  (case a44 => k_is)
  (case l44 => k_is)
  (case c44 => k_is)
  (case k44 => k_is)
  (case a45 => k_is)
  (case l45 => k_is)
  (case c45 => k_is)
  (case k45 => k_is)
  (case a46 => k_is)
  (case l46 => k_is)
  (case c46 => k_is)
  (case k46 => k_is)
  (case a47 => k_is)
  (case l47 => k_is)
  (case c47 => k_is)
  (case k47 => k_is)
  (case a48 => k_is)
  (case l48 => k_is)
  (case c48 => k_is)
  (case k48 => k_is)
  (case a49 => k_is)
  (case l49 => k_is)
  (case c49 => k_is)
  (case k49 => k_is)
  (case a50 => k_is)
  (case l50 => k_is)
  (case c50 => k_is)
  (case k50 => k_is)
  (case a51 => k_is)
  (case l51 => k_is)
  (case c51 => k_is)
  (case k51 => k_is)
  (case a52 => k_is)
  (case l52 => k_is)
  (case c52 => k_is)
  (case k52 => k_is)
  (case a53 => k_is)
  (case l53 => k_is)
  (case c53 => k_is)
  (case k53 => k_is)
  (case a54 => k_is)
  (case l54 => k_is)
  (case c54 => k_is)
  (case k54 => k_is)
  (case a55 => k_is)
  (case l55 => k_is)
  (case c55 => k_is)
  (case k55 => k_is)
  (case z_ENOUGH_SIGNS => k_is)
  (case z_FIGURES => k_is)
  (case z_LETTERS => kernel_rfl!)
  (case z_MOST_STEPS => k_is)
  (case z_abs => k_is)
  (case z_all => k_is)
  (case z_bool => k_is)
  (case z_enumerate => k_is)
  (case z_int => k_is)
  (case z_isinstance => k_is)
  (case z_len => k_is)
  (case z_min => k_is)
  (case z_range => k_is)
  (case z_str => k_is)
  (case z_sum => k_is)
  (case z_tuple => k_is)
  (case z_zip => k_is)
  (case z_ex => kernel_rfl!)
