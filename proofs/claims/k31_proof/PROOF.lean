import PyProof.Rows.All
import Wide.All
import OpenK.AllK
import Wide.FinOn
import PyProof.EqAt
import PyProof.EqKinds
import PyProof.TupleCall
import PyProof.DictWalks
import KE.KSortTup
import KE.KTryMore
import PyProof.NsDelKeeps
import KE.KEqDict
import PySem.Challenge.RW_stairsay_k31_places
set_option Elab.async false
set_option linter.all false
set_option maxRecDepth 100000
set_option maxHeartbeats 4000000
namespace L2
open PySem PySem.Spec PyProof.Rows
abbrev Key:=Sum Int Str
def Gk:Key->Value->Bool
 | .inl k,v=>Value.isInt k v
 | .inr x,v=>Value.isStrOf x v
def keyH (w:World):Key->Int
 | .inl k=>hashInt k
 | .inr x=>hashStr w x
theorem A7:∀ {k:Key} {v:Value},Gk k v=true->(∃ i t,k=Sum.inl i/\v=Value.int i t)∨(∃ x t,k=Sum.inr x/\v=Value.str x t)
 | .inl i,v,h=>by
  obtain ⟨t,e⟩:=Value.isInt_shape (k:=i) (v:=v) h
  exact .inl ⟨i,t,rfl,e⟩
 | .inr x,v,h=>by
  obtain ⟨t,e⟩:=Value.isStrOf_shape (x:=x) (v:=v) h
  exact .inr ⟨x,t,rfl,e⟩
theorem keyIs_int (i:Int) (t:Tok):Gk (.inl i) (.int i t)=true:=by simp [Gk,Value.isInt]
theorem keyIs_str (x:Str) (t:Tok):Gk (.inr x) (.str x t)=true:=by simp [Gk,Value.isStrOf]
theorem key_ll (a b:Int):decide ((Sum.inl a:Key)=Sum.inl b)=(a == b):=by
 by_cases e:a=b
 ·subst e;simp
 ·have h:¬ (Sum.inl a:Key)=Sum.inl b:=fun q=>e (Sum.inl.inj q)
  rw [decide_eq_false h]
  exact (beq_eq_false_iff_ne.mpr e).symm
theorem key_rr (a b:Str):decide ((Sum.inr a:Key)=Sum.inr b)=decide (a=b):=by
 by_cases e:a=b
 ·subst e;simp
 ·have h:¬ (Sum.inr a:Key)=Sum.inr b:=fun q=>e (Sum.inr.inj q)
  rw [decide_eq_false h,decide_eq_false e]
theorem key_lr (a:Int) (b:Str):decide ((Sum.inl a:Key)=Sum.inr b)=false:=decide_eq_false (fun q=>nomatch q)
theorem key_rl (a:Str) (b:Int):decide ((Sum.inr a:Key)=Sum.inl b)=false:=decide_eq_false (fun q=>nomatch q)
def BF (prog:Program) (w:World):PySem.KeyKind prog w Key where
 is:=Gk
 hash:=keyH w
 inj:=fun v a b ha hb=>by
  rcases A7 ha with ⟨i,t,rfl,rfl⟩ | ⟨x,t,rfl,rfl⟩
  ·rcases A7 hb with ⟨j,u,rfl,e⟩ | ⟨y,u,rfl,e⟩
   ·injection e with e1 _;rw [e1]
   ·exact nomatch e
  ·rcases A7 hb with ⟨j,u,rfl,e⟩ | ⟨y,u,rfl,e⟩
   ·exact nomatch e
   ·injection e with e1 _;rw [e1]
 byValue:=fun k v h=>by
  rcases A7 h with ⟨i,t,rfl,rfl⟩ | ⟨x,t,rfl,rfl⟩ <;> rfl
 pyHash:=fun hv h=>by
  rcases A7 hv with ⟨i,t,rfl,rfl⟩ | ⟨x,t,rfl,rfl⟩
  ·exact wpAny_pyHash_int h
  ·exact wpAny_pyHash_str h
 eqBool:=fun hu hv h=>by
  rcases A7 hu with ⟨i,t,rfl,rfl⟩ | ⟨x,t,rfl,rfl⟩
  ·rcases A7 hv with ⟨j,u,rfl,rfl⟩ | ⟨y,u,rfl,rfl⟩
   ·rw [key_ll] at h;exact wpAny_eqBool_int h
   ·rw [key_lr] at h;exact SeqAt.EqAt.int_str i t y u _ _ _ _ h
  ·rcases A7 hv with ⟨j,u,rfl,rfl⟩ | ⟨y,u,rfl,rfl⟩
   ·rw [key_rl] at h;exact SeqAt.EqAt.str_int x t j u _ _ _ _ h
   ·rw [key_rr] at h;exact wpAny_eqBool_str h
 «strs»:=fun k x t v h=>by
  rcases A7 h with ⟨i,u,rfl,e⟩ | ⟨y,u,rfl,e⟩
  ·exact nomatch e
  ·injection e with e1 _
   subst e1
   cases v <;> rfl
theorem mixKind_int (prog:Program) (w:World) (i:Int) (t:Tok):(BF prog w).is (.inl i) (.int i t)=true:=keyIs_int i t
theorem mixKind_str (prog:Program) (w:World) (x:Str) (t:Tok):(BF prog w).is (.inr x) (.str x t)=true:=keyIs_str x t
end L2
namespace L2
open PySem PySem.Spec PyProof.Rows
inductive V where
 | non | bl (b:Bool) | int (i:Int) | str (x:Str) | byt (b:Array UInt8) | flt (b:UInt64) | ref (a:Addr) | ty (n:String)
 deriving DecidableEq
def RelV:V->Value->Prop
 | .non,u=>u=Value.none
 | .bl b,u=>u=Value.bool b
 | .int i,u=>∃ t,u=Value.int i t
 | .str x,u=>∃ t,u=Value.str x t
 | .byt b,u=>∃ t,u=Value.bytes b t
 | .flt b,u=>∃ t,u=Value.float b t
 | .ref a,u=>u=Value.ref a
 | .ty n,u=>u=Value.type n
abbrev Vals:List V->List Value->Prop:=Paired RelV
theorem Vals.length {xs:List V} {us:List Value} (r:Vals xs us):xs.length=us.length:=Paired.length r
theorem Vals.get:∀ {xs:List V} {us:List Value} {i:Nat} {x:V},Vals xs us->xs[i]?=some x->∃ u,us[i]?=some u/\RelV x u
 | _,_,_,_,.nil,e=>by simp at e
 | _,_,0,_,.cons r _,e=>by simp at e;subst e;exact ⟨_,rfl,r⟩
 | _,_,i+1,x,.cons _ t,e=>by
  obtain ⟨u,h1,h2⟩:=Vals.get (i:=i) (x:=x) t (by simpa using e)
  exact ⟨u,by simpa using h1,h2⟩
theorem Vals.set {x:V} {u:Value} (r:RelV x u):∀ {xs:List V} {us:List Value} (i:Nat),Vals xs us->Vals (xs.set i x) (us.set i u)
 | _,_,_,.nil=>.nil
 | _,_,0,.cons _ t=>.cons r t
 | _,_,i+1,.cons q t=>.cons q (Vals.set r i t)
theorem Vals.append:∀ {xs ys:List V} {us ws:List Value},Vals xs us->Vals ys ws->Vals (xs++ys) (us++ws)
 | _,_,_,_,.nil,s=>s
 | _,_,_,_,.cons r t,s=>.cons r (Vals.append t s)
theorem Vals.take:∀ {xs:List V} {us:List Value} (n:Nat),Vals xs us->Vals (xs.take n) (us.take n)
 | _,_,0,_=>.nil
 | _,_,_+1,.nil=>.nil
 | _,_,n+1,.cons r t=>.cons r (Vals.take n t)
theorem Vals.drop:∀ {xs:List V} {us:List Value} (n:Nat),Vals xs us->Vals (xs.drop n) (us.drop n)
 | _,_,0,r=>r
 | _,_,_+1,.nil=>.nil
 | _,_,n+1,.cons _ t=>Vals.drop n t
def A5:Option V->Option Value->Prop
 | some v,some u=>RelV v u
 | none,none=>True
 | _,_=>False
def KV {κ:Type}:List (κ×V)->List (κ×Value)->Prop:=Paired fun (p:κ×V) (q:κ×Value)=>p.1=q.1/\RelV p.2 q.2
def kV:Key->V
 | .inl i=>.int i
 | .inr x=>.str x
inductive HO where
 | lst (xs:List V)
 | tup (xs:List V)
 | dK (kvs:List (Key×V)) | dT (kvs:List (List Key×V))
 | set (S:Int->Bool) (n:Nat)
 | ins (C dx:Addr) (fs:List (Str×V))
 | own (x:Addr)
 | xd (fs:List (Str×V))
 | met (f x:Addr)
 | rng (lo hi:Int)
 | frz (o:Obj) (u:HO)
 | tbl (ps:Array Value)
 | ext (φ:Heap->Prop)
abbrev Hp:=Addr->Option HO
def upd (H:Hp) (a:Addr) (o:HO):Hp:=fun b=>if b=a then some o else H b
theorem AH {H:Hp} {a:Addr} {o:HO}:upd H a o a=some o:=by unfold upd;rw [if_pos rfl]
theorem Ay {H:Hp} {a b:Addr} {o:HO} (h:b≠a):upd H a o b=H b:=by unfold upd;rw [if_neg h]
theorem ne_of {H:Hp} {a b:Addr} {o u:HO} (h:H a=some o) (h':H b=some u) (d:o≠u):a≠b:=by
 intro e;subst e;rw [h] at h';exact d (Option.some.inj h')
theorem AL {H:Hp} {a b:Addr} {o:HO} (h:H a=some o) (h':H b=none):a≠b:=by
 intro e;subst e;rw [h] at h';cases h'
section
variable (P:Program) (w:World)
def Bv (H:Hp) (h:Heap) (a:Addr):HO->Prop
 | .lst xs=>xs.length<=sizeLine/\∃ (its:List Value) (n:Nat),Vals xs its/\h.get? a=some { cls:=.type "list",data:=.seq its.toArray n }
 | .tup xs=>xs.length<=sizeLine/\∃ its:List Value,Vals xs its/\IsTup h a its.toArray
 | .dK kvs=>kvs.length<=sizeLine/\(a == sysModules)=false/\∃ vs,KV kvs vs/\h.DictOf (BF P w) a vs
 | .dT kvs=>kvs.length<=sizeLine/\(a == sysModules)=false/\∃ xs:List (List Key×Addr×Value),
   Paired (fun (p:List Key×V) (q:List Key×Addr×Value)=>p.1=q.1/\H q.2.1=some (.tup (p.1.map kV))/\RelV p.2 q.2.2) kvs xs /\
   ∃ o es ep,h.get? a=some o/\o.ExactDict/\o.data=.dict es ep/\es.toList=xs.map (entryOfKey (tupleKind (BF P w)))/\(xs.map (·.1)).Nodup
 | .set S n=>h.SetOf (intKind P w) a S n
 | .ins C dx fs=>H dx=some (.own a)/\fs.length<=1000/\dx≠a/\h.get? a=some (PySem.W.instObj C dx) /\
   ∃ mA,h.Ns1 dx mA/\(∀ f,A5 (fs.lookup f) (mA f))/\PySem.Within mA (fs.map (·.1))
 | .own _=>∃ o,h.get? a=some o
 | .xd fs=>∃ mA,h.Ns1 a mA/\∀ f,A5 (fs.lookup f) (mA f)
 | .rng lo hi=>∃ t u v,h.get? a=some { cls:=.type "range",data:=.fields #[.int lo t,.int hi u,.int 1 v] }
 | .frz o u=>h.get? a=some o/\Bv H h a u
 | .tbl ps=>h.get? a=some { cls:=.none,data:=.fields ps }
 | .met f x=>h.get? a=some (PySem.W.methodObj (.ref f) (.ref x))
 | .ext φ=>φ h/\(∃ o,h.get? a=some o)/\∀ h1 h2:Heap,φ h1->(∀ o,h1.get? a=some o->h2.get? a=some o)->φ h2
def HOk (H:Hp) (h:Heap):Prop:=∀ a o,H a=some o->Bv P w H h a o
end
section
variable {P:Program} {w:World} {H H':Hp} {h h':Heap} {a:Addr} {o:HO}
theorem Bv.lt (x:Bv P w H h a o):a < h.objs.size:=by
 cases o with
 | lst xs=>obtain ⟨_,_,_,_,e⟩:=x;exact Heap.lt_size e
 | tup xs=>obtain ⟨_,_,_,p⟩:=x;exact p.lt
 | dK kvs=>obtain ⟨_,_,_,_,o,_,_,e,_⟩:=x;exact Heap.lt_size e
 | dT kvs=>obtain ⟨_,_,_,_,o,_,_,e,_⟩:=x;exact Heap.lt_size e
 | set S n=>obtain ⟨o,_,_,_,e,_⟩:=x;exact Heap.lt_size e
 | ins C dx fs=>obtain ⟨_,_,_,e,_⟩:=x;exact Heap.lt_size e
 | own y=>obtain ⟨_,e⟩:=x;exact Heap.lt_size e
 | xd fs=>obtain ⟨_,⟨_,_,_,e,_⟩,_⟩:=x;exact Heap.lt_size e
 | rng lo hi=>obtain ⟨_,_,_,e⟩:=x;exact Heap.lt_size e
 | frz ob u=>obtain ⟨e,_⟩:=x;exact Heap.lt_size e
 | tbl ps=>exact Heap.lt_size (show h.get? a=some _ from x)
 | met f y=>exact Heap.lt_size (show h.get? a=some _ from x)
 | ext φ=>obtain ⟨_,⟨_,e⟩,_⟩:=x;exact Heap.lt_size e
theorem Paired.mapP {α β:Type} {F G:α->β->Prop}:∀ {l₁:List α} {l₂:List β},Paired F l₁ l₂->(∀ a b,F a b->G a b)->Paired G l₁ l₂
 | _,_,.nil,_=>.nil
 | _,_,.cons r t,f=>.cons (f _ _ r) (Paired.mapP t f)
theorem Bv.stay (x:Bv P w H h a o) (k:∀ b u,(b=a∨H b=some (.own a))->h.get? b=some u->h'.get? b=some u)
  (ho:∀ b,H b=some (.own a)->H' b=some (.own a)) (ht:∀ b xs,H b=some (.tup xs)->H' b=some (.tup xs)):Bv P w H' h' a o:=by
 induction o with
 | lst xs=>obtain ⟨z,its,n,r,e⟩:=x;exact ⟨z,its,n,r,k _ _ (.inl rfl) e⟩
 | tup xs=>obtain ⟨z,its,r,ob,e,c⟩:=x;exact ⟨z,its,r,ob,k _ _ (.inl rfl) e,c⟩
 | dK kvs=>obtain ⟨z,y,vs,r,ob,es,ep,e,c⟩:=x;exact ⟨z,y,vs,r,ob,es,ep,k _ _ (.inl rfl) e,c⟩
 | dT kvs =>
  obtain ⟨z,y,xs,r,ob,es,ep,e,c⟩:=x
  exact ⟨z,y,xs,Paired.mapP r fun p q z=>⟨z.1,ht _ _ z.2.1,z.2.2⟩,ob,es,ep,k _ _ (.inl rfl) e,c⟩
 | set S n=>obtain ⟨ob,es,ep,t,e,c⟩:=x;exact ⟨ob,es,ep,t,k _ _ (.inl rfl) e,c⟩
 | ins C dx fs =>
  obtain ⟨d,z,ne,e,mA,⟨od,es,ep,e2,c⟩,r⟩:=x
  exact ⟨ho _ d,z,ne,k _ _ (.inl rfl) e,mA,⟨od,es,ep,k _ _ (.inr d) e2,c⟩,r⟩
 | own y=>obtain ⟨ob,e⟩:=x;exact ⟨ob,k _ _ (.inl rfl) e⟩
 | xd fs=>obtain ⟨mA,⟨od,es,ep,e,c⟩,r⟩:=x;exact ⟨mA,⟨od,es,ep,k _ _ (.inl rfl) e,c⟩,r⟩
 | rng lo hi=>obtain ⟨t,u,v,e⟩:=x;exact ⟨t,u,v,k _ _ (.inl rfl) e⟩
 | frz ob u ih=>obtain ⟨e,q⟩:=x;exact ⟨k _ _ (.inl rfl) e,ih q⟩
 | tbl ps =>
  have e:h.get? a=some { cls:=.none,data:=.fields ps }:=x
  show h'.get? a=some { cls:=.none,data:=.fields ps }
  exact k a _ (.inl rfl) e
 | met f y =>
  have e:h.get? a=some (PySem.W.methodObj (.ref f) (.ref y)):=x
  show h'.get? a=some (PySem.W.methodObj (.ref f) (.ref y))
  exact k a _ (.inl rfl) e
 | ext φ=>obtain ⟨p,⟨o,e⟩,st⟩:=x;exact ⟨st _ _ p fun o q=>k _ _ (.inl rfl) q,⟨o,k _ _ (.inl rfl) e⟩,st⟩
theorem HOk.lt (x:HOk P w H h) (e:H a=some o):a < h.objs.size:=(x a o e).lt
theorem HOk.fresh (x:HOk P w H h) (e:h.objs.size<=a):H a=none:=by
 cases q:H a with
 | none=>rfl
 | some u=>exact absurd (Nat.lt_of_lt_of_le (x.lt q) e) (Nat.lt_irrefl _)
theorem HOk.kept (x:HOk P w H h) (k:∀ b u,h.get? b=some u->h'.get? b=some u):HOk P w H h':=fun a o e =>
 (x a o e).stay (fun b u _ q=>k b u q) (fun _ q=>q) fun _ _ q=>q
theorem HOk.laid (x:HOk P w H h) (k:∀ b u,h.get? b=some u->h'.get? b=some u) (hp:h.objs.size<=a) (new:Bv P w (upd H a o) h' a o):HOk P w (upd H a o) h':=fun b u e=>by
 have hn:=x.fresh hp
 by_cases hb:b=a
 ·subst hb;rw [AH] at e;cases e;exact new
 ·rw [Ay hb] at e
  exact (x b u e).stay (fun c v _ q=>k c v q) (fun c q=>by rw [Ay (AL q hn)];exact q) fun c xs q=>by rw [Ay (AL q hn)];exact q
end
def Rd (H:Hp) (a:Addr) (u:HO):Prop:=H a=some u∨∃ o,H a=some (.frz o u)
theorem Rd.ok {P:Program} {w:World} {H:Hp} {h:Heap} {a:Addr} {u:HO} (r:Rd H a u) (x:HOk P w H h):Bv P w H h a u:=by
 rcases r with r | ⟨o,r⟩
 ·exact x a u r
 ·obtain ⟨_,q⟩:=x a _ r
  exact q
def Mut:Option HO->Prop
 | some (.lst _)=>True
 | some (.dK _)=>True
 | some (.dT _)=>True
 | some (.set _ _)=>True
 | some (.ins _ _ _)=>True
 | some (.ext _)=>True
 | _=>False
section
variable {P:Program} {w:World} {H:Hp} {h h':Heap} {x e:Addr} {o':HO}
theorem HOk.write (ok:HOk P w H h) (mu:Mut (H x)) (he:e=x∨H e=some (.own x)) (k:∀ b u,b≠e->h.get? b=some u->h'.get? b=some u) (heo:∃ u,h'.get? e=some u)
  (new:Bv P w (upd H x o') h' x o'):HOk P w (upd H x o') h':=fun b u q=>by
 have nown:∀ c y,H c=some (.own y)->c≠x:=fun c y r z=>by subst z;rw [r] at mu;exact mu
 have ntup:∀ c xs,H c=some (.tup xs)->c≠x:=fun c xs r z=>by subst z;rw [r] at mu;exact mu
 by_cases hb:b=x
 ·subst hb;rw [AH] at q;cases q;exact new
 ·rw [Ay hb] at q
  by_cases hbe:b=e
  ·have q':H b=some (.own x):=by
    rcases he with z | z
    ·exact absurd (hbe.trans z) hb
    ·rw [hbe];exact z
   rw [q] at q';cases q'
   obtain ⟨v,hv⟩:=heo
   exact ⟨v,by rw [hbe];exact hv⟩
  ·refine (ok b u q).stay (fun c v hc r=>k c v ?_ r) (fun c r=>by rw [Ay (nown c b r)];exact r) fun c xs r=>by rw [Ay (ntup c xs r)];exact r
   rcases hc with rfl | hc
   ·exact hbe
   ·rintro rfl
    rcases he with z | z
    ·exact nown c b hc z
    ·rw [hc] at z;cases z;exact hb rfl
end
structure Un (fs ex:List Addr) (H H':Hp) (h h':Heap):Prop where
 keep:∀ b o,h.get? b=some o->H b=none->b∉fs->b∉ex->h'.get? b=some o
 slot:∀ b o,h.get? b=some o->H b=none->b∈fs->b∉ex->∃ sl,h'.get? b=some { o with slots:=sl }
 free:∀ b o,h.get? b=some o->H b=none->b∉ex->H' b=none
 there:∀ b o,h.get? b=some o->b∉ex->∃ o',h'.get? b=some o'
 tups:∀ b xs,H b=some (.tup xs)->H' b=some (.tup xs)
 frzs:∀ b o u,H b=some (.frz o u)->H' b=some (.frz o u)
 tbls:∀ b ps,H b=some (.tbl ps)->∃ more,H' b=some (.tbl (ps++more))
section
variable {fs fs' ex ex':List Addr} {H H1 H2:Hp} {h h1 h2 h':Heap} {a x e:Addr} {o:HO}
theorem Un.any (u:Un fs ex H H1 h h1) {b:Addr} {ob:Obj} (q:h.get? b=some ob) (n:H b=none) (hx:b∉ex):∃ sl,h1.get? b=some { ob with slots:=sl }:=by
 by_cases hb:b∈fs
 ·exact u.slot b ob q n hb hx
 ·exact ⟨ob.slots,u.keep b ob q n hb hx⟩
theorem Un.kept (k:∀ b u,h.get? b=some u->h'.get? b=some u):Un fs ex H H h h' :=
 ⟨fun b ob q _ _ _=>k b ob q,fun b ob q _ _ _=>⟨ob.slots,k b ob q⟩,fun _ _ _ n _=>n,fun b ob q _=>⟨ob,k b ob q⟩,fun _ _ q=>q,fun _ _ _ q=>q,fun _ ps q=>⟨#[],by rw [q];simp⟩⟩
theorem Un.refl:Un fs ex H H h h:=Un.kept fun _ _ q=>q
theorem Un.laid (k:∀ b u,h.get? b=some u->h'.get? b=some u) (hp:h.objs.size<=a) (hn:H a=none):Un fs ex H (upd H a o) h h' where
 keep:=fun b u q _ _ _=>k b u q
 slot:=fun b u q _ _ _=>⟨u.slots,k b u q⟩
 free:=fun b u q n _=>by rw [Ay (Nat.ne_of_lt (Nat.lt_of_lt_of_le (Heap.lt_size q) hp))];exact n
 there:=fun b u q _=>⟨u,k b u q⟩
 tups:=fun b xs q=>by rw [Ay (AL q hn)];exact q
 frzs:=fun b u xs q=>by rw [Ay (AL q hn)];exact q
 tbls:=fun b ps q=>⟨#[],by rw [Ay (AL q hn),q];simp⟩
theorem Un.write (mu:Mut (H x)) (he:e=x∨H e=some (.own x)) (k:∀ b u,b≠e->h.get? b=some u->h'.get? b=some u) (heo:∃ u,h'.get? e=some u):Un fs ex H (upd H x o) h h':=by
 have hx:∀ b,H b=none->b≠x:=fun b n z=>by subst z;rw [n] at mu;exact mu
 have hb:∀ b,H b=none->b≠e:=fun b n z=>by
  subst z
  rcases he with r | r
  ·exact hx b n r
  ·rw [n] at r;cases r
 have hm:∀ b u,H b=some u->¬ Mut (some u)->b≠x:=fun b u q nm z=>by subst z;rw [q] at mu;exact nm mu
 refine ⟨fun b u q n _ _=>k b u (hb b n) q,fun b u q n _ _=>⟨u.slots,k b u (hb b n) q⟩,fun b u q n _=>by rw [Ay (hx b n)];exact n,fun b u q _=>?_,
  fun b xs q=>by rw [Ay (hm b _ q fun z=>z)];exact q,fun b u xs q=>by rw [Ay (hm b _ q fun z=>z)];exact q,fun b ps q=>⟨#[],by rw [Ay (hm b _ q fun z=>z),q];simp⟩⟩
 by_cases hbe:b=e
 ·subst hbe;exact heo
 ·exact ⟨u,k b u hbe q⟩
end
def trk (h:Heap) (H:Hp):List Addr:=(List.range h.objs.size).filter fun a=>(H a).isSome
def hidT (h:Heap) (H:Hp):Heap:=PySem.W.hideAll h (trk h H)
theorem hidT_size (h:Heap) (H:Hp):(hidT h H).objs.size=h.objs.size:=PySem.W.hideAll_size _ _
theorem hidT_get {h:Heap} {H:Hp} {b:Addr} {o:Obj} (e:h.get? b=some o) (n:H b=none):(hidT h H).get? b=some o :=
 PySem.W.hideAll_get _ e fun hm=>by
  have q:(H b).isSome=true:=(List.mem_filter.mp hm).2
  rw [n] at q;simp at q
theorem of_hidT {h:Heap} {H:Hp} {b:Addr} {o:Obj} (e:(hidT h H).get? b=some o):h.get? b=some o/\H b=none:=by
 have e':h.get? b=some o:=PySem.W.of_hideAll (trk h H) e
 refine ⟨e',?_⟩
 cases q:H b with
 | none=>rfl
 | some x =>
  have hm:b∈trk h H:=List.mem_filter.mpr ⟨List.mem_range.mpr (Heap.lt_size e'),by simp [q]⟩
  have z:(hidT h H).get? b=none:=PySem.W.hideAll_none (trk h H) hm
  rw [z] at e;cases e
end L2
namespace L2
open PySem PySem.Spec PyProof.Rows
structure Mod (K:PySem.W.Frag) (mg:Str->Option Value) (base:Heap):Prop where
 kin:K.In base
 glob:base.Ns mainGlobals mg
 blt:∃ mb,base.Ns builtinsNs mb/\∀ x:Str,x≠"__name__"->mb x=bootBuiltins x
 nolimit:base.NoLimit
structure Cx where
 prog:Program
 w:World
 K:PySem.W.Frag
 mg:Str->Option Value
 base:Heap
 A:Around
 N:List Str
 s₀:Shared
 H₀:Hp
 env:Env
 outer:List Env
 stack:List Env
 ex:List Addr
 fn:Str->Bool
 calm:Bool
 pn:List (Addr×Obj)
 xe:Value->Shared->Prop
def frs (l:List Env):List Addr:=l.filterMap (·.frame)
abbrev Cx.fs (X:Cx):List Addr:=frs X.outer
def Vis (sc:Scope) (x:Str):Prop:=sc.names.lookup x=some .local∨sc.names.lookup x=some .cell∨sc.names.lookup x=some .free
def Loc (sc:Scope) (x:Str):Prop:=sc.names.lookup x=some .local∨sc.names.lookup x=some .cell
def Look (env:Env) (h:Heap) (m:Str->Option Value) (x:Str) (u:Value):Prop :=
 (env.kindOf x=some .local/\m x=some u)∨((env.kindOf x=some .cell∨env.kindOf x=some .free)/\∃ c,env.cells.lookup x=some c/\h.IsCell c (some u))
structure Cx.Ok (X:Cx):Prop where
 mod:Mod X.K X.mg X.base
 kind:X.env.scope.kind=.function
 glob:X.env.globals=mainGlobals
 blt:X.env.builtins=builtinsNs
 above:X.s₀.heap.objs.size<=X.env.locals
 inj:∀ x y c,X.env.cells.lookup x=some c->X.env.cells.lookup y=some c->x=y
 has:∀ x,(X.env.kindOf x=some .cell∨X.env.kindOf x=some .free)->∃ c,X.env.cells.lookup x=some c
 cab:∀ x c,X.fn x=true->X.env.cells.lookup x=some c->X.s₀.heap.objs.size<=c
 hd:X.calm=true->X.A.handled=none
 frames:X.A.frames=some X.stack
 stk:X.stack=X.outer∨(X.stack=X.env :: X.outer/\X.env.frame=some X.env.locals)
 exf:∀ b∈X.ex,b≠X.env.locals/\∀ x c,X.env.cells.lookup x=some c->c≠b
 bs:∀ b o,X.base.get? b=some o->X.s₀.heap.get? b=some o/\X.H₀ b=none
 bsz:X.base.objs.size<=X.s₀.heap.objs.size
 noex:∀ b o,X.base.get? b=some o->b∉X.ex
 exfs:∀ b∈X.ex,b∉X.fs
 funs:X.s₀.heap.FunFrames X.base X.outer
 frf:∀ b∈X.fs,X.H₀ b=none
structure Inv (X:Cx) (pins:List (Addr×Obj)) (σ:List (Option V)) (H:Hp) (s:Shared):Prop where
 ok:X.Ok
 os:s.os=X.s₀.os
 bare:AllBare s.gens
 base:Un X.fs X.ex X.H₀ H X.s₀.heap s.heap
 loc:∃ m,s.heap.Ns X.env.locals m/\∀ (i:Nat) (x:Str) (v:V),X.N[i]?=some x->σ[i]?=some (some v)->Vis X.env.scope x->∃ u,RelV v u/\Look X.env s.heap m x u
 cell:∀ x c,X.env.cells.lookup x=some c->∃ v,s.heap.IsCell c v
 free:H X.env.locals=none
 freeC:∀ x c,X.env.cells.lookup x=some c->H c=none
 pin:∀ p∈X.pn++pins,s.heap.get? p.1=some p.2/\H p.1=none/\p.1≠X.env.locals/\p.1∉X.fs/\∀ v,p.2.data≠.cell v
 hok:HOk X.prog X.w H s.heap
 len:σ.length=X.N.length
section
variable {X:Cx} {pins:List (Addr×Obj)} {σ:List (Option V)} {H H':Hp} {s:Shared} {h':Heap}
theorem Cx.Ok.nofr (ok:X.Ok) {b:Addr} {o:Obj} (e:X.base.get? b=some o):b∉X.fs:=fun hb=>by
 have:=(ok.funs.mem hb).1
 rw [e] at this;cases this
theorem Inv.bs (I:Inv X pins σ H s):∀ b o,X.base.get? b=some o->s.heap.get? b=some o/\H b=none:=fun b o e =>
 ⟨I.base.keep b o (I.ok.bs b o e).1 (I.ok.bs b o e).2 (I.ok.nofr e) (I.ok.noex b o e),I.base.free b o (I.ok.bs b o e).1 (I.ok.bs b o e).2 (I.ok.noex b o e)⟩
theorem Inv.bk (I:Inv X pins σ H s):∀ b o,X.base.get? b=some o->s.heap.get? b=some o:=fun b o e=>(I.bs b o e).1
theorem Inv.mod (I:Inv X pins σ H s):Mod X.K X.mg X.base:=I.ok.mod
theorem Inv.kIn (I:Inv X pins σ H s):X.K.In s.heap:=I.ok.mod.kin.keeps I.bk
theorem Inv.lt (I:Inv X pins σ H s):X.env.locals < s.heap.objs.size:=let ⟨_,hn,_⟩:=I.loc;hn.lt
theorem Inv.sz (I:Inv X pins σ H s):X.s₀.heap.objs.size<=s.heap.objs.size:=Nat.le_trans I.ok.above (Nat.le_of_lt I.lt)
theorem Inv.nofs (I:Inv X pins σ H s) {a:Addr} (h:s.heap.objs.size<=a):a∉X.fs:=fun hb=>by
 obtain ⟨_,o,ho,_⟩:=I.ok.funs.mem hb
 exact absurd (Nat.lt_of_lt_of_le (Heap.lt_size ho) (Nat.le_trans I.sz h)) (Nat.lt_irrefl _)
theorem Inv.cne (I:Inv X pins σ H s):∀ x c,X.env.cells.lookup x=some c->c≠X.env.locals:=fun x c e z=>by
 obtain ⟨v,o,ho,hd⟩:=I.cell x c e
 obtain ⟨m,⟨o',es,ep,ho',hd',_⟩,_⟩:=I.loc
 rw [z,ho'] at ho;cases ho;rw [hd'] at hd;cases hd
theorem Inv.funs (I:Inv X pins σ H s):s.heap.FunFrames X.base X.outer:=by
 have all:∀ (l:List Env),(∀ b∈frs l,b∈X.fs)->X.s₀.heap.FunFrames X.base l->s.heap.FunFrames X.base l:=by
  intro l
  induction l with
  | nil=>intro _ _;trivial
  | cons env r ih =>
   intro hs hl
   obtain ⟨hk,⟨L,o,hf,hn,ho,hd⟩,hr⟩:=hl
   have hL:L∈X.fs:=hs L (by unfold frs;rw [List.filterMap_cons,hf];exact List.mem_cons_self)
   obtain ⟨sl,e⟩:=I.base.slot L o ho (I.ok.frf L hL) hL fun z=>I.ok.exfs L z hL
   exact ⟨hk,⟨L,_,hf,hn,e,hd⟩,ih (fun b hb=>hs b (by unfold frs;rw [List.filterMap_cons,hf];exact List.mem_cons_of_mem _ hb)) hr⟩
 exact all X.outer (fun _ hb=>hb) I.ok.funs
theorem Inv.stack (I:Inv X pins σ H s):s.heap.FunFrames X.base X.stack:=by
 rcases I.ok.stk with e | ⟨e,hf⟩
 ·rw [e];exact I.funs
 ·rw [e]
  obtain ⟨m,hn,_⟩:=I.loc
  refine .cons (by rw [I.ok.kind];decide) hf hn ?_ I.funs
  exact Heap.get?_none_of_le (Nat.le_trans I.ok.bsz I.ok.above)
theorem Inv.GQ (I:Inv X pins σ H s):∀ b∈frs X.stack,b∈X.env.locals :: X.fs:=fun b hb=>by
 rcases I.ok.stk with e | ⟨e,hf⟩
 ·rw [e] at hb;exact List.mem_cons_of_mem _ hb
 ·rw [e] at hb
  unfold frs at hb
  rw [List.filterMap_cons,hf] at hb
  exact hb
theorem Inv.HS (I:Inv X pins σ H s):∀ b∈frs X.stack,H b=none:=fun b hb=>by
 rcases List.mem_cons.mp (I.GQ b hb) with e | hb
 ·rw [e];exact I.free
 ·obtain ⟨_,o,ho,_⟩:=I.ok.funs.mem hb
  exact I.base.free b o ho (I.ok.frf b hb) fun z=>I.ok.exfs b z hb
theorem Inv.step {g':Array GenState} {t':Nat} {d':Drawn} {ch:List Addr} (I:Inv X pins σ H s)
  (hch:∀ b∈ch,(b∈X.ex∨X.s₀.heap.objs.size<=b)/\b≠X.env.locals/\(∀ x c,X.env.cells.lookup x=some c->c≠b)/\∀ p∈X.pn++pins,p.1≠b)
  (keep:∀ b o,b≠X.env.locals->b∉X.fs->b∉ch->s.heap.get? b=some o->H b=none->h'.get? b=some o)
  (slot:∀ b o,b≠X.env.locals->b∈X.fs->b∉ch->s.heap.get? b=some o->H b=none->∃ sl,h'.get? b=some { o with slots:=sl }) (free:∀ b o,b∉ch->s.heap.get? b=some o->H b=none->H' b=none)
  (there:∀ b o,b∉ch->s.heap.get? b=some o->∃ o',h'.get? b=some o')
  (tups:∀ b xs,H b=some (.tup xs)->H' b=some (.tup xs)) (frzs:∀ b o u,H b=some (.frz o u)->H' b=some (.frz o u)) (tbls:∀ b ps,H b=some (.tbl ps)->∃ more,H' b=some (.tbl (ps++more)))
  (ns:∀ m,s.heap.Ns X.env.locals m->h'.Ns X.env.locals m) (hok:HOk X.prog X.w H' h') (hg:AllBare g') :
  Inv X pins σ H' { s with heap:=h',gens:=g',drawn:=d',toks:=t' }:=by
 have neL:∀ b o,X.s₀.heap.get? b=some o->b≠X.env.locals:=fun b o e=>Nat.ne_of_lt (Nat.lt_of_lt_of_le (Heap.lt_size e) I.ok.above)
 have neC:∀ b o,X.s₀.heap.get? b=some o->b∉X.ex->b∉ch:=fun b o e hx hb=>by
  rcases (hch b hb).1 with z | z
  ·exact hx z
  ·exact absurd (Nat.lt_of_lt_of_le (Heap.lt_size e) z) (Nat.lt_irrefl _)
 have cellK:∀ x c,X.env.cells.lookup x=some c->∀ v,s.heap.IsCell c v->h'.IsCell c v:=fun x c e v ⟨o,ho,hd⟩=>by
  have nch:c∉ch:=fun z=>(hch c z).2.2.1 x c e rfl
  by_cases hc:c∈X.fs
  ·obtain ⟨sl,q⟩:=slot c o (I.cne x c e) hc nch ho (I.freeC x c e)
   exact ⟨_,q,hd⟩
  ·exact ⟨o,keep c o (I.cne x c e) hc nch ho (I.freeC x c e),hd⟩
 refine ⟨I.ok,I.os,hg,⟨fun b o e n hb hx=>?_,fun b o e n hb hx=>?_,fun b o e n hx=>?_,fun b o e hx=>?_,fun b xs e=>tups b xs (I.base.tups b xs e),fun b o xs e=>frzs b o xs (I.base.frzs b o xs e),fun b ps e=>?_⟩,?_,fun x c e=>?_,?_,fun x c e=>?_,fun p hp=>?_,hok,I.len⟩
 ·exact keep b o (neL b o e) hb (neC b o e hx) (I.base.keep b o e n hb hx) (I.base.free b o e n hx)
 ·obtain ⟨sl,e1⟩:=I.base.slot b o e n hb hx
  obtain ⟨sl',e2⟩:=slot b _ (neL b o e) hb (neC b o e hx) e1 (I.base.free b o e n hx)
  exact ⟨sl',e2⟩
 ·obtain ⟨o',e1⟩:=I.base.there b o e hx
  exact free b o' (neC b o e hx) e1 (I.base.free b o e n hx)
 ·obtain ⟨o',e1⟩:=I.base.there b o e hx
  exact there b o' (neC b o e hx) e1
 ·obtain ⟨m1,e1⟩:=I.base.tbls b ps e
  obtain ⟨m2,e2⟩:=tbls b _ e1
  exact ⟨m1++m2,by rw [e2,Array.append_assoc]⟩
 ·obtain ⟨m,hn,hl⟩:=I.loc
  refine ⟨m,ns m hn,fun i x v e1 e2 e3=>?_⟩
  obtain ⟨u,r,l⟩:=hl i x v e1 e2 e3
  refine ⟨u,r,?_⟩
  rcases l with l | ⟨k,c,e,z⟩
  ·exact .inl l
  ·exact .inr ⟨k,c,e,cellK x c e _ z⟩
 ·obtain ⟨v,z⟩:=I.cell x c e
  exact ⟨v,cellK x c e v z⟩
 ·obtain ⟨m,⟨o,_,_,ho,_⟩,_⟩:=I.loc
  exact free _ o (fun z=>(hch _ z).2.1 rfl) ho I.free
 ·obtain ⟨v,o,ho,hd⟩:=I.cell x c e
  exact free c o (fun z=>(hch c z).2.2.1 x c e rfl) ho (I.freeC x c e)
 ·obtain ⟨e,n,ne,nf,d⟩:=I.pin p hp
  have nch:p.1∉ch:=fun z=>(hch p.1 z).2.2.2 p hp rfl
  exact ⟨keep p.1 p.2 ne nf nch e n,free p.1 p.2 nch e n,ne,nf,d⟩
theorem Inv.un {t':Nat} (I:Inv X pins σ H s) (u:Un X.fs [] H H' s.heap h') (hok:HOk X.prog X.w H' h'):Inv X pins σ H' { s with heap:=h',toks:=t' }:=by
 obtain ⟨m,⟨o,es,ep,ho,r⟩,_⟩:=id I.loc
 obtain ⟨sl,hL⟩:=u.any ho I.free (by simp)
 exact I.step (g':=s.gens) (d':=s.drawn) (ch:=[]) (fun _ z=>nomatch z) (fun b o _ hb _ e n=>u.keep b o e n hb (by simp)) (fun b o _ hb _ e n=>u.slot b o e n hb (by simp)) (fun b o _ e n=>u.free b o e n (by simp)) (fun b o _ e=>u.there b o e (by simp)) u.tups u.frzs u.tbls (fun m' hm=>by
  obtain ⟨o',es',ep',ho',r'⟩:=hm
  rw [ho] at ho';cases ho'
  exact ⟨_,es',ep',hL,r'⟩) hok I.bare
theorem Inv.call {g':Array GenState} {t':Nat} {d':Drawn} {ch:List Addr} (I:Inv X pins σ H s) (u:Un (frs X.stack) ch H H' s.heap h') (hok:HOk X.prog X.w H' h') (hg:AllBare g')
  (hch:∀ b∈ch,(b∈X.ex∨X.s₀.heap.objs.size<=b)/\b≠X.env.locals/\(∀ x c,X.env.cells.lookup x=some c->c≠b)/\∀ p∈X.pn++pins,p.1≠b) :
  Inv X pins σ H' { s with heap:=h',gens:=g',drawn:=d',toks:=t' }:=by
 obtain ⟨m,⟨o,es,ep,ho,r⟩,_⟩:=id I.loc
 obtain ⟨sl,hL⟩:=u.any ho I.free fun z=>(hch _ z).2.1 rfl
 exact I.step (ch:=ch) hch (fun b o hL hb hc e n=>u.keep b o e n (fun z=>(List.mem_cons.mp (I.GQ b z)).elim hL hb) hc) (fun b o _ _ hc e n=>u.any e n hc) (fun b o hc e n=>u.free b o e n hc) (fun b o hc e=>u.there b o e hc) u.tups u.frzs u.tbls (fun m' hm=>by
  obtain ⟨o',es',ep',ho',r'⟩:=hm
  rw [ho] at ho';cases ho'
  exact ⟨_,es',ep',hL,r'⟩) hok hg
theorem Inv.turned {t':Nat} {it:Addr} (I:Inv X pins σ H s) (k:∀ b o,b≠it->s.heap.get? b=some o->h'.get? b=some o) (hn:H it=none) (hL:it≠X.env.locals)
  (h1:it∈X.ex∨X.s₀.heap.objs.size<=it) (h2:∀ x c,X.env.cells.lookup x=some c->c≠it) (h3:∀ p∈X.pn++pins,p.1≠it):Inv X pins σ H { s with heap:=h',toks:=t' }:=by
 have nit:∀ b u,H b=some u->b≠it:=fun b u e z=>by rw [z,hn] at e;cases e
 refine I.step (g':=s.gens) (d':=s.drawn) (ch:=[it]) (fun b hb=>?_) (fun b o _ _ hc e _=>k b o (fun z=>hc (by simp [z])) e) (fun b o _ _ hc e _=>⟨o.slots,k b o (fun z=>hc (by simp [z])) e⟩) (fun _ _ _ _ n=>n)
  (fun b o hc e=>⟨o,k b o (fun z=>hc (by simp [z])) e⟩) (fun _ _ e=>e) (fun _ _ _ e=>e) (fun b ps e=>⟨#[],by rw [e];simp⟩) (fun m hm=>?_) (fun b u e=>?_) I.bare
 ·have e:b=it:=by simpa using hb
  subst e
  exact ⟨h1,hL,h2,h3⟩
 ·obtain ⟨o,es,ep,ho,r⟩:=hm
  exact ⟨o,es,ep,k _ o (Ne.symm hL) ho,r⟩
 ·refine (I.hok b u e).stay (fun c v hc q=>k c v ?_ q) (fun _ q=>q) fun _ _ q=>q
  rcases hc with z | z
  ·rw [z];exact nit b u e
  ·exact nit c _ z
theorem Inv.tok (I:Inv X pins σ H s) (t:Nat):Inv X pins σ H { s with toks:=t }:=I.un (h':=s.heap) (t':=t) Un.refl I.hok
theorem Inv.kept {t':Nat} (I:Inv X pins σ H s) (k:∀ b u,s.heap.get? b=some u->h'.get? b=some u):Inv X pins σ H { s with heap:=h',toks:=t' }:=I.un (Un.kept k) (I.hok.kept k)
theorem Inv.laid {a:Addr} {o:HO} {t':Nat} (I:Inv X pins σ H s) (k:∀ b u,s.heap.get? b=some u->h'.get? b=some u) (hp:s.heap.objs.size<=a) (new:Bv X.prog X.w (upd H a o) h' a o) :
  Inv X pins σ (upd H a o) { s with heap:=h',toks:=t' }:=I.un (Un.laid k hp (I.hok.fresh hp)) (I.hok.laid k hp new)
theorem Inv.write {x e:Addr} {o:HO} {t':Nat} (I:Inv X pins σ H s) (mu:Mut (H x)) (he:e=x∨H e=some (.own x)) (k:∀ b u,b≠e->s.heap.get? b=some u->h'.get? b=some u) (heo:∃ u,h'.get? e=some u)
  (new:Bv X.prog X.w (upd H x o) h' x o):Inv X pins σ (upd H x o) { s with heap:=h',toks:=t' }:=I.un (Un.write mu he k heo) (I.hok.write mu he k heo new)
theorem Inv.Gg {pins':List (Addr×Obj)} (I:Inv X pins σ H s) (h:∀ p∈pins',s.heap.get? p.1=some p.2/\H p.1=none/\p.1≠X.env.locals/\p.1∉X.fs/\∀ v,p.2.data≠.cell v):Inv X pins' σ H s :=
 ⟨I.ok,I.os,I.bare,I.base,I.loc,I.cell,I.free,I.freeC,fun p hp=>(List.mem_append.mp hp).elim (fun z=>I.pin p (List.mem_append_left _ z)) (h p),I.hok,I.len⟩
theorem Gh {N:List Str} (hN:N.Nodup) {i j:Nat} {x:Str} (a:N[i]?=some x) (b:N[j]?=some x):i=j:=by
 obtain ⟨h1,e1⟩:=List.getElem?_eq_some_iff.mp a
 obtain ⟨h2,e2⟩:=List.getElem?_eq_some_iff.mp b
 exact (List.getElem_inj hN).mp (e1.trans e2.symm)
theorem GP {M:Model} {A:Around} {E:Value->Shared->Prop} {i:Nat} {x:Str} {v:V} {u:Value} {Q:Unit->Shared->Prop} (I:Inv X pins σ H s) (hN:X.N.Nodup) (hi:X.N[i]?=some x) (hx:Loc X.env.scope x) (r:RelV v u)
  (h:∀ s',Inv X pins (σ.set i (some v)) H s'->(∃ a,Heap.SameBut a s.heap s'.heap/\(a=X.env.locals∨X.env.cells.lookup x=some a))->Q () s') (hf:X.fn x=true∨X.env.scope.names.lookup x=some .local:=by first | exact .inl rfl | exact .inr rfl | assumption):wpAny M A (storeName X.env x u) Q E s:=by
 obtain ⟨m,hn,hl⟩:=id I.loc
 have hcls:(X.env.scope.kind == .class || (X.env.scope.kind == .module && X.env.locals != X.env.globals))=false:=by rw [I.ok.kind];rfl
 have hiσ:i < σ.length:=by rw [I.len];exact (List.getElem?_eq_some_iff.mp hi).1
 have cne:=I.cne
 have tracked:∀ {a:Addr} {h':Heap},(∃ o,s.heap.get? a=some o/\H a=none)->Heap.SameBut a s.heap h'->HOk X.prog X.w H h':=fun {a h'} ha hs b ob e=>by
  obtain ⟨_,_,hfree⟩:=ha
  refine (I.hok b ob e).stay (fun c w' hc q=>(hs.2 c ?_).trans q) (fun _ q=>q) fun _ _ q=>q
  rintro rfl
  rcases hc with rfl | hc
  ·rw [hfree] at e;cases e
  ·rw [hfree] at hc;cases hc
 rcases hx with hk | hk
 ·refine wpAny_storeName_local hk hn (fun h' hn' hs=>?_) hcls
  obtain ⟨oL,_,_,hoL,_⟩:=id hn
  refine h _ ⟨I.ok,I.os,I.bare,⟨fun b o e n hb hx=>?_,fun b o e n hb hx=>?_,I.base.free,fun b o e hx=>?_,I.base.tups,I.base.frzs,I.base.tbls⟩,⟨_,hn',fun j y v' e1 e2 e3=>?_⟩,fun y c e=>?_,I.free,I.freeC,fun p hp=>?_,tracked ⟨oL,hoL,I.free⟩ hs,by simpa using I.len⟩ ⟨_,hs,.inl rfl⟩
  ·exact (hs.2 b (Nat.ne_of_lt (Nat.lt_of_lt_of_le (Heap.lt_size e) I.ok.above))).trans (I.base.keep b o e n hb hx)
  ·obtain ⟨sl,e1⟩:=I.base.slot b o e n hb hx
   exact ⟨sl,(hs.2 b (Nat.ne_of_lt (Nat.lt_of_lt_of_le (Heap.lt_size e) I.ok.above))).trans e1⟩
  ·obtain ⟨o',e1⟩:=I.base.there b o e hx
   exact ⟨o',(hs.2 b (Nat.ne_of_lt (Nat.lt_of_lt_of_le (Heap.lt_size e) I.ok.above))).trans e1⟩
  ·by_cases hj:j=i
   ·subst hj
    rw [hi] at e1;cases e1
    rw [List.getElem?_set_self hiσ] at e2
    cases e2
    exact ⟨u,r,.inl ⟨hk,by simp⟩⟩
   ·rw [List.getElem?_set_ne (Ne.symm hj)] at e2
    obtain ⟨u',r',q⟩:=hl j y v' e1 e2 e3
    refine ⟨u',r',?_⟩
    rcases q with ⟨k,e⟩ | ⟨k,c,e,z⟩
    ·refine .inl ⟨k,?_⟩
     have:y≠x:=fun e=>hj (Gh hN e1 (e▸hi))
     simp [this,e]
    ·exact .inr ⟨k,c,e,z.sameBut hs (cne y c e)⟩
  ·obtain ⟨w',z⟩:=I.cell y c e
   exact ⟨w',z.sameBut hs (cne y c e)⟩
  ·obtain ⟨e,n,ne,nf,d⟩:=I.pin p hp
   exact ⟨(hs.2 p.1 ne).trans e,n,ne,nf,d⟩
 ·have hfn:X.fn x=true:=by
   rcases hf with z | z
   ·exact z
   ·rw [z] at hk;cases hk
  obtain ⟨c,hc⟩:=I.ok.has x (.inl hk)
  obtain ⟨w',z⟩:=I.cell x c hc
  refine wpAny_storeName_cell I.ok.kind hk hc z (fun h' hc' hs=>?_)
  obtain ⟨oc,hoc,hocd⟩:=id z
  refine h { s with heap:=h' } ⟨I.ok,I.os,I.bare,⟨fun b o e n hb hx=>?_,fun b o e n hb hx=>?_,I.base.free,fun b o e hx=>?_,I.base.tups,I.base.frzs,I.base.tbls⟩,⟨m,hn.sameBut hs (Ne.symm (cne x c hc)),fun j y v' e1 e2 e3=>?_⟩,fun y c' e=>?_,I.free,I.freeC,fun p hp=>?_,tracked ⟨oc,hoc,I.freeC x c hc⟩ hs,by simpa using I.len⟩ ⟨c,hs,.inr hc⟩
  ·exact (hs.2 b (Nat.ne_of_lt (Nat.lt_of_lt_of_le (Heap.lt_size e) (I.ok.cab x c hfn hc)))).trans (I.base.keep b o e n hb hx)
  ·obtain ⟨sl,e1⟩:=I.base.slot b o e n hb hx
   exact ⟨sl,(hs.2 b (Nat.ne_of_lt (Nat.lt_of_lt_of_le (Heap.lt_size e) (I.ok.cab x c hfn hc)))).trans e1⟩
  ·obtain ⟨o',e1⟩:=I.base.there b o e hx
   exact ⟨o',(hs.2 b (Nat.ne_of_lt (Nat.lt_of_lt_of_le (Heap.lt_size e) (I.ok.cab x c hfn hc)))).trans e1⟩
  ·by_cases hj:j=i
   ·subst hj
    rw [hi] at e1;cases e1
    rw [List.getElem?_set_self hiσ] at e2
    cases e2
    exact ⟨u,r,.inr ⟨.inl hk,c,hc,hc'⟩⟩
   ·rw [List.getElem?_set_ne (Ne.symm hj)] at e2
    obtain ⟨u',r',q⟩:=hl j y v' e1 e2 e3
    refine ⟨u',r',?_⟩
    rcases q with q | ⟨k,c',e,z'⟩
    ·exact .inl q
    ·refine .inr ⟨k,c',e,z'.sameBut hs ?_⟩
     rintro rfl
     exact hj (Gh hN e1 (I.ok.inj _ _ _ e hc▸hi))
  ·by_cases hcc:c'=c
   ·subst hcc;exact ⟨_,hc'⟩
   ·obtain ⟨w2,z2⟩:=I.cell y c' e
    exact ⟨w2,z2.sameBut hs hcc⟩
  ·obtain ⟨e,n,ne,nf,d⟩:=I.pin p hp
   refine ⟨(hs.2 p.1 ?_).trans e,n,ne,nf,d⟩
   intro q
   rw [q,hoc] at e
   have q':oc=p.2:=Option.some.inj e
   exact d w' (by rw [<- q'];exact hocd)
theorem Ew {M:Model} {A:Around} {E:Value->Shared->Prop} {i:Nat} {x:Str} {v:V} {u:Value} {Q:Unit->Shared->Prop} (I:Inv X pins σ H s) (hN:X.N.Nodup) (hi:X.N[i]?=some x) (hx:Loc X.env.scope x) (r:RelV v u)
  (h:∀ s',Inv X pins (σ.set i (some v)) H s'->Q () s') (hf:X.fn x=true∨X.env.scope.names.lookup x=some .local:=by first | exact .inl rfl | exact .inr rfl | assumption):wpAny M A (storeName X.env x u) Q E s :=
 GP I hN hi hx r (fun s' I' _=>h s' I') hf
theorem Inv.call' {s':Shared} {ch:List Addr} (I:Inv X pins σ H s) (ho:s'.os=s.os) (u:Un (frs X.stack) ch H H' s.heap s'.heap) (hok:HOk X.prog X.w H' s'.heap) (hg:AllBare s'.gens)
  (hch:∀ b∈ch,(b∈X.ex∨X.s₀.heap.objs.size<=b)/\b≠X.env.locals/\(∀ x c,X.env.cells.lookup x=some c->c≠b)/\∀ p∈X.pn++pins,p.1≠b):Inv X pins σ H' s':=by
 obtain ⟨h',g',d',t',o'⟩:=s'
 have e:o'=s.os:=ho
 subst e
 exact I.call (g':=g') (t':=t') (d':=d') u hok hg hch
end
abbrev XK:=Value->Option Addr->Hp->Prop
abbrev St:=List (Option V)
abbrev VK:=V->Hp->Prop
abbrev TE:=St->Hp->VK->Prop
abbrev TT:=St->Hp->(Bool->Hp->Prop)->Prop
abbrev TA:=St->Hp->(List V->Hp->Prop)->Prop
structure Ends where
 nx:St->Hp->Prop
 rt:VK
 bk:St->Hp->Prop:=fun _ _=>False
 ct:St->Hp->Prop:=fun _ _=>False
abbrev TS:=Ends->St->Hp->Prop
def EP (X:Cx) (pins:List (Addr×Obj)) (σ:St) (Q:VK) (u:Value) (s':Shared):Prop:=∃ v H',Inv X pins σ H' s'/\RelV v u/\Q v H'
def TP (X:Cx) (pins:List (Addr×Obj)) (σ:St) (Q:Bool->Hp->Prop) (b:Bool) (s':Shared):Prop:=∃ H',Inv X pins σ H' s'/\Q b H'
def AP (X:Cx) (pins:List (Addr×Obj)) (σ:St) (Q:List V->Hp->Prop) (us:List Value) (s':Shared):Prop:=∃ vs H',Inv X pins σ H' s'/\Vals vs us/\Q vs H'
def SP (X:Cx) (pins:List (Addr×Obj)) (D:Ends) (f:Flow) (s':Shared):Prop :=
 match f with
 | .next=>∃ σ' H',Inv X pins σ' H' s'/\D.nx σ' H'
 | .brk=>∃ σ' H',Inv X pins σ' H' s'/\D.bk σ' H'
 | .cont=>∃ σ' H',Inv X pins σ' H' s'/\D.ct σ' H'
 | .ret u=>∃ v σ' H',Inv X pins σ' H' s'/\RelV v u/\D.rt v H'
def PE (X:Cx) (e:Expr) (t:TE):Prop :=
 ∀ (pins:List (Addr×Obj)) (s:Shared) (σ:St) (H:Hp) (Q:VK),Inv X pins σ H s->t σ H Q->wpAny (model X.prog X.w) X.A (eval e X.env) (EP X pins σ Q) X.xe s
def PT (X:Cx) (e:Expr) (t:TT):Prop :=
 ∀ (pins:List (Addr×Obj)) (s:Shared) (σ:St) (H:Hp) (Q:Bool->Hp->Prop),Inv X pins σ H s->t σ H Q->wpAny (model X.prog X.w) X.A (isTrue e X.env (eval e X.env)) (TP X pins σ Q) X.xe s
def PW (X:Cx) (e:Expr) (t:TT):Prop :=
 ∀ (whole:Sem Value) (pins:List (Addr×Obj)) (s:Shared) (σ:St) (H:Hp) (Q:Bool->Hp->Prop),Inv X pins σ H s->t σ H Q->wpAny (model X.prog X.w) X.A (isTrue e X.env whole) (TP X pins σ Q) X.xe s
theorem PW.pt {X:Cx} {e:Expr} {t:TT} (h:PW X e t):PT X e t:=h _
def PA (X:Cx) (es:List Expr) (t:TA):Prop :=
 ∀ (pos:Pos) (pins:List (Addr×Obj)) (s:Shared) (σ:St) (H:Hp) (Q:List V->Hp->Prop),Inv X pins σ H s->t σ H Q->wpAny (model X.prog X.w) X.A (spliced (backTo pos (starEach es X.env))) (AP X pins σ Q) X.xe s
def PS (X:Cx) (st:Stmt) (t:TS):Prop :=
 ∀ (pins:List (Addr×Obj)) (s:Shared) (σ:St) (H:Hp) (D:Ends),Inv X pins σ H s->t D σ H->wpAny (model X.prog X.w) X.A (exec st X.env) (SP X pins D) X.xe s
def PSs (X:Cx) (st:List Stmt) (t:TS):Prop :=
 ∀ (pins:List (Addr×Obj)) (s:Shared) (σ:St) (H:Hp) (D:Ends),Inv X pins σ H s->t D σ H->wpAny (model X.prog X.w) X.A (execs st X.env) (SP X pins D) X.xe s
theorem thn {α:Type} {t:Sem α} {Q Q':α->Shared->Prop} {M:Model} {A:Around} {E:Value->Shared->Prop} {s:Shared} (h:wpAny M A t Q E s) (hQ:∀ a s,Q a s->Q' a s):wpAny M A t Q' E s:=wpAny_mono h hQ fun _ _ x=>x
end L2
namespace L2
open PySem PySem.Spec PyProof.Rows
section
variable {X:Cx}
def tVar (i:Nat):TE:=fun σ H Q=>∃ v,σ[i]?=some (some v)/\Q v H
def tC (v:V):TE:=fun _ H Q=>Q v H
theorem pe_var {i:Nat} {x:Str} {pos:Pos} (hN:X.N[i]?=some x) (hv:Vis X.env.scope x) (hd:(x == ("__debug__":Str))=false:=by decide) (hcd:(x == ("__classdict__":Str))=false:=by decide):PE X (.Name x pos) (tVar i):=by
 intro pins s σ H Q I h
 obtain ⟨v,e,h⟩:=h
 obtain ⟨m,hn,hl⟩:=I.loc
 obtain ⟨u,r,l⟩:=hl i x v hN e hv
 have fin:EP X pins σ Q u s:=⟨v,H,I,r,h⟩
 rcases l with ⟨hk,hm⟩ | ⟨hk,c,hc,hcell⟩
 ·exact wpAny_Name (wpAny_loadName_local I.ok.kind hk hn hm fin) hd
 ·rcases hk with hk | hk
  ·exact wpAny_Name (wpAny_loadName_cell I.ok.kind hk hc hcell fin) hd
  ·exact wpAny_Name (wpAny_loadName_free I.ok.kind hk hc hcell fin hcd) hd
theorem pe_int {i j pos}:PE X (.Constant (.int i) j pos) (tC (.int i)):=fun _ _ _ H _ I h=>wpAny_Constant_int ⟨.int i,H,I.tok _,⟨_,rfl⟩,h⟩
theorem pe_bl {b j pos}:PE X (.Constant (.bool b) j pos) (tC (.bl b)):=fun _ _ _ H _ I h=>Constant_bool ⟨.bl b,H,I,rfl,h⟩
theorem pe_non {j pos}:PE X (.Constant .none j pos) (tC .non):=fun _ _ _ H _ I h=>Constant_none ⟨.non,H,I,rfl,h⟩
theorem pe_str {x j pos}:PE X (.Constant (.str x) j pos) (tC (.str x)):=fun _ _ _ H _ I h=>Calls.Constant_str ⟨.str x,H,I.tok _,⟨_,rfl⟩,h⟩
def Gl (X:Cx) (x:Str):Prop:=X.env.kindOf x=some .globalImplicit
theorem Gi {E:Value->Shared->Prop} {pins:List (Addr×Obj)} {s:Shared} {σ:St} {H:Hp} {x:Str} {u:Value} {pos:Pos} {Q:Value->Shared->Prop} (I:Inv X pins σ H s) (hg:Gl X x) (hm:X.mg x=some u) (h:Q u s)
  (hd:(x == ("__debug__":Str))=false:=by decide):wpAny (model X.prog X.w) X.A (eval (.Name x pos) X.env) Q E s :=
 Calls.Name_function_global I.ok.kind hg (Calls.loadGlobal_global (by rw [I.ok.glob];exact I.mod.glob.keeps I.bk) hm h) hd
theorem DB {E:Value->Shared->Prop} {pins:List (Addr×Obj)} {s:Shared} {σ:St} {H:Hp} {x:Str} {u:Value} {pos:Pos} {Q:Value->Shared->Prop} (I:Inv X pins σ H s) (hg:Gl X x) (hm:X.mg x=none) (hv:bootBuiltins x=some u) (h:Q u s)
  (hn:x≠"__name__":=by decide) (hd:(x == ("__debug__":Str))=false:=by decide):wpAny (model X.prog X.w) X.A (eval (.Name x pos) X.env) Q E s:=by
 obtain ⟨mb,h1,h2⟩:=I.mod.blt
 exact Calls.Name_function_global I.ok.kind hg (Calls.loadGlobal_builtin (by rw [I.ok.glob];exact I.mod.glob.keeps I.bk) hm (by rw [I.ok.blt];exact h1.keeps I.bk) ((h2 x hn).trans hv) h) hd
theorem pe_bltn {x:Str} {v:V} {u:Value} {pos:Pos} (hg:Gl X x) (hm:X.mg x=none) (hv:bootBuiltins x=some u) (r:RelV v u) (hn:x≠"__name__":=by decide) (hd:(x == ("__debug__":Str))=false:=by decide):PE X (.Name x pos) (tC v) :=
 fun _ _ _ H _ I h=>DB I hg hm hv ⟨v,H,I,r,h⟩ hn hd
variable {a b:Expr} {ta tb:TE} {pos:Pos}
variable {tA tB':TT} {rest:List Expr}
def tOr (t u:TT):TT:=fun σ H Q=>t σ H fun c H1=>if c=true then Q true H1 else u σ H1 Q
def tNot (t:TT):TT:=fun σ H Q=>t σ H fun c H1=>Q (!c) H1
theorem pw_or1 (ha:PT X a tA):PW X (.BoolOp .Or [a] pos) tA:=by
 intro wh pins s σ H Q I h
 refine isTrue_or (thn (ha pins s σ H Q I h) fun c s1 e=>?_)
 cases c with
 | false=>exact isTrue_or_nil e
 | true=>exact e
theorem pw_or (ha:PT X a tA) (hb:PW X (.BoolOp .Or (b :: rest) pos) tB'):PW X (.BoolOp .Or (a :: b :: rest) pos) (tOr tA tB'):=by
 intro wh pins s σ H Q I h
 refine isTrue_or (thn (ha pins s σ H _ I h) fun c s1 ⟨H1,I1,q1⟩=>?_)
 cases c with
 | true=>exact ⟨H1,I1,q1⟩
 | false=>exact hb wh pins s1 σ H1 Q I1 q1
theorem pt_not (ha:PT X a tA):PT X (.UnaryOp .Not a pos) (tNot tA):=by
 intro pins s σ H Q I h
 exact isTrue_not (ha pins s σ H (fun c H1=>Q (!c) H1) I h)
def tIf (t:TT) (ta tb:TE):TE:=fun σ H Q=>t σ H fun c H1=>if c=true then ta σ H1 Q else tb σ H1 Q
theorem pe_ifExp {c:Expr} (hc:PT X c tA) (ha:PE X a ta) (hb:PE X b tb):PE X (.IfExp c a b pos) (tIf tA ta tb):=by
 intro pins s σ H Q I h
 refine wpAny_IfExp (thn (hc pins s σ H _ I h) fun d s1 ⟨H1,I1,q1⟩=>?_)
 cases d with
 | true=>exact ha pins s1 σ H1 Q I1 q1
 | false=>exact hb pins s1 σ H1 Q I1 q1
end
end L2
namespace L2
open PySem PySem.Spec PyProof.Rows
def SqL (K:PySem.W.Frag) (H:Hp) (a:Addr) (xs:List V):Prop :=
 Rd H a (.lst xs) ∨
  ∃ (o:Obj) (its:Array Value) (n:Nat),K.lookup a=some o/\o.cls=.type "list"/\o.dict=none/\o.data=.seq its n/\its.size<=sizeLine/\Vals xs its.toList
def SqT (K:PySem.W.Frag) (H:Hp) (a:Addr) (xs:List V):Prop :=
 Rd H a (.tup xs) ∨
  ∃ (o:Obj) (its:Array Value) (n:Nat),K.lookup a=some o/\o.cls=.type "tuple"/\o.data=.seq its n/\its.size<=sizeLine/\Vals xs its.toList
def absV:Value->Option V
 | .none=>some .non
 | .bool b=>some (.bl b)
 | .int i _=>some (.int i)
 | .str x _=>some (.str x)
 | .bytes b _=>some (.byt b)
 | .float b _=>some (.flt b)
 | .ref a=>some (.ref a)
 | .type n=>some (.ty n)
 | _=>none
theorem RelV.abs {x:V} {u:Value} (r:RelV x u):absV u=some x:=by
 cases x with
 | non=>cases r;rfl
 | bl _=>cases r;rfl
 | int _=>obtain ⟨t,rfl⟩:=r;rfl
 | str _=>obtain ⟨t,rfl⟩:=r;rfl
 | byt _=>obtain ⟨t,rfl⟩:=r;rfl
 | flt _=>obtain ⟨t,rfl⟩:=r;rfl
 | ref _=>cases r;rfl
 | ty _=>cases r;rfl
theorem RelV.inj {x y:V} {u:Value} (r:RelV x u) (q:RelV y u):x=y:=Option.some.inj (r.abs.symm.trans q.abs)
theorem Vals.inj:∀ {xs ys:List V} {us:List Value},Vals xs us->Vals ys us->xs=ys
 | _,_,_,.nil,.nil=>rfl
 | _,_,_,.cons r t,.cons r' t'=>by rw [r.inj r',Vals.inj t t']
section
variable {X:Cx} {pins:List (Addr×Obj)} {σ:St} {H:Hp} {s:Shared} {a:Addr} {xs ys:List V}
theorem SqL.of {K:PySem.W.Frag} (h:H a=some (.lst xs)):SqL K H a xs:=.inl (.inl h)
theorem SqT.of {K:PySem.W.Frag} (h:H a=some (.tup xs)):SqT K H a xs:=.inl (.inl h)
theorem Inv.list (I:Inv X pins σ H s) (h:SqL X.K H a xs):∃ its:List Value,Vals xs its/\PlainL s.heap a its.toArray/\xs.length<=sizeLine:=by
 rcases h with h | ⟨o,its,n,hk,hc,hd,hs,hz,r⟩
 ·obtain ⟨z,its,n,r,e⟩:=h.ok I.hok
  exact ⟨its,r,⟨_,n,e,rfl,rfl,rfl⟩,z⟩
 ·refine ⟨its.toList,r,⟨o,n,I.kIn a o hk,hc,hd,by simpa using hs⟩,?_⟩
  have e:=r.length
  simp only [Array.length_toList] at e
  omega
theorem Inv.tuple (I:Inv X pins σ H s) (h:SqT X.K H a xs):∃ its:List Value,Vals xs its/\IsTup s.heap a its.toArray/\xs.length<=sizeLine:=by
 rcases h with h | ⟨o,its,n,hk,hc,hs,hz,r⟩
 ·obtain ⟨z,its,r,p⟩:=h.ok I.hok
  exact ⟨its,r,p,z⟩
 ·refine ⟨its.toList,r,⟨o,I.kIn a o hk,hc,n,by simpa using hs⟩,?_⟩
  have e:=r.length
  simp only [Array.length_toList] at e
  omega
theorem Inv.list_inj (I:Inv X pins σ H s) (h:SqL X.K H a xs) (h':SqL X.K H a ys):xs=ys:=by
 obtain ⟨its,r,⟨o,n,e,_,_,d⟩,_⟩:=I.list h
 obtain ⟨its',r',⟨o',n',e',_,_,d'⟩,_⟩:=I.list h'
 rw [e] at e';cases e'
 rw [d] at d'
 injection d' with d1 _
 have:its=its':=by simpa using congrArg Array.toList d1
 subst this
 exact r.inj r'
theorem Inv.tuple_inj (I:Inv X pins σ H s) (h:SqT X.K H a xs) (h':SqT X.K H a ys):xs=ys:=by
 obtain ⟨its,r,⟨o,e,_,n,d⟩,_⟩:=I.tuple h
 obtain ⟨its',r',⟨o',e',_,n',d'⟩,_⟩:=I.tuple h'
 rw [e] at e';cases e'
 rw [d] at d'
 injection d' with d1 _
 have:its=its':=by simpa using congrArg Array.toList d1
 subst this
 exact r.inj r'
end
abbrev Cx.EH (X:Cx) (E:Value->Shared->Prop):Cx:={ X with xe:=E }
theorem Cx.Ok.EH {X:Cx} (ok:X.Ok) (E:Value->Shared->Prop):(X.EH E).Ok :=
 ⟨ok.mod,ok.kind,ok.glob,ok.blt,ok.above,ok.inj,ok.has,ok.cab,ok.hd,ok.frames,ok.stk,ok.exf,ok.bs,ok.bsz,ok.noex,ok.exfs,ok.funs,ok.frf⟩
theorem Cx.Ok.DA {X:Cx} {E:Value->Shared->Prop} (ok:(X.EH E).Ok):X.Ok :=
 ⟨ok.mod,ok.kind,ok.glob,ok.blt,ok.above,ok.inj,ok.has,ok.cab,ok.hd,ok.frames,ok.stk,ok.exf,ok.bs,ok.bsz,ok.noex,ok.exfs,ok.funs,ok.frf⟩
section
variable {X:Cx} {pins:List (Addr×Obj)} {σ:St} {H:Hp} {s:Shared} {E:Value->Shared->Prop}
theorem Inv.EH (I:Inv X pins σ H s) (E:Value->Shared->Prop):Inv (X.EH E) pins σ H s:=⟨I.ok.EH E,I.os,I.bare,I.base,I.loc,I.cell,I.free,I.freeC,I.pin,I.hok,I.len⟩
theorem Inv.DA (I:Inv (X.EH E) pins σ H s):Inv X pins σ H s:=⟨I.ok.DA,I.os,I.bare,I.base,I.loc,I.cell,I.free,I.freeC,I.pin,I.hok,I.len⟩
theorem SP.DA {D:Ends} {f:Flow} {s':Shared} (h:SP (X.EH E) pins D f s'):SP X pins D f s':=by
 cases f with
 | next=>obtain ⟨σ',H',I,q⟩:=h;exact ⟨σ',H',I.DA,q⟩
 | brk=>obtain ⟨σ',H',I,q⟩:=h;exact ⟨σ',H',I.DA,q⟩
 | cont=>obtain ⟨σ',H',I,q⟩:=h;exact ⟨σ',H',I.DA,q⟩
 | ret u=>obtain ⟨v,σ',H',I,r,q⟩:=h;exact ⟨v,σ',H',I.DA,r,q⟩
end
section
variable {X:Cx} {st:Stmt} {rest:List Stmt} {t u:TS} {e:Expr} {te:TE} {pos:Pos}
def tNext:TS:=fun D σ H=>D.nx σ H
def tSeq (t u:TS):TS:=fun D σ H=>t { D with nx:=u D } σ H
theorem pss_nil:PSs X [] tNext:=fun _ _ σ H _ I h=>wpAny_execs_nil ⟨σ,H,I,h⟩
theorem pss_cons (h1:PS X st t) (h2:PSs X rest u):PSs X (st :: rest) (tSeq t u):=by
 intro pins s σ H D I h
 refine wpAny_execs_cons (thn (h1 pins s σ H { D with nx:=u D } I h) fun f s1 q=>?_)
 cases f with
 | next =>
  obtain ⟨σ',H',I',q⟩:=q
  exact h2 pins s1 σ' H' D I' q
 | ret v=>exact q
 | brk=>exact q
 | cont=>exact q
theorem pss_one (h1:PS X st t):PSs X [st] t:=by
 intro pins s σ H D I h
 refine wpAny_execs_cons (thn (h1 pins s σ H D I h) fun f s1 q=>?_)
 cases f with
 | next=>exact wpAny_execs_nil q
 | ret v=>exact q
 | brk=>exact q
 | cont=>exact q
theorem Inv.quiet {pins:List (Addr×Obj)} {σ:St} {H:Hp} {s:Shared} (I:Inv X pins σ H s):interactive X.env=false:=by simp [interactive,I.ok.kind]
def tDrop (te:TE):TS:=fun D σ H=>te σ H fun _ H1=>D.nx σ H1
theorem ps_expr (he:PE X e te) (hs:swapsWith e none pos.line X.env=pure false:=by rfl):PS X (.Expr e pos) (tDrop te):=by
 intro pins s σ H D I h
 exact wpAny_Expr_any (thn (he pins s σ H _ I h) fun v s1 ⟨x,H1,I1,r1,q1⟩=>⟨σ,H1,I1,q1⟩) I.quiet hs
def tRet (te:TE):TS:=fun D σ H=>te σ H D.rt
theorem ps_ret (he:PE X e te):PS X (.Return (some e) pos) (tRet te):=by
 intro pins s σ H D I h
 exact wpAny_Return_some (thn (he pins s σ H _ I h) fun v s1 ⟨x,H1,I1,r1,q1⟩=>⟨x,σ,H1,I1,r1,q1⟩)
def tIfS (c:TT) (t u:TS):TS:=fun D σ H=>c σ H fun b H1=>if b=true then t D σ H1 else u D σ H1
theorem ps_if {c:Expr} {a b:List Stmt} {tc:TT} (hc:PT X c tc) (ha:PSs X a t) (hb:PSs X b u):PS X (.If c a b pos) (tIfS tc t u):=by
 intro pins s σ H D I h
 refine wpAny_If (thn (hc pins s σ H _ I h) fun d s1 ⟨H1,I1,q1⟩=>?_)
 cases d with
 | true=>exact ha pins s1 σ H1 D I1 q1
 | false=>exact hb pins s1 σ H1 D I1 q1
end
abbrev TG:=V->St->Hp->(St->Hp->Prop)->Prop
abbrev TGs:=List V->St->Hp->(St->Hp->Prop)->Prop
def PG (X:Cx) (target:Expr) (t:TG):Prop :=
 ∀ (pins:List (Addr×Obj)) (s:Shared) (σ:St) (H:Hp) (v:V) (u:Value) (Q:St->Hp->Prop),Inv X pins σ H s->RelV v u->t v σ H Q ->
  wpAny (model X.prog X.w) X.A (assign target X.env u) (fun _ s'=>∃ σ' H',Inv X pins σ' H' s'/\Q σ' H') X.xe s
def PGs (X:Cx) (ts:List Expr) (t:TGs):Prop :=
 ∀ (pins:List (Addr×Obj)) (s:Shared) (σ:St) (H:Hp) (vs:List V) (us:List Value) (Q:St->Hp->Prop),Inv X pins σ H s->Vals vs us->t vs σ H Q ->
  wpAny (model X.prog X.w) X.A (assignInOrder ((assignEach ts X.env).map (·.2)) us) (fun _ s'=>∃ σ' H',Inv X pins σ' H' s'/\Q σ' H') X.xe s
abbrev TSet:=V->V->V->Hp->(Hp->Prop)->Prop
def PSet (X:Cx) (t:TSet):Prop :=
 ∀ (pins:List (Addr×Obj)) (s:Shared) (σ:St) (H:Hp) (o i v:V) (ov iv u:Value) (Q:Hp->Prop),Inv X pins σ H s->RelV o ov->RelV i iv->RelV v u->t o i v H Q ->
  wpAny (model X.prog X.w) X.A (setItem ov iv u) (fun _ s'=>∃ H',Inv X pins σ H' s'/\Q H') X.xe s
section
variable {X:Cx} {pos:Pos}
def gName (i:Nat):TG:=fun v σ H Q=>Q (σ.set i (some v)) H
theorem pg_name {i:Nat} {x:Str} (hN:X.N.Nodup) (hi:X.N[i]?=some x) (hx:Loc X.env.scope x) (hf:X.fn x=true∨X.env.scope.names.lookup x=some .local:=by first | exact .inl rfl | exact .inr rfl | assumption):PG X (.Name x pos) (gName i):=by
 intro pins s σ H v u Q I r h
 exact wpAny_assign_Name (Ew I hN hi hx r (fun s' I'=>⟨_,H,I',h⟩) hf)
def gNil:TGs:=fun vs σ H Q=>vs=[]/\Q σ H
def gCons (t:TG) (u:TGs):TGs:=fun vs σ H Q=>∃ v r,vs=v :: r/\t v σ H fun σ' H'=>u r σ' H' Q
theorem pgs_nil:PGs X [] gNil:=by
 intro pins s σ H vs us Q I r h
 obtain ⟨e,h⟩:=h
 subst e
 cases r
 exact assignInOrder_nil ⟨σ,H,I,h⟩
theorem DO {e:Expr} {es:List Expr} {t:TG} {u:TGs} (h1:PG X e t) (h2:PGs X es u)
  (hs:(assignEach (e :: es) X.env).map (·.2)=assign e X.env :: (assignEach es X.env).map (·.2):=by rfl):PGs X (e :: es) (gCons t u):=by
 intro pins s σ H vs us Q I r h
 obtain ⟨v,vr,e1,h⟩:=h
 subst e1
 cases r with
 | cons r rr =>
  rw [hs]
  refine assignInOrder_cons (thn (h1 pins s σ H _ _ _ I r h) fun _ s1 ⟨σ1,H1,I1,q1⟩=>?_)
  exact h2 pins s1 σ1 H1 _ _ Q I1 rr q1
def gTup (K:PySem.W.Frag) (n:Nat) (t:TGs):TG:=fun v σ H Q=>∃ a xs,v=.ref a/\SqT K H a xs/\xs.length=n/\t xs σ H Q
theorem pg_tup {es:List Expr} {k:Nat} {t:TGs} {n:Nat} (hc:X.calm=true) (h:PGs X es t)
  (hn:(assignEach es X.env).length=n:=by rfl) (hst:(assignEach es X.env).findIdx? (·.1)=none:=by rfl):PG X (.Tuple es k pos) (gTup X.K n t):=by
 intro pins s σ H v u Q I r hw
 obtain ⟨a,xs,e1,hq,hl,hw⟩:=hw
 subst e1
 cases r
 obtain ⟨its,rv,ht,hz⟩:=I.tuple hq
 refine assign_Tuple_tuple (I.ok.hd hc) ht (by simp [hn,<- hl,rv.length]) hst fun h' hx=>?_
 have I1:Inv X pins σ H { s with heap:=h' }:=I.kept (t':=s.toks) fun b o e=>hx b o (Nat.ne_of_lt (Heap.lt_size e)) e
 exact h pins _ σ H xs _ Q I1 (by simpa using rv) hw
def gSub (to ti:TE) (t:TSet):TG:=fun v σ H Q=>to σ H fun o H1=>ti σ H1 fun i H2=>t o i v H2 fun H3=>Q σ H3
theorem pg_sub {o i:Expr} {to ti:TE} {t:TSet} (ho:PE X o to) (hi:PE X i ti) (hs:PSet X t)
  (ha:∀ v,assign (.Subscript o i pos) X.env v=(do
   let ov <- holding [v] (eval o X.env)
   let iv <- holding [v,ov] (eval i X.env)
   standAt pos
   holding [v,ov,iv] (setItem ov iv v)
   release [v,ov,iv] []):=by intro _;rfl):PG X (.Subscript o i pos) (gSub to ti t):=by
 intro pins s σ H v u Q I r h
 rw [ha]
 refine wpAny_bind (wpAny_holding (thn (ho pins s σ H _ I h) fun ov s1 ⟨x,H1,I1,r1,q1⟩=>?_))
 refine wpAny_bind (wpAny_holding (thn (hi pins s1 σ H1 _ I1 q1) fun iv s2 ⟨y,H2,I2,r2,q2⟩=>?_))
 refine wpAny_bind (wpAny_standAt (wpAny_bind (wpAny_holding (thn (hs pins s2 σ H2 x y v ov iv u _ I2 r1 r2 r q2) fun _ s3 ⟨H3,I3,q3⟩=>?_))))
 exact wpAny_release ⟨σ,H3,I3,q3⟩
def tAsg (te:TE) (g:TG):TS:=fun D σ H=>te σ H fun x H1=>g x σ H1 D.nx
theorem ps_asg {tg e:Expr} {te:TE} {g:TG} (he:PE X e te) (hg:PG X tg g) (hs:swapsWithSole [tg] e pos.line X.env=pure false:=by rfl) (hw:swappedStores [tg] e X.env=pure none:=by rfl)
  (h1:(assignEach [tg] X.env).map (·.2)=[assign tg X.env]:=by rfl):PS X (.Assign [tg] e pos) (tAsg te g):=by
 intro pins s σ H D I h
 refine wpAny_Assign_stores (thn (he pins s σ H _ I h) fun v s1 ⟨x,H1,I1,r1,q1⟩=>?_) hs hw
 rw [h1]
 exact thn (hg pins s1 σ H1 x v _ I1 r1 q1) fun _ s2 q=>q
theorem ps_set {i:Nat} {x:Str} {e:Expr} {te:TE} {pos':Pos} (hN:X.N.Nodup) (hi:X.N[i]?=some x) (hx:Loc X.env.scope x) (he:PE X e te) (hs:swapsWith e (some (.Name x pos')) pos.line X.env=pure false:=by rfl) (hf:X.fn x=true∨X.env.scope.names.lookup x=some .local:=by first | exact .inl rfl | exact .inr rfl | assumption) :
  PS X (.Assign [.Name x pos'] e pos) (tAsg te (gName i)):=by
 intro pins s σ H D I h
 refine wpAny_Assign_Name (thn (he pins s σ H _ I h) fun v s1 ⟨y,H1,I1,r1,q1⟩=>?_) hs
 exact Ew I1 hN hi hx r1 (fun s2 I2=>⟨_,H1,I2,q1⟩) hf
end
section
variable {X:Cx} {pos:Pos}
end
structure It where
 go:Nat->Hp->Prop
 yld:Nat->Hp->V->Hp->Prop
 stop:Nat->Hp->Prop
def HM (X:Cx) (pins:List (Addr×Obj)) (H:Hp) (b:Addr):Prop :=
 H b=none/\b≠X.env.locals/\b∉X.fs/\(b∈X.ex∨X.s₀.heap.objs.size<=b)/\(∀ x c,X.env.cells.lookup x=some c->c≠b)/\∀ p∈X.pn++pins,p.1≠b
theorem Inv.fpOk {X:Cx} {pins:List (Addr×Obj)} {σ:St} {H H':Hp} {s:Shared} {b:Addr} (I:Inv X pins σ H s) (hb:s.heap.objs.size<=b) (hn:H' b=none):HM X pins H' b:=by
 refine ⟨hn,Nat.ne_of_gt (Nat.lt_of_lt_of_le I.lt hb),I.nofs hb,.inr (Nat.le_trans I.sz hb),fun x c e z=>?_,fun p hp z=>?_⟩
 ·obtain ⟨v,q⟩:=I.cell x c e
  exact absurd (Nat.lt_of_lt_of_le q.lt (by rw [z];exact hb)) (Nat.lt_irrefl _)
 ·exact absurd (Nat.lt_of_lt_of_le (Heap.lt_size (I.pin p hp).1) (by rw [z];exact hb)) (Nat.lt_irrefl _)
structure Turn (P:Program) (w:World) (K:PySem.W.Frag) (tg:Expr) (J:It) (fp:List Addr) (it:Addr) (tn:Nat->Heap->Prop):Prop where
 mem:it∈fp
 obj:∀ i h,tn i h->∀ b∈fp,∃ o,h.get? b=some o/\∀ v,o.data≠.cell v
 keep:∀ i h h',tn i h->(∀ b∈fp,∀ o,h.get? b=some o->h'.get? b=some o)->tn i h'
 item:∀ (X:Cx),X.prog=P->X.w=w->X.K=K->X.calm=true->∀ (i:Nat) (pins:List (Addr×Obj)) (s:Shared) (σ:St) (H:Hp) (E:Value->Shared->Prop),Inv X pins σ H s->(∀ b∈fp,HM X pins H b)->tn i s.heap->J.go i H ->
  wpAny (model P w) X.A (pyNext (.ref it)) (fun r s1=>∃ u,r=some u /\
   wpAny (model P w) X.A (letOwnedTupleGo tg (.ref it) u) (fun _ s2=>∃ x H',Inv X pins σ H' s2/\RelV x u/\J.yld i H x H'/\tn (i+1) s2.heap/\∀ b∈fp,H' b=none) E s1) E s
 done:∀ (X:Cx),X.prog=P->X.w=w->X.K=K->X.calm=true->∀ (i:Nat) (pins:List (Addr×Obj)) (s:Shared) (σ:St) (H:Hp) (E:Value->Shared->Prop),Inv X pins σ H s->(∀ b∈fp,HM X pins H b)->tn i s.heap->J.stop i H ->
  wpAny (model P w) X.A (pyNext (.ref it)) (fun r s1=>r=none/\Inv X pins σ H s1) E s
 self:∀ (A:Around) (i:Nat) (s:Shared) (Q:Value->Shared->Prop) (E:Value->Shared->Prop),tn i s.heap->Q (.ref it) s->wpAny (model P w) A (pyIter (.ref it)) Q E s
abbrev TI:=St->Hp->(It->Hp->Prop)->Prop
def PIE (X:Cx) (pins:List (Addr×Obj)) (σ:St) (tg:Expr) (R:It->Hp->Prop) (itv:Value) (s2:Shared):Prop :=
 ∃ (it:Addr) (fp:List Addr) (tn:Nat->Heap->Prop) (J:It) (H':Hp),itv=.ref it/\Inv X pins σ H' s2/\Turn X.prog X.w X.K tg J fp it tn/\tn 0 s2.heap/\(∀ b∈fp,HM X pins H' b)/\R J H'
def PI (X:Cx) (tg iter:Expr) (wi:TI):Prop :=
 ∀ (pins:List (Addr×Obj)) (s:Shared) (σ:St) (H:Hp) (R:It->Hp->Prop),Inv X pins σ H s->wi σ H R ->
  wpAny (model X.prog X.w) X.A (eval iter X.env) (fun v s1=>wpAny (model X.prog X.w) X.A (pyIter v) (PIE X pins σ tg R) X.xe s1) X.xe s
theorem go_of {M:Model} {A:Around} {E:Value->Shared->Prop} {s:Shared} {tg:Expr} {it:Addr} {u:Value} {o:Obj} {n:String} {vs:Array Value} {Q:Unit->Shared->Prop} (ho:s.heap.get? it=some o) (hc:o.cls=.type n) (hd:o.data=.fields vs)
    (hn:["enumerate","zip","dict_itemiterator","dict_reverseitemiterator","odict_iterator","itertools.zip_longest","itertools.pairwise"].contains n=false) (hQ:Q () s):wpAny M A (letOwnedTupleGo tg (.ref it) u) Q E s:=by
  unfold letOwnedTupleGo
  cases tg <;> first
    | exact wpAny_pure hQ
    | (cases u <;> first
        | exact wpAny_pure hQ
        | (refine wpAny_bind (wpAny_load ho ?_)
           rw [hc,hd]
           show wpAny M A (if (["enumerate","zip","dict_itemiterator","dict_reverseitemiterator","odict_iterator","itertools.zip_longest","itertools.pairwise"].contains n && vs[0]? == some (rawInt _))=true then _ else _) Q E s
           rw [if_neg (by intro h;rw [hn,Bool.false_and] at h;cases h)]
           exact wpAny_pure hQ))
def Itl (K:PySem.W.Frag) (a:Addr):It :=
 ⟨fun i H=>∃ xs x,SqL K H a xs/\xs[i]?=some x,fun i H x H'=>H'=H/\∀ xs,SqL K H a xs->xs[i]?=some x,fun i H=>∃ xs,SqL K H a xs/\xs.length<=i⟩
def Itt (K:PySem.W.Frag) (a:Addr):It :=
 ⟨fun i H=>∃ xs x,SqT K H a xs/\xs[i]?=some x,fun i H x H'=>H'=H/\∀ xs,SqT K H a xs->xs[i]?=some x,fun i H=>∃ xs,SqT K H a xs/\xs.length<=i⟩
def Itr (lo:Int) (n:Nat):It:=⟨fun i _=>i < n,fun i H x H'=>H'=H/\x=.int (lo+i),fun i _=>n<=i⟩
theorem turn_list {P:Program} {w:World} {K:PySem.W.Frag} {tg:Expr} (a it:Addr):Turn P w K tg (Itl K a) [it] it (fun i h=>h.IsListIter it a i) where
 mem:=by simp
 obj:=fun i h st b hb=>by
  have e:b=it:=by simpa using hb
  subst e
  obtain ⟨o,e,c,d⟩:=st
  exact ⟨o,e,fun v z=>by rw [d] at z;cases z⟩
 keep:=fun i h h' st k=>st.at fun o e=>k it (by simp) o e
 item:=by
  intro X hP hw hK hc i pins s σ H E I hf st hg
  subst hP hw hK
  obtain ⟨xs,x,hq,hx⟩:=hg
  obtain ⟨its,rv,p,hz⟩:=I.list hq
  obtain ⟨u,hu,ru⟩:=rv.get hx
  obtain ⟨f0,f1,f2,f3,f4,f5⟩:=hf it (by simp)
  refine wpAny_pyNext_list_item st p.isList (x:=u) (by simpa using hu) fun h' st' sb=>?_
  have I1:Inv X pins σ H { s with heap:=h' }:=I.turned (t':=s.toks) (fun b o hb e=>(sb.2 b hb).trans e) f0 f1 f3 f4 f5
  obtain ⟨o,e,c,d⟩:=id st'
  exact ⟨u,rfl,go_of (s:={ s with heap:=h' }) e c d (by decide) ⟨x,H,I1,ru,⟨rfl,fun ys hy=>by rw [I.list_inj hy hq];exact hx⟩,st',fun b hb=>(hf b hb).1⟩⟩
 done:=by
  intro X hP hw hK hc i pins s σ H E I hf st hg
  subst hP hw hK
  obtain ⟨xs,hq,hx⟩:=hg
  obtain ⟨its,rv,p,hz⟩:=I.list hq
  obtain ⟨f0,f1,f2,f3,f4,f5⟩:=hf it (by simp)
  have hl:=rv.length
  exact wpAny_pyNext_list_end (I.ok.hd hc) st p.isList (by simp;omega) fun h' eb=>⟨rfl,I.turned (t':=s.toks) (fun b o hb e=>eb b o hb e) f0 f1 f3 f4 f5⟩
 self:=fun _ _ _ _ _ st h=>wpAny_pyIter_listiter st h
theorem turn_tuple {P:Program} {w:World} {K:PySem.W.Frag} {tg:Expr} (a it:Addr):Turn P w K tg (Itt K a) [it] it (fun i h=>h.IsTupleIter it a i) where
 mem:=by simp
 obj:=fun i h st b hb=>by
  have e:b=it:=by simpa using hb
  subst e
  obtain ⟨o,e,c,d⟩:=st
  exact ⟨o,e,fun v z=>by rw [d] at z;cases z⟩
 keep:=fun i h h' st k=>st.at fun o e=>k it (by simp) o e
 item:=by
  intro X hP hw hK hc i pins s σ H E I hf st hg
  subst hP hw hK
  obtain ⟨xs,x,hq,hx⟩:=hg
  obtain ⟨its,rv,p,hz⟩:=I.tuple hq
  obtain ⟨u,hu,ru⟩:=rv.get hx
  obtain ⟨f0,f1,f2,f3,f4,f5⟩:=hf it (by simp)
  refine wpAny_pyNext_tuple_item st (show s.heap.IsTuple a its.toArray from p) (x:=u) (by simpa using hu) fun h' st' sb=>?_
  have I1:Inv X pins σ H { s with heap:=h' }:=I.turned (t':=s.toks) (fun b o hb e=>(sb.2 b hb).trans e) f0 f1 f3 f4 f5
  obtain ⟨o,e,c,d⟩:=id st'
  exact ⟨u,rfl,go_of (s:={ s with heap:=h' }) e c d (by decide) ⟨x,H,I1,ru,⟨rfl,fun ys hy=>by rw [I.tuple_inj hy hq];exact hx⟩,st',fun b hb=>(hf b hb).1⟩⟩
 done:=by
  intro X hP hw hK hc i pins s σ H E I hf st hg
  subst hP hw hK
  obtain ⟨xs,hq,hx⟩:=hg
  obtain ⟨its,rv,p,hz⟩:=I.tuple hq
  obtain ⟨f0,f1,f2,f3,f4,f5⟩:=hf it (by simp)
  have hl:=rv.length
  exact wpAny_pyNext_tuple_end (I.ok.hd hc) st (show s.heap.IsTuple a its.toArray from p) (by simp;omega) fun h' eb=>⟨rfl,I.turned (t':=s.toks) (fun b o hb e=>eb b o hb e) f0 f1 f3 f4 f5⟩
 self:=fun _ _ _ _ _ st h=>wpAny_pyIter_tupleiter st h
theorem turn_range {P:Program} {w:World} {K:PySem.W.Frag} {tg:Expr} (it:Addr) (lo:Int) (n:Nat):Turn P w K tg (Itr lo n) [it] it (fun i h=>IsRangeIter h it (lo+(i:Nat) * 1) ((n:Int) - (i:Nat)) 1) where
 mem:=by simp
 obj:=fun i h st b hb=>by
  have e:b=it:=by simpa using hb
  subst e
  exact ⟨_,st,fun v z=>by
   have z':Data.fields _=Data.cell v:=z
   cases z'⟩
 keep:=fun i h h' st k=>k it (by simp) _ st
 item:=by
  intro X hP hw hK hc i pins s σ H E I hf st hg
  subst hP hw hK
  obtain ⟨f0,f1,f2,f3,f4,f5⟩:=hf it (by simp)
  have W:=Walks.range (prog:=X.prog) (w:=X.w) (I.ok.hd hc) it lo 1 n
  refine W.item i s _ _ hg st fun v h' tk hv st' kk=>?_
  obtain ⟨t,rfl⟩:=hv
  have I1:Inv X pins σ H { s with heap:=h',toks:=tk }:=I.turned (fun b o hb e=>kk b o (by simpa using hb) e) f0 f1 f3 f4 f5
  refine ⟨_,rfl,go_of (s:={ s with heap:=h',toks:=tk }) (n:="range_iterator") st' rfl rfl (by decide) ⟨.int (lo+i),H,I1,⟨t,?_⟩,⟨rfl,rfl⟩,st',fun b hb=>(hf b hb).1⟩⟩
  rw [Int.mul_one]
 done:=by
  intro X hP hw hK hc i pins s σ H E I hf st hg
  subst hP hw hK
  obtain ⟨f0,f1,f2,f3,f4,f5⟩:=hf it (by simp)
  exact wpAny_pyNext_range_end (I.ok.hd hc) st (by have:n<=i:=hg;omega) fun h' eb=>⟨rfl,I.turned (t':=s.toks) (fun b o hb e=>eb b o hb e) f0 f1 f3 f4 f5⟩
 self:=fun _ _ _ _ _ st h=>wpAny_pyIter_rangeiter st h
end L2
namespace L2
open PySem PySem.Spec PyProof.Rows
section
variable {X:Cx} {tg:Expr}
theorem range_it {pins:List (Addr×Obj)} {σ:St} {H:Hp} {s:Shared} {R:It->Hp->Prop} {E:Value->Shared->Prop} {lo hi:Int} {t u v:Tok} {tk:Nat} (I:Inv X pins σ H s) (h1:-(2 ^ 62)<=lo) (h2:lo < 2 ^ 62) (h3:-(2 ^ 62)<=hi) (h4:hi < 2 ^ 62)
  (q:R (Itr lo (hi - lo).toNat) H):wpAny (model X.prog X.w) X.A (pyIter (.ref s.heap.objs.size)) (PIE X pins σ tg R) E { s with heap:=s.heap.push { cls:=.type "range",data:=.fields #[.int lo t,.int hi u,.int 1 v] },toks:=tk }:=by
 refine wpAny_pyIter_range (IsRange.new ..) (small_one h1 h2 h3 h4) ?_
 have I1:Inv X pins σ H { s with heap:=s.heap.push { cls:=.type "range",data:=.fields #[.int lo t,.int hi u,.int 1 v] },toks:=tk }:=I.kept fun b o e=>Heap.get?_push_of_some _ e
 refine ⟨(s.heap.push { cls:=.type "range",data:=.fields #[.int lo t,.int hi u,.int 1 v] }).objs.size,[(s.heap.push { cls:=.type "range",data:=.fields #[.int lo t,.int hi u,.int 1 v] }).objs.size],_,_,H,rfl,
  I1.kept (t':=tk) fun b o e=>Heap.get?_push_of_some _ e,turn_range _ lo (hi - lo).toNat,?_,fun b hb=>?_,q⟩
 ·have e1:lo+((0:Nat):Int) * 1=lo:=by simp
  have e2:(((hi - lo).toNat:Nat):Int) - ((0:Nat):Int)=Builtin.Range.rangeSize lo hi 1:=by rw [rangeSize_one];split <;> omega
  show IsRangeIter _ _ (lo+((0:Nat):Int) * 1) ((((hi - lo).toNat:Nat):Int) - ((0:Nat):Int)) 1
  rw [e1,e2]
  exact Heap.get?_push_size _ rfl
 ·have e:b=(s.heap.push { cls:=.type "range",data:=.fields #[.int lo t,.int hi u,.int 1 v] }).objs.size:=by simpa using hb
  subst e
  exact I1.fpOk (Nat.le_refl _) (I1.hok.fresh (Nat.le_refl _))
def iRng1 (ta:TA):TI:=fun σ H R=>ta σ H fun vs H1=>∃ j:Int,vs=[.int j]/\-(2 ^ 62)<=j/\j < 2 ^ 62/\R (Itr 0 j.toNat) H1
theorem pi_range1 {a:Expr} {ta:TA} {p pos:Pos} (hg:Gl X "range") (hm:X.mg "range"=none) (ha:PA X [a] ta) (hs:starEach [a] X.env=[(false,eval a X.env)]:=by rfl):PI X tg (.Call (.Name "range" p) [a] [] pos) (iRng1 ta):=by
 intro pins s σ H R I h
 refine Call_ (DB I hg hm boot_range (PyProof.Rows.callWith_type1 (thn (ha pos pins s σ H _ I h) fun us s1 ⟨vs,H1,I1,r1,q1⟩=>?_) hs rfl))
 obtain ⟨j,e,q1,q2,q⟩:=q1
 subst e
 cases r1 with
 | cons r rr =>
  cases rr
  obtain ⟨t,rfl⟩:=r
  exact call_range_1 (range_it I1 (by omega) (by omega) q1 q2 (by simpa using q))
def tFor (wi:TI) (g:TG) (tb:TS):TS:=fun D σ H=>wi σ H fun J H1=>∃ W:Nat->Nat->St->Hp->Prop,(∃ m,W 0 m σ H1)/\∀ i m σ H,W i m σ H ->
 (J.stop i H/\D.nx σ H)∨(J.go i H/\∃ N:St->Hp->Prop,(∀ σ' H',N σ' H'->∃ m',m' < m/\W (i+1) m' σ' H')/\∀ x H',J.yld i H x H'->g x σ H' fun σ2 H2=>tb { D with nx:=N,ct:=N,bk:=D.nx } σ2 H2)
def Hd (fp:List Addr) (h:Heap):List (Addr×Obj):=fp.filterMap fun b=>(h.get? b).map fun o=>(b,o)
theorem Dw {fp:List Addr} {h:Heap} {b:Addr} {o:Obj} (hb:b∈fp) (e:h.get? b=some o):(b,o)∈Hd fp h:=List.mem_filterMap.mpr ⟨b,hb,by rw [e];rfl⟩
theorem of_pinsAt {fp:List Addr} {h:Heap} {p:Addr×Obj} (hp:p∈Hd fp h):p.1∈fp/\h.get? p.1=some p.2:=by
 obtain ⟨b,hb,e⟩:=List.mem_filterMap.mp hp
 cases q:h.get? b with
 | none=>rw [q] at e;cases e
 | some o =>
  rw [q] at e
  have e':(b,o)=p:=Option.some.inj e
  subst e'
  exact ⟨hb,q⟩
theorem Inv.pinned {pins:List (Addr×Obj)} {σ:St} {H:Hp} {s:Shared} {fp:List Addr} (I:Inv X pins σ H s) (hf:∀ b∈fp,HM X pins H b) (ho:∀ b∈fp,∃ o,s.heap.get? b=some o/\∀ v,o.data≠.cell v):Inv X (pins++Hd fp s.heap) σ H s :=
 I.Gg fun p hp=>(List.mem_append.mp hp).elim (fun z=>I.pin p (List.mem_append_right _ z)) fun z=>by
  obtain ⟨hb,e⟩:=of_pinsAt z
  obtain ⟨f0,f1,f2,_⟩:=hf p.1 hb
  obtain ⟨o,e',d⟩:=ho p.1 hb
  rw [e] at e';cases e'
  exact ⟨e,f0,f1,f2,d⟩
theorem Inv.Eu {pins pl:List (Addr×Obj)} {σ:St} {H:Hp} {s:Shared} (I:Inv X (pins++pl) σ H s):Inv X pins σ H s:=I.Gg fun p hp=>I.pin p (List.mem_append_right _ (List.mem_append_left _ hp))
theorem ps_for {iter:Expr} {body:List Stmt} {wi:TI} {g:TG} {tb:TS} {pos:Pos} (hp:PassesOwn (model X.prog X.w) X.A X.env X.xe) (hc:X.calm=true) (hi:PI X tg iter wi) (hg:PG X tg g) (hb:PSs X body tb)
  (hs:∀ x,foldedSetIterable iter X.env x=pure x:=by intro _;rfl):PS X (.For tg iter body [] pos) (tFor wi g tb):=by
 intro pins s σ H D I h
 refine wpAny_For (thn (hi pins s σ H _ I h) fun v s1 h1=>thn h1 fun itv s2 h2=>?_) hs
 obtain ⟨it,fp,tn,J,H2,e,I2,T,st2,f2,W,⟨m0,w0⟩,turn⟩:=h2
 subst e
 have stat:∀ {H':Hp},(∀ b∈fp,H' b=none)->∀ b∈fp,HM X pins H' b:=fun hn b hb=>⟨hn b hb,(f2 b hb).2⟩
 refine codeAny_forLoop_any (fun n s'=>∃ i σ' H',Inv X pins σ' H' s'/\tn i s'.heap/\(∀ b∈fp,H' b=none)/\W i n σ' H') ?_ m0 ⟨0,σ,H2,I2,st2,fun b hb=>(f2 b hb).1,w0⟩
 rintro n s3 ⟨i,σ3,H3,I3,st3,fr3,w3⟩
 rcases turn i n σ3 H3 w3 with ⟨stop,qn⟩ | ⟨go,N,hN,step⟩
 ·refine wpAny_passesOwn hp (thn (T.done X rfl rfl rfl hc i pins s3 σ3 H3 X.xe I3 (stat fr3) st3 stop) fun r s4 ⟨hr,I4⟩=>?_)
  subst hr
  exact wpAny_execs_nil ⟨σ3,H3,I4,qn⟩
 ·refine wpAny_passesOwn hp (thn (T.item X rfl rfl rfl hc i pins s3 σ3 H3 X.xe I3 (stat fr3) st3 go) fun r s4 ⟨u,hr,h4⟩=>?_)
  subst hr
  refine wpAny_passesOwn hp (thn h4 fun _ s5 ⟨x,H5,I5,r5,y5,st5,fr5⟩=>?_)
  have I5':=I5.pinned (stat fr5) (T.obj _ _ st5)
  refine wpAny_passesOwn hp (thn (hg _ s5 σ3 H5 x u _ I5' r5 (step x H5 y5)) fun _ s6 ⟨σ6,H6,I6,q6⟩=>?_)
  refine wpAny_passesOwn hp (thn (hb _ s6 σ6 H6 _ I6 q6) fun f s7 q7=>?_)
  have again:∀ {σ7:St} {H7:Hp},Inv X (pins++Hd fp s5.heap) σ7 H7 s7->N σ7 H7->∃ m,m < n/\∃ i σ' H',Inv X pins σ' H' s7/\tn i s7.heap/\(∀ b∈fp,H' b=none)/\W i m σ' H':=fun {σ7 H7} I7 n7=>by
   obtain ⟨m',hm,w7⟩:=hN σ7 H7 n7
   refine ⟨m',hm,i+1,σ7,H7,I7.Eu,T.keep _ _ _ st5 fun b hb o e=>(I7.pin (b,o) (List.mem_append_right _ (List.mem_append_right _ (Dw hb e)))).1,fun b hb=>?_,w7⟩
   obtain ⟨o,e,d⟩:=T.obj _ _ st5 b hb
   exact (I7.pin (b,o) (List.mem_append_right _ (List.mem_append_right _ (Dw hb e)))).2.1
  cases f with
  | next=>obtain ⟨σ7,H7,I7,n7⟩:=q7;exact again I7 n7
  | cont=>obtain ⟨σ7,H7,I7,n7⟩:=q7;exact again I7 n7
  | brk=>obtain ⟨σ7,H7,I7,q7⟩:=q7;exact ⟨σ7,H7,I7.Eu,q7⟩
  | ret v=>obtain ⟨x7,σ7,H7,I7,r7,q7⟩:=q7;exact ⟨x7,σ7,H7,I7.Eu,r7,q7⟩
end
end L2
namespace L2
open PySem PySem.Spec PyProof.Rows
abbrev R2:=V->V->Hp->VK->Prop
def OpR (X:Cx) (f:Value->Value->Sem Value) (r:R2):Prop :=
 ∀ (pins:List (Addr×Obj)) (s:Shared) (σ:St) (H:Hp) (x y:V) (v u:Value) (Q:VK),Inv X pins σ H s->RelV x v->RelV y u->r x y H Q ->
  wpAny (model X.prog X.w) X.A (f v u) (EP X pins σ Q) X.xe s
def UnR (X:Cx) (f:Value->Sem Value) (r:V->Hp->VK->Prop):Prop :=
 ∀ (pins:List (Addr×Obj)) (s:Shared) (σ:St) (H:Hp) (x:V) (v:Value) (Q:VK),Inv X pins σ H s->RelV x v->r x H Q ->
  wpAny (model X.prog X.w) X.A (f v) (EP X pins σ Q) X.xe s
def CB (X:Cx) (f:Value) (r:List V->Hp->VK->Prop):Prop :=
 ∀ (pins:List (Addr×Obj)) (s:Shared) (σ:St) (H:Hp) (xs:List V) (us:List Value) (Q:VK),Inv X pins σ H s->Vals xs us->r xs H Q ->
  wpAny (model X.prog X.w) X.A (call f us) (EP X pins σ Q) X.xe s
def TruR (X:Cx) (r:V->Hp->(Bool->Hp->Prop)->Prop):Prop :=
 ∀ (pins:List (Addr×Obj)) (s:Shared) (σ:St) (H:Hp) (x:V) (v:Value) (Q:Bool->Hp->Prop),Inv X pins σ H s->RelV x v->r x H Q ->
  wpAny (model X.prog X.w) X.A (truthy v) (TP X pins σ Q) X.xe s
def tOp (r:R2) (ta tb:TE):TE:=fun σ H Q=>ta σ H fun x H1=>tb σ H1 fun y H2=>r x y H2 Q
def tUn (r:V->Hp->VK->Prop) (ta:TE):TE:=fun σ H Q=>ta σ H fun x H1=>r x H1 Q
def rI (C:Int->Int->Prop) (g:Int->Int->V):R2:=fun x y H Q=>∃ i j,x=.int i/\y=.int j/\C i j/\Q (g i j) H
def rI0 (g:Int->Int->V):R2:=fun x y H Q=>∃ i j,x=.int i/\y=.int j/\Q (g i j) H
def rU (g:Int->V):V->Hp->VK->Prop:=fun x H Q=>∃ i,x=.int i/\Q (g i) H
section
variable {X:Cx} {a b c:Expr} {ta tb tc:TE} {pos:Pos}
theorem binT (ha:PE X a ta) (hb:PE X b tb) {pins:List (Addr×Obj)} {s:Shared} {σ:St} {H:Hp} {R:V->V->Hp->Prop} (I:Inv X pins σ H s)
  (h:ta σ H fun x H1=>tb σ H1 fun y H2=>R x y H2) {Q:Value->Shared->Prop} {f:Value->Value->Sem Value}
  (hf:∀ v u s2 x y H2,Inv X pins σ H2 s2->RelV x v->RelV y u->R x y H2->wpAny (model X.prog X.w) X.A (f v u) Q X.xe s2) :
  wpAny (model X.prog X.w) X.A (eval a X.env) (fun v s₁=>wpAny (model X.prog X.w) X.A (eval b X.env) (fun u s₂=>wpAny (model X.prog X.w) X.A (f v u) Q X.xe s₂) X.xe s₁) X.xe s:=by
 refine thn (ha pins s σ H _ I h) fun v s1 ⟨x,H1,I1,r1,q1⟩=>?_
 refine thn (hb pins s1 σ H1 _ I1 q1) fun u s2 ⟨y,H2,I2,r2,q2⟩=>?_
 exact hf v u s2 x y H2 I2 r1 r2 q2
theorem pe_op {op:Operator} {r:R2} (ho:OpR X (binaryOp op) r) (ha:PE X a ta) (hb:PE X b tb):PE X (.BinOp a op b pos) (tOp r ta tb):=by
 intro pins s σ H Q I h
 exact wpAny_BinOp (binT ha hb I h fun v u s2 x y H2 I2 rx ry q=>ho pins s2 σ H2 x y v u Q I2 rx ry q)
theorem pe_un {op:UnaryOp} {r:V->Hp->VK->Prop} (ho:UnR X (unaryOp op) r) (ha:PE X a ta):PE X (.UnaryOp op a pos) (tUn r ta):=by
 intro pins s σ H Q I h
 exact UnaryOp_ (thn (ha pins s σ H _ I h) fun v s1 ⟨x,H1,I1,r1,q1⟩=>ho pins s1 σ H1 x v Q I1 r1 q1)
theorem opI {f:Value->Value->Sem Value} {C:Int->Int->Prop} {g:Int->Int->Int}
  (rule:∀ (i j:Int) (t u:Tok) (s:Shared) (Q:Value->Shared->Prop) (E:Value->Shared->Prop),C i j->Q (.int (g i j) s.toks) { s with toks:=s.toks+1 }->wpAny (model X.prog X.w) X.A (f (.int i t) (.int j u)) Q E s) :
  OpR X f (rI C fun i j=>.int (g i j)):=by
 intro pins s σ H x y v u Q I rx ry h
 obtain ⟨i,j,rfl,rfl,hc,q⟩:=h
 obtain ⟨t,rfl⟩:=rx
 obtain ⟨t',rfl⟩:=ry
 exact rule i j t t' s _ _ hc ⟨.int (g i j),H,I.tok _,⟨_,rfl⟩,q⟩
theorem opI0 {f:Value->Value->Sem Value} {g:Int->Int->Int}
  (rule:∀ (i j:Int) (t u:Tok) (s:Shared) (Q:Value->Shared->Prop) (E:Value->Shared->Prop),Q (.int (g i j) s.toks) { s with toks:=s.toks+1 }->wpAny (model X.prog X.w) X.A (f (.int i t) (.int j u)) Q E s) :
  OpR X f (rI0 fun i j=>.int (g i j)):=by
 intro pins s σ H x y v u Q I rx ry h
 obtain ⟨i,j,rfl,rfl,q⟩:=h
 obtain ⟨t,rfl⟩:=rx
 obtain ⟨t',rfl⟩:=ry
 exact rule i j t t' s _ _ ⟨.int (g i j),H,I.tok _,⟨_,rfl⟩,q⟩
theorem opB0 {f:Value->Value->Sem Value} {g:Int->Int->Bool}
  (rule:∀ (i j:Int) (t u:Tok) (s:Shared) (Q:Value->Shared->Prop) (E:Value->Shared->Prop),Q (.bool (g i j)) s->wpAny (model X.prog X.w) X.A (f (.int i t) (.int j u)) Q E s) :
  OpR X f (rI0 fun i j=>.bl (g i j)):=by
 intro pins s σ H x y v u Q I rx ry h
 obtain ⟨i,j,rfl,rfl,q⟩:=h
 obtain ⟨t,rfl⟩:=rx
 obtain ⟨t',rfl⟩:=ry
 exact rule i j t t' s _ _ ⟨.bl (g i j),H,I,rfl,q⟩
def CDiv (i j:Int):Prop:=0 < j/\j < 1073741824
def CPow (i j:Int):Prop:=0<=j/\j<=1000000/\i.natAbs < 2 ^ 64
def CMul (i j:Int):Prop:=(-(2 ^ 64) < i/\i < 2 ^ 64)∨(-(2 ^ 64) < j/\j < 2 ^ 64)
theorem CMul.ok {i j:Int} (h:CMul i j):IntMulOk i j:=by
 rcases h with ⟨h1,h2⟩ | ⟨h1,h2⟩
 ·exact .of_left (intBits_le_64 h1 h2)
 ·exact .of_right (intBits_le_64 h1 h2)
theorem op_add:OpR X (binaryOp .Add) (rI0 fun i j=>.int (i+j)):=opI0 fun _ _ _ _ _ _ _ q=>add_int q
theorem op_sub:OpR X (binaryOp .Sub) (rI0 fun i j=>.int (i - j)):=opI0 fun _ _ _ _ _ _ _ q=>sub_int q
theorem op_fdiv:OpR X (binaryOp .FloorDiv) (rI CDiv fun i j=>.int (i / j)):=opI fun i j _ _ _ _ _ hc q=>by
 have h1:(0:Int) < j:=hc.1
 have h2:j < 1073741824:=hc.2
 exact floordiv_int (by omega) (by rw [Int.fdiv_eq_ediv_of_nonneg i (by omega)];exact q) (.inl (PyProof.noPylong_small (by omega)))
theorem op_mod:OpR X (binaryOp .Mod) (rI (fun _ j=>0 < j) fun i j=>.int (i % j)):=opI fun i j _ _ _ _ _ hc q=>by
 have h1:(0:Int) < j:=hc
 exact mod_int' (by omega) (by rw [Int.fmod_eq_emod_of_nonneg i (by omega)];exact q)
theorem op_pow:OpR X (binaryOp .Pow) (rI CPow fun i j=>.int (i ^ j.toNat)):=opI fun _ _ _ _ _ _ _ hc q=>pow_int_small hc.1 hc.2.1 hc.2.2 q
theorem unI {f:Value->Sem Value} {g:Int->Int}
  (rule:∀ (i:Int) (t:Tok) (s:Shared) (Q:Value->Shared->Prop) (E:Value->Shared->Prop),Q (.int (g i) s.toks) { s with toks:=s.toks+1 }->wpAny (model X.prog X.w) X.A (f (.int i t)) Q E s) :
  UnR X f (rU fun i=>.int (g i)):=by
 intro pins s σ H x v Q I rx h
 obtain ⟨i,rfl,q⟩:=h
 obtain ⟨t,rfl⟩:=rx
 exact rule i t s _ _ ⟨.int (g i),H,I.tok _,⟨_,rfl⟩,q⟩
theorem un_neg:UnR X (unaryOp .USub) (rU fun i=>.int (-i)):=unI fun _ _ _ _ _ q=>neg_int q
end
def scal:V->V->Bool
 | .non,.non=>true | .non,.int _=>true | .int _,.non=>true | .non,.bl _=>true | .bl _,.non=>true | .non,.str _=>true | .str _,.non=>true
 | .int _,.int _=>true | .bl _,.bl _=>true | .str _,.str _=>true | .byt _,.byt _=>true
 | .int _,.str _=>true | .str _,.int _=>true | .bl _,.str _=>true | .str _,.bl _=>true
 | _,_=>false
def rEq:R2:=fun x y H Q=>scal x y=true/\Q (.bl (decide (x=y))) H
def rNe:R2:=fun x y H Q=>scal x y=true/\Q (.bl (!decide (x=y))) H
theorem dec_int {i j:Int}:decide (V.int i=V.int j)=(i == j):=by
 rw [Bool.eq_iff_iff]
 simp
theorem dec_bl {i j:Bool}:decide (V.bl i=V.bl j)=(i == j):=by
 rw [Bool.eq_iff_iff]
 simp
theorem dec_str {i j:Str}:decide (V.str i=V.str j)=(i == j):=by
 rw [Bool.eq_iff_iff]
 simp
theorem dec_byt {i j:Array UInt8}:decide (V.byt i=V.byt j)=(i.toList == j.toList):=by
 rw [Bool.eq_iff_iff]
 cases i
 cases j
 simp
section
variable {X:Cx} {a b c:Expr} {ta tb tc:TE} {pos:Pos}
theorem AZ {pins:List (Addr×Obj)} {σ:St} {H:Hp} {s:Shared} {Q:VK} {k k':Bool} (I:Inv X pins σ H s) (q:Q (.bl k) H) (e:k=k'):EP X pins σ Q (.bool k') s:=by
 subst e
 exact ⟨.bl k,H,I,rfl,q⟩
theorem op_eq:OpR X (compareOp .Eq) rEq:=by
 intro pins s σ H x y v u Q I rx ry h
 obtain ⟨hs,q⟩:=h
 cases x with
 | non =>
  cases rx
  cases y with
  | non=>cases ry;exact PySem.EqNone.eq_none_none (AZ I q (by simp))
  | bl j=>cases ry;exact PySem.EqNone.eq_none_bool (AZ I q (by simp))
  | int j=>obtain ⟨t',rfl⟩:=ry;exact PySem.EqNone.eq_none_int (AZ I q (by simp))
  | str j=>obtain ⟨t',rfl⟩:=ry;exact PySem.EqNone.eq_none_str (AZ I q (by simp))
  | _=>exact absurd (show false=true from hs) Bool.false_ne_true
 | bl i =>
  cases rx
  cases y with
  | non=>cases ry;exact PySem.EqNone.eq_bool_none (AZ I q (by simp))
  | bl j=>cases ry;exact eq_bool (AZ I q dec_bl)
  | str j=>obtain ⟨t',rfl⟩:=ry;exact PySem.EqMixed.eq_bool_str (AZ I q (by simp))
  | _=>exact absurd (show false=true from hs) Bool.false_ne_true
 | int i =>
  obtain ⟨t,rfl⟩:=rx
  cases y with
  | non=>cases ry;exact PySem.EqNone.eq_int_none (AZ I q (by simp))
  | int j=>obtain ⟨t',rfl⟩:=ry;exact eq_int (AZ I q dec_int)
  | str j=>obtain ⟨t',rfl⟩:=ry;exact PySem.EqMixed.eq_int_str (AZ I q (by simp))
  | _=>exact absurd (show false=true from hs) Bool.false_ne_true
 | str i =>
  obtain ⟨t,rfl⟩:=rx
  cases y with
  | non=>cases ry;exact PySem.EqNone.eq_str_none (AZ I q (by simp))
  | bl j=>cases ry;exact PySem.EqMixed.eq_str_bool (AZ I q (by simp))
  | int j=>obtain ⟨t',rfl⟩:=ry;exact PySem.EqMixed.eq_str_int (AZ I q (by simp))
  | str j=>obtain ⟨t',rfl⟩:=ry;exact eq_str (AZ I q dec_str)
  | _=>exact absurd (show false=true from hs) Bool.false_ne_true
 | byt i =>
  obtain ⟨t,rfl⟩:=rx
  cases y with
  | byt j=>obtain ⟨t',rfl⟩:=ry;exact PySem.W.eq_bytes (AZ I q dec_byt)
  | _=>exact absurd (show false=true from hs) Bool.false_ne_true
 | _=>cases y <;> exact absurd (show false=true from hs) Bool.false_ne_true
theorem op_ne:OpR X (compareOp .NotEq) rNe:=by
 intro pins s σ H x y v u Q I rx ry h
 obtain ⟨hs,q⟩:=h
 cases x with
 | non =>
  cases rx
  cases y with
  | non=>cases ry;exact PySem.EqNone.ne_none_none (AZ I q (by simp))
  | bl j=>cases ry;exact PySem.EqNone.ne_none_bool (AZ I q (by simp))
  | int j=>obtain ⟨t',rfl⟩:=ry;exact PySem.EqNone.ne_none_int (AZ I q (by simp))
  | str j=>obtain ⟨t',rfl⟩:=ry;exact PySem.EqNone.ne_none_str (AZ I q (by simp))
  | _=>exact absurd (show false=true from hs) Bool.false_ne_true
 | bl i =>
  cases rx
  cases y with
  | non=>cases ry;exact PySem.EqNone.ne_bool_none (AZ I q (by simp))
  | bl j=>cases ry;exact ne_bool (AZ I q (congrArg not dec_bl))
  | str j=>obtain ⟨t',rfl⟩:=ry;exact PySem.EqMixed.ne_bool_str (AZ I q (by simp))
  | _=>exact absurd (show false=true from hs) Bool.false_ne_true
 | int i =>
  obtain ⟨t,rfl⟩:=rx
  cases y with
  | non=>cases ry;exact PySem.EqNone.ne_int_none (AZ I q (by simp))
  | int j=>obtain ⟨t',rfl⟩:=ry;exact ne_int (AZ I q (congrArg not dec_int))
  | str j=>obtain ⟨t',rfl⟩:=ry;exact PySem.EqMixed.ne_int_str (AZ I q (by simp))
  | _=>exact absurd (show false=true from hs) Bool.false_ne_true
 | str i =>
  obtain ⟨t,rfl⟩:=rx
  cases y with
  | non=>cases ry;exact PySem.EqNone.ne_str_none (AZ I q (by simp))
  | bl j=>cases ry;exact PySem.EqMixed.ne_str_bool (AZ I q (by simp))
  | int j=>obtain ⟨t',rfl⟩:=ry;exact PySem.EqMixed.ne_str_int (AZ I q (by simp))
  | str j=>obtain ⟨t',rfl⟩:=ry;exact ne_str (AZ I q (congrArg not dec_str))
  | _=>exact absurd (show false=true from hs) Bool.false_ne_true
 | byt i =>
  obtain ⟨t,rfl⟩:=rx
  cases y with
  | byt j=>obtain ⟨t',rfl⟩:=ry;exact PySem.W.ne_bytes (AZ I q (congrArg not dec_byt))
  | _=>exact absurd (show false=true from hs) Bool.false_ne_true
 | _=>cases y <;> exact absurd (show false=true from hs) Bool.false_ne_true
theorem op_lt:OpR X (compareOp .Lt) (rI0 fun i j=>.bl (decide (i < j))):=opB0 fun _ _ _ _ _ _ _ q=>lt_int q
theorem op_le:OpR X (compareOp .LtE) (rI0 fun i j=>.bl (decide (i<=j))):=opB0 fun _ _ _ _ _ _ _ q=>le_int q
theorem nomark (b:Expr) {op:CmpOp} (h:op≠.In:=by decide) (h2:op≠.NotIn:=by decide):behindInMarks op b=false:=by
 have e1:(op == CmpOp.In)=false:=by cases op <;> first | rfl | exact absurd rfl h
 have e2:(op == CmpOp.NotIn)=false:=by cases op <;> first | rfl | exact absurd rfl h2
 cases b <;> simp [behindInMarks,e1,e2]
theorem pe_cmpR {op:CmpOp} {r:R2} (ho:OpR X (compareOp op) r) (ha:PE X a ta) (hb:PE X b tb) (hm:behindInMarks op b=false):PE X (.Compare a [op] [b] pos) (tOp r ta tb):=by
 intro pins s σ H Q I h
 exact wpAny_Compare1 (binT ha hb I h fun v u s2 x y H2 I2 rx ry q=>ho pins s2 σ H2 x y v u Q I2 rx ry q) hm
def tTest (t:TE):TT:=fun σ H Q=>t σ H fun x H'=>∃ k,x=.bl k/\Q k H'
theorem pt_cmpR {op:CmpOp} {r:R2} (ho:OpR X (compareOp op) r) (ha:PE X a ta) (hb:PE X b tb) (hm:behindInMarks op b=false):PT X (.Compare a [op] [b] pos) (tTest (tOp r ta tb)):=by
 intro pins s σ H Q I h
 refine wpAny_isTrue_Compare1 (thn (ha pins s σ H _ I h) fun v s1 ⟨x,H1,I1,r1,q1⟩=>thn (hb pins s1 σ H1 _ I1 q1) fun u s2 ⟨y,H2,I2,r2,q2⟩ =>
  thn (ho pins s2 σ H2 x y v u _ I2 r1 r2 q2) fun c s3 ⟨z,H3,I3,r3,k,e,q3⟩=>?_) hm
 subst e
 cases r3
 exact wpAny_truthy_bool ⟨H3,I3,q3⟩
def tChain (r r':R2) (ta tb tc:TE):TE:=fun σ H Q=>ta σ H fun x H1=>tb σ H1 fun y H2=>r x y H2 fun z H3=>∃ k,z=.bl k /\
 (if k=true then tc σ H3 fun w' H4=>r' y w' H4 Q else Q (.bl false) H3)
theorem pt_chain {op op':CmpOp} {r r':R2} (ho:OpR X (compareOp op) r) (ho':OpR X (compareOp op') r') (ha:PE X a ta) (hb:PE X b tb) (hc:PE X c tc)
  (hm:lastMarks [op,op'] [b,c]=false:=by with_unfolding_all rfl):PT X (.Compare a [op,op'] [b,c] pos) (tTest (tChain r r' ta tb tc)):=by
 intro pins s σ H Q I h
 refine isTrue_chain (thn (ha pins s σ H _ I h) fun v s1 ⟨x,H1,I1,r1,q1⟩=>test_link (thn (hb pins s1 σ H1 _ I1 q1) fun u s2 ⟨y,H2,I2,r2,q2⟩ =>
  thn (ho pins s2 σ H2 x y v u _ I2 r1 r2 q2) fun d s3 ⟨z,H3,I3,r3,k,e,q3⟩=>?_)) hm
 subst e
 cases r3
 refine wpAny_truthy_bool ?_
 cases k with
 | false =>
  obtain ⟨k',e',q'⟩:=q3
  cases e'
  exact ite_ff ⟨H3,I3,q'⟩
 | true =>
  refine ite_tt (test_last (thn (hc pins s3 σ H3 _ I3 q3) fun w' s4 ⟨z',H4,I4,r4,q4⟩=>thn (ho' pins s4 σ H4 y z' u w' _ I4 r2 r4 q4) fun d' s5 ⟨z2,H5,I5,r5,k2,e2,q5⟩=>?_))
  subst e2
  cases r5
  exact wpAny_truthy_bool ⟨H5,I5,q5⟩
def TruV (K:PySem.W.Frag) (x:V) (H:Hp) (k:Bool):Prop :=
 match x with
 | .non=>k=false
 | .bl b=>k=b
 | .int i=>k=(i != 0)
 | .str y=>y.length<=sizeLine/\k=((y.length:Int) != 0)
 | .byt y=>y.size<=sizeLine/\k=((y.size:Int) != 0)
 | .ref p=>(∃ xs,SqL K H p xs/\k=!xs.isEmpty)∨(∃ xs,SqT K H p xs/\k=!xs.isEmpty)∨∃ kvs,H p=some (.dK kvs)/\k=!kvs.isEmpty
 | _=>False
theorem isEmpty_kv {κ:Type} {kvs:List (κ×V)} {vs:List (κ×Value)} (r:KV kvs vs):(!vs.isEmpty)=!kvs.isEmpty:=by
 cases r <;> rfl
theorem FG {xs:List V} {its:List Value} (r:Vals xs its):(!its.toArray.isEmpty)=!xs.isEmpty:=by
 cases r <;> simp
theorem EV:(sizeLine:Nat) < 2 ^ 63:=by rw [sizeLine_eq];decide
theorem tru_ok:TruR X (fun x H Q=>∃ k,TruV X.K x H k/\Q k H):=by
 intro pins s σ H x v Q I rx h
 obtain ⟨k,e,q⟩:=h
 have hl:=EV
 have hs:sizeLine=16777216:=sizeLine_eq
 cases x with
 | non =>
  cases rx
  have e':k=false:=e
  subst e'
  exact truthy_none ⟨H,I,q⟩
 | bl b =>
  cases rx
  have e':k=b:=e
  subst e'
  exact wpAny_truthy_bool ⟨H,I,q⟩
 | int i =>
  obtain ⟨t,rfl⟩:=rx
  have e':k=(i != 0):=e
  subst e'
  exact PySem.P.truthy_int ⟨H,I,q⟩
 | str y =>
  obtain ⟨t,rfl⟩:=rx
  obtain ⟨hy,e'⟩:y.length<=sizeLine/\k=((y.length:Int) != 0):=e
  subst e'
  exact PySem.P.truthy_str (by omega) ⟨H,I.tok _,q⟩
 | byt y =>
  obtain ⟨t,rfl⟩:=rx
  obtain ⟨hy,e'⟩:y.size<=sizeLine/\k=((y.size:Int) != 0):=e
  subst e'
  exact PySem.W.truthy_bytes (by omega) ⟨H,I.tok _,q⟩
 | ref p =>
  cases rx
  have e':(∃ xs,SqL X.K H p xs/\k=!xs.isEmpty)∨(∃ xs,SqT X.K H p xs/\k=!xs.isEmpty)∨∃ kvs,H p=some (.dK kvs)/\k=!kvs.isEmpty:=e
  rcases e' with ⟨xs,hx,e'⟩ | ⟨xs,hx,e'⟩ | ⟨kvs,hx,e'⟩
  ·subst e'
   obtain ⟨its,r,pl,hz⟩:=I.list hx
   have hlen:=r.length
   exact wpAny_truthy_list pl.isList (by simp only [List.size_toArray];omega) ⟨H,I.tok _,by rw [FG r];exact q⟩
  ·subst e'
   obtain ⟨its,r,pl,hz⟩:=I.tuple hx
   have hlen:=r.length
   exact truthy_tuple pl (by simp only [List.size_toArray];omega) ⟨H,I.tok _,by rw [FG r];exact q⟩
  ·subst e'
   obtain ⟨hz,hS,vs,r,m⟩:kvs.length<=sizeLine/\(p == sysModules)=false/\∃ vs,KV kvs vs/\s.heap.DictOf (BF X.prog X.w) p vs:=I.hok p _ hx
   have hlen:kvs.length=vs.length:=Paired.length r
   exact wpAny_truthy_dict hS m (by omega) ⟨H,I.tok _,by rw [isEmpty_kv r];exact q⟩
 | _=>exact (show False from e).elim
theorem pt_truth (ha:PE X a ta) (he:∀ whole,isTrue a X.env whole=(do let v <- whole;standAt a.pos;holding [v] (truthy v))) :
  PT X a (fun σ H Q=>ta σ H fun x H'=>∃ k,TruV X.K x H' k/\Q k H'):=by
 intro pins s σ H Q I h
 exact isTrue_plain (thn (ha pins s σ H _ I h) fun v s1 ⟨x,H1,I1,r1,q1⟩=>tru_ok pins s1 σ H1 x v Q I1 r1 q1) (he _)
theorem op_add_str:OpR X (binaryOp .Add) (fun x y H Q=>∃ i j,x=.str i/\y=.str j/\i.length+j.length<=sizeLine/\Q (.str (i++j)) H):=by
 intro pins s σ H x y v u Q I rx ry h
 obtain ⟨i,j,rfl,rfl,hz,q⟩:=h
 obtain ⟨t,rfl⟩:=rx
 obtain ⟨t',rfl⟩:=ry
 exact add_str (fun t' tk=>⟨.str (i++j),H,I.tok _,⟨_,rfl⟩,q⟩) hz
theorem vals1 {x:V} {us:List Value} (r:Vals [x] us):∃ u,us=[u]/\RelV x u:=by
 cases r with
 | cons r1 r2=>cases r2;exact ⟨_,rfl,r1⟩
theorem vals2 {x y:V} {us:List Value} (r:Vals [x,y] us):∃ u w',us=[u,w']/\RelV x u/\RelV y w':=by
 cases r with
 | cons r1 r2 =>
  cases r2 with
  | cons r3 r4=>cases r4;exact ⟨_,_,rfl,r1,r3⟩
theorem call_min2 (hc:X.calm=true):CB X (.builtin "min") (fun xs H Q=>∃ i j,xs=[.int i,.int j]/\Q (.int (if j < i then j else i)) H):=by
 intro pins s σ H xs us Q I r h
 obtain ⟨i,j,rfl,q⟩:=h
 obtain ⟨u,w',rfl,⟨t,rfl⟩,⟨t',rfl⟩⟩:=vals2 r
 refine min_two_ints (I.ok.hd hc) fun h' tk k=>⟨_,H,I.kept k,?_,q⟩
 by_cases hj:j < i
 ·rw [if_pos hj,if_pos hj];exact ⟨_,rfl⟩
 ·rw [if_neg hj,if_neg hj];exact ⟨_,rfl⟩
end
end L2
namespace L2
open PySem PySem.Spec PyProof.Rows
structure ObjM (h:Heap) (x dx C:Addr) (mA:Str->Option Value):Prop where
 obj:h.get? x=some (PySem.W.instObj C dx)
 ns:h.Ns1 dx mA
 ne:dx≠x
theorem lookIn_ns {h:Heap} {dx:Addr} {mA:Str->Option Value} (n:h.Ns1 dx mA):∃ od,h.get? dx=some od/\∀ name,PySem.W.lookIn name od=some (mA name):=by
 obtain ⟨o,es,ep,ho,hd,hk,_,hm⟩:=n
 refine ⟨o,ho,fun name=>?_⟩
 have e:=hm name
 unfold nsFind findBy at e
 rw [<- Array.find?_toList] at e
 unfold PySem.W.lookIn
 rw [hd]
 dsimp only
 split
 ·rename_i y q
  rw [q] at e
  exact congrArg some e
 ·rename_i q
  rw [q] at e
  have a:es.toList.any (·.refKey)=false:=by
   rw [List.any_eq_false]
   intro y hy
   obtain ⟨z,t,hkey⟩:=hk y (Array.mem_toList_iff.mp hy)
   simp [DictEntry.refKey,hkey]
  have a':¬ es.toList.any (·.refKey)=true:=by rw [a];exact Bool.false_ne_true
  rw [if_neg a']
  exact congrArg some e
theorem ObjM.look {h:Heap} {x dx C:Addr} {mA:Str->Option Value} (I:ObjM h x dx C mA):∃ od,PySem.W.InstAt h x (PySem.W.instObj C dx) C (some od)/\∀ name,PySem.W.lookIn name od=some (mA name) :=
 let ⟨od,ho,hl⟩:=lookIn_ns I.ns
 ⟨od,⟨I.obj,rfl,rfl,ho⟩,hl⟩
section
variable {prog:Program} {w:World} {A:Around} {E:Value->Shared->Prop} {s:Shared} {K:PySem.W.Frag} {x dx C f:Addr} {mA:Str->Option Value} {name:Str} {v:Value}
end
theorem A5.some_of {v:V} {o:Option Value} (r:A5 (some v) o):∃ u,o=some u/\RelV v u:=by
 cases o with
 | none=>exact (show False from r).elim
 | some u=>exact ⟨u,rfl,r⟩
section
variable {P:Program} {w:World} {H H':Hp} {h h':Heap} {a C dx:Addr} {fs fs':List (Str×V)}
theorem ins_get (hok:HOk P w H h) (e:H a=some (.ins C dx fs)):∃ mA,ObjM h a dx C mA/\(∀ f,A5 (fs.lookup f) (mA f))/\PySem.Within mA (fs.map (·.1))/\fs.length<=1000/\H dx=some (.own a):=by
 obtain ⟨d,z,ne,ob,mA,n,r,q⟩:=(show Bv P w H h a (.ins C dx fs) from hok a _ e)
 exact ⟨mA,⟨ob,n,ne⟩,r,q,z,d⟩
end
structure Cls (K:PySem.W.Frag) (C:Addr):Prop where
 pg:PySem.W.plainGet K C Str.empty=true
 hd:PySem.W.hasDictIn K C=true
 po:PySem.W.plainOver K C=true
 sa:PySem.W.findIn K (.ref C) "__setattr__"=some (some (.builtin "object.__setattr__"))
theorem Cls.get {K:PySem.W.Frag} {C:Addr} (c:Cls K C) (f:Str):PySem.W.plainGet K C f=true:=c.pg
section
variable {X:Cx} {pins:List (Addr×Obj)} {σ:St} {H:Hp} {s:Shared} {a C dx:Addr} {fs:List (Str×V)} {f:Str} {v:V} {A:Around} {E:Value->Shared->Prop}
end
section
variable {X:Cx} {o e value:Expr} {f:Str} {pos pos' tpos:Pos} {ta tv:TE}
end
section
variable {X:Cx} {pins:List (Addr×Obj)} {σ:St} {H:Hp} {s:Shared} {A:Around} {E:Value->Shared->Prop} {Q:Value->Shared->Prop} {c:Value} {b:Bool}
inductive TyOf (K:PySem.W.Frag) (H:Hp):V->Value->Prop where
 | non:TyOf K H .non (.type "NoneType")
 | bl (x:Bool):TyOf K H (.bl x) (.type "bool")
 | int (i:Int):TyOf K H (.int i) (.type "int")
 | str (x:Str):TyOf K H (.str x) (.type "str")
 | flt (x:UInt64):TyOf K H (.flt x) (.type "float")
 | lst {a:Addr} {xs:List V} (e:H a=some (.lst xs)):TyOf K H (.ref a) (.type "list")
 | frz {a:Addr} {o:Obj} {xs:List V} (e:H a=some (.frz o (.lst xs))):TyOf K H (.ref a) (.type "list")
 | tup {a:Addr} {xs:List V} (e:H a=some (.tup xs)):TyOf K H (.ref a) (.type "tuple")
 | dK {a:Addr} {kvs:List (Key×V)} (e:H a=some (.dK kvs)):TyOf K H (.ref a) (.type "dict")
 | dT {a:Addr} {kvs:List (List Key×V)} (e:H a=some (.dT kvs)):TyOf K H (.ref a) (.type "dict")
 | ins {a C dx:Addr} {fs:List (Str×V)} (e:H a=some (.ins C dx fs)) (cl:Cls K C) (ha:PySem.W.findIn K (.ref C) "__class__"=some (some (.builtin "object.__class__")))
   (hn:PySem.W.specialIn K (.builtin "object.__class__") "__get__"=some (some (.builtin "getset_descriptor.__get__"))) (htk:PySem.W.takesIn K (.builtin "object.__class__")=some true)
   (hm:PySem.W.mroIn K C (.type "object")=some true):TyOf K H (.ref a) (.ref C)
theorem isinst_ok {x:V} {u t:Value} (I:Inv X pins σ H s) (rx:RelV x u) (ty:TyOf X.K H x t) (e:PySem.W.kitOne X.K t c=some b) (h:∀ tk,Q (.bool b) { s with toks:=tk }) :
  wpAny (model X.prog X.w) A (call (.builtin "isinstance") [u,c]) Q E s:=by
 cases ty with
 | non=>cases (show u=Value.none from rx);exact PySem.W.kia_one PySem.W.kitx_none I.kIn True.intro e (fun z=>nomatch z) h
 | bl y=>cases (show u=Value.bool y from rx);exact PySem.W.kia_one PySem.W.kitx_bool I.kIn True.intro e (fun z=>nomatch z) h
 | int i=>obtain ⟨t,q⟩:=(show ∃ t,u=Value.int i t from rx);cases q;exact PySem.W.kia_one PySem.W.kitx_int I.kIn True.intro e (fun z=>nomatch z) h
 | str y=>obtain ⟨t,q⟩:=(show ∃ t,u=Value.str y t from rx);cases q;exact PySem.W.kia_one PySem.W.kitx_str I.kIn True.intro e (fun z=>nomatch z) h
 | flt y=>obtain ⟨t,q⟩:=(show ∃ t,u=Value.float y t from rx);cases q;exact PySem.W.kia_one PySem.W.kitx_float I.kIn True.intro e (fun z=>nomatch z) h
 | @lst a xs ea =>
  cases (show u=Value.ref a from rx)
  obtain ⟨_,_,n,_,h1⟩:=(show Bv X.prog X.w H s.heap a (.lst xs) from I.hok a _ ea)
  exact PySem.W.kia_one PySem.W.kitx_list I.kIn ⟨_,h1,rfl⟩ e (fun z=>nomatch z) h
 | @frz a ob xs ea =>
  cases (show u=Value.ref a from rx)
  obtain ⟨_,_,_,n,_,h1⟩:=(show Bv X.prog X.w H s.heap a (.frz ob (.lst xs)) from I.hok a _ ea)
  exact PySem.W.kia_one PySem.W.kitx_list I.kIn ⟨_,h1,rfl⟩ e (fun z=>nomatch z) h
 | @tup a xs ea =>
  cases (show u=Value.ref a from rx)
  obtain ⟨_,_,_,p⟩:=(show Bv X.prog X.w H s.heap a (.tup xs) from I.hok a _ ea)
  obtain ⟨o,h1,h2,_⟩:=p
  exact PySem.W.kia_one PySem.W.kitx_tuple I.kIn ⟨o,h1,h2⟩ e (fun z=>nomatch z) h
 | @dK a kvs ea =>
  cases (show u=Value.ref a from rx)
  obtain ⟨_,_,vs,_,p⟩:=(show Bv X.prog X.w H s.heap a (.dK kvs) from I.hok a _ ea)
  obtain ⟨o,es,ep,h1,h2,_⟩:=p
  exact PySem.W.kia_one PySem.W.kitx_dict I.kIn ⟨o,h1,h2.1⟩ e (fun z=>nomatch z) h
 | @dT a kvs ea =>
  cases (show u=Value.ref a from rx)
  obtain ⟨_,_,xs,_,o,es,ep,h1,h2,_⟩:=(show Bv X.prog X.w H s.heap a (.dT kvs) from I.hok a _ ea)
  exact PySem.W.kia_one PySem.W.kitx_dict I.kIn ⟨o,h1,h2.1⟩ e (fun z=>nomatch z) h
 | @ins a C dx fs ea cl ha hn htk hm =>
  cases (show u=Value.ref a from rx)
  obtain ⟨mA,O,_⟩:=ins_get I.hok ea
  obtain ⟨od,J,_⟩:=O.look
  exact PySem.W.kia_one (PySem.W.kitx_own (cl.get _) cl.hd ha hn htk hm) I.kIn J e (fun z=>nomatch z) h
end
end L2
namespace L2
open PySem PySem.Spec PyProof.Rows
structure Ff (k:Nat) (A:Around):Prop where
 hd:A.handled=none
 dp:A.depth+3 * k+5 < recursionLimit
 un:A.units+16 * k+200 < cLine
theorem Ff.mono {j k:Nat} {A:Around} (r:Ff k A) (h:j<=k):Ff j A:=⟨r.hd,by have:=r.dp;omega,by have:=r.un;omega⟩
theorem Ff.deeper {k:Nat} {A:Around} (r:Ff (k+1) A) (env:Env):Ff k (A.deeper env) :=
 ⟨r.hd,by have:=r.dp;show A.depth+1+3 * k+5 < _;omega,by have:=r.un;show A.units+3+16 * k+200 < _;omega⟩
theorem Ff.depth {k:Nat} {A:Around} (r:Ff k A):A.depth < recursionLimit:=by have:=r.dp;omega
theorem Ff.units {k:Nat} {A:Around} (r:Ff k A):A.units+64 < cLine:=by have:=r.un;omega
def tNil:TA:=fun _ H Q=>Q [] H
def tCons (ta:TE) (tr:TA):TA:=fun σ H Q=>ta σ H fun x H1=>tr σ H1 fun xs H2=>Q (x :: xs) H2
section
variable {X:Cx} {e:Expr} {es:List Expr} {te:TE} {t:TA} {pos:Pos}
theorem FD:PA X [] tNil:=fun _ _ _ _ H Q I h=>Calls.spliced_nil ⟨[],H,I,.nil,h⟩
theorem Cv (ha:PE X e te) (hr:PA X es t) (hs:starEach (e :: es) X.env=(false,eval e X.env) :: starEach es X.env:=by rfl):PA X (e :: es) (tCons te t):=by
 intro pos pins s σ H Q I h
 rw [hs]
 show wpAny _ _ (spliced ((false,eval e X.env) :: backTo pos (starEach es X.env))) _ _ s
 refine Calls.spliced_cons (thn (ha pins s σ H _ I h) fun u s1 ⟨x,H1,I1,r1,q1⟩=>?_)
 exact thn (hr pos pins s1 σ H1 _ I1 q1) fun us s2 ⟨xs,H2,I2,r2,q2⟩=>⟨x :: xs,H2,I2,.cons r1 r2,q2⟩
def tTup (t:TA):TE:=fun σ H Q=>t σ H fun xs H1=>xs.length<=sizeLine/\∀ p,H1 p=none->Q (.ref p) (upd H1 p (.tup xs))
def tLst (t:TA):TE:=fun σ H Q=>t σ H fun xs H1=>xs.length<=sizeLine/\∀ p,H1 p=none->Q (.ref p) (upd H1 p (.lst xs))
theorem pe_tup {x1} (h:PA X es t):PE X (.Tuple es x1 pos) (tTup t):=by
 intro pins s σ H Q I hq
 refine wpAny_Tuple_spliced (thn (h pos pins s σ H _ I hq) fun us s1 ⟨xs,H1,I1,r,z,q⟩=>⟨by rw [<- r.length];exact z,?_⟩)
 have hf:H1 s1.heap.objs.size=none:=I1.hok.fresh (Nat.le_refl _)
 refine ⟨.ref s1.heap.objs.size,upd H1 s1.heap.objs.size (.tup xs),I1.laid (t':=s1.toks) (fun b u e=>Heap.get?_push_of_some _ e) (Nat.le_refl _) ?_,rfl,q _ hf⟩
 exact ⟨z,us,r,⟨_,Heap.get?_push_size _ rfl,rfl,_,rfl⟩⟩
theorem pe_lst (h:PA X es t):PE X (.List es pos) (tLst t):=by
 intro pins s σ H Q I hq
 refine wpAny_List_spliced (thn (h pos pins s σ H _ I hq) fun us s1 ⟨xs,H1,I1,r,z,q⟩=>⟨by rw [<- r.length];exact z,?_⟩)
 have hf:H1 s1.heap.objs.size=none:=I1.hok.fresh (Nat.le_refl _)
 refine ⟨.ref s1.heap.objs.size,upd H1 s1.heap.objs.size (.lst xs),I1.laid (t':=s1.toks) (fun b u e=>Heap.get?_push_of_some _ e) (Nat.le_refl _) ?_,rfl,q _ hf⟩
 exact ⟨z,us,0,r,Heap.get?_push_size _ rfl⟩
end
abbrev Sp:=List V->Hp->VK->XK->Prop
abbrev CXT:=List Env->Hp->Shared->XK->Value->Shared->Prop
structure Env0 (P:Program) (w:World) (K:PySem.W.Frag) (mg:Str->Option Value) (base:Heap) (A:Around) (outer:List Env) (s:Shared) (H:Hp):Prop where
 frames:A.frames=some outer
 mod:Mod K mg base
 bs:∀ b o,base.get? b=some o->s.heap.get? b=some o/\H b=none
 bsz:base.objs.size<=s.heap.objs.size
 funs:s.heap.FunFrames base outer
 frf:∀ b∈frs outer,H b=none
 hok:HOk P w H s.heap
 bare:AllBare s.gens
def CE (outer:List Env) (P:Program) (w:World) (H:Hp) (s:Shared) (Q:VK) (u:Value) (s':Shared):Prop :=
 ∃ v H',s'.os=s.os/\AllBare s'.gens/\Un (frs outer) [] H H' s.heap s'.heap/\HOk P w H' s'.heap/\RelV v u/\Q v H'
def CR (CX:CXT) (outer:List Env) (P:Program) (w:World) (H:Hp) (s:Shared) (Q:VK) (E:XK) (r:Result) (s':Shared):Prop :=
 match r with
 | .ok (.ret u)=>CE outer P w H s Q u s'
 | .ok _=>False
 | .error e=>CX outer H s E e s'
structure Dh (P:Program) (w:World) (K:PySem.W.Frag) (mg:Str->Option Value) (base:Heap) (CX:CXT) (k:Nat) (f:Addr) (fd:FuncData) (ps:List Str) (sp:Sp):Prop where
 len:∀ vs H Q E,sp vs H Q E->vs.length=ps.length
 run:∀ (A:Around) (outer:List Env) (s:Shared) (H:Hp) (args:Args) (us:List Value) (vs:List V) (Q:VK) (E:XK),Ff k A->Env0 P w K mg base A outer s H->BindsTo s fd args (ps.zip us)->Vals vs us->sp vs H Q E ->
  codeAny (model P w) A (.call (.ref f) args) (CR CX outer P w H s Q E) s
theorem Dh.imp {P:Program} {w:World} {K:PySem.W.Frag} {mg:Str->Option Value} {base:Heap} {CX:CXT} {k:Nat} {f:Addr} {fd:FuncData} {ps:List Str} {sp sp':Sp} (F:Dh P w K mg base CX k f fd ps sp)
  (h:∀ vs H Q E,sp' vs H Q E->sp vs H Q E):Dh P w K mg base CX k f fd ps sp' :=
 ⟨fun vs H Q E q=>F.len vs H Q E (h _ _ _ _ q),fun A outer s H args us vs Q E hr he hb hv hs=>F.run A outer s H args us vs Q E hr he hb hv (h _ _ _ _ hs)⟩
section
variable {X:Cx} {pins:List (Addr×Obj)} {σ:St} {H:Hp} {s s':Shared}
theorem Inv.env0 (I:Inv X pins σ H s):Env0 X.prog X.w X.K X.mg X.base X.A X.stack s H :=
 ⟨I.ok.frames,I.ok.mod,I.bs,Nat.le_trans I.ok.bsz I.sz,I.stack,I.HS,I.hok,I.bare⟩
theorem Inv.after {Q:VK} {u:Value} (I:Inv X pins σ H s) (h:CE X.stack X.prog X.w H s Q u s'):EP X pins σ Q u s':=by
 obtain ⟨v,H',os,bare,un,hok,r,q⟩:=h
 obtain ⟨hh,g,d,t,os'⟩:=s'
 obtain rfl:os'=s.os:=os
 exact ⟨v,H',I.call (h':=hh) (g':=g) (d':=d) (t':=t) (ch:=[]) un hok bare (fun b z=>absurd z (by simp)),r,q⟩
end
def Binds (K:PySem.W.Frag) (fd:FuncData) (ps:List Str) (ds:List Value):Prop :=
 ∀ (s:Shared) (us:List Value),K.In s.heap->(us++ds).length=ps.length->BindsTo s fd ⟨us,[]⟩ (ps.zip (us++ds))
theorem Binds.all {K:PySem.W.Frag} {fd:FuncData} {ps:List Str} (h:∀ us:List Value,us.length=ps.length->bindArgs fd ⟨us,[]⟩=pure (ps.zip us)):Binds K fd ps []:=fun s us _ hl=>by
 rw [List.append_nil] at hl ⊢
 exact .of_eq (h us hl)
section
variable {X:Cx} {CX:CXT} {k:Nat} {f C:Addr} {fd:FuncData} {ps:List Str} {sp:Sp} {dvs:List V} {ds:List Value} {E:XK} {x m:Str} {p pos apos:Pos} {e o:Expr} {es:List Expr} {ta:TE} {t:TA}
end
section
variable {X:Cx} {CX:CXT} {k:Nat} {f C:Addr} {fd:FuncData} {ps ks:List Str} {sp:Sp} {E:XK} {x m:Str} {p pos apos kpos:Pos} {e o:Expr} {es:List Expr} {kws:List Keyword} {te ta:TE} {t tk:TA} {nm:Option Str}
variable {g:List Value->List Value->List Value} {gV:List V->List V->List V}
end
structure A1 (N P:List Str) (sc:Scope):Prop where
 kind:sc.kind=.function
 co:sc.isCoroutine=false
 gen:sc.isGenerator=false
 nd:N.Nodup
 pre:N.take P.length=P
 par:∀ x∈P,sc.names.lookup x=some .local∨sc.names.lookup x=some .cell
 nofree:∀ y∈sc.names,y.2≠.free
theorem HD {kindOf:Str->Option NameKind} {x:Str}:∀ {binds:List (Str×Value)} {m:Str->Option Value},(∀ v,(x,v)∉binds)->bindL kindOf binds m x=m x
 | [],_,_=>rfl
 | (n,v) :: r,m,h=>by
  unfold bindL
  rw [HD fun w hw=>h w (List.mem_cons_of_mem _ hw)]
  split
  ·have:x≠n:=by rintro rfl;exact h v List.mem_cons_self
   simp [this]
  ·rfl
theorem HF {kindOf:Str->Option NameKind} {x:Str}:∀ {binds:List (Str×Value)} {m:Str->Option Value},(∀ v,(x,v)∉binds)->bindC kindOf binds m x=m x
 | [],_,_=>rfl
 | (n,v) :: r,m,h=>by
  unfold bindC
  rw [HF fun w hw=>h w (List.mem_cons_of_mem _ hw)]
  split
  ·rfl
  ·have:x≠n:=by rintro rfl;exact h v List.mem_cons_self
   simp [this]
theorem HE {kindOf:Str->Option NameKind} {x:Str} {v:Value}:∀ {P:List Str} {vs:List Value} {i:Nat} {m:Str->Option Value},P.Nodup->P[i]?=some x->vs[i]?=some v->kindOf x=some .local ->
  bindL kindOf (P.zip vs) m x=some v
 | [],_,_,_,_,h,_,_=>by simp at h
 | _ :: _,[],_,_,_,_,h,_=>by simp at h
 | p :: P,w :: vs,0,m,nd,h1,h2,hk=>by
  simp at h1 h2;subst h1;subst h2
  show bindL kindOf ((p,w) :: P.zip vs) m p=_
  unfold bindL
  rw [HD fun v hv=>(List.nodup_cons.mp nd).1 (List.of_mem_zip hv).1,if_pos hk]
  simp
 | p :: P,w :: vs,i+1,m,nd,h1,h2,hk=>by
  show bindL kindOf ((p,w) :: P.zip vs) m x=_
  unfold bindL
  exact HE (i:=i) (List.nodup_cons.mp nd).2 (by simpa using h1) (by simpa using h2) hk
theorem HG {kindOf:Str->Option NameKind} {x:Str} {v:Value}:∀ {P:List Str} {vs:List Value} {i:Nat} {m:Str->Option Value},P.Nodup->P[i]?=some x->vs[i]?=some v->kindOf x≠some .local ->
  bindC kindOf (P.zip vs) m x=some v
 | [],_,_,_,_,h,_,_=>by simp at h
 | _ :: _,[],_,_,_,_,h,_=>by simp at h
 | p :: P,w :: vs,0,m,nd,h1,h2,hk=>by
  simp at h1 h2;subst h1;subst h2
  show bindC kindOf ((p,w) :: P.zip vs) m p=_
  unfold bindC
  rw [HF fun v hv=>(List.nodup_cons.mp nd).1 (List.of_mem_zip hv).1,if_neg hk]
  simp
 | p :: P,w :: vs,i+1,m,nd,h1,h2,hk=>by
  show bindC kindOf ((p,w) :: P.zip vs) m x=_
  unfold bindC
  exact HG (i:=i) (List.nodup_cons.mp nd).2 (by simpa using h1) (by simpa using h2) hk
def start (N:List Str) (vs:List V):St:=vs.map some++List.replicate (N.length - vs.length) none
def cxOf (CX:CXT) (P:Program) (w:World) (K:PySem.W.Frag) (mg:Str->Option Value) (base:Heap) (N:List Str) (qual:Str) (scope:Scope) (f:Addr) (cd:Value) (A:Around) (outer:List Env) (s:Shared) (H:Hp) (E:XK):Cx where
 prog:=P
 w:=w
 K:=K
 mg:=mg
 base:=base
 A:=A.deeper (envOfC qual scope s.heap.objs.size f cd)
 N:=N
 s₀:=s
 H₀:=H
 env:=envOfC qual scope s.heap.objs.size f cd
 outer:=outer
 stack:=envOfC qual scope s.heap.objs.size f cd :: outer
 ex:=[]
 calm:=true
 fn:=fun _=>true
 pn:=[]
 xe:=fun e s'=>wpAny (model P w) (A.deeper (envOfC qual scope s.heap.objs.size f cd)) (leaving (envOfC qual scope s.heap.objs.size f cd) e) (fun _ s''=>CX outer H s E e s'') (fun e' s''=>CX outer H s E e' s'') s'
theorem cell_has {sc:Scope} {n:Nat} {x:Str} (h:sc.names.lookup x=some .cell):∃ c,(cellsFrom n sc.names []).lookup x=some c:=by
 have q:=PySem.W.cellsFrom_some sc.names n [] (.inl h)
 exact Option.isSome_iff_exists.mp q
theorem inv_start {CX:CXT} {P:Program} {w:World} {K:PySem.W.Frag} {mg:Str->Option Value} {base:Heap} {N ps:List Str} {qual:Str} {scope:Scope} {f:Addr} {cd:Value} {A:Around} {outer:List Env} {s s1:Shared} {H:Hp} {E:XK} {us:List Value} {vs:List V}
  (S:A1 N ps scope) (hd:A.handled=none) (e0:Env0 P w K mg base A outer s H) (hl:vs.length=ps.length) (r:Vals vs us)
  (x:InCallC s s.heap.objs.size (bindL (envOfC qual scope s.heap.objs.size f cd).kindOf (ps.zip us) fun _=>none) (cellsFrom (s.heap.objs.size+1) scope.names []) (bindC (envOfC qual scope s.heap.objs.size f cd).kindOf (ps.zip us) fun _=>none) s1) :
  Inv (cxOf CX P w K mg base N qual scope f cd A outer s H E) [] (start N vs) H s1:=by
 have hpl:ps.length<=N.length:=by have:=congrArg List.length S.pre;rw [List.length_take] at this;omega
 obtain ⟨h1,tk,rfl,hk⟩:=x.done
 have noA:∀ b:Addr,b∉(cxOf CX P w K mg base N qual scope f cd A outer s H E).ex:=fun b z=>absurd (show b∈([]:List Addr) from z) (by simp)
 refine ⟨⟨e0.mod,S.kind,rfl,rfl,Nat.le_refl _,fun y z c h1 h2=>?_,fun y hy=>?_,fun y c _ h=>?_,fun _=>hd,Around.frames_deeper e0.frames,.inr ⟨rfl,rfl⟩,fun b z=>absurd z (noA b),e0.bs,e0.bsz,fun b _ _=>noA b,fun b z=>absurd z (noA b),e0.funs,e0.frf⟩,
  rfl,e0.bare,Un.kept hk,⟨_,x.toInCall.ns,fun i y v h1 h2 h3=>?_⟩,fun y c h=>⟨_,x.cell y c h⟩,e0.hok.fresh (Nat.le_refl _),fun y c h=>?_,fun p hp=>absurd (show p∈([]:List (Addr×Obj)) from hp) (by simp),e0.hok.kept hk,?_⟩
 ·exact name_of_addr x.apart (PySem.mem_of_lookup h1) (PySem.mem_of_lookup h2)
 ·have hy:scope.names.lookup y=some .cell∨scope.names.lookup y=some .free:=hy
  rcases hy with hy | hy
  ·exact cell_has hy
  ·exact absurd rfl (S.nofree _ (PySem.mem_of_lookup hy))
 ·exact Nat.le_of_lt (x.above y c (PySem.mem_of_lookup h))
 ·have hi:i < vs.length:=by
   unfold start at h2
   by_cases hi:i < vs.length
   ·exact hi
   ·rw [List.getElem?_append_right (by simpa using hi)] at h2
    rw [List.getElem?_replicate] at h2
    split at h2 <;> cases h2
  have ha:vs[i]?=some v:=by
   unfold start at h2
   rw [List.getElem?_append_left (by simpa using hi),List.getElem?_map] at h2
   cases e:vs[i]? with
   | none=>rw [e] at h2;cases h2
   | some a=>rw [e] at h2;cases h2;rfl
  obtain ⟨u,hu,rv⟩:=r.get ha
  have hp:ps[i]?=some y:=by
   rw [<- S.pre,List.getElem?_take_of_lt (by omega)];exact h1
  have ndP:ps.Nodup:=by rw [<- S.pre];exact S.nd.sublist (List.take_sublist _ _)
  refine ⟨u,rv,?_⟩
  rcases S.par y (List.mem_of_getElem? hp) with k | k
  ·exact .inl ⟨k,HE ndP hp hu k⟩
  ·obtain ⟨c,e⟩:=cell_has (n:=s.heap.objs.size+1) k
   refine .inr ⟨.inl k,c,e,?_⟩
   have q:=x.cell y c e
   rw [HG ndP hp hu (by show scope.names.lookup y≠_;rw [k];decide)] at q
   exact q
 ·exact e0.hok.fresh (Nat.le_of_lt (x.above y c (PySem.mem_of_lookup h)))
 ·unfold start
  show _=N.length
  rw [List.length_append,List.length_map,List.length_replicate]
  omega
end L2
namespace L2
open PySem PySem.Spec PyProof.Rows
section
variable {X:Cx} {x:Str} {p pos:Pos} {e:Expr} {es:List Expr} {t:TA} {id T:String} {r:List V->Hp->VK->Prop}
def tCB (r:List V->Hp->VK->Prop) (t:TA):TE:=fun σ H Q=>t σ H fun vs H1=>r vs H1 Q
theorem Ey (hc:CB X (.builtin id) r) (hg:Gl X x) (hm:X.mg x=none) (hv:bootBuiltins x=some (.builtin id)) (ha:PA X (e :: es) t) (hn:x≠"__name__":=by decide) (hdb:(x == ("__debug__":Str))=false:=by decide)
  (he:starEach (e :: es) X.env=(false,eval e X.env) :: starEach es X.env:=by rfl) (hpl:(backTo pos (starEach es X.env)).any (·.1)=false:=by rfl):PE X (.Call (.Name x p) (e :: es) [] pos) (tCB r t):=by
 intro pins s σ H Q I h
 refine wpAny_Call_Name_kw (DB I hg hm hv ?_ hn hdb)
 exact PyProof.Rows.callWith_builtin1 (thn (ha pos pins s σ H _ I h) fun us s1 ⟨vs,H1,I1,r1,q1⟩=>hc pins s1 σ H1 vs us Q I1 r1 q1) he hpl
theorem pe_callTy (hc:CB X (.type T) r) (hg:Gl X x) (hm:X.mg x=none) (hv:bootBuiltins x=some (.type T)) (ha:PA X (e :: es) t) (hn:x≠"__name__":=by decide) (hdb:(x == ("__debug__":Str))=false:=by decide)
  (he:starEach (e :: es) X.env=(false,eval e X.env) :: starEach es X.env:=by rfl) (hpl:(backTo pos (starEach es X.env)).any (·.1)=false:=by rfl):PE X (.Call (.Name x p) (e :: es) [] pos) (tCB r t):=by
 intro pins s σ H Q I h
 refine wpAny_Call_Name_kw (DB I hg hm hv ?_ hn hdb)
 exact PyProof.Rows.callWith_type1 (thn (ha pos pins s σ H _ I h) fun us s1 ⟨vs,H1,I1,r1,q1⟩=>hc pins s1 σ H1 vs us Q I1 r1 q1) he hpl
end
end L2
namespace HT
open PySem PyProof.Rows
section
open PySem.SeqAt
open PySem.AutoSeq1 (wpAny_loadPart')
open PySem.MeetsSeq PySem.MeetsSeq2 PySem.MeetsSeq3
end
section
variable {prog:Program} {w:World} {A:Around} {E:Value->Shared->Prop} {s:Shared}
theorem cat_tup {t b:Addr} {vs ws:List Value} {Q:Value->Shared->Prop} (ht:IsTup s.heap t vs.toArray) (hb:IsTup s.heap b ws.toArray) (hv:vs≠[])
  (h1:ws=[]->Q (.ref t) s) (h2:ws≠[]->Q (.ref s.heap.objs.size) { s with heap:=s.heap.push { cls:=.type "tuple",data:=.seq (vs++ws).toArray } })
  (hsz:vs.length+ws.length<=sizeLine):wpAny (model prog w) A (binaryOp .Add (.ref t) (.ref b)) Q E s:=by
 obtain ⟨⟨cls,dd,data,sl⟩,ho,hc,n,hd⟩:=id ht
 obtain ⟨⟨cls2,dd2,data2,sl2⟩,ho2,hc2,n2,hd2⟩:=id hb
 simp only at hc hd hc2 hd2
 subst hc hd hc2 hd2
 have e:vs.toArray++ws.toArray=(vs++ws).toArray:=by simp
 by_cases hw:ws=[]
 ·exact concat_meets ⟨_,ho,rfl⟩ ⟨_,ho2,rfl⟩ noFill_tuple_add seq_tuple_add PySem.F.slot_tuple_add PySem.F.entry_tuple_add (PySem.F.args_tuple_add_2 _ _)
   (tuple_addW1 t b vs.toArray ws.toArray n n2 dd dd2 sl sl2 (by simpa using hv) (by simp [hw])) ⟨ho,ho2,h1 hw⟩
 ·refine concat_meets ⟨_,ho,rfl⟩ ⟨_,ho2,rfl⟩ noFill_tuple_add seq_tuple_add PySem.F.slot_tuple_add PySem.F.entry_tuple_add (PySem.F.args_tuple_add_2 _ _)
   (tuple_addW2 t b vs.toArray ws.toArray n n2 dd dd2 sl sl2 (by simpa using hv) (by simpa using hw) (by rw [List.size_toArray,List.size_toArray];exact hsz)) ⟨ho,ho2,?_⟩
  rw [e]
  exact h2 hw
def sIx (n d:Nat):Option Int->Nat
 | none=>d
 | some v=>if v < 0 then (v+(n:Int)).toNat else min v.toNat n
theorem sIx_le (n d:Nat) (hd:d<=n) (o:Option Int):sIx n d o<=n:=by
 cases o with
 | none=>exact hd
 | some v =>
  show (if v < 0 then (v+(n:Int)).toNat else min v.toNat n)<=n
  by_cases hv:v < 0
  ·rw [if_pos hv];omega
  ·rw [if_neg hv];exact Nat.min_le_right _ _
theorem clip_eq (v:Int) (n d:Nat):(if v < 0 then max (v+(n:Int)) 0 else min v (n:Int))=((sIx n d (some v):Nat):Int):=by
 show (if v < 0 then max (v+(n:Int)) 0 else min v (n:Int))=(((if v < 0 then (v+(n:Int)).toNat else min v.toNat n):Nat):Int)
 by_cases hv:v < 0
 ·simp only [if_pos hv];omega
 ·simp only [if_neg hv];omega
theorem adjust_gen (lo hi:Option Int) (n:Nat):Builtin.Slice.sliceAdjust lo hi 1 (n:Int)=(((sIx n 0 lo:Nat):Int),((sIx n n hi:Nat):Int)):=by
 have h1:¬ ((1:Int) < 0):=by omega
 unfold Builtin.Slice.sliceAdjust
 simp only [h1,if_false]
 refine Prod.ext ?_ ?_
 ·cases lo with
  | none=>rfl
  | some v=>exact clip_eq v n 0
 ·cases hi with
  | none=>rfl
  | some v=>exact clip_eq v n n
theorem places_gen (i j:Nat):Builtin.Slice.slicePlaces (i:Int) (j:Int) 1=j - i:=by
 unfold Builtin.Slice.slicePlaces
 have h1:(1:Int) > 0:=by omega
 simp only [h1,if_true,Int.ediv_one]
 split <;> omega
theorem Fv {v:Value} {o:Option Int} {Q:Option Int->Shared->Prop} (p:IsPart v o) (h:Q o s):wpAny (model prog w) A (Builtin.Slice.slicePartIndex v) Q E s:=by
 cases p with
 | none=>exact slicePart_none h
 | int i t=>exact slicePart_int h
theorem CY {sl:Addr} {vl vu:Value} {lo hi:Option Int} {n:Nat} {Q:Int×Int×Nat->Shared->Prop} (hs:s.heap.IsSliceOf sl vl vu .none) (pl:IsPart vl lo) (pu:IsPart vu hi)
  (h:Q (((sIx n 0 lo:Nat):Int),1,sIx n n hi - sIx n 0 lo) s):wpAny (model prog w) A (Builtin.Slice.sliceApplied (.ref sl) (pure (n:Int))) Q E s:=by
 obtain ⟨os,hos,hcs,hds⟩:=id hs
 unfold Builtin.Slice.sliceApplied Builtin.Slice.sliceFields
 refine wpAny_bind (wpAny_bind (wpAny_field hos hds (x:=vl) rfl (wpAny_bind (wpAny_field hos hds (x:=vu) rfl (wpAny_bind (wpAny_field hos hds (x:=.none) rfl (wpAny_pure ?_)))))))
 refine wpAny_bind (slicePart_none ?_)
 show wpAny _ _ (if ((1:Int) == 0)=true then _ else _) _ _ s
 rw [if_neg (by decide)]
 refine wpAny_bind (Fv pl (wpAny_bind (Fv pu (wpAny_bind (wpAny_pure ?_)))))
 show wpAny _ _ (match Builtin.Slice.sliceAdjust lo hi 1 (n:Int) with | (lo,hi)=>pure (lo,(1:Int),Builtin.Slice.slicePlaces lo hi 1)) _ _ s
 rw [adjust_gen lo hi n]
 show wpAny _ _ (pure (((sIx n 0 lo:Nat):Int),(1:Int),Builtin.Slice.slicePlaces ((sIx n 0 lo:Nat):Int) ((sIx n n hi:Nat):Int) 1)) _ _ s
 rw [places_gen]
 exact wpAny_pure h
theorem pick_gen (xs:Array Value) (i k:Nat):((List.range k).filterMap fun (m:Nat)=>xs[((i:Int)+(m:Int) * 1).toNat]?).toArray=((xs.toList.drop i).take k).toArray:=by
 have e:(fun (m:Nat)=>xs[((i:Int)+(m:Int) * 1).toNat]?)=fun m=>xs[i+m]?:=by
  funext m
  have:((i:Int)+(m:Int) * 1).toNat=i+m:=by omega
  rw [this]
 rw [e]
 have:=pick_run xs i k
 rw [List.filterMap_map] at this
 have e2:((fun x=>xs[x]?)∘fun x=>i+x)=fun m=>xs[i+m]?:=rfl
 rw [e2] at this
 rw [this]
theorem D3 {t sl:Addr} {items:Array Value} {vl vu:Value} {lo hi:Option Int} {Q:Value->Shared->Prop} (ht:IsTup s.heap t items) (hs:s.heap.IsSliceOf sl vl vu .none) (pl:IsPart vl lo) (pu:IsPart vu hi)
  (hw:¬ (sIx items.size 0 lo=0/\sIx items.size items.size hi=items.size))
  (h:Q (.ref s.heap.objs.size) { s with heap:=s.heap.push { cls:=.type "tuple",data:=.seq ((items.toList.drop (sIx items.size 0 lo)).take (sIx items.size items.size hi - sIx items.size 0 lo)).toArray } })
  (hsz:items.size<=sizeLine):wpAny (model prog w) A (getItem (.ref t) (.ref sl)) Q E s:=by
 have htake:sizeOk (.seq ((items.toList.drop (sIx items.size 0 lo)).take (sIx items.size items.size hi - sIx items.size 0 lo)).toArray):=by
  show ((items.toList.drop (sIx items.size 0 lo)).take (sIx items.size items.size hi - sIx items.size 0 lo)).toArray.size<=sizeLine
  rw [List.size_toArray,List.length_take,List.length_drop,Array.length_toList]
  omega
 have hj:sIx items.size items.size hi<=items.size:=sIx_le _ _ (Nat.le_refl _) hi
 obtain ⟨os,hos,hcs,hds⟩:=id hs
 have hTs:s.TypeIs (.ref sl) "slice":=⟨os,hos,hcs⟩
 unfold getItem
 try with_reducible refine wpAny_holding ?_
 first | refine wpAny_bind (wpAny_pure ?_) | skip
 refine wpAny_bind (wpAny_sequenceKey ht.typeIs (by decide) ?_)
 refine wpAny_bind (wpAny_callSpecial?_slot (name:=Str.ofString "__getitem__") ht.typeIs PyProof.Rows.slot_tuple_getitem
  (wpAny_call_entry PyProof.Rows.slot_tuple_getitem ht.typeIs entry_tuple_getitem ?_ (args_tuple_getitem _ _)))
 show wpAny _ _ (Builtin.Tuple.tupleItemsOf (.ref t) >>= _) _ _ s
 refine wpAny_bind (tupleItemsOf_ ht ?_)
 refine wpAny_bind (wpAny_typeOf hTs ?_)
 rw [if_pos (by decide)]
 refine wpAny_bind (CY hs pl pu ?_)
 have hno:¬ ((((sIx items.size 0 lo:Nat):Int) == 0 && (1:Int) == 1 && (sIx items.size items.size hi - sIx items.size 0 lo) == items.size)=true):=by
  intro q
  rw [Bool.and_eq_true,Bool.and_eq_true] at q
  have q1:((sIx items.size 0 lo:Nat):Int)=0:=eq_of_beq q.1.1
  have q2:sIx items.size items.size hi - sIx items.size 0 lo=items.size:=eq_of_beq q.2
  exact hw ⟨by omega,by omega⟩
 show wpAny _ _ (if (((sIx items.size 0 lo:Nat):Int) == 0 && (1:Int) == 1 && (sIx items.size items.size hi - sIx items.size 0 lo) == items.size)=true then _ else _) _ _ s
 rw [if_neg hno,pick_gen]
 first
  | exact wpAny_bind (m:=Builtin.Tuple.tupleExact _) (wpAny_newObj_type (wpAny_pure ⟨_,rfl,wpAny_pure h⟩) htake)
  | exact wpAny_bind (m:=Builtin.Tuple.tupleExact _) (wpAny_newObj_type (wpAny_bind (wpAny_pure (wpAny_pure ⟨_,rfl,wpAny_pure h⟩))) htake)
  | exact wpAny_bind (wpAny_bind (m:=Builtin.Tuple.tupleExact _) (wpAny_newObj_type (wpAny_pure (wpAny_pure ⟨_,rfl,wpAny_pure h⟩)) htake))
  | exact wpAny_bind (wpAny_bind (m:=Builtin.Tuple.tupleExact _) (wpAny_newObj_type (wpAny_pure ⟨_,rfl,wpAny_pure h⟩) htake))
end
end HT
namespace L2
open PySem PySem.Spec PyProof.Rows
abbrev TO:=St->Hp->(Option Int->Hp->Prop)->Prop
def PO (X:Cx) (e:Option Expr) (t:TO):Prop :=
 ∀ (pins:List (Addr×Obj)) (s:Shared) (σ:St) (H:Hp) (Q:Option Int->Hp->Prop),Inv X pins σ H s->t σ H Q ->
  wpAny (model X.prog X.w) X.A (evalPart e X.env) (fun u s'=>∃ o H',Inv X pins σ H' s'/\IsPart u o/\Q o H') X.xe s
def tNoPart:TO:=fun _ H Q=>Q none H
def tPart (t:TE):TO:=fun σ H Q=>t σ H fun x H1=>∃ i,x=.int i/\Q (some i) H1
theorem intsAre_of {ns:List Int}:∀ {us:List Value},Vals (ns.map V.int) us->IntsAre us ns:=by
 induction ns with
 | nil=>intro us r;rw [List.map_nil] at r;cases r;exact .nil
 | cons n ns ih =>
  intro us r
  rw [List.map_cons] at r
  cases r with
  | cons r1 r2 =>
   obtain ⟨t,e⟩:=r1
   subst e
   exact .cons n t (ih r2)
section
variable {X:Cx} {e:Expr} {te:TE} {lo hi:Option Expr} {tl th:TO} {pos p2:Pos}
theorem po_none:PO X none tNoPart:=by
 intro pins s σ H Q I h
 rw [evalPart_none]
 exact wpAny_pure ⟨none,H,I,.none,h⟩
theorem po_some (h:PE X e te):PO X (some e) (tPart te):=by
 intro pins s σ H Q I hw
 rw [evalPart_some]
 refine thn (h pins s σ H _ I hw) fun u s1 ⟨x,H1,I1,r1,q1⟩=>?_
 obtain ⟨i,rfl,q⟩:=q1
 obtain ⟨t,rfl⟩:=r1
 exact ⟨some i,H1,I1,.int i t,q⟩
def SlR (X:Cx) (r:V->Option Int->Option Int->Hp->VK->Prop):Prop :=
 ∀ (pins:List (Addr×Obj)) (s:Shared) (σ:St) (H:Hp) (x:V) (v vl vu:Value) (lo hi:Option Int) (sl:Addr) (Q:VK),Inv X pins σ H s->RelV x v->s.heap.IsSliceOf sl vl vu .none->IsPart vl lo->IsPart vu hi->r x lo hi H Q ->
  ∃ T id,typeLookup (.type T) "__getitem__"=pure (some (.builtin id))/\s.TypeIs v T/\wpAny (model X.prog X.w) X.A (getItem v (.ref sl)) (EP X pins σ Q) X.xe s
theorem SlR.or {r r':V->Option Int->Option Int->Hp->VK->Prop} (h:SlR X r) (h':SlR X r'):SlR X (fun x lo hi H Q=>r x lo hi H Q∨r' x lo hi H Q):=by
 intro pins s σ H x v vl vu lo hi sl Q I rx hs pl pu q
 rcases q with q | q
 ·exact h pins s σ H x v vl vu lo hi sl Q I rx hs pl pu q
 ·exact h' pins s σ H x v vl vu lo hi sl Q I rx hs pl pu q
def tSl (r:V->Option Int->Option Int->Hp->VK->Prop) (te:TE) (tl th:TO):TE:=fun σ H Q=>te σ H fun x H1=>tl σ H1 fun l H2=>th σ H2 fun u H3=>r x l u H3 Q
theorem pe_slice {r:V->Option Int->Option Int->Hp->VK->Prop} (hr:SlR X r) (he:PE X e te) (hl:PO X lo tl) (hu:PO X hi th):PE X (.Subscript e (.Slice lo hi none p2) pos) (tSl r te tl th):=by
 intro pins s σ H Q I h
 refine Subscript_ (thn (he pins s σ H _ I h) fun v s1 ⟨x,H1,I1,r1,q1⟩=>?_)
 refine wpAny_Slice (thn (hl pins s1 σ H1 _ I1 q1) fun vl s2 ⟨l,H2,I2,pl,q2⟩=>thn (hu pins s2 σ H2 _ I2 q2) fun vu s3 ⟨u,H3,I3,pu,q3⟩=>?_)
 rw [evalPart_none]
 refine wpAny_pure ?_
 have I4:Inv X pins σ H3 { s3 with heap:=s3.heap.push { cls:=.type "slice",data:=.fields #[vl,vu,.none] } }:=I3.kept (t':=s3.toks) fun b ob q=>Heap.get?_push_of_some _ q
 obtain ⟨T,id,hT,ht,hg⟩:=hr pins { s3 with heap:=s3.heap.push { cls:=.type "slice",data:=.fields #[vl,vu,.none] } } σ H3 x v vl vu l u s3.heap.objs.size Q I4 r1 (Heap.IsSliceOf.new ..) pl pu q3
 show wpAny (model X.prog X.w) X.A (subscriptTail e (.Slice lo hi none p2) v (.ref s3.heap.objs.size)) (EP X pins σ Q) X.xe { s3 with heap:=s3.heap.push { cls:=.type "slice",data:=.fields #[vl,vu,.none] } }
 exact tail_any (ops:=[.ref s3.heap.objs.size,v]) ht hT hg (by with_unfolding_all rfl)
def cutV (xs:List V) (lo hi:Option Int):List V:=(xs.drop (HT.sIx xs.length 0 lo)).take (HT.sIx xs.length xs.length hi - HT.sIx xs.length 0 lo)
theorem E5 (xs:List V) (lo hi:Option Int):(cutV xs lo hi).length<=xs.length:=by
 unfold cutV
 rw [List.length_take,List.length_drop]
 omega
def rSlT (K:PySem.W.Frag):V->Option Int->Option Int->Hp->VK->Prop:=fun x lo hi H Q=>∃ a xs,x=.ref a/\SqT K H a xs /\
 ¬ (HT.sIx xs.length 0 lo=0/\HT.sIx xs.length xs.length hi=xs.length)/\∀ p,H p=none->Q (.ref p) (upd H p (.tup (cutV xs lo hi)))
theorem sl_tup:SlR X (rSlT X.K):=by
 intro pins s σ H x v vl vu lo hi sl Q I rx hs pl pu h
 obtain ⟨a,xs,rfl,hx,hw,q⟩:=h
 cases rx
 obtain ⟨its,r,ht,hz⟩:=I.tuple hx
 have hlen:its.toArray.size=xs.length:=by rw [List.size_toArray];exact r.length.symm
 refine ⟨"tuple",_,PyProof.Rows.slot_tuple_getitem.lookup,ht.typeIs,?_⟩
 refine HT.D3 ht hs pl pu (by rw [hlen];exact hw) ?_ (by rw [hlen];exact hz)
 rw [hlen]
 refine ⟨.ref s.heap.objs.size,_,I.laid (t':=s.toks) (o:=.tup (cutV xs lo hi)) (fun b ob q=>Heap.get?_push_of_some _ q) (Nat.le_refl _) ?_,rfl,q _ (I.hok.fresh (Nat.le_refl _))⟩
 exact ⟨Nat.le_trans (E5 xs lo hi) hz,_,(r.drop (HT.sIx xs.length 0 lo)).take (HT.sIx xs.length xs.length hi - HT.sIx xs.length 0 lo),IsTup.new _ _⟩
def rCatT (K:PySem.W.Frag):R2:=fun x y H Q=>∃ a b xs ys,x=.ref a/\y=.ref b/\SqT K H a xs/\SqT K H b ys/\xs≠[]/\xs.length+ys.length<=sizeLine /\
 (ys=[]->Q (.ref a) H)/\(ys≠[]->∀ p,H p=none->Q (.ref p) (upd H p (.tup (xs++ys))))
theorem Vals.nil_iff {xs:List V} {us:List Value} (r:Vals xs us):us=[]↔xs=[]:=by
 cases r with
 | nil=>simp
 | cons _ _=>simp
theorem op_catT:OpR X (binaryOp .Add) (rCatT X.K):=by
 intro pins s σ H x y v u Q I rx ry h
 obtain ⟨a,b,xs,ys,rfl,rfl,ha,hb,hx,hz,q1,q2⟩:=h
 cases rx
 cases ry
 obtain ⟨its,r1,p1,_⟩:=I.tuple ha
 obtain ⟨its2,r2,p2,_⟩:=I.tuple hb
 refine HT.cat_tup p1 p2 (fun z=>hx (r1.nil_iff.mp z)) (fun z=>⟨.ref a,H,I,rfl,q1 (r2.nil_iff.mp z)⟩) (fun z=>?_) (by rw [<- r1.length,<- r2.length];exact hz)
 refine ⟨.ref s.heap.objs.size,_,I.laid (t':=s.toks) (o:=.tup (xs++ys)) (fun b ob q=>Heap.get?_push_of_some _ q) (Nat.le_refl _) ?_,rfl,q2 (fun w=>z (r2.nil_iff.mpr w)) _ (I.hok.fresh (Nat.le_refl _))⟩
 exact ⟨by rw [List.length_append];exact hz,_,r1.append r2,IsTup.new _ _⟩
end
end L2
namespace L2
open PySem PySem.Spec PyProof.Rows
def ixN (n:Nat) (i:Int):Option Nat:=if 0<=i then (if i < n then some i.toNat else none) else if -(n:Int)<=i then some (i+n).toNat else none
def atI {α:Type} (xs:List α) (i:Int):Option α:=(ixN xs.length i).bind fun j=>xs[j]?
theorem ixN_seq {n:Nat} {i:Int} {j:Nat} (h:ixN n i=some j):seqIndex? i n=some j/\j < n/\-(n:Int)<=i/\i < n:=by
 unfold ixN at h
 by_cases h0:0<=i
 ·rw [if_pos h0] at h
  by_cases h1:i < n
  ·rw [if_pos h1] at h
   have e:i.toNat=j:=Option.some.inj h
   exact ⟨by rw [seqIndex_of h0 h1,e],by omega,by omega,h1⟩
  ·rw [if_neg h1] at h;cases h
 ·rw [if_neg h0] at h
  by_cases h1:-(n:Int)<=i
  ·rw [if_pos h1] at h
   have e:(i+n).toNat=j:=Option.some.inj h
   exact ⟨by rw [seqIndex_neg (by omega) h1,e],by omega,h1,by omega⟩
  ·rw [if_neg h1] at h;cases h
theorem atI_get {α:Type} {xs:List α} {i:Int} {v:α} (h:atI xs i=some v):∃ j,seqIndex? i xs.length=some j/\xs[j]?=some v/\j < xs.length/\-(xs.length:Int)<=i/\i < xs.length:=by
 unfold atI at h
 cases e:ixN xs.length i with
 | none=>rw [e] at h;cases h
 | some j =>
  rw [e] at h
  obtain ⟨h1,h2,h3,h4⟩:=ixN_seq e
  exact ⟨j,h1,h,h2,h3,h4⟩
theorem Bm {α:Type} {xs:List α} {j:Nat} {v:α} (h:xs[j]?=some v):atI xs (j:Int)=some v:=by
 have hj:j < xs.length:=(List.getElem?_eq_some_iff.mp h).1
 have e:ixN xs.length (j:Int)=some j:=by
  unfold ixN
  rw [if_pos (by omega),if_pos (by omega)];simp
 unfold atI;rw [e];exact h
theorem atI_last {α:Type} (xs:List α) (v:α):atI (xs++[v]) (-1)=some v:=by
 have hl:(xs++[v]).length=xs.length+1:=by simp
 have e:ixN (xs++[v]).length (-1)=some xs.length:=by
  unfold ixN
  rw [hl,if_neg (by decide),if_pos (by omega)]
  congr 1
  omega
 unfold atI
 rw [e]
 show (xs++[v])[xs.length]?=some v
 simp
def PlainIx (b:Expr):Prop:=∀ o i,subscripted b false o i=operate [o,i] (getItem o i)
def IxR (X:Cx) (r:R2):Prop :=
 ∀ (value slice:Expr) (pins:List (Addr×Obj)) (s:Shared) (σ:St) (H:Hp) (x y:V) (v u:Value) (Q:VK),Inv X pins σ H s->RelV x v->RelV y u->r x y H Q ->
  subscripted slice false v u=operate [v,u] (getItem v u)->wpAny (model X.prog X.w) X.A (subscriptTail value slice v u) (EP X pins σ Q) X.xe s
def MtR (X:Cx) (id:String) (r:V->List V->Hp->VK->Prop):Prop :=
 ∀ (pins:List (Addr×Obj)) (s:Shared) (σ:St) (H:Hp) (x:V) (xs:List V) (v:Value) (us:List Value) (Q:VK),Inv X pins σ H s->RelV x v->Vals xs us->r x xs H Q ->
  wpAny (model X.prog X.w) X.A (call (.builtin id) (v :: us)) (EP X pins σ Q) X.xe s
section
variable {X:Cx} {a b:Expr} {ta tb:TE} {pos:Pos}
theorem IxR.or {r r':R2} (h:IxR X r) (h':IxR X r'):IxR X (fun x y H Q=>r x y H Q∨r' x y H Q):=by
 intro value slice pins s σ H x y v u Q I rx ry q hs
 rcases q with q | q
 ·exact h value slice pins s σ H x y v u Q I rx ry q hs
 ·exact h' value slice pins s σ H x y v u Q I rx ry q hs
theorem pe_ix {r:R2} (hr:IxR X r) (ha:PE X a ta) (hb:PE X b tb) (hs:PlainIx b):PE X (.Subscript a b pos) (tOp r ta tb):=by
 intro pins s σ H Q I h
 exact Subscript_ (binT ha hb I h fun v u s2 x y H2 I2 rx ry q=>hr a b pins s2 σ H2 x y v u Q I2 rx ry q (hs _ _))
def rIxL (K:PySem.W.Frag):R2:=fun x y H Q=>∃ p xs i v,x=.ref p/\y=.int i/\SqL K H p xs/\atI xs i=some v/\Q v H
def rIxT (K:PySem.W.Frag):R2:=fun x y H Q=>∃ p xs i v,x=.ref p/\y=.int i/\SqT K H p xs/\atI xs i=some v/\Q v H
def rIxS:R2:=fun x y H Q=>∃ z i c,x=.str z/\y=.int i/\z.length<=sizeLine/\atI z.cps.toList i=some c/\Q (.str ⟨#[c]⟩) H
theorem ix_list:IxR X (rIxL X.K):=by
 intro value slice pins s σ H x y v u Q I rx ry h hs
 obtain ⟨p,xs,i,z,rfl,rfl,hq,he,q⟩:=h
 cases rx
 obtain ⟨t,rfl⟩:=ry
 obtain ⟨its,r,pl,hz⟩:=I.list hq
 obtain ⟨j,h1,h2,h3,h4,h5⟩:=atI_get he
 obtain ⟨w,ew,rw'⟩:=r.get h2
 have hl:=r.length
 have hn:=EV
 have fin:EP X pins σ Q w s:=⟨z,H,I,rw',q⟩
 by_cases h0:0<=i
 ·have hj:i.toNat=j:=by
   rw [seqIndex_of h0 h5] at h1
   exact Option.some.inj h1
  exact item_listR pl.isList h0 (by omega) (by rw [hj];simpa using ew) fin hs
 ·have hj:(i+(its.toArray.size:Int)).toNat=j:=by
   rw [seqIndex_neg (by omega) h4] at h1
   rw [List.size_toArray,<- hl]
   exact Option.some.inj h1
  exact subscriptTail_builtinR (x:=w) pl.isList.typeIs slot_list_getitem.lookup
   (wpAny_getItem_list_neg (Q:=fun r s'=>r=w/\EP X pins σ Q r s') pl.isList (by omega) (by rw [List.size_toArray] <;> omega) (by omega) (by rw [hj];simpa using ew) ⟨rfl,fin⟩) hs
theorem ix_tup:IxR X (rIxT X.K):=by
 intro value slice pins s σ H x y v u Q I rx ry h hs
 obtain ⟨p,xs,i,z,rfl,rfl,hq,he,q⟩:=h
 cases rx
 obtain ⟨t,rfl⟩:=ry
 obtain ⟨its,r,pl,hz⟩:=I.tuple hq
 obtain ⟨j,h1,h2,h3,h4,h5⟩:=atI_get he
 obtain ⟨w,ew,rw'⟩:=r.get h2
 have hl:=r.length
 have hn:=EV
 have fin:EP X pins σ Q w s:=⟨z,H,I,rw',q⟩
 exact subscriptTail_builtinR (x:=w) pl.typeIs slot_tuple_getitem.lookup
  (getItem_tuple (j:=j) (Q:=fun r s'=>r=w/\EP X pins σ Q r s') pl (by omega) (by omega) (by rw [List.size_toArray,<- hl];exact h1) (by simpa using ew) ⟨rfl,fin⟩) hs
theorem ix_str:IxR X rIxS:=by
 intro value slice pins s σ H x y v u Q I rx ry h hs
 obtain ⟨z,i,c,rfl,rfl,hz,he,q⟩:=h
 obtain ⟨t,rfl⟩:=rx
 obtain ⟨t',rfl⟩:=ry
 obtain ⟨j,h1,h2,h3,h4,h5⟩:=atI_get he
 have hl:z.cps.toList.length=z.length:=by simp [Str.length]
 rw [hl] at h1 h4 h5
 have hn:=EV
 exact tail_any (typeIs_str s z t) slot_str_getitem.lookup (getItem_str (c:=c) (by
  have e1:decide (i < -(2 ^ 63:Int))=false:=decide_eq_false (by omega)
  have e2:decide (i≥2 ^ 63)=false:=decide_eq_false (by omega)
  rw [e1,e2,Bool.or_false]) (by rw [h1];simpa using h2) ⟨.str ⟨#[c]⟩,H,I.tok _,⟨_,rfl⟩,q⟩) hs
def rIx (K:PySem.W.Frag):R2:=fun x y H Q=>rIxL K x y H Q∨rIxT K x y H Q∨rIxS x y H Q
theorem ix_seq:IxR X (rIx X.K):=ix_list.or (ix_tup.or ix_str)
theorem mapSeq_set (its:List Value) (n j:Nat) (u:Value):Obj.mapSeq (·.setIfInBounds j u) { cls:=.type "list",data:=.seq its.toArray n }={ cls:=.type "list",data:=.seq (its.set j u).toArray n }:=by
 simp [Obj.mapSeq]
theorem Inv.lst {pins:List (Addr×Obj)} {σ:St} {H:Hp} {s:Shared} {p:Addr} {xs:List V} (I:Inv X pins σ H s) (h:H p=some (.lst xs)) :
  ∃ (its:List Value) (n:Nat),Vals xs its/\s.heap.get? p=some { cls:=.type "list",data:=.seq its.toArray n }/\xs.length<=sizeLine:=by
 obtain ⟨z,its,n,r,e⟩:=I.hok p _ h
 exact ⟨its,n,r,e,z⟩
theorem Inv.lstUpd {pins:List (Addr×Obj)} {σ:St} {H:Hp} {s:Shared} {p:Addr} {xs ys:List V} {its its':List Value} {n n':Nat} {f:Obj->Obj} (I:Inv X pins σ H s) (h:H p=some (.lst xs))
  (ho:s.heap.get? p=some { cls:=.type "list",data:=.seq its.toArray n }) (hf:f { cls:=.type "list",data:=.seq its.toArray n }={ cls:=.type "list",data:=.seq its'.toArray n' }) (r:Vals ys its') (hz:ys.length<=sizeLine) (t:Nat) :
  Inv X pins σ (upd H p (.lst ys)) { s with heap:=s.heap.update p f,toks:=t }:=by
 have e:(s.heap.update p f).get? p=some { cls:=.type "list",data:=.seq its'.toArray n' }:=by
  rw [Heap.get?_update_self f ho (by rw [hf] <;> rfl),hf]
 refine I.write (x:=p) (e:=p) (by rw [h];trivial) (.inl rfl) (fun b u hb q=>(Heap.get?_update_other _ _ (Ne.symm hb)).trans q) ⟨_,e⟩ ?_
 exact ⟨hz,its',n',r,e⟩
def rSetL:V->V->V->Hp->(Hp->Prop)->Prop:=fun o i v H Q=>∃ p xs k j,o=.ref p/\i=.int k/\H p=some (.lst xs)/\ixN xs.length k=some j/\Q (upd H p (.lst (xs.set j v)))
theorem set_list:PSet X rSetL:=by
 intro pins s σ H o i v ov iv u Q I ro ri rv h
 obtain ⟨p,xs,k,j,rfl,rfl,hp,hj,q⟩:=h
 cases ro
 obtain ⟨t,rfl⟩:=ri
 obtain ⟨its,n,r,ho,hz⟩:=I.lst hp
 obtain ⟨h1,h2,h3,h4⟩:=ixN_seq hj
 have hl:=r.length
 have hn:=EV
 have I':Inv X pins σ (upd H p (.lst (xs.set j v))) { s with heap:=s.heap.update p (Obj.mapSeq (·.setIfInBounds j u)) } :=
  I.lstUpd hp ho (mapSeq_set its n j u) (r.set rv j) (by rw [List.length_set];exact hz) s.toks
 by_cases h0:0<=k
 ·have hk:k.toNat=j:=by
   rw [seqIndex_of h0 h4] at h1
   exact Option.some.inj h1
  exact PySem.W.ki_setAt ho h0 (by omega) (by rw [List.size_toArray,<- hl];exact h4) (by rw [hk];exact ⟨_,I',q⟩)
 ·have hk:(k+(its.toArray.size:Int)).toNat=j:=by
   rw [seqIndex_neg (by omega) h3] at h1
   rw [List.size_toArray,<- hl]
   exact Option.some.inj h1
  exact PySem.W.ki_setBack ho (by omega) (by rw [List.size_toArray,<- hl];exact h3) (by omega) (by rw [hk];exact ⟨_,I',q⟩)
theorem GR (lo hi:Option Int) (n:Nat):(sliceBounds lo hi none n).1=((HT.sIx n 0 lo:Nat):Int)/\(sliceBounds lo hi none n).2.1=((HT.sIx n n hi:Nat):Int)/\(sliceBounds lo hi none n).2.2=1:=by
 refine ⟨?_,?_,rfl⟩
 ·cases lo with
  | none=>simp [sliceBounds,HT.sIx]
  | some i =>
   simp only [sliceBounds,HT.sIx,Option.getD_none,show (1:Int) > 0 by decide,if_true]
   by_cases h:i < 0
   ·simp only [h,if_true] <;> omega
   ·simp only [h,if_false] <;> omega
 ·cases hi with
  | none=>simp [sliceBounds,HT.sIx]
  | some i =>
   simp only [sliceBounds,HT.sIx,Option.getD_none,show (1:Int) > 0 by decide,if_true]
   by_cases h:i < 0
   ·simp only [h,if_true] <;> omega
   ·simp only [h,if_false] <;> omega
theorem Ga (its:List Value) (lo hi:Option Int):slicePick its.toArray lo hi none=((its.drop (HT.sIx its.length 0 lo)).take (HT.sIx its.length its.length hi - HT.sIx its.length 0 lo)).toArray:=by
 obtain ⟨h1,h2,h3⟩:=GR lo hi its.toArray.size
 unfold slicePick
 rw [h1,h2,h3]
 simp only [sliceRange_one,pick_run,List.size_toArray] <;> rfl
def rSlL (K:PySem.W.Frag):V->Option Int->Option Int->Hp->VK->Prop:=fun x lo hi H Q=>∃ a xs,x=.ref a/\SqL K H a xs/\∀ p,H p=none->Q (.ref p) (upd H p (.lst (cutV xs lo hi)))
theorem sl_list:SlR X (rSlL X.K):=by
 intro pins s σ H x v vl vu lo hi sl Q I rx hs pl pu h
 obtain ⟨a,xs,rfl,hx,q⟩:=h
 cases rx
 obtain ⟨its,r,ht,hz⟩:=I.list hx
 have hlen:=r.length
 refine ⟨"list",_,slot_list_getitem.lookup,ht.isList.typeIs,?_⟩
 refine wpAny_getItem_list_slice ht.isList hs pl pu .none (by simp) ?_ (by rw [List.size_toArray] <;> omega)
 rw [Ga,<- hlen]
 refine ⟨.ref s.heap.objs.size,_,I.laid (t':=s.toks) (o:=.lst (cutV xs lo hi)) (fun b ob q=>Heap.get?_push_of_some _ q) (Nat.le_refl _) ?_,rfl,q _ (I.hok.fresh (Nat.le_refl _))⟩
 exact ⟨Nat.le_trans (E5 xs lo hi) hz,_,0,(r.drop (HT.sIx xs.length 0 lo)).take (HT.sIx xs.length xs.length hi - HT.sIx xs.length 0 lo),Heap.get?_push_size _ rfl⟩
def flatV:V->Bool
 | .non=>true
 | .bl _=>true
 | .int _=>true
 | .str _=>true
 | _=>false
def eqV:V->V->Bool
 | .non,.non=>true
 | .bl a,.bl b=>a == b
 | .bl a,.int b=>(if a then 1 else 0) == b
 | .int a,.bl b=>a == (if b then 1 else 0)
 | .int a,.int b=>a == b
 | .str a,.str b=>a == b
 | _,_=>false
theorem eqAt_V {A:Around} {s:Shared} {y x:V} {u v:Value} (ry:RelV y u) (rx:RelV x v) (fy:flatV y=true) (fx:flatV x=true):SeqAt.EqAt A s u v (eqV y x):=by
 cases y with
 | non =>
  cases ry
  cases x with
  | non=>cases rx;exact SeqAt.EqAt.same _
  | bl b=>cases rx;exact SeqAt.EqAt.none_bool b
  | int b=>obtain ⟨t,rfl⟩:=rx;exact SeqAt.EqAt.none_int b t
  | str b=>obtain ⟨t,rfl⟩:=rx;exact SeqAt.EqAt.none_str b t
  | _=>exact absurd (show false=true from fx) Bool.false_ne_true
 | bl a =>
  cases ry
  cases x with
  | non=>cases rx;exact SeqAt.EqAt.bool_none a
  | bl b=>cases rx;exact SeqAt.EqAt.bool_bool a b
  | int b=>obtain ⟨t,rfl⟩:=rx;exact SeqAt.EqAt.bool_int a b t
  | str b=>obtain ⟨t,rfl⟩:=rx;exact SeqAt.EqAt.bool_str a b t
  | _=>exact absurd (show false=true from fx) Bool.false_ne_true
 | int a =>
  obtain ⟨t',rfl⟩:=ry
  cases x with
  | non=>cases rx;exact SeqAt.EqAt.int_none a t'
  | bl b=>cases rx;exact SeqAt.EqAt.int_bool a t' b
  | int b=>obtain ⟨t,rfl⟩:=rx;exact SeqAt.EqAt.int_int a t' b t
  | str b=>obtain ⟨t,rfl⟩:=rx;exact SeqAt.EqAt.int_str a t' b t
  | _=>exact absurd (show false=true from fx) Bool.false_ne_true
 | str a =>
  obtain ⟨t',rfl⟩:=ry
  cases x with
  | non=>cases rx;exact SeqAt.EqAt.str_none a t'
  | bl b=>cases rx;exact SeqAt.EqAt.str_bool a t' b
  | int b=>obtain ⟨t,rfl⟩:=rx;exact SeqAt.EqAt.str_int a t' b t
  | str b=>obtain ⟨t,rfl⟩:=rx;exact SeqAt.EqAt.str_str a t' b t
  | _=>exact absurd (show false=true from fx) Bool.false_ne_true
 | _=>exact absurd (show false=true from fy) Bool.false_ne_true
theorem HC:CB X (.builtin "len") (fun xs H Q=>∃ p ys,xs=[.ref p]/\(SqL X.K H p ys∨SqT X.K H p ys)/\Q (.int ys.length) H):=by
 intro pins s σ H xs us Q I r h
 obtain ⟨p,ys,rfl,hq,q⟩:=h
 obtain ⟨u,rfl,rx⟩:=vals1 r
 cases rx
 have hn:=EV
 rcases hq with hq | hq
 ·obtain ⟨its,r',pl,hz⟩:=I.list hq
  have hlen:=r'.length
  exact Calls.call_len_list pl.isList (by simp only [List.size_toArray] <;> omega) ⟨.int ys.length,H,I.tok _,⟨s.toks+1,by rw [List.size_toArray,hlen]⟩,q⟩
 ·obtain ⟨its,r',pl,hz⟩:=I.tuple hq
  have hlen:=r'.length
  exact len_tuple pl (by simp only [List.size_toArray] <;> omega) ⟨.int ys.length,H,I.tok _,⟨s.toks+1,by rw [List.size_toArray,hlen]⟩,q⟩
theorem HB:CB X (.builtin "len") (fun xs H Q=>∃ z,xs=[.str z]/\z.length<=sizeLine/\Q (.int z.length) H):=by
 intro pins s σ H xs us Q I r h
 obtain ⟨z,rfl,hz,q⟩:=h
 obtain ⟨u,rfl,t,rfl⟩:=vals1 r
 have hn:=EV
 exact len_str (by omega) ⟨.int z.length,H,I.tok _,⟨_,rfl⟩,q⟩
theorem HA:CB X (.type "list") (fun xs H Q=>∃ p ys,xs=[.ref p]/\(SqL X.K H p ys∨SqT X.K H p ys)/\∀ l,H l=none->Q (.ref l) (upd H l (.lst ys))):=by
 intro pins s σ H xs us Q I r h
 obtain ⟨p,ys,rfl,hq,q⟩:=h
 obtain ⟨u,rfl,rx⟩:=vals1 r
 cases rx
 have fin:∀ (its:List Value),Vals ys its->ys.length<=sizeLine->∀ (h':Heap) (c':Nat),(∀ b o',s.heap.get? b=some o'->h'.get? b=some o') ->
   h'.get? s.heap.objs.size=some { cls:=.type "list",dict:=none,data:=.seq its.toArray c',slots:=#[] }->EP X pins σ Q (.ref s.heap.objs.size) { s with heap:=h' }:=fun its r' hz h' c' kp e =>
  ⟨.ref s.heap.objs.size,_,I.laid (t':=s.toks) kp (Nat.le_refl _) (show Bv X.prog X.w _ h' _ (.lst ys) from ⟨hz,its,c',r',e⟩),rfl,q _ (I.hok.fresh (Nat.le_refl _))⟩
 rcases hq with hq | hq
 ·obtain ⟨its,r',pl,hz⟩:=I.list hq
  have hlen:=r'.length
  obtain ⟨o,ho,hc,n,hd⟩:=pl.isList
  exact call_list_seq p (.inl rfl) ho hc hd (fun h' c' kp e=>fin its r' hz h' c' kp e) (by simp only [List.size_toArray] <;> omega)
 ·obtain ⟨its,r',pl,hz⟩:=I.tuple hq
  have hlen:=r'.length
  obtain ⟨o,ho,hc,n,hd⟩:=pl
  exact call_list_seq p (.inr rfl) ho hc hd (fun h' c' kp e=>fin its r' hz h' c' kp e) (by simp only [List.size_toArray] <;> omega)
theorem GA:CB X (.type "tuple") (fun xs H Q=>∃ p ys,xs=[.ref p]/\((SqL X.K H p ys/\∀ l,H l=none->Q (.ref l) (upd H l (.tup ys)))∨(SqT X.K H p ys/\Q (.ref p) H))):=by
 intro pins s σ H xs us Q I r h
 obtain ⟨p,ys,rfl,h⟩:=h
 obtain ⟨u,rfl,rx⟩:=vals1 r
 cases rx
 rcases h with ⟨hq,q⟩ | ⟨hq,q⟩
 ·obtain ⟨its,r',pl,hz⟩:=I.list hq
  have hlen:=r'.length
  refine call_tuple_list pl.isList (fun h' kp=>?_) (by simp only [List.size_toArray] <;> omega)
  have I1:Inv X pins σ H { s with heap:=h' }:=I.kept (t':=s.toks) kp
  have I2:Inv X pins σ (upd H h'.objs.size (.tup ys)) { s with heap:=h'.push { cls:=.type "tuple",data:=.seq its.toArray } } :=
   I1.laid (t':=s.toks) (fun b o e=>Heap.get?_push_of_some _ e) (Nat.le_refl _) (show Bv X.prog X.w _ _ _ (.tup ys) from ⟨hz,its,r',IsTup.new _ _⟩)
  exact ⟨.ref h'.objs.size,_,I2,rfl,q _ (I1.hok.fresh (Nat.le_refl _))⟩
 ·obtain ⟨its,r',pl,hz⟩:=I.tuple hq
  exact call_tuple_same pl ⟨.ref p,H,I,rfl,q⟩
def tyV (K:PySem.W.Frag) (T:String) (x:V) (H:Hp):Prop:=match x with
 | .str _=>T="str"
 | .int _=>T="int"
 | .ref p=>(T="list"/\∃ xs,SqL K H p xs)∨(T="tuple"/\∃ o,K.lookup p=some o/\o.cls=.type "tuple"/\o.dict=none) ∨
   (T="dict"/\((∃ kvs,H p=some (.dK kvs))∨∃ kvs,H p=some (.dT kvs)))∨(T="set"/\∃ S n,H p=some (.set S n))
 | _=>False
theorem tyV_is {pins:List (Addr×Obj)} {σ:St} {H:Hp} {s:Shared} {T:String} {x:V} {v:Value} (I:Inv X pins σ H s) (r:RelV x v) (ty:tyV X.K T x H) :
  s.TypeIs v T/\∀ a,v=.ref a->∃ ob,s.heap.get? a=some ob/\ob.dict=none:=by
 cases x with
 | str z =>
  obtain ⟨t,rfl⟩:=r
  cases (show T="str" from ty)
  exact ⟨typeIs_str s z t,fun _ e=>nomatch e⟩
 | int i =>
  obtain ⟨t,rfl⟩:=r
  cases (show T="int" from ty)
  exact ⟨typeIs_int s i t,fun _ e=>nomatch e⟩
 | ref p =>
  cases r
  rcases ty with ⟨rfl,xs,hq⟩ | ⟨rfl,o,hk,hc,hd⟩ | ⟨rfl,hk⟩ | ⟨rfl,S,n,hk⟩
  ·obtain ⟨its,_,pl,_⟩:=I.list hq
   refine ⟨pl.isList.typeIs,fun a e=>?_⟩
   cases e
   obtain ⟨o,n,e,c,hd,_⟩:=pl
   exact ⟨o,e,hd⟩
  ·refine ⟨⟨o,I.kIn p o hk,hc⟩,fun a e=>?_⟩
   cases e
   exact ⟨o,I.kIn _ o hk,hd⟩
  ·have z:∃ o,s.heap.get? p=some o/\o.ExactDict:=by
    rcases hk with ⟨kvs,hk⟩ | ⟨kvs,hk⟩
    ·obtain ⟨_,_,_,_,o,_,_,e,ex,_⟩:=I.hok p _ hk
     exact ⟨o,e,ex⟩
    ·obtain ⟨_,_,_,_,o,_,_,e,ex,_⟩:=I.hok p _ hk
     exact ⟨o,e,ex⟩
   obtain ⟨o,e,ex⟩:=z
   refine ⟨⟨o,e,ex.1⟩,fun a e2=>?_⟩
   cases e2
   exact ⟨o,e,ex.2.1⟩
  ·obtain ⟨o,_,_,_,e,ex,_⟩:=I.hok p _ hk
   refine ⟨⟨o,e,ex.1⟩,fun a e2=>?_⟩
   cases e2
   exact ⟨o,e,ex.2.1⟩
 | _=>exact False.elim ty
def tBM0 (K:PySem.W.Frag) (T:String) (r:V->List V->Hp->VK->Prop) (to:TE):TE:=fun σ H Q=>to σ H fun x H1=>tyV K T x H1/\r x [] H1 Q
def tBM (K:PySem.W.Frag) (T:String) (r:V->List V->Hp->VK->Prop) (to:TE) (t:TA):TE:=fun σ H Q=>to σ H fun x H1=>tyV K T x H1/\t σ H1 fun xs H2=>r x xs H2 Q
variable {o e:Expr} {es:List Expr} {to:TE} {t:TA} {name:Str} {apos cpos:Pos} {T id:String} {r:V->List V->Hp->VK->Prop}
theorem pe_bm0 (pa:PlainAttrs T) (slot:Slot T name id) (hty:typeOf (.builtin id)=pure (.type "method_descriptor")) (hm:MtR X id r) (ho:PE X o to)
  (hbase:attributeBase o name X.env (eval o X.env)=eval o X.env:=by rfl) (hline:(apos.endLine == cpos.line)=true:=by rfl):PE X (.Call (.Attribute o name apos) [] [] cpos) (tBM0 X.K T r to):=by
 intro pins s σ H Q I h
 refine wpAny_Call_method0_late hbase hline (thn (ho pins s σ H _ I h) fun v s1 ⟨x,H1,I1,r1,ty,q1⟩=>?_)
 obtain ⟨h1,h2⟩:=tyV_is I1 r1 ty
 exact ⟨T,id,pa,slot,hty,h1,h2,Calls.callWith_builtin rfl (PySem.evalArgs_none (hm pins s1 σ H1 x [] v [] Q I1 r1 .nil q1))⟩
theorem pe_bm (pa:PlainAttrs T) (slot:Slot T name id) (hty:typeOf (.builtin id)=pure (.type "method_descriptor")) (hm:MtR X id r) (ho:PE X o to) (ha:PA X (e :: es) t)
  (hbase:attributeBase o name X.env (eval o X.env)=eval o X.env:=by rfl)
  (hfew:((backTo cpos (starEach (e :: es) X.env)).all (fun x=>!x.1) && (backToKw cpos (keywordEach [] X.env)).all (fun x=>x.1.isSome)
   && decide ((e :: es).length+([]:List Keyword).length+(if ([]:List Keyword).isEmpty then 0 else 1) < 30))=true:=by rfl)
  (hline:(apos.endLine == cpos.line)=true:=by rfl) (hs:starEach (e :: es) X.env=(false,eval e X.env) :: starEach es X.env:=by rfl) (hplain:(backTo cpos (starEach es X.env)).any (·.1)=false:=by rfl) :
  PE X (.Call (.Attribute o name apos) (e :: es) [] cpos) (tBM X.K T r to t):=by
 intro pins s σ H Q I h
 refine wpAny_Call_method_late hbase hfew hline rfl (thn (ho pins s σ H _ I h) fun v s1 ⟨x,H1,I1,r1,ty,q1⟩=>?_)
 obtain ⟨h1,h2⟩:=tyV_is I1 r1 ty
 refine ⟨T,id,pa,slot,hty,h1,h2,?_⟩
 have hA:=ha cpos pins s1 σ H1 _ I1 q1
 rw [hs] at hA ⊢
 refine Calls.callWith_builtin (by show (false || (backTo cpos (starEach es X.env)).any (·.1))=false;rw [hplain] <;> rfl) (Calls.evalArgs_plain ?_)
 exact thn hA fun us s2 ⟨vs,H2,I2,r2,q2⟩=>hm pins s2 σ H2 x vs v us Q I2 r1 r2 q2
end
end L2
namespace L2
open PySem PySem.Spec PyProof.Rows
def MtM (X:Cx) (id:String) (r:V->List V->Hp->VK->Prop):Prop :=
 ∀ (pins:List (Addr×Obj)) (s:Shared) (σ:St) (H:Hp) (x:V) (xs:List V) (v:Value) (us:List Value) (Q:VK),Inv X pins σ H s->RelV x v->Vals xs us->r x xs H Q ->
  wpAny (model X.prog X.w) X.A (call (.builtin id) (v :: us)) (EP X pins σ Q) X.xe s
theorem Vals.one:∀ {x:V} {us:List Value},Vals [x] us->∃ u,us=[u]/\RelV x u
 | _,_,.cons r .nil=>⟨_,rfl,r⟩
theorem Vals.zero:∀ {us:List Value},Vals [] us->us=[]
 | _,.nil=>rfl
theorem Vals.dropLast {xs:List V} {us:List Value} (h:Vals xs us):Vals xs.dropLast us.dropLast:=by
 induction h with
 | nil=>exact .nil
 | cons r t ih =>
  cases t with
  | nil=>exact .nil
  | cons q t'=>exact .cons r ih
theorem Vals.reverse {xs:List V} {us:List Value} (h:Vals xs us):Vals xs.reverse us.reverse:=by
 induction h with
 | nil=>exact .nil
 | cons r t ih=>rw [List.reverse_cons,List.reverse_cons];exact Vals.append ih (.cons r .nil)
theorem erase_last {α:Type} (l:List α):l.eraseIdx (l.length - 1)=l.dropLast:=by
 induction l with
 | nil=>rfl
 | cons a r ih =>
  cases r with
  | nil=>rfl
  | cons b r =>
   have e:(a :: b :: r).length - 1=((b :: r).length - 1)+1:=by
    have h1:(a :: b :: r).length=r.length+2:=rfl
    have h2:(b :: r).length=r.length+1:=rfl
    omega
   rw [e,List.eraseIdx_cons_succ,ih]
   all_goals rfl
section
variable {X:Cx} {pins:List (Addr×Obj)} {σ:St} {H:Hp} {s:Shared} {l b:Addr} {xs ys zs:List V}
theorem Inv.lset {its its':List Value} {n:Nat} {f:Array Value->Array Value} {t':Nat} (I:Inv X pins σ H s) (hH:H l=some (.lst xs))
  (e:s.heap.get? l=some { cls:=.type "list",data:=.seq its.toArray n }) (hf:f its.toArray=its'.toArray) (hv:Vals ys its') (hz:ys.length<=sizeLine) :
  Inv X pins σ (upd H l (.lst ys)) { s with heap:=s.heap.update l (Obj.mapSeq f),toks:=t' }:=by
 have q:=PySem.IsL.update e f
 rw [hf] at q
 refine I.write (x:=l) (e:=l) (by rw [hH];exact trivial) (.inl rfl) (fun b' u hb hu=>(Heap.get?_update_other s.heap (Obj.mapSeq f) (Ne.symm hb)).trans hu) ⟨_,q⟩ ?_
 exact ⟨hz,its',_,hv,q⟩
theorem Inv.lnew {its:List Value} {t':Nat} (I:Inv X pins σ H s) (hv:Vals ys its) (hz:ys.length<=sizeLine) :
  Inv X pins σ (upd H s.heap.objs.size (.lst ys)) { s with heap:=s.heap.push { cls:=.type "list",data:=.seq its.toArray },toks:=t' } :=
 I.laid (fun _ _ q=>Heap.get?_push_of_some _ q) (Nat.le_refl _) ⟨hz,its,0,hv,Heap.get?_push_size _ rfl⟩
theorem Inv.fresh (I:Inv X pins σ H s):H s.heap.objs.size=none:=I.hok.fresh (Nat.le_refl _)
theorem Inv.lstM (I:Inv X pins σ H s) (hH:H l=some (.lst xs)):xs.length<=sizeLine/\∃ (its:List Value) (n:Nat),Vals xs its/\xs.length=its.length/\s.heap.get? l=some { cls:=.type "list",data:=.seq its.toArray n }:=by
 obtain ⟨z,its,n,r,e⟩:=I.hok l _ hH
 exact ⟨z,its,n,r,r.length,e⟩
end
section
variable {X:Cx}
def rAppend:V->List V->Hp->VK->Prop:=fun x vs H Q=>∃ l xs y,x=.ref l/\vs=[y]/\H l=some (.lst xs)/\xs.length < sizeLine/\Q .non (upd H l (.lst (xs++[y])))
theorem CH:MtM X "list.append" rAppend:=by
 intro pins s σ H x vs v us Q I rx rv h
 obtain ⟨l,xs,y,rfl,rfl,hH,hz,q⟩:=h
 cases rx
 obtain ⟨u,rfl,ru⟩:=rv.one
 obtain ⟨z,its,n,r,hl,e⟩:=I.lstM hH
 refine call_meets F.slot_list_append ⟨_,e,rfl⟩ F.entry_list_append (F.args_list_append_2 _ _) (PySem.list_append l its.toArray n u (by rw [List.size_toArray];omega)) ⟨e,?_⟩
 refine ⟨.non,_,I.lset (its':=its++[u]) hH e (by simp) (r.append (.cons ru .nil)) ?_,rfl,q⟩
 rw [List.length_append,List.length_singleton]
 omega
def rPop:V->List V->Hp->VK->Prop:=fun x vs H Q=>∃ l xs y,x=.ref l/\vs=[]/\H l=some (.lst xs)/\xs[xs.length - 1]?=some y/\Q y (upd H l (.lst xs.dropLast))
theorem mt_pop:MtM X "list.pop" rPop:=by
 intro pins s σ H x vs v us Q I rx rv h
 obtain ⟨l,xs,y,rfl,rfl,hH,hy,q⟩:=h
 cases rx
 have hus:=rv.zero
 subst hus
 obtain ⟨z,its,n,r,hl,e⟩:=I.lstM hH
 obtain ⟨u,hu,ru⟩:=r.get hy
 have hy':its.toArray[its.toArray.size - 1]?=some u:=by
  show its.toArray[its.length - 1]?=some u
  rw [<- Array.getElem?_toList,<- hl]
  exact hu
 refine call_meets F.slot_list_pop ⟨_,e,rfl⟩ F.entry_list_pop (F.args_list_pop_1 _) (MeetsSeq.list_pop_last l its.toArray n u hy' (by rw [List.size_toArray];omega)) ⟨e,?_⟩
 refine ⟨y,_,I.lset (its':=its.dropLast) hH e ?_ r.dropLast ?_,ru,q⟩
 ·show its.toArray.eraseIdxIfInBounds (its.toArray.size - 1)=its.dropLast.toArray
  rw [List.size_toArray,List.eraseIdxIfInBounds_toArray,erase_last]
 ·rw [List.length_dropLast]
  omega
def rCat:R2:=fun x y H Q=>∃ l b xs zs,x=.ref l/\y=.ref b/\H l=some (.lst xs)/\H b=some (.lst zs)/\xs.length+zs.length<=sizeLine/\∀ p,H p=none->Q (.ref p) (upd H p (.lst (xs++zs)))
theorem op_cat:OpR X (binaryOp .Add) rCat:=by
 intro pins s σ H x y v u Q I rx ry h
 obtain ⟨l,b,xs,zs,rfl,rfl,hH,hB,hz,q⟩:=h
 cases rx
 cases ry
 obtain ⟨z,its,n,r,hl,e⟩:=I.lstM hH
 obtain ⟨z2,its2,n2,r2,hl2,e2⟩:=I.lstM hB
 refine PySem.P.add_list e e2 ?_ (by rw [List.size_toArray,List.size_toArray];omega)
 have ea:its.toArray++its2.toArray=(its++its2).toArray:=by simp
 rw [ea]
 exact ⟨.ref _,_,I.lnew (t':=s.toks) (r.append r2) (by rw [List.length_append];omega),rfl,q _ I.fresh⟩
end
section
variable {prog:Program} {w:World} {A:Around} {E:Value->Shared->Prop} {s:Shared}
set_option maxRecDepth 100000 in
end
section
variable {X:Cx}
end
end L2
namespace L2
open PySem PySem.Spec PyProof.Rows
section
variable {κ:Type} [DecidableEq κ]
def valV (kvs:List (κ×V)) (k:κ):Option V:=(kvs.find? fun kv=>decide (kv.1=k)).map (·.2)
def putK (kvs:List (κ×V)) (k:κ) (v:V):List (κ×V) :=
 if (kvs.any fun kv=>decide (kv.1=k))=true then kvs.map (fun kv=>if kv.1=k then (kv.1,v) else kv) else kvs++[(k,v)]
theorem Er {p:κ×V} {r:List (κ×V)} {k:κ} (e:p.1=k):valV (p :: r) k=some p.2:=by simp [valV,List.find?_cons,e]
theorem Es {p:κ×V} {r:List (κ×V)} {k:κ} (e:¬ p.1=k):valV (p :: r) k=valV r k:=by simp [valV,List.find?_cons,e]
theorem valV_any (k:κ):∀ kvs:List (κ×V),(kvs.any fun kv=>decide (kv.1=k))=(valV kvs k).isSome
 | []=>rfl
 | p :: r=>by
  rw [List.any_cons]
  by_cases e:p.1=k
  ·simp only [Er e,decide_eq_true e,Bool.true_or,Option.isSome_some]
  ·rw [Es e,decide_eq_false e,Bool.false_or];exact valV_any k r
theorem EW (kvs:List (κ×V)) (k:κ) (v:V):(putK kvs k v).length<=kvs.length+1:=by
 unfold putK
 split
 ·rw [List.length_map];omega
 ·rw [List.length_append,List.length_cons,List.length_nil];omega
theorem A5.isSome_eq {o:Option V} {u:Option Value} (r:A5 o u):o.isSome=u.isSome:=by
 cases o with
 | none=>cases u with
  | none=>rfl
  | some _=>exact (show False from r).elim
 | some _=>cases u with
  | none=>exact (show False from r).elim
  | some _=>rfl
theorem KV.val {kvs:List (κ×V)} {vs:List (κ×Value)} (r:KV kvs vs) (k:κ):A5 (valV kvs k) (valueAt vs k):=by
 unfold KV at r
 induction r with
 | nil=>exact True.intro
 | @cons p q ps qs h t ih =>
  obtain ⟨h1,h2⟩:=h
  by_cases e:p.1=k
  ·have e':q.1=k:=h1.symm.trans e
   have b:valueAt (q :: qs) k=some q.2:=by simp [valueAt,List.find?_cons,e']
   rw [Er e,b];exact h2
  ·have e':¬ q.1=k:=fun z=>e (h1.trans z)
   have b:valueAt (q :: qs) k=valueAt qs k:=by simp [valueAt,List.find?_cons,e']
   rw [Es e,b];exact ih
theorem KV.any {kvs:List (κ×V)} {vs:List (κ×Value)} (r:KV kvs vs) (k:κ):(kvs.any fun kv=>decide (kv.1=k))=vs.any fun kv=>decide (kv.1=k):=by
 unfold KV at r
 induction r with
 | nil=>rfl
 | cons h t ih=>rw [List.any_cons,List.any_cons,ih,h.1]
theorem KV.repl {kvs:List (κ×V)} {vs:List (κ×Value)} (r:KV kvs vs) (k:κ) {y:V} {u:Value} (ry:RelV y u) :
  KV (kvs.map fun kv=>if kv.1=k then (kv.1,y) else kv) (vs.map fun kv=>if kv.1=k then (kv.1,u) else kv):=by
 unfold KV at r ⊢
 induction r with
 | nil=>exact .nil
 | @cons p q ps qs h t ih =>
  rw [List.map_cons,List.map_cons]
  refine .cons ?_ ih
  obtain ⟨h1,h2⟩:=h
  by_cases e:p.1=k
  ·rw [if_pos e,if_pos (h1.symm.trans e)];exact ⟨h1,ry⟩
  ·rw [if_neg e,if_neg (fun z=>e (h1.trans z))];exact ⟨h1,h2⟩
theorem KV.put {kvs:List (κ×V)} {vs:List (κ×Value)} (r:KV kvs vs) (k:κ) {y:V} {u:Value} (ry:RelV y u):KV (putK kvs k y) (stored vs k u):=by
 unfold putK stored
 rw [r.any k]
 by_cases e:(vs.any fun kv=>decide (kv.1=k))=true
 ·rw [if_pos e,if_pos e];exact r.repl k ry
 ·rw [if_neg e,if_neg e];exact Paired.snoc r ⟨rfl,ry⟩
theorem KV.length {kvs:List (κ×V)} {vs:List (κ×Value)} (r:KV kvs vs):kvs.length=vs.length:=Paired.length r
end
theorem kV_is {P:Program} {w:World} {k:Key} {u:Value} (r:RelV (kV k) u):(BF P w).is k u=true:=by
 cases k with
 | inl i=>obtain ⟨t,e⟩:=(show ∃ t,u=Value.int i t from r);subst e;exact mixKind_int P w i t
 | inr x=>obtain ⟨t,e⟩:=(show ∃ t,u=Value.str x t from r);subst e;exact mixKind_str P w x t
theorem Hl {P:Program} {w:World}:∀ {ks:List Key} {us:List Value},Vals (ks.map kV) us->ItemsAre (BF P w) ks us
 | [],_,r=>by rw [List.map_nil] at r;cases r;exact .nil
 | k :: ks,_,r=>by
  rw [List.map_cons] at r
  cases r with
  | cons h t=>exact .cons (kV_is h) (Hl t)
abbrev KT (H:Hp):List (List Key×V)->List (List Key×Addr×Value)->Prop:=Paired fun p q=>p.1=q.1/\H q.2.1=some (.tup (p.1.map kV))/\RelV p.2 q.2.2
theorem KT.val {H:Hp} {kvs:List (List Key×V)} {xs:List (List Key×Addr×Value)} (r:KT H kvs xs) (k:List Key):A5 (valV kvs k) ((atKey xs k).map (·.2)):=by
 induction r with
 | nil=>exact True.intro
 | @cons p q ps qs h t ih =>
  obtain ⟨h1,_,h2⟩:=h
  by_cases e:p.1=k
  ·have e':q.1=k:=h1.symm.trans e
   have b:atKey (q :: qs) k=some q.2:=by simp [atKey,List.find?_cons,e']
   rw [Er e,b];exact h2
  ·have e':¬ q.1=k:=fun z=>e (h1.trans z)
   have b:atKey (q :: qs) k=atKey qs k:=by simp [atKey,List.find?_cons,e']
   rw [Es e,b];exact ih
theorem KT.repl {H:Hp} {kvs:List (List Key×V)} {xs:List (List Key×Addr×Value)} (r:KT H kvs xs) (k:List Key) {y:V} {u:Value} (ry:RelV y u) :
  KT H (kvs.map fun kv=>if kv.1=k then (kv.1,y) else kv) (xs.map (putAt k u)):=by
 induction r with
 | nil=>exact .nil
 | @cons p q ps qs h t ih =>
  rw [List.map_cons,List.map_cons]
  refine .cons ?_ ih
  obtain ⟨h1,h2,h3⟩:=h
  unfold putAt
  by_cases e:p.1=k
  ·rw [if_pos e,if_pos (h1.symm.trans e)];exact ⟨h1,h2,ry⟩
  ·rw [if_neg e,if_neg (fun z=>e (h1.trans z))];exact ⟨h1,h2,h3⟩
theorem KT.put {H:Hp} {kvs:List (List Key×V)} {xs:List (List Key×Addr×Value)} (r:KT H kvs xs) (k:List Key) {b:Addr} {y:V} {u:Value} (hb:H b=some (.tup (k.map kV))) (ry:RelV y u) :
  KT H (putK kvs k y) (storedH xs k b u):=by
 have e:(kvs.any fun kv=>decide (kv.1=k))=(atKey xs k).isSome:=by
  rw [valV_any,(r.val k).isSome_eq,Option.isSome_map]
 unfold putK storedH
 rw [e]
 by_cases q:(atKey xs k).isSome=true
 ·rw [if_pos q,if_pos q];exact r.repl k ry
 ·rw [if_neg q,if_neg q];exact Paired.snoc r ⟨rfl,hb,ry⟩
theorem KT.keeps {H H':Hp} {kvs:List (List Key×V)} {xs:List (List Key×Addr×Value)} (r:KT H kvs xs) (ht:∀ b ys,H b=some (.tup ys)->H' b=some (.tup ys)):KT H' kvs xs :=
 Paired.mapP r fun _ _ z=>⟨z.1,ht _ _ z.2.1,z.2.2⟩
section
variable {P:Program} {w:World} {H:Hp} {h:Heap} {a:Addr}
theorem rd_of {u:HO} (ok:HOk P w H h) (e:Rd H a u):Bv P w H h a u:=e.ok ok
theorem dk_rd {kvs:List (Key×V)} (ok:HOk P w H h) (e:Rd H a (.dK kvs)):kvs.length<=sizeLine/\(a == sysModules)=false/\∃ vs,KV kvs vs/\h.DictOf (BF P w) a vs :=
 show Bv P w H h a (.dK kvs) from rd_of ok e
theorem dk_of {kvs:List (Key×V)} (ok:HOk P w H h) (e:H a=some (.dK kvs)):kvs.length<=sizeLine/\(a == sysModules)=false/\∃ vs,KV kvs vs/\h.DictOf (BF P w) a vs:=dk_rd ok (.inl e)
theorem key_of {ks:List Key} (ok:HOk P w H h) (e:H a=some (.tup (ks.map kV))):(tupleKind (BF P w)).is h ks a:=by
 obtain ⟨_,its,r,o,h1,h2,n,h3⟩:=(show Bv P w H h a (.tup (ks.map kV)) from ok a _ e)
 exact ⟨o,its.toArray,n,h1,h2,h3,by simpa using Hl r⟩
theorem dt_rd {kvs:List (List Key×V)} (ok:HOk P w H h) (e:Rd H a (.dT kvs)):kvs.length<=sizeLine/\(a == sysModules)=false /\
  ∃ xs,KT H kvs xs/\h.DictOfH (tupleKind (BF P w)) a xs:=by
 obtain ⟨z,y,xs,r,o,es,ep,h1,h2,h3,h4,h5⟩:=(show Bv P w H h a (.dT kvs) from rd_of ok e)
 refine ⟨z,y,xs,r,o,es,ep,h1,h2,h3,h4,fun x hx=>?_,h5⟩
 have all:∀ {l:List (List Key×V)} {m:List (List Key×Addr×Value)},KT H l m->∀ x∈m,(tupleKind (BF P w)).is h x.1 x.2.1:=by
  intro l m q
  induction q with
  | nil=>intro x hx;exact nomatch hx
  | @cons p q ps qs hq t ih =>
   intro x hx
   rcases List.mem_cons.mp hx with e | hx
   ·subst e
    exact key_of ok (by rw [<- hq.1];exact hq.2.1)
   ·exact ih x hx
 exact all r x hx
theorem dt_of {kvs:List (List Key×V)} (ok:HOk P w H h) (e:H a=some (.dT kvs)):kvs.length<=sizeLine/\(a == sysModules)=false /\
  ∃ xs,KT H kvs xs/\h.DictOfH (tupleKind (BF P w)) a xs:=dt_rd ok (.inl e)
end
def DGet (H:Hp) (a:Addr) (y:V) (r:Option V):Prop :=
 (∃ kvs k,Rd H a (.dK kvs)/\y=kV k/\r=valV kvs k)∨∃ kvs k b,Rd H a (.dT kvs)/\y=.ref b/\H b=some (.tup (k.map kV))/\r=valV kvs k
def DPut (H:Hp) (a:Addr) (y v:V) (H':Hp):Prop :=
 (∃ kvs k,H a=some (.dK kvs)/\y=kV k/\kvs.length < sizeLine/\H'=upd H a (.dK (putK kvs k v))) ∨
 ∃ kvs k b,H a=some (.dT kvs)/\y=.ref b/\H b=some (.tup (k.map kV))/\kvs.length < sizeLine/\H'=upd H a (.dT (putK kvs k v))
theorem DGet.t {H:Hp} {a b:Addr} {kvs:List (List Key×V)} {k:List Key} (e:H a=some (.dT kvs)) (eb:H b=some (.tup (k.map kV))):DGet H a (.ref b) (valV kvs k):=.inr ⟨kvs,k,b,.inl e,rfl,eb,rfl⟩
theorem DPut.k {H:Hp} {a:Addr} {kvs:List (Key×V)} {k:Key} {v:V} (e:H a=some (.dK kvs)) (hl:kvs.length < sizeLine):DPut H a (kV k) v (upd H a (.dK (putK kvs k v))):=.inl ⟨kvs,k,e,rfl,hl,rfl⟩
theorem DPut.t {H:Hp} {a b:Addr} {kvs:List (List Key×V)} {k:List Key} {v:V} (e:H a=some (.dT kvs)) (eb:H b=some (.tup (k.map kV))) (hl:kvs.length < sizeLine) :
  DPut H a (.ref b) v (upd H a (.dT (putK kvs k v))):=.inr ⟨kvs,k,b,e,rfl,eb,hl,rfl⟩
section
variable {X:Cx} {pins:List (Addr×Obj)} {σ:St} {H:Hp} {s:Shared} {a:Addr} {y v:V} {u r:Value} {o:Option V} {A:Around} {E:Value->Shared->Prop}
theorem d_getItem {Q:Value->Shared->Prop} (hu:A.units+1 < cLine) (I:Inv X pins σ H s) (g:DGet H a y (some v)) (ry:RelV y u) (h:∀ w' s',Inv X pins σ H s'->RelV v w'->Q w' s') :
  wpAny (model X.prog X.w) A (getItem (.ref a) u) Q E s:=by
 rcases g with ⟨kvs,k,e,ey,l⟩ | ⟨kvs,k,b,e,ey,eb,l⟩
 ·subst ey
  obtain ⟨z,hd,vs,rel,dd⟩:=dk_rd I.hok e
  obtain ⟨w',hw,rw'⟩:=A5.some_of (v:=v) (o:=valueAt vs k) (by rw [l];exact rel.val k)
  exact wpAny_getItem_of (kV_is ry) dd.mapOf hw (h w' _ (I.tok _) rw')
 ·subst ey
  cases (show u=Value.ref b from ry)
  obtain ⟨z,hd,xs,rel,dd⟩:=dt_rd I.hok e
  obtain ⟨w',hw,rw'⟩:=A5.some_of (v:=v) (o:=(atKey xs k).map (·.2)) (by rw [l];exact rel.val k)
  obtain ⟨p,hp,hp2⟩:=Option.map_eq_some_iff.mp hw
  refine wpAny_getItem_heap (tupleKind_room_in1 hu) (key_of I.hok eb) dd hp ?_
  rw [hp2]
  exact h w' _ (I.tok _) rw'
theorem d_write {h':Heap} {t':Nat} {ob:HO} (I:Inv X pins σ H s) (mu:Mut (H a)) (hs:Heap.SameBut a s.heap h') (he:∃ q,h'.get? a=some q) (new:Bv X.prog X.w (upd H a ob) h' a ob) :
  Inv X pins σ (upd H a ob) { s with heap:=h',toks:=t' } :=
 I.write (x:=a) (e:=a) mu (.inl rfl) (fun b q hb z=>(hs.2 b hb).trans z) he new
theorem dk_new {P:Program} {w:World} {H':Hp} {h':Heap} {kvs:List (Key×V)} {vs:List (Key×Value)} (z:kvs.length<=sizeLine) (hd:(a == sysModules)=false) (rel:KV kvs vs) (dd:h'.DictOf (BF P w) a vs) :
  Bv P w H' h' a (.dK kvs):=⟨z,hd,vs,rel,dd⟩
theorem d_setItem {H':Hp} {Q:Unit->Shared->Prop} (hu:A.units+1 < cLine) (I:Inv X pins σ H s) (g:DPut H a y v H') (ry:RelV y u) (rv:RelV v r) (h:∀ s',Inv X pins σ H' s'->Q () s') :
  wpAny (model X.prog X.w) A (setItem (.ref a) u r) Q E s:=by
 rcases g with ⟨kvs,k,e,ey,l,eH⟩ | ⟨kvs,k,b,e,ey,eb,l,eH⟩
 ·subst ey eH
  obtain ⟨z,hd,vs,rel,dd⟩:=dk_of I.hok e
  have hz:vs.length<=sizeLine:=by rw [<- rel.length];exact z
  have hl:(putK kvs k v).length<=sizeLine:=by have:=EW kvs k v;omega
  refine wpAny_setItem_pairs (hsz:=hz) (kV_is ry) dd fun h' dd' hs=>h _ ?_
  have he:∃ q,h'.get? a=some q:=let ⟨q,_,_,hq,_⟩:=dd';⟨q,hq⟩
  exact d_write I (by rw [e];exact True.intro) hs he (dk_new hl hd (rel.put k rv) dd')
 ·subst ey eH
  cases (show u=Value.ref b from ry)
  obtain ⟨z,hd,xs,rel,dd⟩:=dt_of I.hok e
  have hz:xs.length<=sizeLine:=by rw [<- Paired.length rel];exact z
  have hl:(putK kvs k v).length<=sizeLine:=by have:=EW kvs k v;omega
  refine wpAny_setItem_heap (hsz:=hz) (tupleKind_room_in1 hu) (key_of I.hok eb) dd fun h' dd' hs=>h _ ?_
  obtain ⟨q,es,ep,hq,h2,h3,h4,_,h5⟩:=dd'
  refine d_write I (by rw [e];exact True.intro) hs ⟨q,hq⟩ ⟨hl,hd,_,(rel.put k eb rv).keeps fun c ys ec=>?_,q,es,ep,hq,h2,h3,h4,h5⟩
  rw [Ay (ne_of ec e (fun z=>nomatch z))]
  exact ec
end
section
variable {X:Cx} {pins:List (Addr×Obj)} {σ:St} {H:Hp} {s:Shared} {a:Addr} {kvs:List (Key×V)} {k:Key} {u:Value} {A:Around} {E:Value->Shared->Prop}
theorem d_len {Q:Value->Shared->Prop} (I:Inv X pins σ H s) (e:Rd H a (.dK kvs)) (h:∀ t s',Inv X pins σ H s'->Q (.int kvs.length t) s'):wpAny (model X.prog X.w) A (call (.builtin "len") [.ref a]) Q E s:=by
 obtain ⟨z,hd,vs,rel,dd⟩:=dk_rd I.hok e
 refine call_len_dict hd dd (by rw [<- rel.length];rw [sizeLine_eq] at z;omega) ?_
 rw [<- rel.length]
 exact h _ _ (I.tok _)
end
theorem dict_typeIs {X:Cx} {pins:List (Addr×Obj)} {σ:St} {H:Hp} {s:Shared} {a:Addr} {y:V} {o:Option V} (I:Inv X pins σ H s) (g:DGet H a y o):s.TypeIs (.ref a) "dict":=by
 rcases g with ⟨kvs,k,e,_,_⟩ | ⟨kvs,k,b,e,_,_,_⟩
 ·obtain ⟨_,_,vs,_,dd⟩:=dk_rd I.hok e
  exact dd.typeIs
 ·obtain ⟨_,_,xs,_,dd⟩:=dt_rd I.hok e
  exact dd.typeIs
section
variable {X:Cx} {o i e value:Expr} {pos pos' tpos:Pos} {td ty tv:TE}
end
section
variable {X:Cx} {pos:Pos}
end
section
variable {X:Cx} {pins:List (Addr×Obj)} {σ:St} {H:Hp} {s:Shared} {a:Addr} {y d:V} {u r:Value} {o:Option V} {A:Around} {E:Value->Shared->Prop}
end
section
variable {X:Cx} {o e f:Expr} {apos cpos:Pos} {td ty tx:TE}
end
section
variable {X:Cx} {pins:List (Addr×Obj)} {σ:St} {H:Hp} {s:Shared} {a:Addr} {kvs:List (Key×V)} {A:Around} {E:Value->Shared->Prop}
end
section
variable {X:Cx} {pins:List (Addr×Obj)} {σ:St} {H:Hp} {s:Shared} {a:Addr} {y:V} {u:Value} {A:Around} {E:Value->Shared->Prop}
end
end L2
namespace Att
open PySem PySem.W PySem.Calls PyProof.Rows
theorem EX {P:Params} {h:Heap}:∀ (ns:List Int) (vs:List Value),WellAll P h vs (ns.map WData.int)->IntsAre vs ns:=by
 intro ns
 induction ns with
 | nil =>
  intro vs w
  rw [List.map_nil] at w
  cases w
  exact .nil
 | cons n ns ih =>
  intro vs w
  rw [List.map_cons] at w
  cases w with
  | cons a b =>
   cases a
   exact .cons _ _ (ih _ b)
theorem script_of {l:OpenLaw} {n:Nat} (hn:l.most=some n) {P:Params} {h:Heap} {args:List WData} {vals:List Value}
  (hpre:l.row.toRowW.claim.pre args=true) (hwl:WellAll P h vals args) :
  ∃ a vs ns,vals=[Value.ref a]/\args=[WData.list (ns.map WData.int)]/\h.get? a=some { cls:=.type "list",data:=.seq vs.toArray }/\IntsAre vs ns/\ns.length<=n:=by
 have hsh:WShape.hasAll [] args [.list .int]=true:=(pre_splitW hpre).1
 have hc:l.pre.holds [] { args:=args }=true:=(pre_splitW hpre).2
 obtain ⟨d,r,rfl,h1,h2⟩:=hasAllW_cons hsh
 obtain rfl:=hasAllW_nil h2
 obtain ⟨xs,rfl,h3⟩:=hasW_list h1
 obtain ⟨ns,rfl⟩:=items_int h3
 have hlen:ns.length<=n:=by
  unfold OpenLaw.pre at hc
  have h4:(WTm.not (.lt (.lit (.int (n:Int))) (.len (.arg 0)))).holds [] { args:=[.list (ns.map .int)] }=true:=by
   have h4:=(holds_andW hc).1
   rw [hn] at h4
   exact h4
  have h5:=condW_of h4 (w_not (w_lt w_lit (w_len_list (w_arg rfl))))
  rw [List.length_map] at h5
  refine Nat.le_of_not_lt fun q=>?_
  have q':(n:Int) < ((ns.length:Nat):Int):=by omega
  first
   | (rw [decide_eq_true q'] at h5;exact absurd h5 (by decide))
   | (simp at h5;omega)
 cases hwl with
 | cons w1 w2 =>
  cases w2
  cases w1 with
  | list ho hall=>exact ⟨_,_,ns,rfl,rfl,ho,EX ns _ hall,hlen⟩
theorem post_true (l:OpenLaw) (args:List WData):l.row.toRowW.claim.post args (.bool true) args=true :=
 postW_of (r:=l.row.toRowW) (X:=(true == true))
  (show WShape.has [] (.bool true) .bool=true by first | rfl | decide | simp [WShape.has,WShape.arms,WShape.armsAll])
  (show (WTm.eq .res (.lit (.bool true))).value [] { args:=args,res:=some (.bool true),after:=args }=some (.bool (true == true)) from w_eq_bool (w_res rfl) w_lit) rfl
section
variable {prog:Program} {w:World} {A:Around} {E:Value->Shared->Prop} {s:Shared} {K:Frag}
end
end Att
namespace L2
open PySem PySem.Spec PyProof.Rows
theorem GO:∀ {vs:List Value} {ns:List Int},IntsAre vs ns->Vals (ns.map V.int) vs
 | _,_,.nil=>.nil
 | _,_,.cons n t h=>.cons ⟨t,rfl⟩ (GO h)
def Only (H:Hp):Prop:=∀ b,H b=none∨∃ o xs,H b=some (.frz o (.lst xs))
theorem law_call {P:Program} {w:World} {K:PySem.W.Frag} {mg mb:Str->Option Value} {CX:CXT} {k:Nat} {fa a:Addr} {fd:FuncData} {x:Str} {sp:Sp} {s₁:Shared} {vs:List Value} {ns:List Int}
  (KX:K.In s₁.heap) (hns:s₁.heap.Ns mainGlobals mg) (hb:s₁.heap.Ns builtinsNs mb) (hbb:∀ x:Str,x≠"__name__"->mb x=bootBuiltins x) (hlim:s₁.heap.NoLimit) (hg:s₁.gens=#[])
  (ha:s₁.heap.get? a=some { cls:=.type "list",data:=.seq vs.toArray }) (hi:IntsAre vs ns) (hl:ns.length<=sizeLine) (hr:Ff k callerA)
  (F:∀ base:Heap,K.In base->base.Ns mainGlobals mg->Dh P w K mg base CX k fa fd [x] sp) (hbind:∀ (s:Shared) (u:Value),BindsTo s fd ⟨[u],[]⟩ [(x,u)])
  (hsp:∀ H:Hp,Only H->SqL K H a (ns.map V.int)->sp [.ref a] H (fun v _=>v=.bl true) fun _ _ _=>False)
  (hCX:∀ H e s',CX [] H s₁ (fun _ _ _=>False) e s'->False) :
  codeAny (model P w) callerA (.call (.ref fa) ⟨[.ref a],[]⟩) (fun r s'=>r=.ok (.ret (.bool true))/\OldK s₁.heap s'.heap/\s'.os=s₁.os/\AllBare s'.gens) s₁:=by
 have rv:=GO hi
 have lenV:=hi.length
 have core:∀ H:Hp,Only H->SqL K H a (ns.map V.int)->HOk P w H s₁.heap->(∀ b,H b≠none->b=a)->(H a≠none->K.lookup a=none) ->
   codeAny (model P w) callerA (.call (.ref fa) ⟨[.ref a],[]⟩) (fun r s'=>r=.ok (.ret (.bool true))/\OldK s₁.heap s'.heap/\s'.os=s₁.os/\AllBare s'.gens) s₁:=by
  intro H hO hS hok hA hK
  have base_of:∀ {b:Addr} {o:Obj},s₁.heap.get? b=some o->H b=none->(hidT s₁.heap H).get? b=some o:=fun e n=>hidT_get e n
  have noA:∀ {b:Addr} {o:Obj} {es:Array DictEntry} {ep:Nat},s₁.heap.get? b=some o->o.data=.dict es ep->H b=none:=fun {b o es ep} e d=>by
   cases q:H b with
   | none=>rfl
   | some u =>
    have e':b=a:=hA b (by rw [q];simp)
    subst e'
    rw [ha] at e;cases e
    have d':Data.seq vs.toArray _=Data.dict es ep:=d
    cases d'
  have nsK:∀ {b:Addr} {m:Str->Option Value},s₁.heap.Ns b m->(hidT s₁.heap H).Ns b m:=fun {b m} ⟨o,es,ep,e,d,r⟩=>⟨o,es,ep,base_of e (noA e d),d,r⟩
  have hKb:K.In (hidT s₁.heap H):=fun b o e=>base_of (KX b o e) (by
   cases q:H b with
   | none=>rfl
   | some u =>
    have e':b=a:=hA b (by rw [q];simp)
    subst e'
    rw [hK (by rw [q];simp)] at e;cases e)
  have hM:Mod K mg (hidT s₁.heap H):=⟨hKb,nsK hns,⟨mb,nsK hb,hbb⟩,let ⟨mc,h1,h2⟩:=hlim;⟨mc,nsK h1,h2⟩⟩
  have e0:Env0 P w K mg (hidT s₁.heap H) callerA [] s₁ H:=⟨rfl,hM,fun b o e=>of_hidT e,Nat.le_of_eq (hidT_size _ _),trivial,fun b hb=>absurd (show b∈([]:List Addr) from hb) (by simp),hok,.of_eq hg⟩
  refine codeAny_mono ((F _ hKb (nsK hns)).run callerA [] s₁ H ⟨[.ref a],[]⟩ [.ref a] [.ref a] _ _ hr e0 (hbind s₁ (.ref a)) (.cons rfl .nil) (hsp H hO hS)) fun r s' h=>?_
  cases r with
  | error e=>exact (hCX H e s' h).elim
  | ok fl =>
   cases fl with
   | next=>exact False.elim h
   | brk=>exact False.elim h
   | cont=>exact False.elim h
   | ret u =>
    obtain ⟨v,H',os,bare,un,hok',r',q⟩:=h
    have q':v=.bl true:=q
    subst q'
    obtain rfl:u=Value.bool true:=r'
    refine ⟨rfl,OldK.of_keep fun b o e=>?_,os,bare⟩
    cases q:H b with
    | none=>exact un.keep b o e q (by intro z;exact absurd (show b∈([]:List Addr) from z) (by simp)) (by simp)
    | some u =>
     rcases hO b with z | ⟨ob,xs,z⟩
     ·rw [q] at z;cases z
     ·have z2:=un.frzs b ob _ z
      obtain ⟨e1,_⟩:=hok b _ z
      obtain ⟨e2,_⟩:=hok' b _ z2
      rw [e] at e1;cases e1
      exact e2
 cases hk:K.lookup a with
 | some o =>
  have e:=KX a o hk
  rw [ha] at e
  cases e
  refine core (fun _=>none) (fun _=>.inl rfl) (.inr ⟨_,vs.toArray,_,hk,rfl,rfl,rfl,by rw [List.size_toArray,lenV];exact hl,by simpa using rv⟩) (fun b u z=>by have z':(none:Option HO)=some u:=z;cases z') (fun b z=>absurd rfl z) fun z=>absurd rfl z
 | none =>
  refine core (fun b=>if b=a then some (.frz { cls:=.type "list",data:=.seq vs.toArray } (.lst (ns.map V.int))) else none) (fun b=>?_) (.inl (.inr ⟨{ cls:=.type "list",data:=.seq vs.toArray },if_pos rfl⟩)) (fun b u z=>?_) (fun b z=>?_) fun _=>hk
  ·by_cases hb:b=a
   ·exact .inr ⟨_,_,if_pos hb⟩
   ·exact .inl (if_neg hb)
  ·by_cases hb:b=a
   ·have z':=(if_pos hb).symm.trans z
    cases z'
    subst hb
    exact ⟨ha,by rw [List.length_map];exact hl,vs,_,rv,ha⟩
   ·have z':=(if_neg hb).symm.trans z
    cases z'
  ·by_cases hb:b=a
   ·exact hb
   ·exact absurd (if_neg hb) z
end L2
namespace L2
open PySem PySem.Spec PyProof.Rows
end L2
namespace L2
open PySem PySem.Spec PyProof.Rows
def AY (s:Stmt):Arguments:=match s with
 | .FunctionDef _ a _ _ _ _ _ _ _ _=>a
 | _=>{ posonlyargs:=[],args:=[],vararg:=none,kwonlyargs:=[],kw_defaults:=[],kwarg:=none,defaults:=[] }
def AR (s:Stmt):List Stmt:=match s with
 | .FunctionDef _ _ b _ _ _ _ _ _ _=>b
 | _=>[]
def Ap (s:Stmt):Scope:=match s with
 | .FunctionDef _ _ _ _ _ _ sc _ _ _=>sc
 | _=>{ kind:=.function,names:=[],isGenerator:=false,isCoroutine:=false }
structure Fun (K:PySem.W.Frag) (x qual:Str) (st:Stmt) (f:Addr) (fd:FuncData):Prop where
 ex:∃ (oc:Value) (od:Option Addr) (kV doc pm:Value) (an:Option Addr) (cdv ct:Value) (osl:Array (Option Value)),
  fd=PySem.W.fnOf x qual (AY st) (AR st) (Ap st) .none kV doc pm an cdv ct/\K.lookup f=some ⟨oc,od,.func fd,osl⟩/\PySem.W.codeIn K cdv qual=true
 kp:PySem.W.keepIn K (.ref f)=true
section
variable {P:Program} {w:World} {K:PySem.W.Frag} {mg:Str->Option Value} {base:Heap}
theorem Fun.binds {x qual:Str} {st:Stmt} {f:Addr} {fd:FuncData} {ps:List Str} (F:Fun K x qual st f fd)
  (h:∀ (kV doc pm:Value) (an:Option Addr) (cdv ct:Value) (us:List Value),us.length=ps.length->bindArgs (PySem.W.fnOf x qual (AY st) (AR st) (Ap st) .none kV doc pm an cdv ct) ⟨us,[]⟩=pure (ps.zip us)):Binds K fd ps []:=by
 obtain ⟨oc,od,kV,doc,pm,an,cdv,ct,osl,rfl,lk,hcd⟩:=F.ex
 exact .all (h kV doc pm an cdv ct)
theorem BM {x qual:Str} {st:Stmt} {f:Addr} {oc:Value} {od an:Option Addr} {osl:Array (Option Value)} {kV doc pm cdv ct:Value} (l:K.lookup f=some ⟨oc,od,.func (PySem.W.fnOf x qual (AY st) (AR st) (Ap st) .none kV doc pm an cdv ct),osl⟩)
  (c:PySem.W.codeIn K cdv qual=true) (k:PySem.W.keepIn K (.ref f)=true):Fun K x qual st f (PySem.W.fnOf x qual (AY st) (AR st) (Ap st) .none kV doc pm an cdv ct):=⟨⟨oc,od,kV,doc,pm,an,cdv,ct,osl,rfl,l,c⟩,k⟩
end
theorem C3 {A:Around} {k:Nat} (hr:Ff k A):A.units+1 < cLine:=Nat.lt_of_le_of_lt (Nat.add_le_add_left (by decide:1<=64) _) hr.units
section
variable {X:Cx}
theorem pv (i:Nat) {x:Str} {pos:Pos} (hN:X.N[i]?=some x:=by rfl) (hv:Vis X.env.scope x:=by first | exact Or.inl rfl | exact Or.inr (Or.inl rfl) | exact Or.inr (Or.inr rfl)) (hd:(x == ("__debug__":Str))=false:=by decide)
  (hcd:(x == ("__classdict__":Str))=false:=by decide):PE X (.Name x pos) (tVar i):=pe_var hN hv hd hcd
end
section
variable {κ:Type} [DecidableEq κ]
end
end L2
namespace L2
open PySem PySem.Spec PyProof.Rows
theorem DG {env:Env}:∀ (l:List (Str×NameKind)) (cs:List (Str×Addr)),(∀ y∈l,y.2=.free->∃ c,env.cells.lookup y.1=some c)->(∀ n c,cs.lookup n=some c->env.cells.lookup n=some c) ->
  ∃ cl,(forIn l cs fun (x:Str×NameKind) (r:List (Str×Addr))=>match x with | (name,kind)=>if (kind == NameKind.free)=true then do let c <- cellOf env name;pure (ForInStep.yield ((name,c) :: r)) else pure (ForInStep.yield r))=(pure cl:Sem _) /\
   (∀ n c,cl.lookup n=some c->env.cells.lookup n=some c)/\(∀ y∈l,y.2=.free->∃ c,cl.lookup y.1=some c)/\(∀ n c,cs.lookup n=some c->∃ c',cl.lookup n=some c')
 | [],cs,_,h2=>⟨cs,rfl,h2,(fun _ h=>nomatch h),fun n c h=>⟨c,h⟩⟩
 | (n,k) :: r,cs,h1,h2=>by
  by_cases e:k=.free
  ·subst e
   obtain ⟨c,hc⟩:=h1 (n,.free) List.mem_cons_self rfl
   have e1:cellOf env n=(pure c:Sem _):=by unfold cellOf;rw [hc]
   have h3:∀ n' c',((n,c) :: cs).lookup n'=some c'->env.cells.lookup n'=some c':=fun n' c' q=>by
    rw [List.lookup_cons] at q
    cases hb:n' == n with
    | true=>rw [hb] at q;cases q;rw [beq_iff_eq.mp hb];exact hc
    | false=>rw [hb] at q;exact h2 _ _ q
   obtain ⟨cl,q1,q2,q3,q4⟩:=DG r ((n,c) :: cs) (fun y hy=>h1 y (List.mem_cons_of_mem _ hy)) h3
   have hself:∃ c',cl.lookup n=some c':=q4 n c (by simp)
   refine ⟨cl,?_,q2,fun y hy hf=>?_,fun n' c' q=>?_⟩
   ·rw [List.forIn_cons]
    simp only [beq_self_eq_true,if_true,e1,pure_bind]
    exact q1
   ·rcases List.mem_cons.mp hy with rfl | hy
    ·exact hself
    ·exact q3 y hy hf
   ·by_cases hb:n'=n
    ·subst hb;exact hself
    ·exact q4 n' c' (by rw [List.lookup_cons,beq_eq_false_iff_ne.mpr hb];exact q)
  ·obtain ⟨cl,q1,q2,q3,q4⟩:=DG r cs (fun y hy=>h1 y (List.mem_cons_of_mem _ hy)) h2
   refine ⟨cl,?_,q2,fun y hy hf=>?_,q4⟩
   ·rw [List.forIn_cons]
    have hb:(k == NameKind.free)=false:=by simpa using e
    simp only [hb,Bool.false_eq_true,if_false,pure_bind]
    exact q1
   ·rcases List.mem_cons.mp hy with rfl | hy
    ·exact absurd hf e
    ·exact q3 y hy hf
theorem DT {sc:Scope} {env:Env} (h:∀ y∈sc.names,y.2=.free->∃ c,env.cells.lookup y.1=some c) :
  ∃ cl,closureFor sc env=pure cl/\(∀ n c,cl.lookup n=some c->env.cells.lookup n=some c)/\(∀ y∈sc.names,y.2=.free->∃ c,cl.lookup y.1=some c):=by
 obtain ⟨cl,q1,q2,q3,_⟩:=DG (env:=env) sc.names [] h (fun n c q=>by simp at q)
 refine ⟨cl,?_,q2,q3⟩
 unfold closureFor
 simp only [bind_pure]
 refine Eq.trans ?_ q1
 congr 1
section
variable {prog:Program} {w:World} {A:Around} {R:Result->Shared->Prop} {s:Shared}
theorem Hw {elt target iter:Expr} {ifs:List Expr} {scope:Scope} {pos:Pos} {it acc:Value} {env:Env} (I:Nat->Shared->Prop)
  (turn:∀ n s,I n s->wpAny (model prog w) A (pyNext it) (fun r s₁=>match r with
   | none=>R (.ok .next) s₁
   | some v=>wpAny (model prog w) A (letOwnedTupleGo target it v) (fun _ s₁=>wpAny (model prog w) A (assign target env v) (fun _ s₂ =>
     wpAny (model prog w) A (forIn ifs true fun c r=>if r=true then do let ok <- isTrue c env (eval c env);pure (ForInStep.yield ok) else pure (ForInStep.yield r)) (fun ok s₃ =>
      if ok=true then wpAny (model prog w) A (eval elt env) (fun x s₄ =>
       wpAny (model prog w) A (call (.builtin "list.append") [acc,x]) (fun _ s₅=>∃ m,m < n/\I m s₅) (fun _ _=>False) s₄) (fun _ _=>False) s₃
      else ∃ m,m < n/\I m s₃) (fun _ _=>False) s₂) (fun _ _=>False) s₁) (fun _ _=>False) s₁) (fun _ _=>False) s)
  (n:Nat) (h:I n s) :
  codeAny (model prog w) A (.compLoop (.ListComp elt [⟨target,iter,ifs,0⟩] scope pos) 0 it acc env) R s:=by
 refine codeAny_loop rfl I (fun n s hI=>?_) n h
 show wpAny _ A ((compTurn (.ListComp elt [⟨target,iter,ifs,0⟩] scope pos) 0 it acc env).onRaise (fun x=>do noteFrame x env;theTreesLotGoes x)) _ _ s
 refine wpAny_noted ?_
 rw [compTurn_list]
 refine wpAny_bind (wpAny_standAt (wpAny_bind (wpAny_mono (turn n s hI) (fun r s₁ h₁=>?_) fun _ _ h'=>h'.elim)))
 cases r with
 | none=>exact wpAny_pure h₁
 | some v =>
  refine wpAny_bind (wpAny_mono h₁ (fun _ s₁' h₁'=>?_) fun _ _ h'=>h'.elim)
  refine wpAny_bind (wpAny_mono h₁' (fun _ s₂ h₂=>wpAny_bind (wpAny_mono h₂ (fun ok s₃ h₃=>?_) fun _ _ h'=>h'.elim)) fun _ _ h'=>h'.elim)
  cases ok with
  | false=>exact wpAny_pure ⟨rfl,h₃⟩
  | true =>
   exact wpAny_bind (wpAny_bind (wpAny_mono h₃ (fun x s₄ h₄=>wpAny_bind (wpAny_mono h₄ (fun _ s₅ h₅=>wpAny_pure (wpAny_pure ⟨rfl,h₅⟩)) fun _ _ h'=>h'.elim)) fun _ _ h'=>h'.elim))
end
structure CompSc (fn sc:Scope):Prop where
 kind:sc.kind=.function
 nocell:∀ y∈sc.names,y.2≠.cell
 loc:∀ y∈sc.names,y.2=.local->sc.names.lookup y.1=some .local
 fr:∀ y∈sc.names,y.2=.free->fn.names.lookup y.1=some .cell∨fn.names.lookup y.1=some .free
def FK (fn sc:Scope):Bool :=
 decide (sc.kind=.function) && sc.names.all fun y=>decide (y.2≠.cell) && (decide (y.2≠.local) || decide (sc.names.lookup y.1=some .local)) &&
  (decide (y.2≠.free) || decide (fn.names.lookup y.1=some .cell) || decide (fn.names.lookup y.1=some .free))
theorem Hv {fn sc:Scope} (h:FK fn sc=true):CompSc fn sc:=by
 unfold FK at h
 rw [Bool.and_eq_true,List.all_eq_true] at h
 obtain ⟨h1,h2⟩:=h
 refine ⟨of_decide_eq_true h1,fun y hy=>?_,fun y hy e=>?_,fun y hy e=>?_⟩
 all_goals
  have q:=h2 y hy
  rw [Bool.and_eq_true,Bool.and_eq_true] at q
  obtain ⟨⟨q1,q2⟩,q3⟩:=q
 ·exact of_decide_eq_true q1
 ·rw [Bool.or_eq_true] at q2
  rcases q2 with q | q
  ·exact absurd e (of_decide_eq_true q)
  ·exact of_decide_eq_true q
 ·rw [Bool.or_eq_true,Bool.or_eq_true] at q3
  rcases q3 with (q | q) | q
  ·exact absurd e (of_decide_eq_true q)
  ·exact .inl (of_decide_eq_true q)
  ·exact .inr (of_decide_eq_true q)
theorem Cu {env:Env} {x:Str} {k':NameKind}:∀ {names:List (Str×NameKind)},
  (names.map fun (n,k)=>if (k == NameKind.free && env.scope.kind == .function && env.kindOf n == some .cell) then (n,NameKind.cell) else (n,k)).lookup x=some k'->∃ k,names.lookup x=some k/\(k'=k∨(k=.free/\k'=.cell))
 | [],h=>by simp at h
 | (n,k) :: r,h=>by
  have h:List.lookup x ((if (k == NameKind.free && env.scope.kind == .function && env.kindOf n == some .cell)=true then (n,NameKind.cell) else (n,k)) :: _)=some k':=h
  cases hx:x == n with
  | true =>
   refine ⟨k,by simp [List.lookup_cons,hx],?_⟩
   by_cases hc:(k == NameKind.free && env.scope.kind == .function && env.kindOf n == some .cell)=true
   ·rw [if_pos hc] at h
    simp only [List.lookup_cons,hx] at h
    cases h
    rw [Bool.and_eq_true,Bool.and_eq_true] at hc
    exact .inr ⟨beq_iff_eq.mp hc.1.1,rfl⟩
   ·rw [if_neg hc] at h
    simp only [List.lookup_cons,hx] at h
    cases h
    exact .inl rfl
  | false =>
   have h':List.lookup x (r.map fun (n,k)=>if (k == NameKind.free && env.scope.kind == .function && env.kindOf n == some .cell) then (n,NameKind.cell) else (n,k))=some k':=by
    by_cases hc:(k == NameKind.free && env.scope.kind == .function && env.kindOf n == some .cell)=true
    ·rw [if_pos hc] at h
     simpa only [List.lookup_cons,hx] using h
    ·rw [if_neg hc] at h
     simpa only [List.lookup_cons,hx] using h
   obtain ⟨k0,e1,e2⟩:=Cu h'
   exact ⟨k0,by simp only [List.lookup_cons,hx];exact e1,e2⟩
def BS (X:Cx) (N:List Str) (sc:Scope) (cl:List (Str×Addr)) (C:Addr) (s:Shared) (H:Hp) (ex:List Addr):Cx :=
 { X with N:=N,s₀:=s,H₀:=H,env:=compEnvC sc cl C X.env,outer:=X.stack,stack:=X.stack,ex:=ex,fn:=fun _=>false,xe:=fun _ _=>False }
def D8 (XN:List Str) (sc:Scope):List Str->List (Option Nat)->Bool
 | [],[]=>true
 | n :: r,none :: q=>D8 XN sc r q
 | n :: r,some i :: q=>decide (XN[i]?=some n) && decide (sc.names.lookup n=some .free) && D8 XN sc r q
 | _,_=>false
def Ep (σ:St) (src:List (Option Nat)):St:=src.map fun o=>o.bind fun i=>(σ[i]?).join
theorem E9 {XN:List Str} {sc:Scope}:∀ {N:List Str} {src:List (Option Nat)},D8 XN sc N src=true->src.length=N.length
 | [],[],_=>rfl
 | _ :: r,none :: q,h=>by rw [List.length_cons,List.length_cons,E9 (N:=r) (src:=q) h]
 | _ :: r,some i :: q,h=>by
  unfold D8 at h
  rw [Bool.and_eq_true] at h
  rw [List.length_cons,List.length_cons,E9 (N:=r) (src:=q) h.2]
 | [],_ :: _,h=>by cases h
 | _ :: _,[],h=>by cases h
theorem Hz {XN:List Str} {sc:Scope}:∀ {N:List Str} {src:List (Option Nat)} {j i:Nat} {n:Str},D8 XN sc N src=true->N[j]?=some n->src[j]?=some (some i)->XN[i]?=some n/\sc.names.lookup n=some .free
 | [],_,j,i,n,_,h1,_=>by simp at h1
 | _ :: _,[],j,i,n,_,_,h2=>by simp at h2
 | n0 :: r,o :: q,0,i,n,h,h1,h2=>by
  simp at h1 h2
  subst h1
  subst h2
  unfold D8 at h
  rw [Bool.and_eq_true,Bool.and_eq_true] at h
  exact ⟨of_decide_eq_true h.1.1,of_decide_eq_true h.1.2⟩
 | n0 :: r,o :: q,j+1,i,n,h,h1,h2=>by
  refine Hz (N:=r) (src:=q) (j:=j) ?_ (by simpa using h1) (by simpa using h2)
  cases o with
  | none=>exact h
  | some k =>
   unfold D8 at h
   rw [Bool.and_eq_true] at h
   exact h.2
section
variable {X:Cx} {pins:List (Addr×Obj)} {σ:St} {H:Hp} {s:Shared} {fp:List Addr} {N:List Str} {sc:Scope} {cl:List (Str×Addr)} {C:Addr} {src:List (Option Nat)}
theorem blk_ok (I:Inv X pins σ H s) (hf:∀ b∈fp,HM X pins H b) (hfs:∀ b∈fp,b < s.heap.objs.size) (hS:CompSc X.env.scope sc) (hC:s.heap.objs.size<=C)
  (hc1:∀ n c,cl.lookup n=some c->X.env.cells.lookup n=some c) (hc2:∀ y∈sc.names,y.2=.free->∃ c,cl.lookup y.1=some c):(BS X N sc cl C s H fp).Ok where
 mod:=I.ok.mod
 kind:=hS.kind
 glob:=I.ok.glob
 blt:=I.ok.blt
 above:=hC
 inj:=fun x y c h1 h2=>I.ok.inj x y c (hc1 _ _ h1) (hc1 _ _ h2)
 has:=fun x hx=>by
  have free:∀ k',(k'=NameKind.cell∨k'=NameKind.free)->(relabel sc X.env).names.lookup x=some k'->∃ c,cl.lookup x=some c:=fun k' hk e=>by
   obtain ⟨k,e1,e2⟩:=Cu (env:=X.env) e
   have hm:=PySem.mem_of_lookup e1
   have hk2:k=.free:=by
    rcases e2 with e2 | ⟨e2,_⟩
    ·subst e2
     rcases hk with hk | hk
     ·exact absurd hk (hS.nocell _ hm)
     ·exact hk
    ·exact e2
   exact hc2 _ hm hk2
  rcases hx with hx | hx
  ·exact free _ (.inl rfl) hx
  ·exact free _ (.inr rfl) hx
 cab:=fun x c h _=>absurd (show false=true from h) Bool.false_ne_true
 hd:=I.ok.hd
 frames:=I.ok.frames
 stk:=.inl rfl
 exf:=fun b hb=>⟨Nat.ne_of_lt (Nat.lt_of_lt_of_le (hfs b hb) hC),fun x c e=>(hf b hb).2.2.2.2.1 x c (hc1 x c e)⟩
 bs:=I.bs
 bsz:=Nat.le_trans I.ok.bsz I.sz
 noex:=fun b o e hb=>by
  rcases (hf b hb).2.2.2.1 with z | z
  ·exact I.ok.noex b o e z
  ·exact absurd (Nat.lt_of_lt_of_le (Heap.lt_size e) (Nat.le_trans I.ok.bsz z)) (Nat.lt_irrefl _)
 exfs:=fun b hb hz=>by
  rcases List.mem_cons.mp (I.GQ b hz) with z | z
  ·exact (hf b hb).2.1 z
  ·exact (hf b hb).2.2.1 z
 funs:=I.stack
 frf:=I.HS
theorem blk_inv {D:Addr} {h':Heap} {tk:Nat} {m:Str->Option Value} (I:Inv X pins σ H s) (hf:∀ b∈fp,HM X pins H b) (hfs:∀ b∈fp,b < s.heap.objs.size) (hS:CompSc X.env.scope sc)
  (hc1:∀ n c,cl.lookup n=some c->X.env.cells.lookup n=some c) (hc2:∀ y∈sc.names,y.2=.free->∃ c,cl.lookup y.1=some c) (hcap:D8 X.N sc N src=true)
  (hD:s.heap.objs.size<=D) (hC:s.heap.objs.size<=C) (hDC:D≠C) (hk:∀ b o,s.heap.get? b=some o->h'.get? b=some o) (hn:h'.Ns C m) (hl:h'.get? D=some { cls:=.type "list",data:=.seq (#[]:Array Value) }) :
  Inv (BS X N sc cl C s H fp) pins (Ep σ src) (upd H D (.lst [])) { s with heap:=h',toks:=tk }:=by
 have fD:H D=none:=I.hok.fresh hD
 have fC:H C=none:=I.hok.fresh hC
 have old:∀ {b:Addr} {o:Obj},s.heap.get? b=some o->b≠D/\b≠C:=fun {b o} e=>⟨Nat.ne_of_lt (Nat.lt_of_lt_of_le (Heap.lt_size e) hD),Nat.ne_of_lt (Nat.lt_of_lt_of_le (Heap.lt_size e) hC)⟩
 refine ⟨blk_ok I hf hfs hS hC hc1 hc2,rfl,I.bare,Un.laid hk hD fD,⟨m,hn,fun j x v e1 e2 e3=>?_⟩,fun x c e=>?_,?_,fun x c e=>?_,fun p hp=>?_,I.hok.laid hk hD ⟨Nat.zero_le _,[],0,.nil,hl⟩,?_⟩
 ·unfold Ep at e2
  rw [List.getElem?_map] at e2
  cases q:src[j]? with
  | none=>rw [q] at e2;cases e2
  | some o =>
   rw [q] at e2
   cases o with
   | none=>cases e2
   | some i =>
    have e2':(σ[i]?).join=some v:=Option.some.inj e2
    have e4:σ[i]?=some (some v):=by
     cases r:σ[i]? with
     | none=>rw [r] at e2';cases e2'
     | some u=>rw [r] at e2';cases u with
      | none=>cases e2'
      | some u=>have e5:some u=some v:=e2';cases e5;rfl
    obtain ⟨g1,g2⟩:=Hz hcap e1 q
    obtain ⟨m0,_,hl0⟩:=I.loc
    have hfr:=hS.fr _ (PySem.mem_of_lookup g2) rfl
    obtain ⟨u,ru,lk⟩:=hl0 i x v g1 e4 (hfr.elim (fun z=>.inr (.inl z)) fun z=>.inr (.inr z))
    refine ⟨u,ru,.inr ⟨?_,?_⟩⟩
    ·rcases e3 with e3 | e3 | e3
     ·obtain ⟨k,r1,r2⟩:=Cu (env:=X.env) (show (relabel sc X.env).names.lookup x=some .local from e3)
      rw [g2] at r1
      cases r1
      rcases r2 with r2 | ⟨_,r2⟩ <;> cases r2
     ·exact .inl e3
     ·exact .inr e3
    ·obtain ⟨c,hc⟩:=hc2 _ (PySem.mem_of_lookup g2) rfl
     refine ⟨c,hc,?_⟩
     rcases lk with ⟨lk,_⟩ | ⟨_,c',hc',z⟩
     ·rcases hfr with z | z
      ·have z':X.env.kindOf x=some .cell:=z
       rw [lk] at z';cases z'
      ·have z':X.env.kindOf x=some .free:=z
       rw [lk] at z';cases z'
     ·have:=hc1 _ _ hc
      rw [hc'] at this
      cases this
      obtain ⟨o,ho,hd⟩:=z
      exact ⟨o,hk _ _ ho,hd⟩
 ·obtain ⟨v,o,ho,hd⟩:=I.cell x c (hc1 x c e)
  exact ⟨v,o,hk _ _ ho,hd⟩
 ·show upd H D (.lst []) C=none
  rw [Ay (Ne.symm hDC)]
  exact fC
 ·obtain ⟨v,o,ho,hd⟩:=I.cell x c (hc1 x c e)
  rw [Ay (old ho).1]
  exact I.freeC x c (hc1 x c e)
 ·obtain ⟨p1,p2,p3,p4,p5⟩:=I.pin p hp
  refine ⟨hk _ _ p1,by rw [Ay (old p1).1];exact p2,(old p1).2,fun z=>?_,p5⟩
  rcases List.mem_cons.mp (I.GQ _ z) with z | z
  ·exact p3 z
  ·exact p4 z
 ·show (Ep σ src).length=N.length
  unfold Ep
  rw [List.length_map]
  exact E9 hcap
end
def PIfs (X:Cx) (ifs:List Expr) (t:TT):Prop :=
 ∀ (pins:List (Addr×Obj)) (s:Shared) (σ:St) (H:Hp) (Q:Bool->Hp->Prop),Inv X pins σ H s->t σ H Q ->
  wpAny (model X.prog X.w) X.A (forIn ifs true fun c r=>if r=true then do let ok <- isTrue c X.env (eval c X.env);pure (ForInStep.yield ok) else pure (ForInStep.yield r)) (TP X pins σ Q) X.xe s
def tYes:TT:=fun _ H Q=>Q true H
theorem pifs_nil {X:Cx}:PIfs X [] tYes:=fun pins s σ H Q I h=>wpAny_pure ⟨H,I,h⟩
theorem pifs_one {X:Cx} {c:Expr} {t:TT} (h:PT X c t):PIfs X [c] t:=by
 intro pins s σ H Q I q
 rw [List.forIn_cons]
 simp only [if_true]
 refine wpAny_bind (wpAny_bind (thn (h pins s σ H Q I q) fun b s1 q1=>wpAny_pure ?_))
 exact wpAny_pure q1
def compW (J:It) (g:TG) (tt:TT) (te:TE) (Q:VK) (τ0:St) (H1:Hp):Prop:=∀ D,H1 D=none ->
 ∃ W:Nat->Nat->St->Hp->Prop,(∃ m,W 0 m τ0 (upd H1 D (.lst [])))/\∀ i m τ H2,W i m τ H2 ->
  (J.stop i H2/\Q (.ref D) H2)∨(J.go i H2/\∃ N:St->Hp->Prop,(∀ τ' H',N τ' H'->∃ m',m' < m/\W (i+1) m' τ' H')/\∀ x H3,J.yld i H2 x H3->g x τ H3 fun τ2 H4=>tt τ2 H4 fun b H5 =>
   if b=true then te τ2 H5 fun y H6=>∃ ys,H6 D=some (.lst ys)/\ys.length < sizeLine/\N τ2 (upd H6 D (.lst (ys++[y]))) else N τ2 H5)
def tComp (src:List (Option Nat)) (wi:TI) (g:TG) (tt:TT) (te:TE):TE:=fun σ H Q=>wi σ H fun J H1=>compW J g tt te Q (Ep σ src) H1
section
variable {X:Cx} {tg iter elt:Expr} {ifs:List Expr} {sc:Scope} {pos:Pos} {N:List Str} {src:List (Option Nat)} {wi:TI} {g:TG} {tt:TT} {te:TE}
theorem comp_run (hcalm:X.calm=true) (hS:CompSc X.env.scope sc) (hcap:D8 X.N sc N src=true)
  (hg:∀ cl C s H fp,PG (BS X N sc cl C s H fp) tg g) (ht:∀ cl C s H fp,PIfs (BS X N sc cl C s H fp) ifs tt) (he:∀ cl C s H fp,PE (BS X N sc cl C s H fp) elt te)
  {pins:List (Addr×Obj)} {s:Shared} {σ:St} {H:Hp} {it:Addr} {fp:List Addr} {tn:Nat->Heap->Prop} {J:It} {cl:List (Str×Addr)} {Q:VK} {E:Value->Shared->Prop} {RR:Value->Addr->Result->Shared->Prop}
  (hc1:∀ n c,cl.lookup n=some c->X.env.cells.lookup n=some c) (hc2:∀ y∈sc.names,y.2=.free->∃ c,cl.lookup y.1=some c)
  (I:Inv X pins σ H s) (T:Turn X.prog X.w X.K tg J fp it tn) (t0:tn 0 s.heap) (hf:∀ b∈fp,HM X pins H b) (hw:compW J g tt te Q (Ep σ src) H)
  (hR:∀ (D C:Addr) (s':Shared) (τ:St) (H':Hp) (m:Str->Option Value),s.heap.objs.size<=C->s'.heap.Ns C m->Inv (BS X N sc cl C s H fp) pins τ H' s'->(∀ b∈fp,H' b=none)->Q (.ref D) H'->RR (.ref D) C (.ok .next) s') :
  wpAny (model X.prog X.w) X.A (newList []) (fun acc s₃=>wpAny (model X.prog X.w) X.A (newFunctionEnv sc X.env.globals cl [] X.env.qual none .none (some X.env)) (fun cenv s₄ =>
   codeAny (model X.prog X.w) X.A (.compStart (.ListComp elt [⟨tg,iter,ifs,0⟩] sc pos) 0 (.ref it) acc { cenv with scope:=relabel sc X.env }) (RR acc cenv.locals) s₄) E s₃) E s:=by
 have hfs:∀ b∈fp,b < s.heap.objs.size:=fun b hb=>by
  obtain ⟨o,e,_⟩:=T.obj 0 _ t0 b hb
  exact Heap.lt_size e
 refine wpAny_newObj_type (wpAny_newFunctionEnv hS.nocell (by intro y hy;simp at hy) (fun h₁ hns₁ hsb₁=>?_) hS.kind)
 dsimp only at hns₁ hsb₁ ⊢
 generalize hH2:s.heap.push { cls:=.type "list",dict:=none,data:=.seq ([]:List Value).toArray }=H2 at hns₁ hsb₁ ⊢
 have hC:H2.objs.size=s.heap.objs.size+1:=by rw [<- hH2,Heap.size_push]
 have hDC:s.heap.objs.size≠H2.objs.size:=by rw [hC];exact Nat.ne_of_lt (Nat.lt_succ_self _)
 have hCle:s.heap.objs.size<=H2.objs.size:=by rw [hC];exact Nat.le_succ _
 have old:∀ b o,s.heap.get? b=some o->h₁.get? b=some o:=fun b o e=>hsb₁.extBut b o (Nat.ne_of_lt (Nat.lt_of_lt_of_le (Heap.lt_size e) hCle)) (Heap.get?_push_of_some _ (hH2▸Heap.get?_push_of_some _ e))
 have hacc:h₁.get? s.heap.objs.size=some { cls:=.type "list",data:=.seq (#[]:Array Value) }:=hsb₁.extBut _ _ hDC (Heap.get?_push_of_some _ (hH2▸Heap.get?_push_size _ rfl))
 have fresh:H s.heap.objs.size=none:=I.hok.fresh (Nat.le_refl _)
 obtain ⟨W,⟨m0,w0⟩,turn⟩:=hw s.heap.objs.size fresh
 have Y0:Inv (BS X N sc cl H2.objs.size s H fp) pins (Ep σ src) (upd H s.heap.objs.size (.lst [])) { s with heap:=h₁,toks:=s.toks+([]:List (Str×Value)).length } :=
  blk_inv I hf hfs hS hc1 hc2 hcap (Nat.le_refl _) hCle hDC old hns₁ hacc
 have t1:tn 0 h₁:=T.keep 0 _ _ t0 fun b _ o e=>old b o e
 have fp0:∀ b∈fp,upd H s.heap.objs.size (.lst []) b=none:=fun b hb=>by
  rw [Ay (Nat.ne_of_lt (hfs b hb))]
  exact (hf b hb).1
 have stat:∀ {H':Hp},(∀ b∈fp,H' b=none)->∀ b∈fp,HM (BS X N sc cl H2.objs.size s H fp) pins H' b:=fun {H'} hn b hb =>
  ⟨hn b hb,Nat.ne_of_lt (Nat.lt_of_lt_of_le (hfs b hb) hCle),Y0.ok.exfs b hb,.inl hb,(Y0.ok.exf b hb).2,(hf b hb).2.2.2.2.2⟩
 have loop:∀ s₃:Shared,s₃={ s with heap:=h₁,toks:=s.toks+([]:List (Str×Value)).length } ->
   codeAny (model X.prog X.w) X.A (.compLoop (.ListComp elt [⟨tg,iter,ifs,0⟩] sc pos) 0 (.ref it) (.ref s.heap.objs.size) (compEnvC sc cl H2.objs.size X.env)) (RR (.ref s.heap.objs.size) H2.objs.size) s₃:=by
  rintro s₃ rfl
  refine Hw (fun n s'=>∃ i τ H',Inv (BS X N sc cl H2.objs.size s H fp) pins τ H' s'/\tn i s'.heap/\(∀ b∈fp,H' b=none)/\W i n τ H') ?_ m0 ⟨0,_,_,Y0,t1,fp0,w0⟩
  rintro n s4 ⟨i,τ,H4,I4,t4,fr4,w4⟩
  rcases turn i n τ H4 w4 with ⟨stop,qn⟩ | ⟨go,Nx,hNx,step⟩
  ·refine thn (T.done (BS X N sc cl H2.objs.size s H fp) rfl rfl rfl hcalm i pins s4 τ H4 _ I4 (stat fr4) t4 stop) fun r s5 ⟨hr,I5⟩=>?_
   subst hr
   obtain ⟨m5,hn5,_⟩:=I5.loc
   exact hR _ _ s5 τ H4 m5 hCle hn5 I5 fr4 qn
  ·refine thn (T.item (BS X N sc cl H2.objs.size s H fp) rfl rfl rfl hcalm i pins s4 τ H4 _ I4 (stat fr4) t4 go) fun r s5 ⟨u,hr,h5⟩=>?_
   subst hr
   refine thn h5 fun _ s6 ⟨x,H6,I6,r6,y6,st6,fr6⟩=>?_
   have I6':=I6.pinned (stat fr6) (T.obj _ _ st6)
   have again:∀ {τ7:St} {H7:Hp} {s7:Shared} {m':Nat},Inv (BS X N sc cl H2.objs.size s H fp) (pins++Hd fp s6.heap) τ7 H7 s7->m' < n->W (i+1) m' τ7 H7 ->
     ∃ m,m < n/\∃ i τ H',Inv (BS X N sc cl H2.objs.size s H fp) pins τ H' s7/\tn i s7.heap/\(∀ b∈fp,H' b=none)/\W i m τ H':=fun {τ7 H7 s7 m'} I7 hm w7=>by
    refine ⟨m',hm,i+1,τ7,H7,I7.Eu,T.keep _ _ _ st6 fun b hb o e=>(I7.pin (b,o) (List.mem_append_right _ (List.mem_append_right _ (Dw hb e)))).1,fun b hb=>?_,w7⟩
    obtain ⟨o,e,d⟩:=T.obj _ _ st6 b hb
    exact (I7.pin (b,o) (List.mem_append_right _ (List.mem_append_right _ (Dw hb e)))).2.1
   refine thn (hg cl H2.objs.size s H fp _ s6 τ H6 x u _ I6' r6 (step x H6 y6)) fun _ s7 ⟨τ7,H7,I7,q7⟩=>?_
   refine thn (ht cl H2.objs.size s H fp _ s7 τ7 H7 _ I7 q7) fun b s8 ⟨H8,I8,q8⟩=>?_
   cases b with
   | false =>
    rw [if_neg Bool.false_ne_true] at q8 ⊢
    obtain ⟨m',hm,w8⟩:=hNx _ _ q8
    exact again I8 hm w8
   | true =>
    rw [if_pos rfl] at q8 ⊢
    refine thn (he cl H2.objs.size s H fp _ s8 τ7 H8 _ I8 q8) fun v s9 ⟨y,H9,I9,r9,ys,hD9,hz,w9⟩=>?_
    obtain ⟨m',hm,w9⟩:=hNx _ _ w9
    refine thn (CH _ s9 τ7 H9 (.ref s.heap.objs.size) [y] (.ref s.heap.objs.size) [v] (fun _ Hn=>W (i+1) m' τ7 Hn) I9 rfl (.cons r9 .nil) ⟨_,ys,y,rfl,rfl,hD9,hz,w9⟩) fun _ s10 ⟨_,H10,I10,_,w10⟩=>?_
    exact again I10 hm w10
 exact codeAny_compStart_list (loop _ rfl) (T.self X.A 0 _ _ _ t1 (loop _ rfl))
theorem blk_end {pins:List (Addr×Obj)} {s s':Shared} {σ τ:St} {H H':Hp} {fp:List Addr} {cl:List (Str×Addr)} {C:Addr} (I:Inv X pins σ H s) (hf:∀ b∈fp,HM X pins H b) (J:Inv (BS X N sc cl C s H fp) pins τ H' s'):Inv X pins σ H' s' :=
 I.call' (ch:=fp) J.os J.base J.hok J.bare fun b hb=>⟨(hf b hb).2.2.2.1,(hf b hb).2.1,(hf b hb).2.2.2.2.1,(hf b hb).2.2.2.2.2⟩
theorem blk_off {pins:List (Addr×Obj)} {s s':Shared} {σ τ:St} {H H':Hp} {fp:List Addr} {cl:List (Str×Addr)} {C:Addr} {h':Heap} (I:Inv X pins σ H s) (hC:s.heap.objs.size<=C) (hf:∀ b∈fp,HM X pins H b)
  (J:Inv (BS X N sc cl C s H fp) pins τ H' s') (hs:Heap.SameBut C s'.heap h'):Inv X pins σ H' { s' with heap:=h' }:=by
 have I':=blk_end I hf J
 refine I'.turned (it:=C) (t':=s'.toks) (fun b o hb e=>hs.extBut b o hb e) J.free (Nat.ne_of_gt (Nat.lt_of_lt_of_le I.lt hC)) (.inr (Nat.le_trans I.sz hC)) (fun x c e z=>?_) fun p hp z=>?_
 ·obtain ⟨v,q⟩:=I.cell x c e
  exact absurd (Nat.lt_of_lt_of_le q.lt (by rw [z];exact hC)) (Nat.lt_irrefl _)
 ·exact absurd (Nat.lt_of_lt_of_le (Heap.lt_size (I.pin p hp).1) (by rw [z];exact hC)) (Nat.lt_irrefl _)
theorem pe_comp (N:List Str) (src:List (Option Nat)) (hcalm:X.calm=true) (hi:PI X tg iter wi) (hg:∀ cl C s H fp,PG (BS X N sc cl C s H fp) tg g) (ht:∀ cl C s H fp,PIfs (BS X N sc cl C s H fp) ifs tt)
  (he:∀ cl C s H fp,PE (BS X N sc cl C s H fp) elt te) (hS:FK X.env.scope sc=true:=by rfl) (hcap:D8 X.N sc N src=true:=by rfl)
  (hs:∀ x,foldedSetIterable iter X.env x=pure x:=by intro _;rfl):PE X (.ListComp elt [⟨tg,iter,ifs,0⟩] sc pos) (tComp src wi g tt te):=by
 intro pins s σ H Q I h
 have S:=Hv hS
 obtain ⟨cl,hcl,hc1,hc2⟩:=DT (sc:=sc) (env:=X.env) fun y hy e=>I.ok.has y.1 (S.fr y hy e)
 rw [eval_ListComp]
 refine wpAny_comprehension_free (use:=none) rfl hs hcl S.kind S.loc (thn (hi pins s σ H _ I h) fun v s1 h1=>thn h1 fun itv s2 h2=>?_)
 obtain ⟨it,fp,tn,J,H2,e,I2,T,t2,f2,hw⟩:=h2
 subst e
 refine comp_run hcalm S hcap hg ht he hc1 hc2 I2 T t2 f2 hw (RR:=fun acc C=>compPost (model X.prog X.w) X.A X.xe none (EP X pins σ Q) acc C) fun D C s' τ H' m hC hn J' _ q=>?_
 exact ⟨m,hn,fun h' hsb=>⟨.ref D,H',blk_off I2 hC f2 J' hsb,rfl,q⟩⟩
theorem ps_setComp {i:Nat} {y:Str} {pos' spos:Pos} (N:List Str) (src:List (Option Nat)) (hcalm:X.calm=true) (hN:X.N.Nodup) (hiy:X.N[i]?=some y) (hy:Loc X.env.scope y) (hi:PI X tg iter wi) (hg:∀ cl C s H fp,PG (BS X N sc cl C s H fp) tg g) (ht:∀ cl C s H fp,PIfs (BS X N sc cl C s H fp) ifs tt)
  (he:∀ cl C s H fp,PE (BS X N sc cl C s H fp) elt te) (hS:FK X.env.scope sc=true:=by rfl) (hcap:D8 X.N sc N src=true:=by rfl)
  (hs:∀ x,foldedSetIterable iter X.env x=pure x:=by intro _;rfl) (hsw:swapsWith (.ListComp elt [⟨tg,iter,ifs,0⟩] sc pos) (some (.Name y pos')) spos.line X.env=pure true:=by rfl)
  (hf:X.fn y=true∨X.env.scope.names.lookup y=some .local:=by first | exact .inl rfl | exact .inr rfl | assumption) :
  PS X (.Assign [.Name y pos'] (.ListComp elt [⟨tg,iter,ifs,0⟩] sc pos) spos) (tAsg (tComp src wi g tt te) (gName i)):=by
 intro pins s σ H D0 I h
 have S:=Hv hS
 obtain ⟨cl,hcl,hc1,hc2⟩:=DT (sc:=sc) (env:=X.env) fun y hy e=>I.ok.has y.1 (S.fr y hy e)
 rw [exec_Assign_Name_used _ _ _ _ hsw]
 refine wpAny_bind (wpAny_standAt (wpAny_bind ?_))
 show wpAny _ X.A (do let _ <- comprehension (.ListComp elt [⟨tg,iter,ifs,0⟩] sc pos) sc X.env _ (newList []) false (eval iter X.env) (some (assign (.Name y pos') X.env))) _ _ s
 refine wpAny_bind (wpAny_mono (wpAny_comprehension_free (use:=some (assign (.Name y pos') X.env)) (Q:=fun _ s'=>SP X pins D0 .next s') rfl hs hcl S.kind S.loc
  (thn (hi pins s σ H _ I h) fun v s1 h1=>thn h1 fun itv s2 h2=>?_)) (fun _ s' hq=>wpAny_pure (wpAny_pure hq)) fun _ _ e=>e)
 obtain ⟨it,fp,tn,J,H2,e,I2,T,t2,f2,hw⟩:=h2
 subst e
 refine comp_run hcalm S hcap hg ht he hc1 hc2 I2 T t2 f2 hw (RR:=fun acc C=>compPost (model X.prog X.w) X.A X.xe (some (assign (.Name y pos') X.env)) (fun _ s'=>SP X pins D0 .next s') acc C) fun D C s' τ H' m hC hn J' _ q=>?_
 show wpAny _ X.A (assign (.Name y pos') X.env (.ref D)) _ _ s'
 have I':=blk_end I2 f2 J'
 have ltC:∀ {b:Addr} {o:Obj},s2.heap.get? b=some o->b≠C:=fun e=>Nat.ne_of_lt (Nat.lt_of_lt_of_le (Heap.lt_size e) hC)
 have cC:∀ x c,X.env.cells.lookup x=some c->c≠C:=fun x c e=>by
  obtain ⟨v,o,ho,_⟩:=I2.cell x c e
  exact ltC ho
 have lC:X.env.locals≠C:=Nat.ne_of_lt (Nat.lt_of_lt_of_le I2.lt hC)
 refine wpAny_assign_Name (GP I' hN hiy hy (v:=.ref D) rfl (fun s3 I3 ⟨a,sb,ha⟩=>?_) hf)
 have naC:C≠a:=by
  rcases ha with rfl | ha
  ·exact Ne.symm lC
  ·exact Ne.symm (cC _ _ ha)
 refine ⟨m,hn.sameBut sb naC,fun h' hs'=>⟨_,H',I3.turned (it:=C) (t':=s3.toks) (fun b o hb e=>hs'.extBut b o hb e) J'.free (Ne.symm lC) (.inr (Nat.le_trans I2.sz hC)) cC (fun p hp z=>ltC (I2.pin p hp).1 z),q⟩⟩
end
section
variable {K:PySem.W.Frag} {a:Addr} {xs:List V} {g:TG} {tt:TT} {te:TE} {Q:VK} {τ0:St} {H1:Hp}
end
end L2
namespace PySem
namespace F
theorem nolen_lri:typeLookup (.type "list_reverseiterator") "__len__"=pure none:=by rw [typeLookup_type,builtinLookup_eq_fast];kernel_rfl
theorem hint_lri:typeLookup (.type "list_reverseiterator") "__length_hint__"=pure (some (.builtin "list_reverseiterator.__length_hint__")):=by rw [typeLookup_type,builtinLookup_eq_fast];kernel_rfl
end F
section
variable {prog:Program} {w:World} {A:Around} {s:Shared} {R:Result->Shared->Prop}
variable {I:Addr} {fp wr:List Addr} {G:Array GenState->Array GenState->Prop} {n:Nat} {P:Nat->Value->Prop} {St:Nat->Shared->Prop}
theorem Ek (W:WalksS prog w A.in1 I fp wr G n P St) (hT:∀ i s,St i s->s.TypeIs (.ref I) "list_reverseiterator") (S:Addr) (res:Value) (c₀:Nat) (hst:St 0 s) (hSf:S∉fp) (hI:I∈fp)
  (hS:s.heap.get? S=some { cls:=.type "list",data:=.seq #[] c₀ })
  (hR:∀ s' acc' c',Moved (S :: wr) G s s'->s'.heap.get? S=some { cls:=.type "list",dict:=none,data:=.seq acc' c',slots:=#[] }->ItemsOf P acc' n->R (.ok (.ret res)) s') (hn:n<=sizeLine) :
  wpAny (model prog w) A.in1 (Builtin.List.listExtendWith (.ref S) (.ref I) res)
   (fun fin s'=>match fin with | .done f=>R (.ok f) s' | .again c'=>c'.quiet=true/\codeAny (model prog w) A c' R s') (fun e s'=>R (.error e) s') s:=by
 have hSI:S≠I:=fun e=>hSf (e▸hI)
 unfold Builtin.List.listExtendWith
 refine wpAny_bind (wpAny_typeOf (hT 0 _ hst) ?_)
 have h1:Builtin.List.listSameRef (.ref S) (.ref I)=false:=by simp [Builtin.List.listSameRef,hSI]
 have h2:(Value.type "list_reverseiterator" == Value.type "list")=false:=by decide
 have h3:(Value.type "list_reverseiterator" == Value.type "tuple")=false:=by decide
 simp only [h1,h2,h3,Bool.or_false,Bool.false_eq_true,if_false]
 refine wpAny_bind (W.self 0 _ _ _ hst ?_)
 refine wpAny_bind (wpAny_holding ?_)
 unfold Builtin.List.listLengthHint
 refine wpAny_bind (wpAny_specialOf (hT 0 _ hst) F.nolen_lri ?_)
 show wpAny _ A.in1 (specialOf (Value.ref I) (Str.ofString "__length_hint__") >>= _) _ _ _
 refine wpAny_bind (wpAny_specialOf (hT 0 _ hst) F.hint_lri ?_)
 generalize hid:("list_reverseiterator.__length_hint__":String)=id0
 wp_delta
 rw [show splitId id0=some ("list_reverseiterator","__length_hint__") from by subst hid;decide +kernel]
 subst hid
 refine wpAny_bind (wpAny_isInstance (b:=true) (hT 0 _ hst) (by rw [isSubtype_type];kernel_rfl) ?_)
 refine wpAny_pure ?_
 rw [if_neg (by decide)]
 refine wpAny_pure ⟨plainId_quiet F.plain_extend_loop _,codeAny_extend_loopS W hn _ hSf _ n 0 _ _ _ rfl (Nat.zero_le _) hst hS (ItemsOf.nil P) fun s' acc' c' hm hS' hacc=>?_⟩
 exact hR s' acc' c' hm hS' hacc
theorem DE (W:WalksS prog w A.in1 I fp wr G n P St) (hT:∀ i s,St i s->s.TypeIs (.ref I) "list_reverseiterator") (S:Addr) (hst:St 0 s) (hSf:S∉fp) (hI:I∈fp)
  (hS:s.heap.get? S=some { cls:=.type "list",data:=.seq #[] })
  (hR:∀ s' acc' c',Moved (S :: wr) G s s'->s'.heap.get? S=some { cls:=.type "list",dict:=none,data:=.seq acc' c',slots:=#[] }->ItemsOf P acc' n->R (.ok (.ret .none)) s') (hn:n<=sizeLine) :
  wpAny (model prog w) A.in1 (Builtin.«list.__init__» ⟨[.ref S,.ref I],[]⟩)
   (fun fin s'=>match fin with | .done f=>R (.ok f) s' | .again c'=>c'.quiet=true/\codeAny (model prog w) A c' R s') (fun e s'=>R (.error e) s') s:=by
 show wpAny _ A.in1 (do let old <- Builtin.List.listItems (.ref S);Builtin.List.listUpdate (.ref S) (fun _=>#[]);letGo old.toList.reverse;Builtin.List.listExtendWith (.ref S) (.ref I) .none) _ _ s
 refine wpAny_bind ?_
 unfold Builtin.List.listItems
 refine wpAny_bind (wpAny_seqItems hS rfl (wpAny_pure ?_))
 show wpAny _ A.in1 (updateSeq S (fun _=>#[]) >>= fun _=>letGo (#[]:Array Value).toList.reverse >>= fun _=>Builtin.List.listExtendWith (.ref S) (.ref I) .none) _ _ s
 refine wpAny_bind (wpAny_updateSeq hS rfl ?_)
 have hS₂:=Heap.get?_update_self (Obj.mapSeq (fun _=>(#[]:Array Value))) hS rfl
 have oth:∀ b o,b≠S->s.heap.get? b=some o->(s.heap.update S (Obj.mapSeq (fun _=>(#[]:Array Value)))).get? b=some o :=
  fun b o hb e=>(Heap.get?_update_other _ _ (Ne.symm hb)).trans e
 refine wpAny_bind (wpAny_letGo ?_)
 refine Ek (hn:=hn) W hT S .none _ (W.frame 0 s _ s.toks hst (Nat.le_refl _) fun b hb o e=>oth b o (fun h=>hSf (h▸hb)) e) hSf hI hS₂ fun s' acc' c' hm hS' hacc=>?_
 exact hR s' acc' c' (Moved.trans W.gtrans ((Moved.refl W.grefl).then_heap (Nat.le_refl _) fun b o hb e=>oth b o (fun h=>hb (h▸List.mem_cons_self)) e) hm) hS' hacc
end
section
variable {prog:Program} {w:World} {A:Around} {E:Value->Shared->Prop} {s:Shared}
theorem D9 {it l:Addr} {items:Array Value} {Q:Value->Shared->Prop} (hh:A.handled=none) (hne:l≠it) (hit:s.heap.IsRevIter it l ((items.size:Int) - 1)) (hl:s.heap.IsList l items) (hz:items.size<=sizeLine)
  (hQ:∀ h' tk acc' c',(∀ b o,b≠it->s.heap.get? b=some o->h'.get? b=some o) ->
   h'.get? s.heap.objs.size=some { cls:=.type "list",dict:=none,data:=.seq acc' c',slots:=#[] }->ItemsOf (fun i v=>items[items.size - 1 - i]?=some v) acc' items.size->Q (.ref s.heap.objs.size) { s with heap:=h',toks:=tk }) :
  wpAny (model prog w) A (call (.type "list") [.ref it]) Q E s:=by
 refine callType_codes (Q₁:=fun obj s₁=>obj=.ref s.heap.objs.size/\s₁={ s with heap:=s.heap.push { cls:=.type "list",data:=.seq #[] } }) F.called_list (F.typeCall_list_1 _) F.entry_list_init
  (code_list_new _ ⟨rfl,rfl⟩) fun obj s₁ h₁=>?_
 obtain ⟨rfl,rfl⟩:=h₁
 have hS:(s.heap.push { cls:=.type "list",data:=.seq #[] }).get? s.heap.objs.size=some { cls:=.type "list",data:=.seq #[] }:=Heap.get?_push_size _ rfl
 have hlt:it < s.heap.objs.size:=by obtain ⟨o,e,_⟩:=hit;exact Heap.lt_size e
 have hlt2:l < s.heap.objs.size:=by obtain ⟨o,e,_⟩:=hl;exact Heap.lt_size e
 have W:=(Walks.listRev (prog:=prog) (w:=w) (A:=A.in1.in1) hh it l hne items).toS
 have e0:(items.size:Int) - 1 - ((0:Nat):Int)=(items.size:Int) - 1:=by simp
 refine ⟨⟨_,hS,rfl⟩,F.args_list_init_2 _ _,DE (A:=A.in1) W (fun i s' st=>?_) _ ?_ ?_ (by simp) hS (fun s' acc' c' hm hS' hacc=>?_) hz⟩
 ·exact st.2.1.typeIs
 ·refine ⟨Nat.zero_le _,?_,hl.push _⟩
  rw [e0]
  exact hit.at fun o e=>Heap.get?_push_of_some _ e
 ·intro hm
  rcases List.mem_cons.mp hm with e | hm
  ·exact absurd hlt (by rw [e];exact Nat.lt_irrefl _)
  ·exact absurd hlt2 (by rw [List.mem_singleton.mp hm];exact Nat.lt_irrefl _)
 ·rw [Moved.eq_with hm] at hS' ⊢
  refine ⟨rfl,hQ s'.heap s'.toks acc' c' (fun b o hb e=>hm.heap b o (fun hmem=>?_) (Heap.get?_push_of_some _ e)) hS' hacc⟩
  rcases List.mem_cons.mp hmem with e' | hmem
  ·exact absurd (Heap.lt_size e) (by rw [e'];exact Nat.lt_irrefl _)
  ·exact hb (List.mem_singleton.mp hmem)
end
end PySem
namespace L2
open PySem PySem.Spec PyProof.Rows
section
variable {X:Cx} {pins:List (Addr×Obj)} {σ:St} {H:Hp} {s:Shared}
theorem Inv.collected {it d:Addr} {h':Heap} {t':Nat} {ys:List V} {its:List Value} {n:Nat} (I:Inv X pins σ H s) (hf:HM X pins H it) (hd:s.heap.objs.size<=d) (k:∀ b o,b≠it->s.heap.get? b=some o->h'.get? b=some o)
  (hz:ys.length<=sizeLine) (r:Vals ys its) (e:h'.get? d=some { cls:=.type "list",data:=.seq its.toArray n }):Inv X pins σ (upd H d (.lst ys)) { s with heap:=h',toks:=t' }:=by
 obtain ⟨f0,f1,f2,f3,f4,f5⟩:=hf
 have fd:H d=none:=I.hok.fresh hd
 have nd:∀ {b:Addr} {o:Obj},s.heap.get? b=some o->b≠d:=fun e=>Nat.ne_of_lt (Nat.lt_of_lt_of_le (Heap.lt_size e) hd)
 have nit:∀ {b:Addr} {u:HO},H b=some u->b≠it:=fun {b u} e z=>by rw [z,f0] at e;cases e
 refine I.step (g':=s.gens) (d':=s.drawn) (ch:=[it]) (fun b hb=>?_) (fun b o _ _ hc e _=>k b o (fun z=>hc (by simp [z])) e) (fun b o _ _ hc e _=>⟨o.slots,k b o (fun z=>hc (by simp [z])) e⟩)
  (fun b o _ e n=>by rw [Ay (nd e)];exact n) (fun b o hc e=>⟨o,k b o (fun z=>hc (by simp [z])) e⟩) (fun b xs e=>by rw [Ay (AL e fd)];exact e) (fun b o u e=>by rw [Ay (AL e fd)];exact e)
  (fun b ps e=>⟨#[],by rw [Ay (AL e fd),e];simp⟩) (fun m hm=>?_) (fun b u e=>?_) I.bare
 ·have e:b=it:=by simpa using hb
  subst e
  exact ⟨f3,f1,f4,f5⟩
 ·obtain ⟨o,es,ep,ho,r⟩:=hm
  exact ⟨o,es,ep,k _ o (Ne.symm f1) ho,r⟩
 ·by_cases hb:b=d
  ·subst hb
   rw [AH] at e
   cases e
   exact ⟨hz,its,n,r,‹_›⟩
  ·rw [Ay hb] at e
   refine (I.hok b u e).stay (fun c v hc q=>k c v ?_ q) (fun c q=>by rw [Ay (AL q fd)];exact q) fun c xs q=>by rw [Ay (AL q fd)];exact q
   rcases hc with z | z
   ·rw [z];exact nit e
   ·exact nit z
end
theorem vals_rev {ys:List V} {its:List Value} (r:Vals ys its) {acc:Array Value} (h:ItemsOf (fun i v=>its.toArray[its.toArray.size - 1 - i]?=some v) acc its.toArray.size):Vals ys.reverse acc.toList:=by
 have e:acc.toList=its.reverse:=by
  apply List.ext_getElem?
  intro i
  obtain ⟨h1,h2⟩:=h
  have hs:its.toArray.size=its.length:=by simp
  by_cases hi:i < its.length
  ·have ha:acc[i]?=some (acc[i]'(by omega)):=by simp
   have q:=h2 i _ ha
   rw [List.getElem?_reverse (by omega)]
   have q':its[its.length - 1 - i]?=some (acc[i]'(by omega)):=by simpa using q
   rw [q']
   simp
  ·rw [List.getElem?_eq_none (by simp;omega),List.getElem?_eq_none (by simp;omega)]
 rw [e]
 exact r.reverse
section
variable {X:Cx} {a:Expr} {ta:TE} {p1 p2 pos1 pos2:Pos}
def tListRev (K:PySem.W.Frag) (ta:TE):TE:=fun σ H Q=>ta σ H fun x H1=>∃ l ys,x=.ref l/\SqL K H1 l ys/\∀ d,H1 d=none->Q (.ref d) (upd H1 d (.lst ys.reverse))
theorem pe_listRev (hc:X.calm=true) (hm1:X.mg "list"=none) (hm2:X.mg "reversed"=none) (ha:PE X a ta) (hg1:Gl X "list":=by rfl) (hg2:Gl X "reversed":=by rfl)
  (he:starEach [(.Call (.Name "reversed" p2) [a] [] pos2:Expr)] X.env=[(false,eval (.Call (.Name "reversed" p2) [a] [] pos2) X.env)]:=by rfl) (he2:starEach [a] X.env=[(false,eval a X.env)]:=by rfl) :
  PE X (.Call (.Name "list" p1) [.Call (.Name "reversed" p2) [a] [] pos2] [] pos1) (tListRev X.K ta):=by
 intro pins s σ H Q I h
 refine wpAny_Call_Name_kw (DB I hg1 hm1 boot_list ?_)
 refine PyProof.Rows.callWith_type1 ?_ he rfl
 rw [he]
 refine Calls.spliced_cons ?_
 refine wpAny_Call_Name_kw (DB I hg2 hm2 boot_reversed ?_)
 refine PyProof.Rows.callWith_type1 ?_ he2 rfl
 rw [he2]
 refine Calls.spliced_cons (thn (ha pins s σ H _ I h) fun u s1 ⟨x,H1,I1,r1,l,ys,ex,hq,q⟩=>?_)
 subst ex
 cases r1
 obtain ⟨its,rv,pl,hz⟩:=I1.list hq
 have hlen:=rv.length
 refine Calls.spliced_nil (call_reversed_list pl.isList ?_)
 refine Calls.spliced_nil ?_
 have I2:Inv X pins σ H1 { s1 with heap:=s1.heap.push (revObj l ((its.toArray.size:Int) - 1)) }:=I1.kept (t':=s1.toks) fun b o e=>Heap.get?_push_of_some _ e
 have hf:HM X pins H1 s1.heap.objs.size:=I1.fpOk (Nat.le_refl _) (I1.hok.fresh (Nat.le_refl _))
 have hlt:l < s1.heap.objs.size:=by obtain ⟨o,n,e,_⟩:=pl;exact Heap.lt_size e
 refine D9 (s:={ s1 with heap:=s1.heap.push (revObj l ((its.toArray.size:Int) - 1)) }) (I.ok.hd hc) (Nat.ne_of_lt hlt) ⟨_,Heap.get?_push_size _ rfl,rfl,rfl⟩ (pl.isList.push _) (by rw [List.size_toArray];omega) fun h' tk acc c kp e hacc=>?_
 refine ⟨.ref _,_,I2.collected (n:=c) hf (Nat.le_refl _) kp (by rw [List.length_reverse];exact hz) (vals_rev rv hacc) (by simpa using e),rfl,q _ (I2.hok.fresh (Nat.le_refl _))⟩
theorem call_sum (hc:X.calm=true):CB X (.builtin "sum") (fun xs H Q=>∃ (l:Addr) (ns:List Int),xs=[.ref l]/\SqL X.K H l (ns.map V.int)/\Q (.int ns.sum) H):=by
 intro pins s σ H xs us Q I r h
 obtain ⟨l,ns,rfl,hq,q⟩:=h
 obtain ⟨u,rfl,rx⟩:=vals1 r
 cases rx
 obtain ⟨its,rv,pl,hz⟩:=I.list hq
 have hi:=intsAre_of rv
 obtain ⟨zs,hx⟩:=hi.allInts.items
 have hl':s.heap.IsList l (intItems zs):=hx▸pl.isList
 refine sum_intListG (I.ok.hd hc) hl' fun h' tk t' hk=>?_
 have e1:ns=zs.toList.map (·.1):=by
  rw [<- nums_intItems,<- hx]
  exact (show numsOf its.toArray.toList=ns from hi.numsOf).symm
 have e2:preSum (numAt zs) zs.size=ns.sum:=by
  rw [preSum_eq,List.take_of_length_le (by simp),e1]
 rw [e2]
 exact ⟨.int ns.sum,H,I.kept hk,⟨_,rfl⟩,q⟩
theorem CV:∀ {bs:List Bool} {us:List Value},Vals (bs.map V.bl) us->us=bs.map Value.bool
 | [],_,.nil=>rfl
 | b :: bs,_,.cons r t=>by
  cases (show _=Value.bool b from r)
  rw [List.map_cons,CV t]
theorem op_mulK:OpR X (binaryOp .Mult) (rI IntMulOk fun i j=>.int (i * j)):=opI fun _ _ _ _ _ _ _ hc q=>mul_int q hc
theorem op_mulStr:OpR X (binaryOp .Mult) (fun x y H Q=>∃ z n,x=.str z/\y=.int n/\MulOk z n/\Q (.str (Txt.mul z n)) H):=by
 intro pins s σ H x y v u Q I rx ry h
 obtain ⟨z,n,rfl,rfl,hok,q⟩:=h
 obtain ⟨t,rfl⟩:=rx
 obtain ⟨t',rfl⟩:=ry
 exact SB.mul hok fun t' k=>⟨.str _,H,I.tok _,⟨_,rfl⟩,q⟩
theorem EM:∀ {ys:List Str} {us:List Value},Vals (ys.map V.str) us->StrsAre us ys
 | [],_,.nil=>.nil
 | y :: ys,_,.cons r t=>by
  obtain ⟨tk,rfl⟩:=(show ∃ tk,_=Value.str y tk from r)
  exact .cons _ _ (EM t)
theorem mt_join:MtR X "str.join" (fun x xs H Q=>∃ (z:Str) (l:Addr) (ys:List Str),x=.str z/\xs=[.ref l]/\SqL X.K H l (ys.map V.str)/\(ys.map (·.length)).sum+ys.length * z.length<=16777216/\Q (.str (Txt.join z ys)) H):=by
 intro pins s σ H x xs v us Q I rx rv h
 obtain ⟨z,l,ys,rfl,rfl,hq,hok,q⟩:=h
 obtain ⟨t,rfl⟩:=rx
 obtain ⟨u,rfl,ru⟩:=vals1 rv
 cases ru
 obtain ⟨its,r,pl,hz⟩:=I.list hq
 exact join_list pl.isList (EM r) hok fun t' k=>⟨.str _,H,I.tok _,⟨_,rfl⟩,q⟩
end
def Itrs (lo st:Int) (n:Nat):It:=⟨fun i _=>i < n,fun i H x H'=>H'=H/\x=.int (lo+i * st),fun i _=>n<=i⟩
theorem HQ {P:Program} {w:World} {K:PySem.W.Frag} {tg:Expr} (it:Addr) (lo st:Int) (n:Nat):Turn P w K tg (Itrs lo st n) [it] it (fun i h=>IsRangeIter h it (lo+(i:Nat) * st) ((n:Int) - (i:Nat)) st) where
 mem:=by simp
 obj:=fun i h st b hb=>by
  have e:b=it:=by simpa using hb
  subst e
  exact ⟨_,st,fun v z=>by
   have z':Data.fields _=Data.cell v:=z
   cases z'⟩
 keep:=fun i h h' st k=>k it (by simp) _ st
 item:=by
  intro X hP hw hK hc i pins s σ H E I hf stt hg
  subst hP hw hK
  obtain ⟨f0,f1,f2,f3,f4,f5⟩:=hf it (by simp)
  have W:=Walks.range (prog:=X.prog) (w:=X.w) (I.ok.hd hc) it lo st n
  refine W.item i s _ _ hg stt fun v h' tk hv st' kk=>?_
  obtain ⟨t,rfl⟩:=hv
  have I1:Inv X pins σ H { s with heap:=h',toks:=tk }:=I.turned (fun b o hb e=>kk b o (by simpa using hb) e) f0 f1 f3 f4 f5
  exact ⟨_,rfl,go_of (s:={ s with heap:=h',toks:=tk }) (n:="range_iterator") st' rfl rfl (by decide) ⟨.int (lo+i * st),H,I1,⟨t,rfl⟩,⟨rfl,rfl⟩,st',fun b hb=>(hf b hb).1⟩⟩
 done:=by
  intro X hP hw hK hc i pins s σ H E I hf st hg
  subst hP hw hK
  obtain ⟨f0,f1,f2,f3,f4,f5⟩:=hf it (by simp)
  exact wpAny_pyNext_range_end (I.ok.hd hc) st (by have:n<=i:=hg;omega) fun h' eb=>⟨rfl,I.turned (t':=s.toks) (fun b o hb e=>eb b o hb e) f0 f1 f3 f4 f5⟩
 self:=fun _ _ _ _ _ st h=>wpAny_pyIter_rangeiter st h
def iRng3 (ta:TA):TI:=fun σ H R=>ta σ H fun vs H1=>∃ i j c:Int,vs=[.int i,.int j,.int c]/\0 < c/\c < 1073741824/\Builtin.Range.small i j c=true/\0<=Builtin.Range.rangeSize i j c/\R (Itrs i c (Builtin.Range.rangeSize i j c).toNat) H1
section
variable {X:Cx} {tg:Expr}
theorem He {a b c:Expr} {ta:TA} {p pos:Pos} (hg:Gl X "range") (hm:X.mg "range"=none) (ha:PA X [a,b,c] ta) (hs:starEach [a,b,c] X.env=[(false,eval a X.env),(false,eval b X.env),(false,eval c X.env)]:=by rfl)
  (hs2:starEach [b,c] X.env=[(false,eval b X.env),(false,eval c X.env)]:=by rfl):PI X tg (.Call (.Name "range" p) [a,b,c] [] pos) (iRng3 ta):=by
 intro pins s σ H R I h
 refine Call_ (DB I hg hm boot_range (PyProof.Rows.callWith_type1 (thn (ha pos pins s σ H _ I h) fun us s1 ⟨vs,H1,I1,r1,q1⟩=>?_) (by rw [hs,hs2]) (by rw [hs2];rfl)))
 obtain ⟨i,j,k,e,h0,hk,hsm,hn,q⟩:=q1
 subst e
 cases r1 with
 | cons r rr =>
  cases rr with
  | cons r' rr =>
   cases rr with
   | cons r'' rr =>
    cases rr
    obtain ⟨t,rfl⟩:=r
    obtain ⟨t',rfl⟩:=r'
    obtain ⟨t'',rfl⟩:=r''
    refine call_range_3 (by omega) ?_ (.inl (PyProof.noPylong_small (by omega)))
    refine wpAny_pyIter_range (IsRange.new ..) hsm ?_
    have I2:Inv X pins σ H1 { s1 with heap:=s1.heap.push { cls:=.type "range",data:=.fields #[.int i t,.int j t',.int k t''] },toks:=s1.toks }:=I1.kept fun b o e=>Heap.get?_push_of_some _ e
    refine ⟨(s1.heap.push { cls:=.type "range",data:=.fields #[.int i t,.int j t',.int k t''] }).objs.size,[(s1.heap.push { cls:=.type "range",data:=.fields #[.int i t,.int j t',.int k t''] }).objs.size],_,_,H1,rfl,
     I2.kept (t':=s1.toks) fun b o e=>Heap.get?_push_of_some _ e,HQ _ i k (Builtin.Range.rangeSize i j k).toNat,?_,fun b hb=>?_,q⟩
    ·have e1:i+((0:Nat):Int) * k=i:=by simp
     have e2:(((Builtin.Range.rangeSize i j k).toNat:Nat):Int) - ((0:Nat):Int)=Builtin.Range.rangeSize i j k:=by omega
     show IsRangeIter _ _ (i+((0:Nat):Int) * k) ((((Builtin.Range.rangeSize i j k).toNat:Nat):Int) - ((0:Nat):Int)) k
     rw [e1,e2]
     exact Heap.get?_push_size _ rfl
    ·have e:b=(s1.heap.push { cls:=.type "range",data:=.fields #[.int i t,.int j t',.int k t''] }).objs.size:=by simpa using hb
     subst e
     exact I2.fpOk (Nat.le_refl _) (I2.hok.fresh (Nat.le_refl _))
def Its (z:Str):It:=⟨fun i _=>i < z.cps.size,fun i H x H'=>H'=H/\∃ c,z.cps[i]?=some c/\x=.str ⟨#[c]⟩,fun i _=>z.cps.size<=i⟩
theorem go_str {M:Model} {A:Around} {E:Value->Shared->Prop} {s:Shared} {tg:Expr} {it:Value} {x:Str} {t:Tok} {Q:Unit->Shared->Prop} (hQ:Q () s):wpAny M A (letOwnedTupleGo tg it (.str x t)) Q E s:=by
 unfold letOwnedTupleGo
 cases tg <;> first
  | exact wpAny_pure hQ
  | (cases it <;> exact wpAny_pure hQ)
theorem turn_str {P:Program} {w:World} {K:PySem.W.Frag} {tg:Expr} (it:Addr) (ty:String) (z:Str) (t:Tok) (hty:ty="str_ascii_iterator"∨ty="str_iterator"):Turn P w K tg (Its z) [it] it (fun i h=>h.IsStrIter it ty z t i) where
 mem:=by simp
 obj:=fun i h st b hb=>by
  have e:b=it:=by simpa using hb
  subst e
  obtain ⟨o,e,c,d⟩:=st
  exact ⟨o,e,fun v z=>by rw [d] at z;cases z⟩
 keep:=fun i h h' st k=>by
  obtain ⟨o,e,c,d⟩:=st
  exact ⟨o,k it (by simp) o e,c,d⟩
 item:=by
  intro X hP hw hK hc i pins s σ H E I hf st hg
  subst hP hw hK
  obtain ⟨f0,f1,f2,f3,f4,f5⟩:=hf it (by simp)
  have fin:∀ (v:Value) (h':Heap) (tk:Nat),SignAt z i v->h'.IsStrIter it ty z t (i+1)->(∀ b o,b∉[it]->s.heap.get? b=some o->h'.get? b=some o) ->
    ∃ u,some v=some u/\wpAny (model X.prog X.w) X.A (letOwnedTupleGo tg (.ref it) u) (fun _ s2=>∃ x H',Inv X pins σ H' s2/\RelV x u/\(Its z).yld i H x H'/\s2.heap.IsStrIter it ty z t (i+1)/\∀ b∈[it],H' b=none) E { s with heap:=h',toks:=tk }:=fun v h' tk hv st' kk=>by
   obtain ⟨c,u,hcs,rfl⟩:=hv
   have I1:Inv X pins σ H { s with heap:=h',toks:=tk }:=I.turned (fun b o hb e=>kk b o (by simpa using hb) e) f0 f1 f3 f4 f5
   exact ⟨_,rfl,go_str ⟨.str ⟨#[c]⟩,H,I1,⟨u,rfl⟩,⟨rfl,c,hcs,rfl⟩,st',fun b hb=>(hf b hb).1⟩⟩
  rcases hty with rfl | rfl
  ·exact (Walks.strAscii (prog:=X.prog) (w:=X.w) (I.ok.hd hc) it z t).item i s _ _ hg st fin
  ·exact (Walks.strWide (prog:=X.prog) (w:=X.w) (I.ok.hd hc) it z t).item i s _ _ hg st fin
 done:=by
  intro X hP hw hK hc i pins s σ H E I hf st hg
  subst hP hw hK
  obtain ⟨f0,f1,f2,f3,f4,f5⟩:=hf it (by simp)
  have hz:z.cps[i]?=none:=Array.getElem?_eq_none hg
  rcases hty with rfl | rfl
  ·exact wpAny_pyNext_ascii_end (I.ok.hd hc) st hz fun h' he'=>⟨rfl,I.turned (t':=s.toks) (fun b o hb e=>he' b o hb e) f0 f1 f3 f4 f5⟩
  ·exact wpAny_pyNext_wide_end (I.ok.hd hc) st hz fun h' he'=>⟨rfl,I.turned (t':=s.toks) (fun b o hb e=>he' b o hb e) f0 f1 f3 f4 f5⟩
 self:=fun _ _ _ _ _ st h=>by
  rcases hty with rfl | rfl
  ·exact wpAny_pyIter_striter_ascii st h
  ·exact wpAny_pyIter_striter_wide st h
end
section
variable {K:PySem.W.Frag} {a:Addr} {xs:List V} {g:TG} {te:TE} {Q:VK} {τ0:St} {H1:Hp}
end
section
variable {X:Cx} (K:PySem.W.Frag)
end
theorem mt_popS {X:Cx}:MtM X "list.pop" (fun x vs H Q=>∃ l e z,x=.ref l/\vs=[]/\H l=some (.lst (e++[z]))/\Q z (upd H l (.lst e))):=by
 intro pins s σ H x vs v us Q I rx rv h
 obtain ⟨l,e,z,rfl,rfl,hH,q⟩:=h
 refine mt_pop pins s σ H _ _ v us Q I rx rv ⟨l,e++[z],z,rfl,rfl,hH,by simp,?_⟩
 rw [List.dropLast_concat]
 exact q
structure FnAt (P:Program) (w:World) (K:PySem.W.Frag) (mg:Str->Option Value) (base:Heap) (CX:CXT) (x:Str) (k:Nat) (ps:List Str) (sp:Sp):Prop where
 ex:∃ f fd,Dh P w K mg base CX k f fd ps sp/\mg x=some (.ref f)/\PySem.W.keepIn K (.ref f)=true/\Binds K fd ps []
section
variable {X:Cx} {CX:CXT} {k:Nat} {ps:List Str} {sp:Sp} {E:XK} {x:Str} {p pos:Pos} {e:Expr} {es:List Expr} {t:TA}
end
end L2
namespace L2
open PySem PySem.Spec PyProof.Rows
section
variable {X:Cx} {x:Str} {pos:Pos}
theorem keyIs_rel {k:Key} {v:Value} (h:Gk k v=true):RelV (kV k) v:=by
 rcases A7 h with ⟨i,t,rfl,rfl⟩ | ⟨x,t,rfl,rfl⟩
 ·exact ⟨t,rfl⟩
 ·exact ⟨t,rfl⟩
theorem vals_keys {kvs:List (Key×V)} {vs:List (Key×Value)} {acc:Array Value} (r:KV kvs vs) (h:ItemsOf (fun i v=>∃ k x,vs[i]?=some (k,x)/\Gk k v=true) acc vs.length):Vals (kvs.map fun kv=>kV kv.1) acc.toList:=by
 obtain ⟨h1,h2⟩:=h
 have key:∀ (kvs:List (Key×V)) (vs:List (Key×Value)) (l:List Value),KV kvs vs->l.length=vs.length->(∀ (j:Nat) (v:Value),l[j]?=some v->∃ k x,vs[j]?=some (k,x)/\Gk k v=true)->Vals (kvs.map fun kv=>kV kv.1) l:=by
  intro kvs
  induction kvs with
  | nil =>
   intro vs l r hl _
   cases r
   have:l=[]:=List.eq_nil_of_length_eq_zero (by simpa using hl)
   subst this
   exact .nil
  | cons p kvs ih =>
   intro vs l r hl hh
   cases r with
   | @cons _ q _ vr e t =>
    cases l with
    | nil=>simp at hl
    | cons v l =>
     obtain ⟨k,x,e1,e2⟩:=hh 0 v rfl
     have e1':q=(k,x):=Option.some.inj e1
     refine .cons ?_ (ih vr l t (by simpa using hl) fun j w hw=>?_)
     ·have:p.1=k:=by rw [e.1,e1']
      show RelV (kV p.1) v
      rw [this]
      exact keyIs_rel e2
     ·exact hh (j+1) w hw
 exact key kvs vs acc.toList r (by rw [Array.length_toList];exact h1) fun j v e=>h2 j v (by rw [<- Array.getElem?_toList];exact e)
end
section
variable {X:Cx} {CX:CXT} {k:Nat} {C:Addr} {ps:List Str} {sp:Sp} {E:XK} {x m:Str} {p pos apos:Pos} {e o:Expr} {es:List Expr} {ta:TE} {t:TA}
end
end L2
namespace L2
open PySem PySem.Spec PyProof.Rows
def orR (r r':R2):R2:=fun x y H Q=>r x y H Q∨r' x y H Q
section
variable {X:Cx}
theorem OpR.orR {f:Value->Value->Sem Value} {r r':R2} (h:OpR X f r) (h':OpR X f r'):OpR X f (orR r r'):=fun pins s σ H x y v u Q I rx ry q=>q.elim (h pins s σ H x y v u Q I rx ry) (h' pins s σ H x y v u Q I rx ry)
theorem IxR.orR {r r':R2} (h:IxR X r) (h':IxR X r'):IxR X (L2.orR r r'):=fun value slice pins s σ H x y v u Q I rx ry q e=>q.elim (fun q=>h value slice pins s σ H x y v u Q I rx ry q e) (fun q=>h' value slice pins s σ H x y v u Q I rx ry q e)
def rDGet:R2:=fun x y H Q=>∃ a v,x=.ref a/\DGet H a y (some v)/\Q v H
theorem ix_dict (hu:X.A.units+1 < cLine):IxR X rDGet:=by
 intro value slice pins s σ H x y v u Q I rx ry h hs
 obtain ⟨a,w,rfl,g,q⟩:=h
 obtain rfl:v=Value.ref a:=rx
 have hT:=dict_typeIs I g
 have h₂:wpAny (model X.prog X.w) X.A (getItem (.ref a) u) (EP X pins σ Q) X.xe s:=d_getItem hu I g ry fun w' s3 I3 rw'=>⟨w,H,I3,rw',q⟩
 unfold subscriptTail
 refine wpAny_bind ?_
 rw [getitemInPython_of_ne hT.not_modules]
 refine wpAny_bind (wpAny_specialOf hT PySem.F.slot_dict_getitem.lookup ?_)
 have fin:wpAny (model X.prog X.w) X.A (subscripted slice false (.ref a) u) (fun r s₃=>wpAny (model X.prog X.w) X.A (letTemporaryGo value (.ref a) r >>= fun _=>pure r) (EP X pins σ Q) X.xe s₃) X.xe s:=by
  rw [hs]
  exact wpAny_operating (wpAny_mono h₂ (fun r s₃ h₃=>wpAny_bind (wpAny_letTemporaryGo (wpAny_pure h₃))) fun _ _ x=>x)
 first
  | exact wpAny_pure (wpAny_bind fin)
  | exact wpAny_bind (wpAny_pure (wpAny_bind fin))
  | exact wpAny_bind fin
def orSet (r r':TSet):TSet:=fun o i v H Q=>r o i v H Q∨r' o i v H Q
theorem PSet.orR {r r':TSet} (h:PSet X r) (h':PSet X r'):PSet X (orSet r r'):=fun pins s σ H o i v ov iv u Q I r1 r2 r3 q=>q.elim (h pins s σ H o i v ov iv u Q I r1 r2 r3) (h' pins s σ H o i v ov iv u Q I r1 r2 r3)
def rDPut:TSet:=fun o i v H Q=>∃ a H4,o=.ref a/\DPut H a i v H4/\Q H4
theorem set_dict (hu:X.A.units+1 < cLine):PSet X rDPut:=by
 intro pins s σ H o i v ov iv u Q I ro ri rv h
 obtain ⟨a,H4,rfl,g,q⟩:=h
 obtain rfl:ov=Value.ref a:=ro
 exact d_setItem hu I g ri rv fun s4 I4=>⟨H4,I4,q⟩
def orCall (r r':List V->Hp->VK->Prop):List V->Hp->VK->Prop:=fun vs H Q=>r vs H Q∨r' vs H Q
theorem CB.orR {f:Value} {r r':List V->Hp->VK->Prop} (h:CB X f r) (h':CB X f r'):CB X f (orCall r r'):=fun pins s σ H xs us Q I rx q=>q.elim (h pins s σ H xs us Q I rx) (h' pins s σ H xs us Q I rx)
def iSeq (K:PySem.W.Frag) (tl:TE):TI:=fun σ H R=>tl σ H fun x H1=>(∃ a,x=.ref a/\(∃ xs,SqL K H1 a xs)/\R (Itl K a) H1)∨(∃ a,x=.ref a/\(∃ xs,SqT K H1 a xs)/\R (Itt K a) H1)∨(∃ z,x=.str z/\R (Its z) H1)
variable {tg:Expr}
theorem pi_seq {l:Expr} {tl:TE} (hl:PE X l tl):PI X tg l (iSeq X.K tl):=by
 intro pins s σ H R I h
 have key:∀ (x:V) (H1:Hp) (v:Value) (s1:Shared),Inv X pins σ H1 s1->RelV x v->((∃ a,x=.ref a/\(∃ xs,SqL X.K H1 a xs)/\R (Itl X.K a) H1)∨(∃ a,x=.ref a/\(∃ xs,SqT X.K H1 a xs)/\R (Itt X.K a) H1)∨(∃ z,x=.str z/\R (Its z) H1)) ->
   wpAny (model X.prog X.w) X.A (pyIter v) (PIE X pins σ tg R) X.xe s1:=by
  intro x H1 v s1 I1 r1 q1
  rcases q1 with ⟨a,e,⟨xs,hq⟩,q⟩ | ⟨a,e,⟨xs,hq⟩,q⟩ | ⟨z,e,q⟩
  ·subst e
   cases r1
   obtain ⟨its,rv,p,hz⟩:=I1.list hq
   refine wpAny_pyIter_list p.isList ?_
   refine ⟨s1.heap.objs.size,[s1.heap.objs.size],_,_,H1,rfl,I1.kept (t':=s1.toks) fun b o e=>Heap.get?_push_of_some _ e,turn_list a _,⟨_,Heap.get?_push_size _ rfl,rfl,rfl⟩,fun b hb=>?_,q⟩
   have e:b=s1.heap.objs.size:=by simpa using hb
   subst e
   exact I1.fpOk (Nat.le_refl _) (I1.hok.fresh (Nat.le_refl _))
  ·subst e
   cases r1
   obtain ⟨its,rv,p,hz⟩:=I1.tuple hq
   refine wpAny_pyIter_tuple (show s1.heap.IsTuple a its.toArray from p) ?_
   refine ⟨s1.heap.objs.size,[s1.heap.objs.size],_,_,H1,rfl,I1.kept (t':=s1.toks) fun b o e=>Heap.get?_push_of_some _ e,turn_tuple a _,⟨_,Heap.get?_push_size _ rfl,rfl,rfl⟩,fun b hb=>?_,q⟩
   have e:b=s1.heap.objs.size:=by simpa using hb
   subst e
   exact I1.fpOk (Nat.le_refl _) (I1.hok.fresh (Nat.le_refl _))
  ·subst e
   obtain ⟨t,rfl⟩:=r1
   have go:∀ (ty:String),(ty="str_ascii_iterator"∨ty="str_iterator")->PIE X pins σ tg R (.ref s1.heap.objs.size) { s1 with heap:=s1.heap.push { cls:=.type ty,data:=.fields #[.str z t,.int 0 0] } }:=fun ty hty=>by
    refine ⟨s1.heap.objs.size,[s1.heap.objs.size],_,_,H1,rfl,I1.kept (t':=s1.toks) fun b o e=>Heap.get?_push_of_some _ e,turn_str _ ty z t hty,⟨_,Heap.get?_push_size _ rfl,rfl,rfl⟩,fun b hb=>?_,q⟩
    have e:b=s1.heap.objs.size:=by simpa using hb
    subst e
    exact I1.fpOk (Nat.le_refl _) (I1.hok.fresh (Nat.le_refl _))
   cases ha:z.cps.all (· < 128)
   ·exact wpAny_pyIter_wide ha (go _ (.inr rfl))
   ·exact wpAny_pyIter_ascii ha (go _ (.inl rfl))
 exact thn (hl pins s σ H _ I h) fun v s1 ⟨x,H1,I1,r1,q1⟩=>key x H1 v s1 I1 r1 q1
end
end L2
namespace PySem
namespace Zp
section
variable {prog:Program} {w:World} {A:Around} {E:Value->Shared->Prop} {s:Shared}
theorem tup_item {it t:Addr} {i:Nat} {items:Array Value} {x:Value} {Q:Value->Shared->Prop} (hit:s.heap.IsTupleIter it t i) (ht:s.heap.IsTuple t items) (hx:items[i]?=some x)
  (hQ:∀ h',h'.IsTupleIter it t (i+1)->Heap.SameBut it s.heap h'->Q x { s with heap:=h' }):wpAny (model prog w) A (Builtin.SmallTypes.nextOf (.ref it)) Q E s:=by
 obtain ⟨o,ho,hc,hd⟩:=id hit;obtain ⟨ol,hol,_,nl,hdl⟩:=ht
 unfold Builtin.SmallTypes.nextOf
 refine wpAny_bind (wpAny_callSpecial?_slot (name:=Str.ofString "__next__") hit.typeIs F.slot_tuple_iterator_next (wpAny_call_entry F.slot_tuple_iterator_next hit.typeIs F.entry_tuple_iterator_next ?_ (F.args_tuple_iterator_next_1 _)))
 show wpAny _ _ (field (.ref it) 0 >>= _) _ _ s;refine wpAny_bind (wpAny_field ho hd (x:=.ref t) rfl ?_)
 show wpAny _ _ (if (Value.ref t == Value.none)=true then _ else _) _ _ s;rw [if_neg (show ¬ ((Value.ref t == Value.none)=true) from Bool.false_ne_true)]
 show wpAny _ _ (field (.ref it) 1 >>= _) _ _ s;refine wpAny_bind (wpAny_field ho hd (x:=.int i 0) rfl ?_)
 show wpAny _ _ (seqItems? (.ref t) >>= _) _ _ s;refine wpAny_bind (wpAny_seqItems hol hdl ?_);simp only [Int.toNat_natCast,hx]
 refine wpAny_bind (wpAny_setField ho hd (by simp) (wpAny_pure ⟨x,rfl,wpAny_pure (hQ _ ?_ (Heap.SameBut.update ..))⟩));exact ⟨_,Heap.get?_update_self _ ho (Obj.isFreed_of_fields (Obj.data_mapFields hd _)),(Obj.cls_mapFields ..).trans hc,by rw [Obj.data_mapFields hd];simp [rawInt]⟩
theorem tup_end {it t:Addr} {i:Nat} {items:Array Value} {Q:Value->Shared->Prop} (hh:A.handled=none) (hit:s.heap.IsTupleIter it t i) (ht:s.heap.IsTuple t items) (hx:items[i]?=none)
  (hE:∀ h' e,Heap.ExtBut it s.heap h'->(∃ o,h'.get? e=some o/\o.cls=.type "StopIteration")->E (.ref e) { s with heap:=h' }):wpAny (model prog w) A (Builtin.SmallTypes.nextOf (.ref it)) Q E s:=by
 obtain ⟨o,ho,hc,hd⟩:=id hit;obtain ⟨ol,hol,_,nl,hdl⟩:=ht
 unfold Builtin.SmallTypes.nextOf
 refine wpAny_bind (wpAny_callSpecial?_slot (name:=Str.ofString "__next__") hit.typeIs F.slot_tuple_iterator_next (wpAny_call_entry F.slot_tuple_iterator_next hit.typeIs F.entry_tuple_iterator_next ?_ (F.args_tuple_iterator_next_1 _)))
 show wpAny _ _ (field (.ref it) 0 >>= _) _ _ s;refine wpAny_bind (wpAny_field ho hd (x:=.ref t) rfl ?_)
 show wpAny _ _ (if (Value.ref t == Value.none)=true then _ else _) _ _ s;rw [if_neg (show ¬ ((Value.ref t == Value.none)=true) from Bool.false_ne_true)]
 show wpAny _ _ (field (.ref it) 1 >>= _) _ _ s;refine wpAny_bind (wpAny_field ho hd (x:=.int i 0) rfl ?_)
 show wpAny _ _ (seqItems? (.ref t) >>= _) _ _ s;refine wpAny_bind (wpAny_seqItems hol hdl ?_);simp only [Int.toNat_natCast,hx]
 refine wpAny_bind (wpAny_rule (wpAny_bind (wpAny_setField ho hd (by simp) ?_)));show wpAny _ _ (newExc (.type "StopIteration") [] >>= _) _ _ _
 refine wpAny_bind ?_;simp only [newExc,newTuple];refine wpAny_bind (wpAny_newObj_type ?_ (by size_fits))
 refine wpAny_bind (m:=firstArgMember _ _) (wpAny_of_eq (a:=Value.none) (by first | rfl | (simp only [firstArgMember];rfl)) ?_);refine wpAny_newObj_type ?_ (by size_fits)
 simp only [raiseNew];refine wpAny_bind (wpAny_handled ?_);first | rw [show A.in1.handled=none from hh] | rw [hh]
 refine wpAny_bind (wpAny_pure (wpAny_throw ?_));exact hE _ _ (((Heap.SameBut.update ..).extBut.push _).push _) ⟨_,Heap.get?_push_size _ rfl,rfl⟩
end
structure Draws (prog:Program) (w:World) (it src:Addr) (xs:Array Value) (S:Nat->Heap->Prop):Prop where
 ne:src≠it
 obj:∀ k h,S k h->∃ o,h.get? it=some o/\∀ v,o.data≠.cell v
 sob:∀ k h,S k h->∃ o,h.get? src=some o/\(o.cls=.type "list"∨o.cls=.type "tuple")
 keep:∀ k (h h':Heap),S k h->(∀ o,h.get? it=some o->h'.get? it=some o)->(∀ o,h.get? src=some o->h'.get? src=some o)->S k h'
 item:∀ (A:Around) (s:Shared) (k:Nat) (x:Value) (Q:Value->Shared->Prop) (E:Value->Shared->Prop),S k s.heap->xs[k]?=some x->(∀ h',S (k+1) h'->Heap.SameBut it s.heap h'->Q x { s with heap:=h' }) ->
  wpAny (model prog w) A (Builtin.SmallTypes.nextOf (.ref it)) Q E s
 stop:∀ (A:Around) (s:Shared) (k:Nat) (Q:Value->Shared->Prop) (E:Value->Shared->Prop),A.handled=none->S k s.heap->xs[k]?=none ->
  (∀ h' e,Heap.ExtBut it s.heap h'->(∃ o,h'.get? e=some o/\o.cls=.type "StopIteration")->E (.ref e) { s with heap:=h' })->wpAny (model prog w) A (Builtin.SmallTypes.nextOf (.ref it)) Q E s
theorem Draws.tup {prog:Program} {w:World} {it t:Addr} {xs:Array Value} (hne:t≠it):Draws prog w it t xs (fun k h=>h.IsTupleIter it t k/\h.IsTuple t xs) where
 ne:=hne
 obj:=fun k h st=>by
  obtain ⟨⟨o,e,c,d⟩,_⟩:=st
  exact ⟨o,e,fun v z=>by rw [d] at z;cases z⟩
 sob:=fun k h st=>by
  obtain ⟨_,o,e,c,_⟩:=st
  exact ⟨o,e,.inr c⟩
 keep:=fun k h h' st k1 k2=>⟨st.1.at k1,st.2.at k2⟩
 item:=fun A s k x Q E st hx hQ=>tup_item st.1 st.2 hx fun h' a b=>hQ h' ⟨a,st.2.at fun o e=>(b.2 t hne).trans e⟩ b
 stop:=fun A s k Q E hh st hx hE=>tup_end hh st.1 st.2 hx hE
theorem Draws.lst {prog:Program} {w:World} {it t:Addr} {xs:Array Value} (hne:t≠it):Draws prog w it t xs (fun k h=>h.IsListIter it t k/\h.IsList t xs) where
 ne:=hne
 obj:=fun k h st=>by
  obtain ⟨⟨o,e,c,d⟩,_⟩:=st
  exact ⟨o,e,fun v z=>by rw [d] at z;cases z⟩
 sob:=fun k h st=>by
  obtain ⟨_,o,e,c,_⟩:=st
  exact ⟨o,e,.inl c⟩
 keep:=fun k h h' st k1 k2=>⟨st.1.at k1,st.2.at k2⟩
 item:=fun A s k x Q E st hx hQ=>wpAny_nextOf_list_item st.1 st.2 hx fun h' a b=>hQ h' ⟨a,st.2.at fun o e=>(b.2 t hne).trans e⟩ b
 stop:=fun A s k Q E hh st hx hE=>wpAny_nextOf_list_end hh st.1 st.2 hx hE
structure Apart (z TI TO i1 i2 l1 l2:Addr):Prop where
 zs:TI≠z/\TO≠z/\i1≠z/\i2≠z/\l1≠z/\l2≠z
 ts:TI≠TO/\TI≠i1/\TI≠i2/\TO≠i1/\TO≠i2/\i1≠i2
 ls:l1≠TO/\l1≠i1/\l1≠i2/\l2≠TO/\l2≠i1/\l2≠i2
section
variable {prog:Program} {w:World} {A:Around} {E:Value->Shared->Prop} {s:Shared} {z TI TO i1 i2 l1 l2:Addr} {xs ys:Array Value} {S1 S2:Nat->Heap->Prop}
theorem next_own (D:Apart z TI TO i1 i2 l1 l2) (W1:Draws prog w i1 l1 xs S1) (W2:Draws prog w i2 l2 ys S2) {k:Nat} {x y a b:Value} {Q:Value->Shared->Prop}
  (hz:IsZip s.heap z TI TO .none) (hTI:IsPair s.heap TI (.ref i1) (.ref i2)) (hTO:IsPair s.heap TO a b) (h1:S1 k s.heap) (h2:S2 k s.heap) (hx:xs[k]?=some x) (hy:ys[k]?=some y)
  (hQ:∀ h',IsZip h' z TI TO (rawInt s.heap.objs.size)->IsPair h' TO x y->S1 (k+1) h'->S2 (k+1) h'->IsPair h' s.heap.objs.size x y->h'.objs.size=s.heap.objs.size+1 ->
   (∀ c o,c≠z->c≠TO->c≠i1->c≠i2->s.heap.get? c=some o->h'.get? c=some o)->Q (.ref s.heap.objs.size) { s with heap:=h' }) :
  wpAny (model prog w) A (Builtin.«zip.__next__» ⟨[.ref z],[]⟩) (fun fin s'=>∃ v,fin=.done (.ret v)/\Q v s') E s:=by
 obtain ⟨⟨TIz,TOz,i1z,i2z,l1z,l2z⟩,⟨TITO,TIi1,TIi2,TOi1,TOi2,i12⟩,⟨l1TO,l1i1,l1i2,l2TO,l2i1,l2i2⟩⟩:=D
 show wpAny _ _ (field (.ref z) 2 >>= _) _ _ _;refine wpAny_bind (wpAny_field hz rfl (x:=.bool false) rfl ?_)
 show wpAny _ _ (field (.ref z) 3 >>= _) _ _ _;refine wpAny_bind (wpAny_field hz rfl (x:=.ref TI) rfl ?_);refine wpAny_bind (wpAny_seqItems hTI rfl ?_)
 show wpAny _ _ (Builtin.SmallTypes.ownedTupleIsFree (.ref z) >>= _) _ _ _;refine wpAny_bind ?_;unfold Builtin.SmallTypes.ownedTupleIsFree
 refine wpAny_bind (wpAny_field hz rfl (x:=.none) rfl (wpAny_pure ?_));simp only [if_true]
 refine wpAny_bind (wpAny_rule ?_);refine wpAny_bind (wpAny_field hz rfl (x:=.ref TO) rfl ?_)
 refine wpAny_bind (wpAny_setField_rec hz (by simp) fun ha hza hsa=>?_);replace hza:IsZip ha z TI TO .ellipsis:=hza
 refine wpAny_bind ?_;simp only [List.zipIdx_cons,List.zipIdx_nil,List.forIn_cons,List.forIn_nil]
 refine wpAny_bind (wpAny_bind (wpAny_onRaise ?_));show wpAny _ _ (Builtin.SmallTypes.nextOf (.ref i1) >>= _) _ _ _
 have h1a:S1 k ha:=W1.keep _ _ _ h1 (fun o e=>hsa.extBut _ _ i1z e) fun o e=>hsa.extBut _ _ l1z e
 refine wpAny_bind (W1.item _ _ k x _ _ h1a hx fun hb h1b hsb=>wpAny_pure ?_)
 have hTOb:IsPair hb TO a b:=hsb.extBut _ _ TOi1 (hsa.extBut _ _ TOz hTO)
 refine wpAny_bind (wpAny_seqItems hTOb rfl ?_);refine wpAny_bind (wpAny_updateSeq_pair hTOb fun hc hTOc hsc=>?_);replace hTOc:IsPair hc TO x b:=hTOc
 refine wpAny_bind (wpAny_letGo (wpAny_pure ?_));refine wpAny_bind (wpAny_bind (wpAny_onRaise ?_));show wpAny _ _ (Builtin.SmallTypes.nextOf (.ref i2) >>= _) _ _ _
 have h2c:S2 k hc:=W2.keep _ _ _ h2 (fun o e=>hsc.extBut _ _ (Ne.symm TOi2) (hsb.extBut _ _ (Ne.symm i12) (hsa.extBut _ _ i2z e))) fun o e=>hsc.extBut _ _ l2TO (hsb.extBut _ _ l2i1 (hsa.extBut _ _ l2z e))
 refine wpAny_bind (W2.item _ _ k y _ _ h2c hy fun hd h2d hsd=>wpAny_pure ?_)
 have hTOd:IsPair hd TO x b:=hsd.extBut _ _ TOi2 hTOc
 refine wpAny_bind (wpAny_seqItems hTOd rfl ?_);refine wpAny_bind (wpAny_updateSeq_pair hTOd fun he hTOe hse=>?_);replace hTOe:IsPair he TO x y:=hTOe
 refine wpAny_bind (wpAny_letGo (wpAny_pure (wpAny_pure ?_)));refine wpAny_bind (wpAny_seqItems hTOe rfl ?_);refine wpAny_bind (wpAny_newTuple ?_)
 have hsz:he.objs.size=s.heap.objs.size:=by rw [hse.1,hsd.1,hsc.1,hsb.1,hsa.1]
 have hze:IsZip he z TI TO .ellipsis:=hse.extBut _ _ (Ne.symm TOz) (hsd.extBut _ _ (Ne.symm i2z) (hsc.extBut _ _ (Ne.symm TOz) (hsb.extBut _ _ (Ne.symm i1z) hza)))
 have hke:∀ c o,c≠z->c≠TO->c≠i1->c≠i2->s.heap.get? c=some o->he.get? c=some o:=fun c o c1 c2 c3 c4 e=>hse.extBut _ _ c2 (hsd.extBut _ _ c4 (hsc.extBut _ _ c2 (hsb.extBut _ _ c3 (hsa.extBut _ _ c1 e))))
 have h1e:S1 (k+1) he:=W1.keep _ _ _ h1b (fun o e=>hse.extBut _ _ (Ne.symm TOi1) (hsd.extBut _ _ i12 (hsc.extBut _ _ (Ne.symm TOi1) e))) fun o e=>hse.extBut _ _ l1TO (hsd.extBut _ _ l1i2 (hsc.extBut _ _ l1TO e))
 have h2e:S2 (k+1) he:=W2.keep _ _ _ h2d (fun o e=>hse.extBut _ _ (Ne.symm TOi2) e) fun o e=>hse.extBut _ _ l2TO e
 have ltz:z < he.objs.size:=Heap.lt_size hze
 show wpAny _ _ (Builtin.SmallTypes.ownedTupleHandOut (.ref z) (.ref he.objs.size) >>= _) _ _ _;refine wpAny_bind ?_;unfold Builtin.SmallTypes.ownedTupleHandOut
 have hzf:IsZip (he.push { cls:=.type "tuple",data:=.seq #[x,y] }) z TI TO .ellipsis:=Heap.get?_push_of_some _ hze
 refine wpAny_bind (wpAny_setField_rec hzf (by simp) fun hg hzg hsg=>?_);replace hzg:IsZip hg z TI TO (rawInt he.objs.size):=hzg
 refine wpAny_setField_rec hzg (by simp) fun hi hzi hsi=>?_;replace hzi:IsZip hi z TI TO (rawInt he.objs.size):=hzi
 have up:∀ c o,c≠z->he.get? c=some o->hi.get? c=some o:=fun c o c1 e=>hsi.extBut _ _ c1 (hsg.extBut _ _ c1 (Heap.get?_push_of_some _ e))
 have hTi:IsPair hi he.objs.size x y:=hsi.extBut _ _ (Nat.ne_of_gt ltz) (hsg.extBut _ _ (Nat.ne_of_gt ltz) (Heap.get?_push_size _ rfl))
 have szi:hi.objs.size=he.objs.size+1:=by rw [hsi.1,hsg.1,Heap.size_push]
 rw [hsz] at hzi hTi szi;refine wpAny_pure ⟨_,rfl,?_⟩;show Q (.ref he.objs.size) _;rw [hsz]
 exact hQ hi hzi (up _ _ TOz hTOe) (W1.keep _ _ _ h1e (fun o e=>up _ o i1z e) fun o e=>up _ o l1z e) (W2.keep _ _ _ h2e (fun o e=>up _ o i2z e) fun o e=>up _ o l2z e) hTi szi fun c o c1 c2 c3 c4 e=>up c o c1 (hke c o c1 c2 c3 c4 e)
theorem next_end (hh:A.handled=none) (D:Apart z TI TO i1 i2 l1 l2) (W1:Draws prog w i1 l1 xs S1) (W2:Draws prog w i2 l2 ys S2) {k:Nat} {a b:Value} {Q:Fin->Shared->Prop}
  (hz:IsZip s.heap z TI TO .none) (hTI:IsPair s.heap TI (.ref i1) (.ref i2)) (hTO:IsPair s.heap TO a b) (h1:S1 k s.heap) (h2:S2 k s.heap) (hend:xs[k]?=none∨ys[k]?=none)
  (hE:∀ h' e,(∀ c o,c≠z->c≠TO->c≠i1->c≠i2->s.heap.get? c=some o->h'.get? c=some o)->(∃ o,h'.get? e=some o/\o.cls=.type "StopIteration")->E (.ref e) { s with heap:=h' }) :
  wpAny (model prog w) A (Builtin.«zip.__next__» ⟨[.ref z],[]⟩) Q E s:=by
 obtain ⟨⟨TIz,TOz,i1z,i2z,l1z,l2z⟩,⟨TITO,TIi1,TIi2,TOi1,TOi2,i12⟩,⟨l1TO,l1i1,l1i2,l2TO,l2i1,l2i2⟩⟩:=D
 show wpAny _ _ (field (.ref z) 2 >>= _) _ _ _;refine wpAny_bind (wpAny_field hz rfl (x:=.bool false) rfl ?_)
 show wpAny _ _ (field (.ref z) 3 >>= _) _ _ _;refine wpAny_bind (wpAny_field hz rfl (x:=.ref TI) rfl ?_);refine wpAny_bind (wpAny_seqItems hTI rfl ?_)
 show wpAny _ _ (Builtin.SmallTypes.ownedTupleIsFree (.ref z) >>= _) _ _ _;refine wpAny_bind ?_;unfold Builtin.SmallTypes.ownedTupleIsFree
 refine wpAny_bind (wpAny_field hz rfl (x:=.none) rfl (wpAny_pure ?_));simp only [if_true]
 refine wpAny_bind (wpAny_rule ?_);refine wpAny_bind (wpAny_field hz rfl (x:=.ref TO) rfl ?_)
 refine wpAny_bind (wpAny_setField_rec hz (by simp) fun ha hza hsa=>?_);replace hza:IsZip ha z TI TO .ellipsis:=hza
 refine wpAny_bind ?_;simp only [List.zipIdx_cons,List.zipIdx_nil,List.forIn_cons,List.forIn_nil]
 refine wpAny_bind (wpAny_bind (wpAny_onRaise ?_));show wpAny _ _ (Builtin.SmallTypes.nextOf (.ref i1) >>= _) _ _ _
 have h1a:S1 k ha:=W1.keep _ _ _ h1 (fun o e=>hsa.extBut _ _ i1z e) fun o e=>hsa.extBut _ _ l1z e
 cases hx:xs[k]? with
 | none =>
  refine wpAny_bind (W1.stop _ _ k _ _ hh h1a hx fun hb e hsb he=>?_)
  obtain ⟨oe,hoe,hce⟩:=he
  have hzb:IsZip hb z TI TO .ellipsis:=hsb _ _ (Ne.symm i1z) hza
  have hez:e≠z:=fun q=>by subst q;rw [hzb] at hoe;cases hoe;simp at hce
  refine wpAny_setField_rec hzb (by simp) fun hc _ hsc=>hE hc e (fun c o c1 _ c3 _ q=>hsc.extBut _ _ c1 (hsb _ _ c3 (hsa.extBut _ _ c1 q))) ⟨oe,hsc.extBut _ _ hez hoe,hce⟩
 | some x =>
  have hy:ys[k]?=none:=by rcases hend with h | h;rw [hx] at h;cases h;exact h
  refine wpAny_bind (W1.item _ _ k x _ _ h1a hx fun hb h1b hsb=>wpAny_pure ?_)
  have hTOb:IsPair hb TO a b:=hsb.extBut _ _ TOi1 (hsa.extBut _ _ TOz hTO)
  refine wpAny_bind (wpAny_seqItems hTOb rfl ?_);refine wpAny_bind (wpAny_updateSeq_pair hTOb fun hc hTOc hsc=>?_)
  refine wpAny_bind (wpAny_letGo (wpAny_pure ?_));refine wpAny_bind (wpAny_bind (wpAny_onRaise ?_));show wpAny _ _ (Builtin.SmallTypes.nextOf (.ref i2) >>= _) _ _ _
  have h2c:S2 k hc:=W2.keep _ _ _ h2 (fun o e=>hsc.extBut _ _ (Ne.symm TOi2) (hsb.extBut _ _ (Ne.symm i12) (hsa.extBut _ _ i2z e))) fun o e=>hsc.extBut _ _ l2TO (hsb.extBut _ _ l2i1 (hsa.extBut _ _ l2z e))
  refine wpAny_bind (W2.stop _ _ k _ _ hh h2c hy fun hd e hsd he=>?_)
  obtain ⟨oe,hoe,hce⟩:=he
  have hzd:IsZip hd z TI TO .ellipsis:=hsd _ _ (Ne.symm i2z) (hsc.extBut _ _ (Ne.symm TOz) (hsb.extBut _ _ (Ne.symm i1z) hza))
  have hez:e≠z:=fun q=>by subst q;rw [hzd] at hoe;cases hoe;simp at hce
  refine wpAny_setField_rec hzd (by simp) fun hf _ hsf=>hE hf e (fun c o c1 c2 c3 c4 q=>hsf.extBut _ _ c1 (hsd _ _ c4 (hsc.extBut _ _ c2 (hsb.extBut _ _ c3 (hsa.extBut _ _ c1 q))))) ⟨oe,hsf.extBut _ _ hez hoe,hce⟩
end
end Zp
end PySem
namespace PySem
namespace Zp
def itObj (T:String) (l:Addr):Obj:={ cls:=.type T,data:=.fields #[.ref l,.int 0 0] }
def z1 (h:Heap) (T1:String) (l1:Addr):Heap:=h.push (itObj T1 l1)
def z2 (h:Heap) (T1 T2:String) (l1 l2:Addr):Heap:=(z1 h T1 l1).push (itObj T2 l2)
def z3 (h:Heap) (T1 T2:String) (l1 l2:Addr):Heap:=(z2 h T1 T2 l1 l2).push { cls:=.type "tuple",data:=.seq #[.ref h.objs.size,.ref (z1 h T1 l1).objs.size] }
def z4 (h:Heap) (T1 T2:String) (l1 l2:Addr):Heap:=(z3 h T1 T2 l1 l2).push { cls:=.type "tuple",data:=.seq #[.none,.none] }
def z5 (h:Heap) (T1 T2:String) (l1 l2:Addr):Heap:=(z4 h T1 T2 l1 l2).push { cls:=.type "zip",data:=.fields #[.none,.bool false,.bool false,.ref (z2 h T1 T2 l1 l2).objs.size,.ref (z3 h T1 T2 l1 l2).objs.size] }
abbrev Its (T:String) (l:Addr) (C:Heap->Prop):Prop:=∀ {prog:Program} {w:World} {A:Around} {E:Value->Shared->Prop} {s:Shared} {Q:Value->Shared->Prop},C s.heap->Q (.ref s.heap.objs.size) { s with heap:=s.heap.push (itObj T l) }->wpAny (model prog w) A (pyIter (.ref l)) Q E s
theorem meets_new (T1 T2:String) (l1 l2:Addr) (C1 C2:Heap->Prop) (p1:Its T1 l1 C1) (p2:Its T2 l2 C2) (k2:∀ h o,C2 h->C2 (Heap.push h o)) :
  Meets (Builtin.«zip.__new__» ⟨[.type "zip",.ref l1,.ref l2],[]⟩) (fun _ R s=>C1 s.heap/\C2 s.heap/\R (.ok (.ret (.ref (z4 s.heap T1 T2 l1 l2).objs.size))) { s with heap:=z5 s.heap T1 T2 l1 l2 }) :=
 .of_wp fun prog w A R s h=>by
  obtain ⟨hp,g,d,tk,os⟩:=s;obtain ⟨c1,c2,h⟩:=h
  have hsub:=sub_zip
  have a1:C1 (Shared.heap ⟨hp,g,d,tk,os⟩):=c1
  have a2:C2 (Shared.heap ⟨hp.push (itObj T1 l1),g,d,tk,os⟩):=k2 _ _ c2
  wp_walk using p1 a1,p2 a2
  exact ⟨_,rfl,h⟩
section
variable {prog:Program} {w:World} {A:Around} {E:Value->Shared->Prop} {s:Shared} {z TI TO i1 i2 l1 l2:Addr} {xs ys:Array Value} {S1 S2:Nat->Heap->Prop}
theorem call_zip {T1 T2:String} {C1 C2:Heap->Prop} {Q:Value->Shared->Prop} (p1:Its T1 l1 C1) (p2:Its T2 l2 C2) (k2:∀ h o,C2 h->C2 (Heap.push h o)) (c1:C1 s.heap) (c2:C2 s.heap)
  (h:Q (.ref (z4 s.heap T1 T2 l1 l2).objs.size) { s with heap:=z5 s.heap T1 T2 l1 l2 }):wpAny (model prog w) A (call (.type "zip") [.ref l1,.ref l2]) Q E s :=
 callType_new F.called_zip (by decide) (F.typeCall_zip_2 _ _) (F.newCall_zip_2 _ _) (fun obj=>F.args_object_init_3 obj _ _) F.entry_zip_new (meets_new T1 T2 l1 l2 C1 C2 p1 p2 k2)
  ⟨c1,c2,⟨_,Heap.get?_push_size _ rfl,rfl⟩,h⟩
theorem pyNext_own (D:Apart z TI TO i1 i2 l1 l2) (W1:Draws prog w i1 l1 xs S1) (W2:Draws prog w i2 l2 ys S2) {k:Nat} {x y a b:Value} {Q:Option Value->Shared->Prop}
  (hz:IsZip s.heap z TI TO .none) (hTI:IsPair s.heap TI (.ref i1) (.ref i2)) (hTO:IsPair s.heap TO a b) (h1:S1 k s.heap) (h2:S2 k s.heap) (hx:xs[k]?=some x) (hy:ys[k]?=some y)
  (hQ:∀ h',IsZip h' z TI TO (rawInt s.heap.objs.size)->IsPair h' TO x y->S1 (k+1) h'->S2 (k+1) h'->IsPair h' s.heap.objs.size x y->h'.objs.size=s.heap.objs.size+1 ->
   (∀ c o,c≠z->c≠TO->c≠i1->c≠i2->s.heap.get? c=some o->h'.get? c=some o)->Q (some (.ref s.heap.objs.size)) { s with heap:=h' }) :
  wpAny (model prog w) A (pyNext (.ref z)) Q E s:=by
 have hT:s.TypeIs (.ref z) "zip":=⟨_,hz,rfl⟩
 unfold pyNext
 exact wpAny_bind (wpAny_attempt (wpAny_callSpecial?_slot (name:=Str.ofString "__next__") hT F.slot_zip_next (wpAny_call_entry F.slot_zip_next hT F.entry_zip_next
  (next_own D W1 W2 hz hTI hTO h1 h2 hx hy fun h' a1 a2 a3 a4 a5 a6 a7=>wpAny_pure (hQ h' a1 a2 a3 a4 a5 a6 a7)) (F.args_zip_next_1 _))))
theorem pyNext_end (hh:A.handled=none) (D:Apart z TI TO i1 i2 l1 l2) (W1:Draws prog w i1 l1 xs S1) (W2:Draws prog w i2 l2 ys S2) {k:Nat} {a b:Value} {Q:Option Value->Shared->Prop}
  (hz:IsZip s.heap z TI TO .none) (hTI:IsPair s.heap TI (.ref i1) (.ref i2)) (hTO:IsPair s.heap TO a b) (h1:S1 k s.heap) (h2:S2 k s.heap) (hend:xs[k]?=none∨ys[k]?=none)
  (hQ:∀ h',(∀ c o,c≠z->c≠TO->c≠i1->c≠i2->s.heap.get? c=some o->h'.get? c=some o)->Q none { s with heap:=h' }):wpAny (model prog w) A (pyNext (.ref z)) Q E s:=by
 have hT:s.TypeIs (.ref z) "zip":=⟨_,hz,rfl⟩
 unfold pyNext
 refine wpAny_bind (wpAny_attempt (wpAny_callSpecial?_slot (name:=Str.ofString "__next__") hT F.slot_zip_next (wpAny_call_entry F.slot_zip_next hT F.entry_zip_next
  (next_end (A:=A.in1) (show A.in1.handled=none from hh) D W1 W2 hz hTI hTO h1 h2 hend fun h' e hk he=>?_) (F.args_zip_next_1 _))))
 obtain ⟨o,ho,hc⟩:=he
 refine wpAny_bind (wpAny_isInstance (T:="StopIteration") (b:=true) ⟨o,ho,hc⟩ isSubtype_stop ?_);exact wpAny_pure (hQ _ hk)
end
def GL:Bool->Heap->Addr->Addr->Nat->Prop
 | true,h,it,l,k=>h.IsTupleIter it l k
 | false,h,it,l,k=>h.IsListIter it l k
def DY:Bool->Heap->Addr->Array Value->Prop
 | true,h,l,xs=>h.IsTuple l xs
 | false,h,l,xs=>h.IsList l xs
def BL:Bool->String
 | true=>"tuple_iterator"
 | false=>"list_iterator"
theorem Ct (b:Bool) {prog:Program} {w:World} {it t:Addr} {xs:Array Value} (hne:t≠it):Draws prog w it t xs (fun k h=>GL b h it t k/\DY b h t xs):=by
 cases b
 ·exact Draws.lst hne
 ·exact Draws.tup hne
theorem its_of (b:Bool) (l:Addr) (xs:Array Value):Its (BL b) l (fun h=>DY b h l xs):=by
 intro prog w A E s Q c q
 cases b
 ·exact wpAny_pyIter_list c q
 ·exact wpAny_pyIter_tuple c q
theorem DY.at {b:Bool} {h h':Heap} {l:Addr} {xs:Array Value} (c:DY b h l xs) (e:∀ o,h.get? l=some o->h'.get? l=some o):DY b h' l xs:=by
 cases b
 ·exact Heap.IsList.at c e
 ·exact Heap.IsTuple.at c e
theorem GL.at {b:Bool} {h h':Heap} {it l:Addr} {k:Nat} (c:GL b h it l k) (e:∀ o,h.get? it=some o->h'.get? it=some o):GL b h' it l k:=by
 cases b
 ·exact Heap.IsListIter.at c e
 ·exact Heap.IsTupleIter.at c e
theorem GL.obj {b:Bool} {h:Heap} {it l:Addr} {k:Nat} (c:GL b h it l k):∃ o,h.get? it=some o/\∀ v,o.data≠.cell v:=by
 cases b
 ·obtain ⟨o,e,_,d⟩:=c
  exact ⟨o,e,fun v z=>by rw [d] at z;cases z⟩
 ·obtain ⟨o,e,_,d⟩:=c
  exact ⟨o,e,fun v z=>by rw [d] at z;cases z⟩
theorem GL.new {b:Bool} {h:Heap} {it l:Addr} (e:h.get? it=some (itObj (BL b) l)):GL b h it l 0:=by
 cases b
 ·exact ⟨_,e,rfl,rfl⟩
 ·exact ⟨_,e,rfl,rfl⟩
end Zp
end PySem
namespace L2
open PySem PySem.Spec PyProof.Rows
def SqB (b:Bool) (K:PySem.W.Frag) (H:Hp) (a:Addr) (xs:List V):Prop:=match b with
 | true=>SqT K H a xs
 | false=>SqL K H a xs
section
variable {X:Cx} {pins:List (Addr×Obj)} {σ:St} {H:Hp} {s:Shared} {a:Addr} {xs ys:List V} {b:Bool}
theorem Inv.sqb (I:Inv X pins σ H s) (h:SqB b X.K H a xs):∃ its:List Value,Vals xs its/\Zp.DY b s.heap a its.toArray/\xs.length<=sizeLine:=by
 cases b
 ·obtain ⟨its,r,p,z⟩:=I.list h
  exact ⟨its,r,p.isList,z⟩
 ·obtain ⟨its,r,p,z⟩:=I.tuple h
  exact ⟨its,r,p,z⟩
end
end L2
namespace PySem
namespace Zp
theorem made {h:Heap} {b1 b2:Bool} {l1 l2:Addr} {xs ys:Array Value} (c1:DY b1 h l1 xs) (c2:DY b2 h l2 ys) :
  ∃ z TI TO i1 i2,z=(z4 h (BL b1) (BL b2) l1 l2).objs.size/\h.objs.size<=z/\h.objs.size<=TI/\h.objs.size<=TO/\h.objs.size<=i1/\h.objs.size<=i2/\Apart z TI TO i1 i2 l1 l2 /\
   IsZip (z5 h (BL b1) (BL b2) l1 l2) z TI TO .none/\IsPair (z5 h (BL b1) (BL b2) l1 l2) TI (.ref i1) (.ref i2)/\IsPair (z5 h (BL b1) (BL b2) l1 l2) TO .none .none /\
   GL b1 (z5 h (BL b1) (BL b2) l1 l2) i1 l1 0/\GL b2 (z5 h (BL b1) (BL b2) l1 l2) i2 l2 0/\∀ c o,h.get? c=some o->(z5 h (BL b1) (BL b2) l1 l2).get? c=some o:=by
 have s1:(z1 h (BL b1) l1).objs.size=h.objs.size+1:=Heap.size_push ..
 have s2:(z2 h (BL b1) (BL b2) l1 l2).objs.size=h.objs.size+2:=by unfold z2;rw [Heap.size_push,s1]
 have s3:(z3 h (BL b1) (BL b2) l1 l2).objs.size=h.objs.size+3:=by unfold z3;rw [Heap.size_push,s2]
 have s4:(z4 h (BL b1) (BL b2) l1 l2).objs.size=h.objs.size+4:=by unfold z4;rw [Heap.size_push,s3]
 have lt:∀ {b:Bool} {l:Addr} {xs:Array Value},DY b h l xs->l < h.objs.size:=fun {b l xs} c=>by
  cases b
  ·obtain ⟨o,e,_⟩:=c
   exact Heap.lt_size e
  ·obtain ⟨o,e,_⟩:=c
   exact Heap.lt_size e
 have t1:@LT.lt Nat _ l1 h.objs.size:=lt c1
 have t2:@LT.lt Nat _ l2 h.objs.size:=lt c2
 refine ⟨(z4 h (BL b1) (BL b2) l1 l2).objs.size,(z2 h (BL b1) (BL b2) l1 l2).objs.size,(z3 h (BL b1) (BL b2) l1 l2).objs.size,h.objs.size,(z1 h (BL b1) l1).objs.size,rfl,by omega,by omega,by omega,by omega,by omega,⟨?_,?_,?_⟩,?_,?_,?_,?_,?_,?_⟩
 ·rw [s1,s2,s3,s4]
  refine ⟨?_,?_,?_,?_,?_,?_⟩ <;> (intro e;have e2:@Eq Nat _ _:=e;omega)
 ·rw [s1,s2,s3]
  refine ⟨?_,?_,?_,?_,?_,?_⟩ <;> (intro e;have e2:@Eq Nat _ _:=e;omega)
 ·rw [s1,s3]
  refine ⟨?_,?_,?_,?_,?_,?_⟩ <;> (intro e;have e2:@Eq Nat _ _:=e;omega)
 ·exact Heap.get?_push_size _ rfl
 ·exact Heap.get?_push_of_some _ (Heap.get?_push_of_some _ (Heap.get?_push_size _ rfl))
 ·exact Heap.get?_push_of_some _ (Heap.get?_push_size _ rfl)
 ·exact GL.new (Heap.get?_push_of_some _ (Heap.get?_push_of_some _ (Heap.get?_push_of_some _ (Heap.get?_push_of_some _ (Heap.get?_push_size _ rfl)))))
 ·exact GL.new (Heap.get?_push_of_some _ (Heap.get?_push_of_some _ (Heap.get?_push_of_some _ (Heap.get?_push_size _ rfl))))
 ·exact fun c o e=>Heap.get?_push_of_some _ (Heap.get?_push_of_some _ (Heap.get?_push_of_some _ (Heap.get?_push_of_some _ (Heap.get?_push_of_some _ e))))
end Zp
end PySem
namespace L2
open PySem PySem.Spec PyProof.Rows
end L2
namespace PySem
end PySem
namespace L2
open PySem PySem.Spec PyProof.Rows
section
variable {X:Cx}
def rCatT0 (K:PySem.W.Frag):R2:=fun x y H Q=>∃ a b ys,x=.ref a/\y=.ref b/\SqT K H a []/\SqT K H b ys/\Q (.ref b) H
theorem op_catT0:OpR X (binaryOp .Add) (rCatT0 X.K):=by
 intro pins s σ H x y v u Q I rx ry h
 obtain ⟨a,b,ys,rfl,rfl,ha,hb,q⟩:=h
 cases rx
 cases ry
 obtain ⟨its,r1,⟨⟨cls,dd,data,sl⟩,ho,hc,n,hd⟩,_⟩:=I.tuple ha
 obtain ⟨its2,r2,⟨⟨cls2,dd2,data2,sl2⟩,ho2,hc2,n2,hd2⟩,_⟩:=I.tuple hb
 simp only at hc hd hc2 hd2
 subst hc hd hc2 hd2
 cases r1
 exact concat_meets ⟨_,ho,rfl⟩ ⟨_,ho2,rfl⟩ noFill_tuple_add seq_tuple_add PySem.F.slot_tuple_add PySem.F.entry_tuple_add (PySem.F.args_tuple_add_2 _ _) (tuple_addW0 a b _ _ n n2 dd dd2 sl sl2 (by simp)) ⟨ho,ho2,⟨.ref b,H,I,rfl,q⟩⟩
theorem call_isinst (T:String):CB X (.builtin "isinstance") (fun xs H Q=>∃ x t b,xs=[x,.ty T]/\TyOf X.K H x t/\PySem.W.kitOne X.K t (.type T)=some b/\Q (.bl b) H):=by
 intro pins s σ H xs us Q I r h
 obtain ⟨x,t,b,rfl,ty,e,q⟩:=h
 cases r with
 | cons r1 rr =>
  cases rr with
  | cons r2 rr =>
   cases rr
   obtain rfl:_=Value.type T:=r2
   exact isinst_ok I r1 ty e fun tk=>⟨.bl b,H,I.tok tk,rfl,q⟩
end
end L2
namespace PySem
namespace Zp
abbrev GJ (h:Heap) (z TI TO a:Addr) (f:Bool):Prop:=h.get? z=some { cls:=.type "zip",data:=.fields #[rawInt a,.bool f,.bool false,.ref TI,.ref TO] }
section
variable {prog:Program} {w:World} {A:Around} {E:Value->Shared->Prop} {s:Shared} {z TI TO i1 i2 l1 l2 ad:Addr} {xs ys:Array Value} {S1 S2:Nat->Heap->Prop}
theorem alive {a:Addr} {o:Obj} {Q:Option Obj->Shared->Prop} (ho:s.heap.get? a=some o) (h:Q (some o) s):wpAny (model prog w) A (loadIfAlive a) Q E s:=by
 have h':Q (s.heap.get? a) s:=by rw [ho];exact h
 exact fun _ _ _=>h'
theorem notFree {f:Bool} {oa:Obj} {Q:Bool->Shared->Prop} (hz:GJ s.heap z TI TO ad f) (ha:s.heap.get? ad=some oa) (hQ:∀ h',GJ h' z TI TO ad true->Heap.SameBut z s.heap h'->Q false { s with heap:=h' }) :
  wpAny (model prog w) A (Builtin.SmallTypes.ownedTupleIsFree (.ref z)) Q E s:=by
 unfold Builtin.SmallTypes.ownedTupleIsFree
 refine wpAny_bind (wpAny_field hz rfl (x:=rawInt ad) rfl ?_)
 show wpAny _ _ (loadIfAlive ((ad:Int).toNat) >>= _) _ _ _
 rw [Int.toNat_natCast]
 refine wpAny_bind (alive ha ?_)
 simp only [Option.isNone_some,Bool.false_eq_true,if_false]
 refine wpAny_bind (wpAny_field hz rfl (x:=.bool f) rfl ?_)
 cases f with
 | true =>
  rw [if_neg (show ¬ ((Value.bool true != Value.bool true)=true) from Bool.false_ne_true)]
  exact wpAny_pure (hQ s.heap hz (Heap.SameBut.refl _ _))
 | false =>
  rw [if_pos (show (Value.bool false != Value.bool true)=true from rfl)]
  exact wpAny_bind (wpAny_setField_rec hz (by simp) fun h3 he hs=>wpAny_pure (hQ h3 he hs))
theorem next_held (D:Apart z TI TO i1 i2 l1 l2) (W1:Draws prog w i1 l1 xs S1) (W2:Draws prog w i2 l2 ys S2) {k:Nat} {f:Bool} {oa:Obj} {x y:Value} {Q:Value->Shared->Prop}
  (hz:GJ s.heap z TI TO ad f) (ha:s.heap.get? ad=some oa) (hTI:IsPair s.heap TI (.ref i1) (.ref i2)) (h1:S1 k s.heap) (h2:S2 k s.heap) (hx:xs[k]?=some x) (hy:ys[k]?=some y)
  (hQ:∀ h',GJ h' z TI TO ad true->S1 (k+1) h'->S2 (k+1) h'->IsPair h' s.heap.objs.size x y->h'.objs.size=s.heap.objs.size+1 ->
   (∀ c o,c≠z->c≠i1->c≠i2->s.heap.get? c=some o->h'.get? c=some o)->Q (.ref s.heap.objs.size) { s with heap:=h' }) :
  wpAny (model prog w) A (Builtin.«zip.__next__» ⟨[.ref z],[]⟩) (fun fin s'=>∃ v,fin=.done (.ret v)/\Q v s') E s:=by
 obtain ⟨⟨TIz,TOz,i1z,i2z,l1z,l2z⟩,⟨TITO,TIi1,TIi2,TOi1,TOi2,i12⟩,⟨l1TO,l1i1,l1i2,l2TO,l2i1,l2i2⟩⟩:=D
 show wpAny _ _ (field (.ref z) 2 >>= _) _ _ _;refine wpAny_bind (wpAny_field hz rfl (x:=.bool false) rfl ?_)
 show wpAny _ _ (field (.ref z) 3 >>= _) _ _ _;refine wpAny_bind (wpAny_field hz rfl (x:=.ref TI) rfl ?_);refine wpAny_bind (wpAny_seqItems hTI rfl ?_)
 show wpAny _ _ (Builtin.SmallTypes.ownedTupleIsFree (.ref z) >>= _) _ _ _;refine wpAny_bind (notFree hz ha fun hA hzA hsA=>?_)
 simp only [Bool.false_eq_true,if_false]
 simp only [<- Array.forIn_toList,List.forIn_cons,List.forIn_nil]
 refine wpAny_bind (wpAny_bind (wpAny_bind (wpAny_holding ?_)));show wpAny _ _ (Builtin.SmallTypes.nextOf (.ref i1) >>= _) _ _ _
 have h1a:S1 k hA:=W1.keep _ _ _ h1 (fun o e=>hsA.extBut _ _ i1z e) fun o e=>hsA.extBut _ _ l1z e
 refine wpAny_bind (W1.item _ _ k x _ _ h1a hx fun hb h1b hsb=>wpAny_pure (wpAny_pure ?_))
 refine wpAny_bind (wpAny_bind (wpAny_holding ?_));show wpAny _ _ (Builtin.SmallTypes.nextOf (.ref i2) >>= _) _ _ _
 have h2b:S2 k hb:=W2.keep _ _ _ h2 (fun o e=>hsb.extBut _ _ (Ne.symm i12) (hsA.extBut _ _ i2z e)) fun o e=>hsb.extBut _ _ l2i1 (hsA.extBut _ _ l2z e)
 refine wpAny_bind (W2.item _ _ k y _ _ h2b hy fun hd h2d hsd=>wpAny_pure (wpAny_pure (wpAny_pure ?_)))
 refine wpAny_bind (wpAny_newTuple (hsz:=by show 2<=sizeLine;rw [sizeLine_eq];decide) ?_)
 have hsz:hd.objs.size=s.heap.objs.size:=by rw [hsd.1,hsb.1,hsA.1]
 have kp:∀ c o,c≠z->c≠i1->c≠i2->s.heap.get? c=some o->hd.get? c=some o:=fun c o c1 c2 c3 e=>hsd.extBut _ _ c3 (hsb.extBut _ _ c2 (hsA.extBut _ _ c1 e))
 have h1d:S1 (k+1) hd:=W1.keep _ _ _ h1b (fun o e=>hsd.extBut _ _ i12 e) fun o e=>hsd.extBut _ _ l1i2 e
 refine wpAny_pure ⟨_,rfl,?_⟩
 show Q (.ref hd.objs.size) _
 rw [hsz]
 refine hQ _ (Heap.get?_push_of_some _ (hsd.extBut _ _ (Ne.symm i2z) (hsb.extBut _ _ (Ne.symm i1z) hzA))) (W1.keep _ _ _ h1d (fun o e=>Heap.get?_push_of_some _ e) fun o e=>Heap.get?_push_of_some _ e) (W2.keep _ _ _ h2d (fun o e=>Heap.get?_push_of_some _ e) fun o e=>Heap.get?_push_of_some _ e) ?_ (by rw [Heap.size_push,hsz]) fun c o c1 c2 c3 e=>Heap.get?_push_of_some _ (kp c o c1 c2 c3 e)
 rw [<- hsz]
 exact Heap.get?_push_size _ rfl
theorem end_held (hh:A.handled=none) (D:Apart z TI TO i1 i2 l1 l2) (W1:Draws prog w i1 l1 xs S1) (W2:Draws prog w i2 l2 ys S2) {k:Nat} {f:Bool} {oa:Obj} {Q:Fin->Shared->Prop}
  (hz:GJ s.heap z TI TO ad f) (ha:s.heap.get? ad=some oa) (hTI:IsPair s.heap TI (.ref i1) (.ref i2)) (h1:S1 k s.heap) (h2:S2 k s.heap) (hend:xs[k]?=none∨ys[k]?=none)
  (hE:∀ h' e,(∀ c o,c≠z->c≠i1->c≠i2->s.heap.get? c=some o->h'.get? c=some o)->(∃ o,h'.get? e=some o/\o.cls=.type "StopIteration")->E (.ref e) { s with heap:=h' }) :
  wpAny (model prog w) A (Builtin.«zip.__next__» ⟨[.ref z],[]⟩) Q E s:=by
 obtain ⟨⟨TIz,TOz,i1z,i2z,l1z,l2z⟩,⟨TITO,TIi1,TIi2,TOi1,TOi2,i12⟩,⟨l1TO,l1i1,l1i2,l2TO,l2i1,l2i2⟩⟩:=D
 show wpAny _ _ (field (.ref z) 2 >>= _) _ _ _;refine wpAny_bind (wpAny_field hz rfl (x:=.bool false) rfl ?_)
 show wpAny _ _ (field (.ref z) 3 >>= _) _ _ _;refine wpAny_bind (wpAny_field hz rfl (x:=.ref TI) rfl ?_);refine wpAny_bind (wpAny_seqItems hTI rfl ?_)
 show wpAny _ _ (Builtin.SmallTypes.ownedTupleIsFree (.ref z) >>= _) _ _ _;refine wpAny_bind (notFree hz ha fun hA hzA hsA=>?_)
 simp only [Bool.false_eq_true,if_false]
 simp only [<- Array.forIn_toList,List.forIn_cons,List.forIn_nil]
 refine wpAny_bind (wpAny_bind (wpAny_bind (wpAny_holding ?_)));show wpAny _ _ (Builtin.SmallTypes.nextOf (.ref i1) >>= _) _ _ _
 have h1a:S1 k hA:=W1.keep _ _ _ h1 (fun o e=>hsA.extBut _ _ i1z e) fun o e=>hsA.extBut _ _ l1z e
 cases hx:xs[k]? with
 | none=>exact wpAny_bind (W1.stop _ _ k _ _ hh h1a hx fun hb e hsb he=>hE hb e (fun c o c1 c2 c3 q=>hsb _ _ c2 (hsA.extBut _ _ c1 q)) he)
 | some x =>
  have hy:ys[k]?=none:=by
   rcases hend with h | h
   ·rw [hx] at h;cases h
   ·exact h
  refine wpAny_bind (W1.item _ _ k x _ _ h1a hx fun hb h1b hsb=>wpAny_pure (wpAny_pure ?_))
  refine wpAny_bind (wpAny_bind (wpAny_holding ?_));show wpAny _ _ (Builtin.SmallTypes.nextOf (.ref i2) >>= _) _ _ _
  have h2b:S2 k hb:=W2.keep _ _ _ h2 (fun o e=>hsb.extBut _ _ (Ne.symm i12) (hsA.extBut _ _ i2z e)) fun o e=>hsb.extBut _ _ l2i1 (hsA.extBut _ _ l2z e)
  exact wpAny_bind (W2.stop _ _ k _ _ hh h2b hy fun hd e hsd he=>hE hd e (fun c o c1 c2 c3 q=>hsd _ _ c3 (hsb.extBut _ _ c2 (hsA.extBut _ _ c1 q))) he)
theorem pyNext_held (D:Apart z TI TO i1 i2 l1 l2) (W1:Draws prog w i1 l1 xs S1) (W2:Draws prog w i2 l2 ys S2) {k:Nat} {f:Bool} {oa:Obj} {x y:Value} {Q:Option Value->Shared->Prop}
  (hz:GJ s.heap z TI TO ad f) (ha:s.heap.get? ad=some oa) (hTI:IsPair s.heap TI (.ref i1) (.ref i2)) (h1:S1 k s.heap) (h2:S2 k s.heap) (hx:xs[k]?=some x) (hy:ys[k]?=some y)
  (hQ:∀ h',GJ h' z TI TO ad true->S1 (k+1) h'->S2 (k+1) h'->IsPair h' s.heap.objs.size x y->h'.objs.size=s.heap.objs.size+1 ->
   (∀ c o,c≠z->c≠i1->c≠i2->s.heap.get? c=some o->h'.get? c=some o)->Q (some (.ref s.heap.objs.size)) { s with heap:=h' }):wpAny (model prog w) A (pyNext (.ref z)) Q E s:=by
 have hT:s.TypeIs (.ref z) "zip":=⟨_,hz,rfl⟩
 unfold pyNext
 exact wpAny_bind (wpAny_attempt (wpAny_callSpecial?_slot (name:=Str.ofString "__next__") hT F.slot_zip_next (wpAny_call_entry F.slot_zip_next hT F.entry_zip_next
  (next_held D W1 W2 hz ha hTI h1 h2 hx hy fun h' a1 a3 a4 a5 a6 a7=>wpAny_pure (hQ h' a1 a3 a4 a5 a6 a7)) (F.args_zip_next_1 _))))
theorem pyEnd_held (hh:A.handled=none) (D:Apart z TI TO i1 i2 l1 l2) (W1:Draws prog w i1 l1 xs S1) (W2:Draws prog w i2 l2 ys S2) {k:Nat} {f:Bool} {oa:Obj} {Q:Option Value->Shared->Prop}
  (hz:GJ s.heap z TI TO ad f) (ha:s.heap.get? ad=some oa) (hTI:IsPair s.heap TI (.ref i1) (.ref i2)) (h1:S1 k s.heap) (h2:S2 k s.heap) (hend:xs[k]?=none∨ys[k]?=none)
  (hQ:∀ h',(∀ c o,c≠z->c≠i1->c≠i2->s.heap.get? c=some o->h'.get? c=some o)->Q none { s with heap:=h' }):wpAny (model prog w) A (pyNext (.ref z)) Q E s:=by
 have hT:s.TypeIs (.ref z) "zip":=⟨_,hz,rfl⟩
 unfold pyNext
 refine wpAny_bind (wpAny_attempt (wpAny_callSpecial?_slot (name:=Str.ofString "__next__") hT F.slot_zip_next (wpAny_call_entry F.slot_zip_next hT F.entry_zip_next
  (end_held (A:=A.in1) (show A.in1.handled=none from hh) D W1 W2 hz ha hTI h1 h2 hend fun h' e hk he=>?_) (F.args_zip_next_1 _))))
 obtain ⟨o,ho,hc⟩:=he
 refine wpAny_bind (wpAny_isInstance (T:="StopIteration") (b:=true) ⟨o,ho,hc⟩ isSubtype_stop ?_);exact wpAny_pure (hQ _ hk)
end
def Frs (b1 b2:Bool) (h:Heap) (z TI TO i1 i2 l1 l2 lo:Addr) (i:Nat):Prop :=
 ((i=0/\IsZip h z TI TO .none/\∃ a b,IsPair h TO a b)∨∃ ad f oa,GJ h z TI TO ad f/\h.get? ad=some oa/\lo<=ad)/\IsPair h TI (.ref i1) (.ref i2)/\GL b1 h i1 l1 i/\GL b2 h i2 l2 i
theorem Frs.keep {b1 b2:Bool} {h h':Heap} {z TI TO i1 i2 l1 l2 lo S:Addr} {i:Nat} (x:Frs b1 b2 h z TI TO i1 i2 l1 l2 lo i) (hk:∀ b o,b≠S->h.get? b=some o->h'.get? b=some o) (hS:∀ b∈[z,TI,TO,i1,i2],b≠S) (hlo:S < lo):Frs b1 b2 h' z TI TO i1 i2 l1 l2 lo i:=by
 obtain ⟨x,p,t1,t2⟩:=x
 refine ⟨?_,hk _ _ (hS _ (by simp)) p,t1.at fun o e=>hk _ o (hS _ (by simp)) e,t2.at fun o e=>hk _ o (hS _ (by simp)) e⟩
 rcases x with ⟨e,hz,a,b,ht⟩ | ⟨ad,f,oa,hz,ha,hl⟩
 ·exact .inl ⟨e,hk _ _ (hS _ (by simp)) hz,a,b,hk _ _ (hS _ (by simp)) ht⟩
 ·exact .inr ⟨ad,f,oa,hk _ _ (hS _ (by simp)) hz,hk _ _ (fun q=>absurd (Nat.lt_of_lt_of_le hlo hl) (by rw [q];exact Nat.lt_irrefl _)) ha,hl⟩
structure Prs (xs ys:Array Value) (lo:Addr) (h:Heap) (as:List Addr):Prop where
 rise:as.Pairwise (· < ·)
 above:∀ a∈as,lo<=a
 pairs:∀ (j:Nat) (a:Addr),as[j]?=some a->∃ x y,xs[j]?=some x/\ys[j]?=some y/\IsPair h a x y
theorem Prs.there {xs ys:Array Value} {lo:Addr} {h:Heap} {as:List Addr} (g:Prs xs ys lo h as) {a:Addr} (ha:a∈as):a < h.objs.size:=by
 obtain ⟨j,hj⟩:=List.mem_iff_getElem?.mp ha
 obtain ⟨_,_,_,_,e⟩:=g.pairs j a hj
 exact Heap.lt_size e
section
variable {prog:Program} {w:World} {A:Around} {E:Value->Shared->Prop} {s:Shared} {z TI TO i1 i2 l1 l2 ad lo S:Addr} {xs ys:Array Value} {b1 b2:Bool} {R:Result->Shared->Prop}
theorem turn_any (D:Apart z TI TO i1 i2 l1 l2) {k:Nat} {x y:Value} {Q:Option Value->Shared->Prop} (st:Frs b1 b2 s.heap z TI TO i1 i2 l1 l2 lo k) (c1:DY b1 s.heap l1 xs) (c2:DY b2 s.heap l2 ys) (hx:xs[k]?=some x) (hy:ys[k]?=some y) (hl:lo<=s.heap.objs.size) (hlo:∀ b∈[z,TI,TO,i1,i2,l1,l2],b < lo)
  (hQ:∀ h',Frs b1 b2 h' z TI TO i1 i2 l1 l2 lo (k+1)->DY b1 h' l1 xs->DY b2 h' l2 ys->IsPair h' s.heap.objs.size x y->h'.objs.size=s.heap.objs.size+1 ->
   (∀ c o,c≠z->c≠TO->c≠i1->c≠i2->s.heap.get? c=some o->h'.get? c=some o)->Q (some (.ref s.heap.objs.size)) { s with heap:=h' }):wpAny (model prog w) A (pyNext (.ref z)) Q E s:=by
 obtain ⟨x0,p,t1,t2⟩:=st
 obtain ⟨⟨TIz,TOz,i1z,i2z,l1z,l2z⟩,⟨TITO,TIi1,TIi2,TOi1,TOi2,i12⟩,⟨l1TO,l1i1,l1i2,l2TO,l2i1,l2i2⟩⟩:=id D
 rcases x0 with ⟨e,hz,a,b,ht⟩ | ⟨ad,f,oa,hz,ha,hl2⟩
 ·exact pyNext_own D (Ct b1 l1i1) (Ct b2 l2i2) hz p ht ⟨t1,c1⟩ ⟨t2,c2⟩ hx hy fun h' hz' _ s1 s2 hp hs hk=>hQ h' ⟨.inr ⟨_,false,_,hz',hp,hl⟩,hk _ _ TIz TITO TIi1 TIi2 p,s1.1,s2.1⟩ s1.2 s2.2 hp hs hk
 ·have hne:∀ b∈[z,TI,TO,i1,i2,l1,l2],ad≠b:=fun b hb q=>absurd (Nat.lt_of_lt_of_le (hlo b hb) hl2) (by rw [q];exact Nat.lt_irrefl _)
  exact pyNext_held D (Ct b1 l1i1) (Ct b2 l2i2) hz ha p ⟨t1,c1⟩ ⟨t2,c2⟩ hx hy fun h' hz' s1 s2 hp hs hk=>hQ h' ⟨.inr ⟨ad,true,oa,hz',hk _ _ (hne _ (by simp)) (hne _ (by simp)) (hne _ (by simp)) ha,hl2⟩,hk _ _ TIz TIi1 TIi2 p,s1.1,s2.1⟩ s1.2 s2.2 hp hs fun c o q1 _ q3 q4 e=>hk c o q1 q3 q4 e
theorem end_any (hh:A.handled=none) (D:Apart z TI TO i1 i2 l1 l2) {k:Nat} {Q:Option Value->Shared->Prop} (st:Frs b1 b2 s.heap z TI TO i1 i2 l1 l2 lo k) (c1:DY b1 s.heap l1 xs) (c2:DY b2 s.heap l2 ys) (hend:xs[k]?=none∨ys[k]?=none)
  (hQ:∀ h',(∀ c o,c≠z->c≠TO->c≠i1->c≠i2->s.heap.get? c=some o->h'.get? c=some o)->Q none { s with heap:=h' }):wpAny (model prog w) A (pyNext (.ref z)) Q E s:=by
 obtain ⟨x0,p,t1,t2⟩:=st
 obtain ⟨⟨TIz,TOz,i1z,i2z,l1z,l2z⟩,⟨TITO,TIi1,TIi2,TOi1,TOi2,i12⟩,⟨l1TO,l1i1,l1i2,l2TO,l2i1,l2i2⟩⟩:=id D
 rcases x0 with ⟨e,hz,a,b,ht⟩ | ⟨ad,f,oa,hz,ha,hl2⟩
 ·exact pyNext_end hh D (Ct b1 l1i1) (Ct b2 l2i2) hz p ht ⟨t1,c1⟩ ⟨t2,c2⟩ hend hQ
 ·exact pyEnd_held hh D (Ct b1 l1i1) (Ct b2 l2i2) hz ha p ⟨t1,c1⟩ ⟨t2,c2⟩ hend fun h' hk=>hQ h' fun c o q1 _ q3 q4 e=>hk c o q1 q3 q4 e
theorem loop_any (hh:A.handled=none) (D:Apart z TI TO i1 i2 l1 l2) (hlo:∀ b∈[z,TI,TO,i1,i2,l1,l2],b < lo) (hS1:∀ b∈[z,TI,TO,i1,i2,l1,l2],b≠S) (hSl:S < lo) (hn:min xs.size ys.size<=sizeLine) (res:Value) {h₁:Heap}
  (hR:∀ h' tk acc c as,(∀ b o,b≠S->b∉[z,TO,i1,i2]->h₁.get? b=some o->h'.get? b=some o)->h'.get? S=some { cls:=.type "list",dict:=none,data:=.seq acc c,slots:=#[] }->as.length=min xs.size ys.size->Prs xs ys lo h' as ->
   acc.toList=as.map Value.ref->R (.ok (.ret res)) { s with heap:=h',toks:=tk }) :
  ∀ (k i:Nat) (h:Heap) (tk c:Nat) (acc:Array Value) (as:List Addr),min xs.size ys.size - i=k->i<=min xs.size ys.size->Frs b1 b2 h z TI TO i1 i2 l1 l2 lo i->DY b1 h l1 xs->DY b2 h l2 ys->(∀ b o,b≠S->b∉[z,TO,i1,i2]->h₁.get? b=some o->h.get? b=some o) ->
   h.get? S=some { cls:=.type "list",dict:=none,data:=.seq acc c,slots:=#[] }->acc.toList=as.map Value.ref->as.length=i->Prs xs ys lo h as->lo<=h.objs.size ->
   codeAny (model prog w) A (.builtin "list.extend.loop" ⟨[.ref S,.ref z,res],[]⟩) R { s with heap:=h,toks:=tk }:=by
 have nlo:∀ {b a:Addr},b < lo->lo<=a->a≠b:=fun {b a} h1 h2 q=>absurd (Nat.lt_of_lt_of_le h1 h2) (by rw [q];exact Nat.lt_irrefl _)
 intro k
 induction k with
 | zero =>
  intro i h tk c acc as hk hi hst c1 c2 hkeep hS hacc hal hG hIs
  have hend:xs[i]?=none∨ys[i]?=none:=by
   rcases Nat.le_total xs.size ys.size with q | q
   ·left;rw [Array.getElem?_eq_none_iff];omega
   ·right;rw [Array.getElem?_eq_none_iff];omega
  refine codeAny_builtin PySem.F.entry_extend_loop ?_
  rw [Around.under_plainId PySem.F.plain_extend_loop _]
  show wpAny _ A.in1 (pyNext (.ref z) >>= _) _ _ _
  refine wpAny_bind (end_any (s:={ s with heap:=h,toks:=tk }) (A:=A.in1) hh D hst c1 c2 hend fun h' he=>?_)
  refine wpAny_pure (hR h' tk acc c as (fun b o q1 q2 e=>?_) (he S _ (Ne.symm (hS1 _ (by simp))) (Ne.symm (hS1 _ (by simp))) (Ne.symm (hS1 _ (by simp))) (Ne.symm (hS1 _ (by simp))) hS) (by omega) ⟨hG.rise,hG.above,fun j a hj=>?_⟩ hacc)
  ·simp only [List.mem_cons,List.not_mem_nil,or_false,not_or] at q2
   exact he b o q2.1 q2.2.1 q2.2.2.1 q2.2.2.2 (hkeep b o q1 (by simp [q2]) e)
  ·obtain ⟨x,y,e1,e2,e3⟩:=hG.pairs j a hj
   have hb:=hG.above a (List.mem_of_getElem? hj)
   exact ⟨x,y,e1,e2,he a _ (nlo (hlo _ (by simp)) hb) (nlo (hlo _ (by simp)) hb) (nlo (hlo _ (by simp)) hb) (nlo (hlo _ (by simp)) hb) e3⟩
 | succ k ih =>
  intro i h tk c acc as hk hi hst c1 c2 hkeep hS hacc hal hG hIs
  have hlt1:i < xs.size:=by omega
  have hlt2:i < ys.size:=by omega
  have hsz:acc.size=i:=by rw [<- Array.length_toList,hacc,List.length_map,hal]
  refine codeAny_builtin PySem.F.entry_extend_loop ?_
  rw [Around.under_plainId PySem.F.plain_extend_loop _]
  show wpAny _ A.in1 (pyNext (.ref z) >>= _) _ _ _
  refine wpAny_bind (turn_any (s:={ s with heap:=h,toks:=tk }) D hst c1 c2 (Array.getElem?_eq_getElem hlt1) (Array.getElem?_eq_getElem hlt2) hIs hlo fun h' hst' c1' c2' ht hz hkp=>?_)
  dsimp only at ht hz hkp ⊢
  have hS':=hkp S _ (Ne.symm (hS1 _ (by simp))) (Ne.symm (hS1 _ (by simp))) (Ne.symm (hS1 _ (by simp))) (Ne.symm (hS1 _ (by simp))) hS
  have up:∀ b o,b≠S->h'.get? b=some o->(h'.update S (Obj.mapSeq (·.push (Value.ref h.objs.size)))).get? b=some o:=fun b o hb e=>(Heap.get?_update_other _ _ (Ne.symm hb)).trans e
  have hTS:h.objs.size≠S:=nlo hSl hIs
  show wpAny _ A.in1 (updateSeq S (·.push (Value.ref h.objs.size)) >>= _) _ _ _
  refine wpAny_bind ?_
  refine wpAny_updateSeq hS' rfl (wpAny_pure ⟨plainId_quiet PySem.F.plain_extend_loop _,ih (i+1) _ tk _ (acc.push (Value.ref h.objs.size)) (as++[h.objs.size]) (by omega) (by omega) (hst'.keep up (fun b hb=>hS1 b (List.mem_append_left [l1,l2] hb)) hSl)
   (c1'.at fun o e=>up _ o (hS1 _ (by simp)) e) (c2'.at fun o e=>up _ o (hS1 _ (by simp)) e)
   (fun b o q1 q2 e=>?_) (Heap.get?_update_self _ hS' rfl) (by rw [Array.toList_push,hacc,List.map_append];rfl) (by rw [List.length_append,hal];rfl) ⟨?_,?_,?_⟩ ?_⟩) (by rw [hsz];omega) (by show (acc.push (Value.ref h.objs.size)).size<=sizeLine+1;rw [Array.size_push,hsz];omega)
  ·have q3:=q2
   simp only [List.mem_cons,List.not_mem_nil,or_false,not_or] at q3
   exact up b o q1 (hkp b o q3.1 q3.2.1 q3.2.2.1 q3.2.2.2 (hkeep b o q1 q2 e))
  ·refine List.pairwise_append.mpr ⟨hG.rise,List.pairwise_singleton _ _,fun a ha b hb=>?_⟩
   rw [List.mem_singleton.mp hb]
   exact hG.there ha
  ·intro a ha
   rcases List.mem_append.mp ha with ha | ha
   ·exact hG.above a ha
   ·rw [List.mem_singleton.mp ha];exact hIs
  ·intro j b hj
   rcases Nat.lt_trichotomy j as.length with q | q | q
   ·rw [List.getElem?_append_left q] at hj
    obtain ⟨x,y,e1,e2,e3⟩:=hG.pairs j b hj
    have hb:=hG.above b (List.mem_of_getElem? hj)
    exact ⟨x,y,e1,e2,up b _ (nlo hSl hb) (hkp b _ (nlo (hlo _ (by simp)) hb) (nlo (hlo _ (by simp)) hb) (nlo (hlo _ (by simp)) hb) (nlo (hlo _ (by simp)) hb) e3)⟩
   ·subst q
    have hb:h.objs.size=b:=by simpa using hj
    subst hb
    exact ⟨_,_,by rw [hal];exact Array.getElem?_eq_getElem hlt1,by rw [hal];exact Array.getElem?_eq_getElem hlt2,up _ _ hTS ht⟩
   ·have hnone:(as++[h.objs.size])[j]?=none:=List.getElem?_eq_none (by rw [List.length_append,List.length_singleton];omega)
    rw [hnone] at hj;cases hj
  ·have e:(h'.update S (Obj.mapSeq (·.push (Value.ref h.objs.size)))).get? h.objs.size=_:=up _ _ hTS ht
   exact Nat.le_trans hIs (Nat.le_of_lt (Heap.lt_size e))
end
end Zp
end PySem
namespace PySem
namespace F
theorem nolen_zip:typeLookup (.type "zip") "__len__"=pure none:=by rw [typeLookup_type,builtinLookup_eq_fast];kernel_rfl
theorem nohint_zip:typeLookup (.type "zip") "__length_hint__"=pure none:=by rw [typeLookup_type,builtinLookup_eq_fast];kernel_rfl
end F
namespace Zp
section
variable {prog:Program} {w:World} {A:Around} {E:Value->Shared->Prop} {s:Shared} {z TI TO i1 i2 l1 l2 S:Addr} {xs ys:Array Value} {b1 b2:Bool} {R:Result->Shared->Prop}
theorem hint_zip (hT:s.TypeIs (.ref z) "zip") {Q:Bool->Shared->Prop} (h:Q true s):wpAny (model prog w) A (Builtin.List.listLengthHint (.ref z)) Q E s:=by
 unfold Builtin.List.listLengthHint
 refine wpAny_bind (wpAny_specialOf hT F.nolen_zip ?_)
 show wpAny _ _ (specialOf (Value.ref z) (Str.ofString "__length_hint__") >>= _) _ _ _
 refine wpAny_bind (wpAny_specialOf hT F.nohint_zip ?_)
 exact wpAny_pure h
theorem extend_zip (hh:A.handled=none) (D:Apart z TI TO i1 i2 l1 l2) (hz:IsZip s.heap z TI TO .none) (hTI:IsPair s.heap TI (.ref i1) (.ref i2)) (hTO:∃ a b,IsPair s.heap TO a b) (t1:GL b1 s.heap i1 l1 0) (t2:GL b2 s.heap i2 l2 0) (c1:DY b1 s.heap l1 xs) (c2:DY b2 s.heap l2 ys)
  (hS1:∀ b∈[z,TI,TO,i1,i2,l1,l2],b≠S) (hlo:∀ b∈[z,TI,TO,i1,i2,l1,l2],b < s.heap.objs.size) (res:Value) (c₀:Nat) (hS:s.heap.get? S=some { cls:=.type "list",data:=.seq #[] c₀ }) (hn:min xs.size ys.size<=sizeLine)
  (hR:∀ h' tk acc c as,(∀ b o,b≠S->b∉[z,TO,i1,i2]->s.heap.get? b=some o->h'.get? b=some o)->h'.get? S=some { cls:=.type "list",dict:=none,data:=.seq acc c,slots:=#[] }->as.length=min xs.size ys.size->Prs xs ys s.heap.objs.size h' as ->
   acc.toList=as.map Value.ref->R (.ok (.ret res)) { s with heap:=h',toks:=tk }) :
  wpAny (model prog w) A.in1 (Builtin.List.listExtendWith (.ref S) (.ref z) res)
   (fun fin s'=>match fin with | .done f=>R (.ok f) s' | .again c'=>c'.quiet=true/\codeAny (model prog w) A c' R s') (fun e s'=>R (.error e) s') s:=by
 have hT:s.TypeIs (.ref z) "zip":=⟨_,hz,rfl⟩
 have hSz:S≠z:=Ne.symm (hS1 _ (by simp))
 have hSl:S < s.heap.objs.size:=Heap.lt_size hS
 unfold Builtin.List.listExtendWith
 refine wpAny_bind (wpAny_typeOf (T:="zip") hT ?_)
 have h1:Builtin.List.listSameRef (.ref S) (.ref z)=false:=by simp [Builtin.List.listSameRef,hSz]
 have h2:(Value.type "zip" == Value.type "list")=false:=by decide
 have h3:(Value.type "zip" == Value.type "tuple")=false:=by decide
 simp only [h1,h2,h3,Bool.or_false,Bool.false_eq_true,if_false]
 refine wpAny_bind (wpAny_pyIter_zip hz ?_)
 refine wpAny_bind (wpAny_holding (hint_zip hT ?_))
 simp only [Bool.true_or,if_true]
 refine wpAny_bind (wpAny_rule ?_)
 refine wpAny_bind ?_
 show wpAny _ _ (updateSeq S (·.push .none) >>= fun _=>updateSeq S (·.pop)) _ _ _
 refine wpAny_bind (wpAny_updateSeq hS rfl ?_)
 have hS₂:=Heap.get?_update_self (Obj.mapSeq (·.push Value.none)) hS rfl
 refine wpAny_updateSeq (hz:=by seq_fits) hS₂ rfl ?_
 have hS₃:=Heap.get?_update_self (Obj.mapSeq (·.pop)) hS₂ rfl
 have oth:∀ b o,b≠S->s.heap.get? b=some o->((s.heap.update S (Obj.mapSeq (·.push Value.none))).update S (Obj.mapSeq (·.pop))).get? b=some o:=fun b o hb e=>(Heap.get?_update_other _ _ (Ne.symm hb)).trans ((Heap.get?_update_other _ _ (Ne.symm hb)).trans e)
 obtain ⟨ta,tb,hTO⟩:=hTO
 have st:Frs b1 b2 s.heap z TI TO i1 i2 l1 l2 s.heap.objs.size 0:=⟨.inl ⟨rfl,hz,ta,tb,hTO⟩,hTI,t1,t2⟩
 refine wpAny_pure ⟨plainId_quiet PySem.F.plain_extend_loop _,loop_any (s:=s) (h₁:=s.heap) (lo:=s.heap.objs.size) (b1:=b1) (b2:=b2) hh D hlo hS1 hSl hn res hR (min xs.size ys.size) 0 _ s.toks _ #[] [] rfl (Nat.zero_le _)
  (st.keep oth (fun b hb=>hS1 b (List.mem_append_left [l1,l2] hb)) hSl) (c1.at fun o e=>oth _ o (hS1 _ (by simp)) e) (c2.at fun o e=>oth _ o (hS1 _ (by simp)) e) (fun b o q1 _ e=>oth b o q1 e) hS₃ rfl rfl ⟨List.Pairwise.nil,(fun _ ha=>nomatch ha),(fun j a hj=>by simp at hj)⟩ ?_⟩
 have:=oth _ _ (hS1 z (by simp)) hz
 show s.heap.objs.size<=((s.heap.update S (Obj.mapSeq (·.push Value.none))).update S (Obj.mapSeq (·.pop))).objs.size
 rw [((Heap.SameBut.update ..):Heap.SameBut S _ _).1,((Heap.SameBut.update ..):Heap.SameBut S _ _).1]
 exact Nat.le_refl _
theorem GB {Q:Value->Shared->Prop} (hh:A.handled=none) (D:Apart z TI TO i1 i2 l1 l2) (hz:IsZip s.heap z TI TO .none) (hTI:IsPair s.heap TI (.ref i1) (.ref i2)) (hTO:∃ a b,IsPair s.heap TO a b) (t1:GL b1 s.heap i1 l1 0) (t2:GL b2 s.heap i2 l2 0) (c1:DY b1 s.heap l1 xs) (c2:DY b2 s.heap l2 ys)
  (hlo:∀ b∈[z,TI,TO,i1,i2,l1,l2],b < s.heap.objs.size) (hn:min xs.size ys.size<=sizeLine)
  (hQ:∀ h' tk acc c as,(∀ b o,b∉[z,TO,i1,i2]->s.heap.get? b=some o->h'.get? b=some o)->h'.get? s.heap.objs.size=some { cls:=.type "list",dict:=none,data:=.seq acc c,slots:=#[] }->as.length=min xs.size ys.size->Prs xs ys (s.heap.objs.size+1) h' as ->
   acc.toList=as.map Value.ref->Q (.ref s.heap.objs.size) { s with heap:=h',toks:=tk }) :
  wpAny (model prog w) A (call (.type "list") [.ref z]) Q E s:=by
 refine callType_codes (Q₁:=fun obj s₁=>obj=.ref s.heap.objs.size/\s₁={ s with heap:=s.heap.push { cls:=.type "list",data:=.seq #[] } }) F.called_list (F.typeCall_list_1 _) F.entry_list_init
  (code_list_new _ ⟨rfl,rfl⟩) fun obj s₁ h₁=>?_
 obtain ⟨rfl,rfl⟩:=h₁
 have hS:(s.heap.push { cls:=.type "list",data:=.seq #[] }).get? s.heap.objs.size=some { cls:=.type "list",data:=.seq #[] }:=Heap.get?_push_size _ rfl
 have nS:∀ b∈[z,TI,TO,i1,i2,l1,l2],b≠s.heap.objs.size:=fun b hb=>Nat.ne_of_lt (hlo b hb)
 refine ⟨⟨_,hS,rfl⟩,F.args_list_init_2 _ _,?_⟩
 show wpAny _ _ (do let old <- Builtin.List.listItems (.ref s.heap.objs.size);Builtin.List.listUpdate (.ref s.heap.objs.size) (fun _=>#[]);letGo old.toList.reverse;Builtin.List.listExtendWith (.ref s.heap.objs.size) (.ref z) .none) _ _ _
 refine wpAny_bind ?_
 unfold Builtin.List.listItems
 refine wpAny_bind (wpAny_seqItems hS rfl (wpAny_pure ?_))
 show wpAny _ _ (updateSeq s.heap.objs.size (fun _=>#[]) >>= fun _=>letGo (#[]:Array Value).toList.reverse >>= fun _=>Builtin.List.listExtendWith (.ref s.heap.objs.size) (.ref z) .none) _ _ _
 refine wpAny_bind (wpAny_updateSeq hS rfl ?_)
 have hS₂:=Heap.get?_update_self (Obj.mapSeq (fun _=>(#[]:Array Value))) hS rfl
 have oth:∀ b o,b≠s.heap.objs.size->s.heap.get? b=some o->((s.heap.push { cls:=.type "list",data:=.seq #[] }).update s.heap.objs.size (Obj.mapSeq (fun _=>(#[]:Array Value)))).get? b=some o :=
  fun b o hb e=>(Heap.get?_update_other _ _ (Ne.symm hb)).trans (Heap.get?_push_of_some _ e)
 have hsz:((s.heap.push { cls:=.type "list",data:=.seq #[] }).update s.heap.objs.size (Obj.mapSeq (fun _=>(#[]:Array Value)))).objs.size=s.heap.objs.size+1:=by
  rw [((Heap.SameBut.update ..):Heap.SameBut s.heap.objs.size _ _).1,Heap.size_push]
 refine wpAny_bind (wpAny_letGo ?_)
 obtain ⟨ta,tb,hTO⟩:=hTO
 refine extend_zip (A:=A.in1) (b1:=b1) (b2:=b2) (xs:=xs) (ys:=ys) hh D (oth _ _ (nS _ (by simp)) hz) (oth _ _ (nS _ (by simp)) hTI) ⟨ta,tb,oth _ _ (nS _ (by simp)) hTO⟩ (t1.at fun o e=>oth _ o (nS _ (by simp)) e) (t2.at fun o e=>oth _ o (nS _ (by simp)) e) (c1.at fun o e=>oth _ o (nS _ (by simp)) e) (c2.at fun o e=>oth _ o (nS _ (by simp)) e)
  nS (fun b hb=>by show b < _;rw [hsz];exact Nat.lt_succ_of_lt (hlo b hb)) .none _ hS₂ hn fun h' tk acc c as hk hS' hl hG hacc=>?_
 rw [hsz] at hG
 exact ⟨rfl,hQ h' tk acc c as (fun b o q e=>hk b o (Nat.ne_of_lt (Heap.lt_size e)) q (oth b o (Nat.ne_of_lt (Heap.lt_size e)) e)) hS' hl hG hacc⟩
end
end Zp
end PySem
namespace L2
open PySem PySem.Spec PyProof.Rows
section
variable {X:Cx} {pins:List (Addr×Obj)} {σ:St} {H H':Hp} {s:Shared}
theorem Inv.laidAll {h':Heap} {t':Nat} {fp:List Addr} (I:Inv X pins σ H s) (k:∀ b o,b∉fp->s.heap.get? b=some o->h'.get? b=some o) (hf:∀ b∈fp,HM X pins H b)
  (up:∀ b u,H b=some u->H' b=some u) (dn:∀ b u,H' b=some u->H b=some u∨(s.heap.objs.size<=b/\Bv X.prog X.w H' h' b u)):Inv X pins σ H' { s with heap:=h',toks:=t' }:=by
 have nit:∀ b u,H b=some u->b∉fp:=fun b u e z=>by rw [(hf b z).1] at e;cases e
 refine I.step (g':=s.gens) (d':=s.drawn) (ch:=fp) (fun b hb=>?_) (fun b o _ _ hc e _=>k b o hc e) (fun b o _ _ hc e _=>⟨o.slots,k b o hc e⟩) (fun b o _ e n=>?_)
  (fun b o hc e=>⟨o,k b o hc e⟩) (fun b _ e=>up b _ e) (fun b _ _ e=>up b _ e) (fun b ps e=>⟨#[],by rw [up b _ e];simp⟩) (fun m hm=>?_) (fun b u e=>?_) I.bare
 ·obtain ⟨f0,f1,f2,f3,f4,f5⟩:=hf b hb
  exact ⟨f3,f1,f4,f5⟩
 ·cases q:H' b with
  | none=>rfl
  | some u =>
   rcases dn b u q with z | z
   ·rw [n] at z;cases z
   ·exact absurd (Nat.lt_of_lt_of_le (Heap.lt_size e) z.1) (Nat.lt_irrefl _)
 ·obtain ⟨o,es,ep,ho,r⟩:=hm
  exact ⟨o,es,ep,k _ o (fun z=>(hf _ z).2.1 rfl) ho,r⟩
 ·rcases dn b u e with z | z
  ·refine (I.hok b u z).stay (fun c v hc q=>k c v ?_ q) (fun c q=>up c _ q) fun c _ q=>up c _ q
   rcases hc with y | y
   ·rw [y];exact nit b u z
   ·exact nit c _ y
  ·exact z.2
end
structure Zipped (H H':Hp) (d:Addr) (as:List Addr) (xs ys:List V):Prop where
 fd:H d=none
 fa:∀ a∈as,H a=none
 nd:as.Nodup
 nm:d∉as
 len:as.length=min xs.length ys.length
 lst:H' d=some (.lst (as.map V.ref))
 pr:∀ (j:Nat) (a:Addr),as[j]?=some a->∃ x y,xs[j]?=some x/\ys[j]?=some y/\H' a=some (.tup [x,y])
 els:∀ b,b≠d->b∉as->H' b=H b
def zipH (H:Hp) (d:Addr) (as:List Addr) (xs ys:List V):Hp:=fun b=>if b=d then some (.lst (as.map V.ref)) else if b∈as then (match xs[as.idxOf b]?,ys[as.idxOf b]? with
 | some x,some y=>some (.tup [x,y])
 | _,_=>none) else H b
theorem GN:∀ (as:List Addr),Vals (as.map V.ref) (as.map Value.ref)
 | []=>.nil
 | a :: as=>.cons rfl (GN as)
def tListZip (K:PySem.W.Frag) (ta:TA):TE:=fun σ H Q=>ta σ H fun vs H1=>∃ b1 a1 b2 a2 xs ys,vs=[.ref a1,.ref a2]/\SqB b1 K H1 a1 xs/\SqB b2 K H1 a2 ys/\∀ d as H',Zipped H1 H' d as xs ys->Q (.ref d) H'
theorem pe_listZip {X:Cx} {a b:Expr} {ta:TA} {p1 p2 pos1 pos2:Pos} (hc:X.calm=true) (hm1:X.mg "list"=none) (hm2:X.mg "zip"=none) (ha:PA X [a,b] ta) (hg1:Gl X "list":=by rfl) (hg2:Gl X "zip":=by rfl)
  (he:starEach [(.Call (.Name "zip" p2) [a,b] [] pos2:Expr)] X.env=[(false,eval (.Call (.Name "zip" p2) [a,b] [] pos2) X.env)]:=by rfl) (hs:starEach [a,b] X.env=[(false,eval a X.env),(false,eval b X.env)]:=by rfl) (hs2:starEach [b] X.env=[(false,eval b X.env)]:=by rfl) :
  PE X (.Call (.Name "list" p1) [.Call (.Name "zip" p2) [a,b] [] pos2] [] pos1) (tListZip X.K ta):=by
 intro pins s σ H Q I h
 refine wpAny_Call_Name_kw (DB I hg1 hm1 boot_list ?_)
 refine PyProof.Rows.callWith_type1 ?_ he rfl
 rw [he]
 refine Calls.spliced_cons ?_
 refine wpAny_Call_Name_kw (DB I hg2 hm2 boot_zip ?_)
 refine PyProof.Rows.callWith_type1 (thn (ha pos2 pins s σ H _ I h) fun us s1 ⟨vs,H1,I1,r1,q1⟩=>?_) (by rw [hs,hs2]) (by rw [hs2];rfl)
 obtain ⟨b1,a1,b2,a2,xs,ys,e,hx,hy,q⟩:=q1
 subst e
 cases r1 with
 | cons r rr =>
  cases rr with
  | cons r' rr =>
   cases rr
   cases r
   cases r'
   obtain ⟨its1,rv1,c1,z1⟩:=I1.sqb hx
   obtain ⟨its2,rv2,c2,z2⟩:=I1.sqb hy
   have e1:=rv1.length
   have e2:=rv2.length
   refine Zp.call_zip (T1:=Zp.BL b1) (T2:=Zp.BL b2) (C1:=fun h=>Zp.DY b1 h a1 its1.toArray) (C2:=fun h=>Zp.DY b2 h a2 its2.toArray) (Zp.its_of b1 a1 its1.toArray) (Zp.its_of b2 a2 its2.toArray) (fun h o c=>Zp.DY.at (b:=b2) c fun o e=>Heap.get?_push_of_some _ e) c1 c2 ?_
   obtain ⟨z,TI,TO,i1,i2,ez,g0,g1,g2,g3,g4,D,hz,hTI,hTO,t1,t2,hk⟩:=Zp.made c1 c2
   rw [<- ez]
   refine Calls.spliced_nil ?_
   have cc1:Zp.DY b1 (Zp.z5 s1.heap (Zp.BL b1) (Zp.BL b2) a1 a2) a1 its1.toArray:=Zp.DY.at (b:=b1) c1 fun o e=>hk _ o e
   have cc2:Zp.DY b2 (Zp.z5 s1.heap (Zp.BL b1) (Zp.BL b2) a1 a2) a2 its2.toArray:=Zp.DY.at (b:=b2) c2 fun o e=>hk _ o e
   have clt:∀ {b:Bool} {h:Heap} {l:Addr} {xs:Array Value},Zp.DY b h l xs->l < h.objs.size:=fun {b h l xs} c=>by
    cases b
    ·obtain ⟨o,e,_⟩:=c
     exact Heap.lt_size e
    ·obtain ⟨o,e,_⟩:=c
     exact Heap.lt_size e
   refine Zp.GB (s:={ s1 with heap:=Zp.z5 s1.heap (Zp.BL b1) (Zp.BL b2) a1 a2 }) (b1:=b1) (b2:=b2) (xs:=its1.toArray) (ys:=its2.toArray) (I.ok.hd hc) D hz hTI ⟨_,_,hTO⟩ t1 t2 cc1 cc2 (fun b hb=>?_) (by simp only [List.size_toArray];omega) fun h' tk acc c as kp eS hl hG hacc=>?_
   ·simp only [List.mem_cons,List.not_mem_nil,or_false] at hb
    rcases hb with rfl | rfl | rfl | rfl | rfl | rfl | rfl
    ·exact Heap.lt_size hz
    ·exact Heap.lt_size hTI
    ·exact Heap.lt_size hTO
    ·obtain ⟨o,e,_⟩:=t1.obj
     exact Heap.lt_size e
    ·obtain ⟨o,e,_⟩:=t2.obj
     exact Heap.lt_size e
    ·exact clt cc1
    ·exact clt cc2
   ·have gs:s1.heap.objs.size<=(Zp.z5 s1.heap (Zp.BL b1) (Zp.BL b2) a1 a2).objs.size:=Nat.le_trans g0 (Nat.le_of_lt (Heap.lt_size hz))
    have nd:as.Nodup:=hG.rise.imp fun h e=>by subst e;exact Nat.lt_irrefl _ h
    have nm:(Zp.z5 s1.heap (Zp.BL b1) (Zp.BL b2) a1 a2).objs.size∉as:=fun m=>absurd (hG.above _ m) (Nat.not_le.mpr (Nat.lt_succ_self _))
    have ge:∀ a∈as,s1.heap.objs.size<=a:=fun a m=>Nat.le_trans gs (Nat.le_of_lt (hG.above a m))
    have ln:as.length=min xs.length ys.length:=by rw [hl,List.size_toArray,List.size_toArray,e1,e2]
    have pr:∀ (j:Nat) (a:Addr),as[j]?=some a->∃ x y u v,xs[j]?=some x/\ys[j]?=some y/\RelV x u/\RelV y v/\IsPair h' a u v:=fun j a hj=>by
     obtain ⟨u,v,eu,ev,ep⟩:=hG.pairs j a hj
     have lj:=(List.getElem?_eq_some_iff.mp hj).1
     have l1:j < xs.length:=by omega
     have l2:j < ys.length:=by omega
     obtain ⟨u',hu,ru⟩:=rv1.get (List.getElem?_eq_getElem l1)
     obtain ⟨v',hv,rv⟩:=rv2.get (List.getElem?_eq_getElem l2)
     have eu':its1[j]?=some u:=by simpa using eu
     have ev':its2[j]?=some v:=by simpa using ev
     rw [eu'] at hu
     rw [ev'] at hv
     cases hu
     cases hv
     exact ⟨_,_,u,v,List.getElem?_eq_getElem l1,List.getElem?_eq_getElem l2,ru,rv,ep⟩
    have idx:∀ (j:Nat) (a:Addr),as[j]?=some a->as.idxOf a=j:=fun j a hj=>by
     obtain ⟨lj,ej⟩:=List.getElem?_eq_some_iff.mp hj
     rw [<- ej]
     exact nd.idxOf_getElem j lj
    have ata:∀ (j:Nat) (a:Addr),as[j]?=some a->∀ x y,xs[j]?=some x->ys[j]?=some y->zipH H1 (Zp.z5 s1.heap (Zp.BL b1) (Zp.BL b2) a1 a2).objs.size as xs ys a=some (.tup [x,y]):=fun j a hj x y ex ey=>by
     have ma:=List.mem_of_getElem? hj
     have ne:a≠(Zp.z5 s1.heap (Zp.BL b1) (Zp.BL b2) a1 a2).objs.size:=fun e=>nm (e▸ma)
     unfold zipH
     rw [if_neg ne,if_pos ma,idx j a hj,ex,ey]
    have I2:Inv X pins σ H1 { s1 with heap:=Zp.z5 s1.heap (Zp.BL b1) (Zp.BL b2) a1 a2,toks:=s1.toks }:=I1.kept hk
    refine ⟨.ref (Zp.z5 s1.heap (Zp.BL b1) (Zp.BL b2) a1 a2).objs.size,zipH H1 (Zp.z5 s1.heap (Zp.BL b1) (Zp.BL b2) a1 a2).objs.size as xs ys,?_,rfl,q _ as _ ⟨I1.hok.fresh gs,fun a m=>I1.hok.fresh (ge a m),nd,nm,ln,if_pos rfl,fun j a hj=>?_,fun b h1 h2=>?_⟩⟩
    ·refine I2.laidAll (fp:=[z,TO,i1,i2]) kp (fun b hb=>?_) (fun b u e=>?_) fun b u e=>?_
     ·have hge:s1.heap.objs.size<=b:=by
       simp only [List.mem_cons,List.not_mem_nil,or_false] at hb
       rcases hb with rfl | rfl | rfl | rfl <;> assumption
      exact I1.fpOk hge (I1.hok.fresh hge)
     ·have n1:b≠(Zp.z5 s1.heap (Zp.BL b1) (Zp.BL b2) a1 a2).objs.size:=fun z=>by rw [z,I1.hok.fresh gs] at e;cases e
      have n2:b∉as:=fun z=>by rw [I1.hok.fresh (ge b z)] at e;cases e
      unfold zipH
      rw [if_neg n1,if_neg n2]
      exact e
     ·by_cases hb:b=(Zp.z5 s1.heap (Zp.BL b1) (Zp.BL b2) a1 a2).objs.size
      ·subst hb
       unfold zipH at e
       rw [if_pos rfl] at e
       cases e
       refine .inr ⟨Nat.le_refl _,by rw [List.length_map];omega,as.map Value.ref,c,GN as,?_⟩
       rw [<- hacc]
       exact eS
      ·by_cases hm:b∈as
       ·obtain ⟨j,hj⟩:=List.mem_iff_getElem?.mp hm
        obtain ⟨x,y,u',v',ex,ey,ru,rv,ep⟩:=pr j b hj
        rw [ata j b hj x y ex ey] at e
        cases e
        exact .inr ⟨Nat.le_of_lt (hG.above b hm),by show 2<=sizeLine;rw [sizeLine_eq];decide,[u',v'],.cons ru (.cons rv .nil),⟨_,ep,rfl,_,rfl⟩⟩
       ·unfold zipH at e
        rw [if_neg hb,if_neg hm] at e
        exact .inl e
    ·obtain ⟨x,y,u,v,ex,ey,_⟩:=pr j a hj
     exact ⟨x,y,ex,ey,ata j a hj x y ex ey⟩
    ·unfold zipH
     rw [if_neg h1,if_neg h2]
end L2
namespace PySem
namespace F
end F
end PySem
namespace PySem
open PyProof.Rows (IsTup)
namespace Rv
section
variable {prog:Program} {w:World} {A:Around} {E:Value->Shared->Prop} {s:Shared}
end
section
variable {prog:Program} {w:World} {A:Around} {E:Value->Shared->Prop} {s:Shared}
end
end Rv
end PySem
namespace PySem
open PyProof.Rows (IsTup)
namespace Rv
section
variable {prog:Program} {w:World} {A:Around} {E:Value->Shared->Prop} {s:Shared}
end
end Rv
end PySem
namespace L2
open PySem PySem.Spec PyProof.Rows
end L2
namespace HT
open PySem PyProof.Rows
section
variable {prog:Program} {w:World} {A:Around} {E:Value->Shared->Prop} {s:Shared}
theorem D4 {t sl:Addr} {items:Array Value} {vl vu:Value} {lo hi:Option Int} {Q:Value->Shared->Prop} (ht:IsTup s.heap t items) (hs:s.heap.IsSliceOf sl vl vu .none) (pl:IsPart vl lo) (pu:IsPart vu hi)
  (hw:sIx items.size 0 lo=0/\sIx items.size items.size hi=items.size) (h:Q (.ref t) s):wpAny (model prog w) A (getItem (.ref t) (.ref sl)) Q E s:=by
 obtain ⟨os,hos,hcs,hds⟩:=id hs
 have hTs:s.TypeIs (.ref sl) "slice":=⟨os,hos,hcs⟩
 unfold getItem
 try with_reducible refine wpAny_holding ?_
 first | refine wpAny_bind (wpAny_pure ?_) | skip
 refine wpAny_bind (wpAny_sequenceKey ht.typeIs (by decide) ?_)
 refine wpAny_bind (wpAny_callSpecial?_slot (name:=Str.ofString "__getitem__") ht.typeIs PyProof.Rows.slot_tuple_getitem
  (wpAny_call_entry PyProof.Rows.slot_tuple_getitem ht.typeIs entry_tuple_getitem ?_ (args_tuple_getitem _ _)))
 show wpAny _ _ (Builtin.Tuple.tupleItemsOf (.ref t) >>= _) _ _ s
 refine wpAny_bind (tupleItemsOf_ ht ?_)
 refine wpAny_bind (wpAny_typeOf hTs ?_)
 rw [if_pos (by decide)]
 refine wpAny_bind (CY hs pl pu ?_)
 have hyes:(((sIx items.size 0 lo:Nat):Int) == 0 && (1:Int) == 1 && (sIx items.size items.size hi - sIx items.size 0 lo) == items.size)=true:=by
  rw [hw.1,hw.2]
  simp
 show wpAny _ _ (if (((sIx items.size 0 lo:Nat):Int) == 0 && (1:Int) == 1 && (sIx items.size items.size hi - sIx items.size 0 lo) == items.size)=true then _ else _) _ _ s
 rw [if_pos hyes]
 refine wpAny_bind ?_
 unfold Builtin.Tuple.tupleIsExact
 refine wpAny_bind (wpAny_typeOf ht.typeIs (wpAny_pure ?_))
 rw [if_pos (by decide)]
 exact wpAny_bind (wpAny_rule (wpAny_pure ⟨_,rfl,wpAny_pure h⟩))
end
end HT
namespace L2
open PySem PySem.Spec PyProof.Rows
def rSlA (K:PySem.W.Frag):V->Option Int->Option Int->Hp->VK->Prop:=fun x lo hi H Q=>∃ a xs,x=.ref a/\SqT K H a xs/\(HT.sIx xs.length 0 lo=0/\HT.sIx xs.length xs.length hi=xs.length)/\Q (.ref a) H
theorem sl_all {X:Cx}:SlR X (rSlA X.K):=by
 intro pins s σ H x v vl vu lo hi sl Q I rx hs pl pu h
 obtain ⟨a,xs,rfl,hx,hw,q⟩:=h
 cases rx
 obtain ⟨its,r,ht,hz⟩:=I.tuple hx
 have hlen:its.toArray.size=xs.length:=by rw [List.size_toArray];exact r.length.symm
 refine ⟨"tuple",_,PyProof.Rows.slot_tuple_getitem.lookup,ht.typeIs,?_⟩
 exact HT.D4 ht hs pl pu (by rw [hlen];exact hw) ⟨.ref a,H,I,rfl,q⟩
end L2
namespace L2
open PySem PySem.Spec PySem.W PyProof.Rows
def BC:List Int->Nat
 | []=>0
 | n :: ns=>Builtin.Int.intBits n+1+BC ns
theorem Fd:∀ ns:List Int,WData.weightAll (ns.map WData.int)=BC ns
 | []=>by simp [WData.weightAll,BC]
 | n :: ns=>by
  simp only [List.map_cons,WData.weightAll,BC,WData.weight,Fd ns]
  rfl
end L2
namespace L2
open PySem PySem.Spec
section
variable {prog:Program} {w:World} {K:Type} [DecidableEq K] {knd:KeyKind prog w K} {A:Around} {E:Value->Shared->Prop} {s:Shared}
end
section
variable {X:Cx} {pins:List (Addr×Obj)} {σ:St} {H:Hp} {s:Shared} {a:Addr} {A:Around} {E:Value->Shared->Prop}
variable {o e f:Expr} {td ty tx:TE} {apos cpos:Pos}
end
end L2
namespace L2
open PySem PySem.Spec
section
variable {X:Cx} {pins:List (Addr×Obj)} {σ:St} {H:Hp} {s:Shared} {a:Addr} {o:Obj} {kvs:List (Key×V)}
end
section
variable {X:Cx} {tg:Expr}
end
section
variable {X:Cx}
theorem Fb (hc:X.calm=true):CB X (.type "list") (fun xs H Q=>∃ p kvs,xs=[.ref p]/\Rd H p (.dK kvs)/\∀ l,H l=none->Q (.ref l) (upd H l (.lst (kvs.map fun kv=>kV kv.1)))):=by
 intro pins s σ H xs us Q I r h
 obtain ⟨p,kvs,rfl,hp,q⟩:=h
 obtain ⟨u,rfl,rx⟩:=vals1 r
 cases rx
 obtain ⟨z,hd,vs,rel,dd⟩:=dk_rd I.hok hp
 obtain ⟨ep,da⟩:=dd.dictAt
 have hlen:kvs.length=vs.length:=Paired.length rel
 refine PySem.W.kdl_call (PySem.W.kdl_dict (ep:=ep) hd) (I.ok.hd hc) da (by rw [<- hlen];exact z) fun h' tk acc c' kp e hacc=>?_
 refine ⟨.ref s.heap.objs.size,_,I.laid (t':=tk) kp (Nat.le_refl _) (show Bv X.prog X.w _ h' _ (.lst (kvs.map fun kv=>kV kv.1)) from ⟨by rw [List.length_map];exact z,acc.toList,c',vals_keys rel hacc,by simpa using e⟩),rfl,q _ (I.hok.fresh (Nat.le_refl _))⟩
theorem call_lenDR:CB X (.builtin "len") (fun xs H Q=>∃ a kvs,xs=[V.ref a]/\Rd H a (.dK kvs)/\Q (.int kvs.length) H):=by
 intro pins s σ H xs us Q I r h
 obtain ⟨a,kvs,rfl,ha,q⟩:=h
 obtain ⟨u,rfl,ru⟩:=vals1 r
 cases ru
 exact d_len I ha fun t s' I'=>⟨.int kvs.length,H,I',⟨t,rfl⟩,q⟩
end
end L2
namespace L2
open PySem PySem.Spec
end L2
namespace PySem
open PyProof.Rows
namespace So
section
variable {prog:Program} {w:World} {A:Around} {E:Value->Shared->Prop} {s:Shared}
end
end So
end PySem
namespace PySem
open PyProof.Rows
namespace So
section
variable {prog:Program} {w:World} {A:Around} {E:Value->Shared->Prop} {s:Shared}
end
end So
end PySem
namespace PySem
open PyProof.Rows
namespace So
section
variable {prog:Program} {w:World} {A:Around} {E:Value->Shared->Prop} {s:Shared}
end
end So
end PySem
namespace L2
open PySem PySem.Spec
section
variable {X:Cx} {pins:List (Addr×Obj)} {σ:St} {H:Hp} {s:Shared}
end
end L2
namespace PySem
open PyProof.Rows (IsTup)
namespace Rv
section
variable {prog:Program} {w:World} {A:Around} {E:Value->Shared->Prop} {s:Shared}
end
end Rv
end PySem
namespace L2
open PySem PySem.Spec PyProof.Rows
end L2
namespace L2
open PySem PySem.Spec
section
variable {X:Cx} {tg:Expr}
end
end L2
namespace L2
open PySem PySem.Spec PyProof.Rows PySem.W
theorem look_in {h:Heap}:∀ (K:PySem.W.Frag),(K.map (·.1)).map h.get?=K.map (fun p=>some p.2)->K.In h
 | [],_=>fun a o e=>by cases e
 | p :: K,hk=>fun a o e=>by
  simp only [List.map_cons,List.cons.injEq] at hk
  rw [List.lookup_cons] at e
  by_cases q:a=p.1
  ·subst q
   rw [show (p.1 == p.1)=true by simp] at e
   cases e
   exact hk.1
  ·rw [show (a == p.1)=false by simpa using q] at e
   exact look_in K hk.2 a o e
end L2
namespace L2
open PySem PySem.Spec PyProof.Rows
def ExT (h:Heap) (vs:Array Value) (a:Addr) (fl:Value):Option Addr->Prop
 | none=>vs[1]?=some .none
 | some T=>vs[1]?=some (.ref T)/\T≠a/\∃ oT ts,h.get? T=some oT/\oT.data=.fields ts/\ts[3]?=some fl
def ExAt (h:Heap) (a:Addr) (c:Value) (T:Option Addr) (fl:Value):Prop:=∃ oe vs,h.get? a=some oe/\oe.cls=c/\oe.dict=none/\oe.data=.fields vs/\ExT h vs a fl T
theorem Obj.dict_mapF (o:Obj) (f:Array Value->Array Value):(o.mapFields f).dict=o.dict:=by
 obtain ⟨_,_,dt,_⟩:=o
 cases dt <;> rfl
section
variable {M:Model} {A:Around} {E:Value->Shared->Prop} {s:Shared}
theorem entry_ok {base:Heap} {env:Env} {outer:List Env} {L e:Addr} {oe:Obj} {vs:Array Value} {head:Value} {hadNext:Bool} {Q:Unit->Shared->Prop}
  (hfr:A.frames=some (env :: outer)) (hl:s.heap.FunFrames base (env :: outer)) (hf:env.frame=some L) (he:s.heap.get? e=some oe) (hdi:oe.dict=none) (hd:oe.data=.fields vs) (hsz:1 < vs.size)
  (h:∀ h' T,s.heap.objs.size<=T->(∀ b o,s.heap.get? b=some o->b∉frs (env :: outer)->b≠e->h'.get? b=some o)->(∀ b o,s.heap.get? b=some o->b∈frs (env :: outer)->∃ sl,h'.get? b=some { o with slots:=sl }) ->
   ExAt h' e oe.cls (some T) (rawInt L)->Q () { s with heap:=h' }) :
  wpAny M A (do let a <- frameOf env;let pl <- entryPlaceOf L hadNext;let b <- EntryCells.newEntry head a .none (rawInt L) .none pl;setField (.ref e) 1 b) Q E s:=by
 have nfe:e∉(env :: outer).filterMap (·.frame):=fun hm=>by
  obtain ⟨_,o,ho,hnf⟩:=hl.mem hm
  rw [he] at ho;injection ho with ho;subst ho;exact hnf vs hd
 refine wpAny_bind (wpAny_frameOf_fun hfr hl hf fun h₁ hs₁=>?_)
 refine wpAny_bind (wpAny_entryPlaceOf fun pl hpl=>?_)
 unfold EntryCells.newEntry newFields
 refine wpAny_bind (wpAny_newObj_type ?_ (hpl.sizeOk5 _ _ _ _ _))
 have he₁:h₁.get? e=some oe:=(hs₁.2.1 e nfe).trans he
 have he₂:=Heap.get?_push_of_some (h:=h₁) { cls:=.type "traceback",dict:=none,data:=.fields ([head,.ref L,.none,rawInt L,.none]++(if pl.isEmpty then List.replicate 6 Value.none else pl)).toArray } he₁
 refine wpAny_setField he₂ hd hsz ?_
 have hTe:h₁.objs.size≠e:=Nat.ne_of_gt (Heap.lt_size he₁)
 have hd₃:=Obj.data_mapFields hd (·.setIfInBounds 1 (Value.ref h₁.objs.size))
 have he₃:=Heap.get?_update_self (Obj.mapFields (·.setIfInBounds 1 (Value.ref h₁.objs.size))) he₂ (Obj.isFreed_of_fields hd₃)
 have hT₃:=(Heap.get?_update_other (h₁.push { cls:=.type "traceback",dict:=none,data:=.fields ([head,.ref L,.none,rawInt L,.none]++(if pl.isEmpty then List.replicate 6 Value.none else pl)).toArray })
  (Obj.mapFields (·.setIfInBounds 1 (Value.ref h₁.objs.size))) (Ne.symm hTe)).trans (Heap.get?_push_size h₁ rfl)
 have keep:∀ b o,b≠e->h₁.get? b=some o ->
   ((h₁.push { cls:=.type "traceback",dict:=none,data:=.fields ([head,.ref L,.none,rawInt L,.none]++(if pl.isEmpty then List.replicate 6 Value.none else pl)).toArray }).update e (Obj.mapFields (·.setIfInBounds 1 (Value.ref h₁.objs.size)))).get? b=some o:=fun b o hbe hb=>by
  rw [Heap.get?_update_other _ _ (Ne.symm hbe)]
  exact Heap.get?_push_of_some _ hb
 refine h _ h₁.objs.size (by rw [hs₁.1];exact Nat.le_refl _) (fun b o hb hn hbe=>keep b o hbe ((hs₁.2.1 b hn).trans hb)) (fun b o hb hn=>?_) ?_
 ·obtain ⟨sl,q⟩:=hs₁.2.2 b o hb
  exact ⟨sl,keep b _ (fun z=>nfe (by rw [<- z];exact hn)) q⟩
 ·exact ⟨_,_,he₃,Obj.cls_mapFields _ _,(Obj.dict_mapF _ _).trans hdi,hd₃,by simp [hsz],hTe,_,_,hT₃,rfl,by first | (simp;done) | (rcases hpl with rfl | ⟨_,_,_,_,_,_,_,rfl⟩ <;> simp)⟩
end
structure DefCx (X:Cx):Prop where
 pn:X.pn=[]
 ex:X.ex=[]
 st:X.stack=X.env :: X.outer
 fr:X.env.frame=some X.env.locals
theorem Bv.get {P:Program} {w:World} {H:Hp} {h:Heap} {a:Addr} {o:HO} (x:Bv P w H h a o):∃ u,h.get? a=some u:=by
 cases o with
 | lst xs=>obtain ⟨_,_,_,_,e⟩:=x;exact ⟨_,e⟩
 | tup xs=>obtain ⟨_,_,_,ob,e,_⟩:=x;exact ⟨_,e⟩
 | dK kvs=>obtain ⟨_,_,_,_,o,_,_,e,_⟩:=x;exact ⟨_,e⟩
 | dT kvs=>obtain ⟨_,_,_,_,o,_,_,e,_⟩:=x;exact ⟨_,e⟩
 | set S n=>obtain ⟨o,_,_,_,e,_⟩:=x;exact ⟨_,e⟩
 | ins C dx fs=>obtain ⟨_,_,_,e,_⟩:=x;exact ⟨_,e⟩
 | own y=>obtain ⟨_,e⟩:=x;exact ⟨_,e⟩
 | xd fs=>obtain ⟨_,⟨_,_,_,e,_⟩,_⟩:=x;exact ⟨_,e⟩
 | rng lo hi=>obtain ⟨_,_,_,e⟩:=x;exact ⟨_,e⟩
 | frz ob u=>obtain ⟨e,_⟩:=x;exact ⟨_,e⟩
 | tbl ps=>exact ⟨_,(show h.get? a=some _ from x)⟩
 | met f y=>exact ⟨_,(show h.get? a=some _ from x)⟩
 | ext φ=>obtain ⟨_,⟨_,e⟩,_⟩:=x;exact ⟨_,e⟩
theorem HOk.none {P:Program} {w:World} {H:Hp} {h:Heap} {a:Addr} (x:HOk P w H h) (e:h.get? a=none):H a=none:=by
 cases q:H a with
 | none=>rfl
 | some u =>
  obtain ⟨o,z⟩:=(x a u q).get
  rw [e] at z;cases z
section
variable {X:Cx} {σ:St} {H:Hp} {s:Shared} {h':Heap} {ch:List Addr}
theorem Inv.kp {pins:List (Addr×Obj)} (I:Inv X pins σ H s) (hpn:X.pn=[]) (k:∀ b o,s.heap.get? b=some o->b∉frs X.stack->b∉ch->h'.get? b=some o) (sl:∀ b o,s.heap.get? b=some o->b∈frs X.stack->∃ sl,h'.get? b=some { o with slots:=sl })
  (nc:∀ b∈ch,X.s₀.heap.get? b=none/\H b=none/\∃ o vs,s.heap.get? b=some o/\o.data=.fields vs):Inv X [] σ H { s with heap:=h' }:=by
 have any:∀ b o,s.heap.get? b=some o->b∉ch->∃ l,h'.get? b=some { o with slots:=l }:=fun b o e n=>by
  by_cases hb:b∈frs X.stack
  ·exact sl b o e hb
  ·exact ⟨o.slots,k b o e hb n⟩
 have n0:∀ b o,X.s₀.heap.get? b=some o->b∉ch:=fun b o e z=>by
  have:=(nc b z).1
  rw [e] at this;cases this
 have nf:∀ b o,s.heap.get? b=some o->(∀ vs,o.data≠.fields vs)->b∉ch:=fun b o e hd z=>by
  obtain ⟨_,_,o',vs,e',d⟩:=nc b z
  rw [e] at e';cases e';exact hd vs d
 have cellK:∀ x c,X.env.cells.lookup x=some c->∀ v,s.heap.IsCell c v->h'.IsCell c v:=fun x c e v ⟨o,ho,hd⟩=>by
  obtain ⟨l,q⟩:=any c o ho (nf c o ho fun vs z=>by rw [hd] at z;cases z)
  exact ⟨_,q,hd⟩
 refine ⟨I.ok,I.os,I.bare,⟨fun b o e n hb hx=>?_,fun b o e n hb hx=>?_,I.base.free,fun b o e hx=>?_,I.base.tups,I.base.frzs,I.base.tbls⟩,?_,fun x c e=>?_,I.free,I.freeC,fun p hp=>?_,fun b u e=>?_,I.len⟩
 ·refine k b o (I.base.keep b o e n hb hx) (fun z=>?_) (n0 b o e)
  rcases List.mem_cons.mp (I.GQ b z) with z | z
  ·exact Nat.ne_of_lt (Nat.lt_of_lt_of_le (Heap.lt_size e) I.ok.above) z
  ·exact hb z
 ·obtain ⟨l,e1⟩:=I.base.slot b o e n hb hx
  obtain ⟨l',e2⟩:=any b _ e1 (n0 b o e)
  exact ⟨l',e2⟩
 ·obtain ⟨o',e1⟩:=I.base.there b o e hx
  obtain ⟨l',e2⟩:=any b _ e1 (n0 b o e)
  exact ⟨_,e2⟩
 ·obtain ⟨m,⟨o,es,ep,ho,hd,r⟩,hl⟩:=I.loc
  obtain ⟨l,q⟩:=any _ o ho (nf _ o ho fun vs z=>by rw [hd] at z;cases z)
  refine ⟨m,⟨_,es,ep,q,hd,r⟩,fun i x v e1 e2 e3=>?_⟩
  obtain ⟨u,rv,z⟩:=hl i x v e1 e2 e3
  refine ⟨u,rv,?_⟩
  rcases z with z | ⟨kk,c,e,z⟩
  ·exact .inl z
  ·exact .inr ⟨kk,c,e,cellK x c e _ z⟩
 ·obtain ⟨v,z⟩:=I.cell x c e
  exact ⟨v,cellK x c e v z⟩
 ·rw [hpn] at hp;cases hp
 ·have nn:∀ c,(c=b∨H c=some (.own b))->H c≠none:=fun c hc z=>by
   rcases hc with rfl | hc
   ·rw [z] at e;cases e
   ·rw [z] at hc;cases hc
  exact (I.hok b u e).stay (fun c v hc q=>k c v q (fun z=>nn c hc (I.HS c z)) fun z=>nn c hc (nc c z).2.1) (fun _ q=>q) fun _ _ q=>q
theorem Inv.new {pins:List (Addr×Obj)} {b:Addr} (I:Inv X pins σ H s) (D:X.ex=[]) (e:s.heap.get? b=none):X.s₀.heap.get? b=none/\H b=none:=by
 refine ⟨?_,I.hok.none e⟩
 cases q:X.s₀.heap.get? b with
 | none=>rfl
 | some o =>
  obtain ⟨o',z⟩:=I.base.there b o q (by rw [D];simp)
  rw [e] at z;cases z
end
section
variable {X:Cx} {σ:St} {H:Hp} {s:Shared} {a:Addr} {c fl:Value} {T:Option Addr} {M:Model} {A:Around} {E:Value->Shared->Prop} {Q:Unit->Shared->Prop}
def NewX (X:Cx) (H:Hp) (a:Addr) (T:Option Addr):Prop:=∀ b,b=a∨T=some b->X.s₀.heap.get? b=none/\H b=none
theorem ExAt.there (e:ExAt s.heap a c T fl):∀ b,b=a∨T=some b->∃ o vs,s.heap.get? b=some o/\o.data=.fields vs:=by
 obtain ⟨oe,vs,h1,h2,h3,h4,h5⟩:=e
 intro b hb
 rcases hb with rfl | rfl
 ·exact ⟨oe,vs,h1,h4⟩
 ·obtain ⟨_,_,oT,ts,q1,q2,_⟩:=h5
  exact ⟨oT,ts,q1,q2⟩
theorem note_ok (D:DefCx X) (hfr:A.frames=some X.stack) (I:Inv X [] σ H s) (e:ExAt s.heap a c T fl) (hfl:fl=.none∨fl=rawInt X.env.locals) (nw:NewX X H a T)
  (h:∀ h' T',ExAt h' a c (some T') (rawInt X.env.locals)->NewX X H a (some T')->Inv X [] σ H { s with heap:=h' }->Q () { s with heap:=h' }):wpAny M A (noteFrame (.ref a) X.env) Q E s:=by
 have hl:=I.stack
 rw [D.st] at hfr hl
 obtain ⟨oe,vs,he,hcls,hdi,hd,ht⟩:=id e
 have th:=e.there
 subst hcls
 unfold noteFrame
 simp only [D.fr]
 cases T with
 | none =>
  refine wpAny_bind (wpAny_field he hd ht ?_)
  rw [if_neg (by decide)]
  refine entry_ok hfr hl D.fr he hdi hd (Array.getElem?_eq_some_iff.mp ht).1 fun h' T' q1 q2 q3 q4=>?_
  have nT:=I.new D.ex (Heap.get?_none_of_le q1)
  refine h h' T' q4 (fun b hb=>hb.elim (fun z=>nw b (.inl z)) fun z=>by cases z;exact nT) (I.kp (ch:=[a]) D.pn (fun b o x y z=>q2 b o x (by rw [<- D.st];exact y) fun w=>z (by simp [w])) (fun b o x y=>q3 b o x (by rw [<- D.st];exact y)) fun b hb=>?_)
  rw [List.mem_singleton.mp hb]
  exact ⟨(nw a (.inl rfl)).1,(nw a (.inl rfl)).2,oe,vs,he,hd⟩
 | some T =>
  obtain ⟨h1,hTe,oT,ts,hT,hdT,h3⟩:=ht
  refine wpAny_bind (wpAny_field he hd h1 ?_)
  rw [if_pos (show (Value.ref T != Value.none)=true from by simp)]
  refine wpAny_bind (wpAny_field hT hdT h3 ?_)
  rcases hfl with rfl | rfl
  ·rw [if_neg (show ¬ ((Value.none == rawInt X.env.locals)=true) from by simp [rawInt])]
   refine wpAny_bind (wpAny_setField hT hdT (Array.getElem?_eq_some_iff.mp h3).1 ?_)
   have other:∀ b,b≠T->(s.heap.update T (Obj.mapFields (·.setIfInBounds 3 Value.none))).get? b=s.heap.get? b:=fun b hb=>Heap.get?_update_other _ _ (Ne.symm hb)
   have nr:∀ b o,s.heap.get? b=some o->(∀ vs,o.data≠.fields vs)->b≠T:=fun b o hb hnf q=>by
    rw [q,hT] at hb;injection hb with hb;subst hb;exact hnf ts hdT
   have nfT:T∉frs X.stack:=fun hm=>by
    obtain ⟨_,o,ho,hnf⟩:=I.stack.mem hm
    rw [hT] at ho;injection ho with ho;subst ho;exact hnf ts hdT
   refine entry_ok hfr (hl.of_keeps fun b o hb hnf=>⟨o,(other b (nr b o hb hnf)).trans hb,rfl⟩) D.fr ((other a (Ne.symm hTe)).trans he) hdi hd (Array.getElem?_eq_some_iff.mp h1).1 fun h' T' q1 q2 q3 q4=>?_
   have sz:s.heap.objs.size<=T':=by
    have:(s.heap.update T (Obj.mapFields (·.setIfInBounds 3 Value.none))).objs.size=s.heap.objs.size:=Heap.size_after_update ..
    rw [<- this];exact q1
   have nT:=I.new D.ex (Heap.get?_none_of_le sz)
   refine h h' T' q4 (fun b hb=>hb.elim (fun z=>nw b (.inl z)) fun z=>by cases z;exact nT) (I.kp (ch:=[a,T]) D.pn (fun b o x y z=>?_) (fun b o x y=>?_) fun b hb=>?_)
   ·exact q2 b o ((other b fun w=>z (by simp [w])).trans x) (by rw [<- D.st];exact y) fun w=>z (by simp [w])
   ·exact q3 b o ((other b fun w=>nfT (by rw [<- w];exact y)).trans x) (by rw [<- D.st];exact y)
   ·have hb':b=a∨some T=some b:=by
     rcases List.mem_cons.mp hb with z | z
     ·exact .inl z
     ·exact .inr (by rw [List.mem_singleton.mp z])
    exact ⟨(nw b hb').1,(nw b hb').2,th b hb'⟩
  ·rw [if_pos (show (rawInt X.env.locals == rawInt X.env.locals)=true from by simp)]
   exact wpAny_pure (h s.heap T e nw I)
theorem DQ {f:Option Addr} (hpn:X.pn=[]) (I:Inv X [] σ H s) (e:ExAt s.heap a c T fl) (nw:NewX X H a T)
  (h:∀ h',ExAt h' a c T (f.elim .none fun f=>rawInt f)->Inv X [] σ H { s with heap:=h' }->Q () { s with heap:=h' }):wpAny M A (setFlight (.ref a) f) Q E s:=by
 obtain ⟨oe,vs,he,hcls,hdi,hd,ht⟩:=id e
 have th:=e.there
 unfold setFlight
 cases T with
 | none =>
  refine wpAny_bind (wpAny_field he hd ht ?_)
  rw [if_neg (by decide)]
  exact wpAny_pure (h s.heap ⟨oe,vs,he,hcls,hdi,hd,ht⟩ I)
 | some T =>
  obtain ⟨h1,hTe,oT,ts,hT,hdT,h3⟩:=ht
  have hsz:=(Array.getElem?_eq_some_iff.mp h3).1
  refine wpAny_bind (wpAny_field he hd h1 ?_)
  rw [if_pos (show (Value.ref T != Value.none)=true from by simp)]
  have other:∀ b,b≠T->(s.heap.update T (Obj.mapFields (·.setIfInBounds 3 (f.elim Value.none fun f=>rawInt f)))).get? b=s.heap.get? b:=fun b hb=>Heap.get?_update_other _ _ (Ne.symm hb)
  refine wpAny_setField hT hdT hsz (h _ ⟨oe,vs,(other a (Ne.symm hTe)).trans he,hcls,hdi,hd,h1,hTe,_,_,Heap.get?_update_self _ hT (Obj.isFreed_of_fields (Obj.data_mapFields hdT _)),Obj.data_mapFields hdT _,by simp [hsz]⟩ (I.kp (ch:=[T]) hpn (fun b o x _ z=>(other b fun w=>z (by simp [w])).trans x) (fun b o x y=>?_) fun b hb=>?_))
  ·refine ⟨o.slots,(other b fun w=>?_).trans x⟩
   obtain ⟨_,o',ho',hnf⟩:=I.stack.mem y
   rw [w,hT] at ho';injection ho' with ho';subst ho';exact hnf ts hdT
  ·rw [List.mem_singleton.mp hb]
   exact ⟨(nw T (.inr rfl)).1,(nw T (.inr rfl)).2,th T (.inr rfl)⟩
end
end L2
namespace L2
open PySem PySem.Spec PyProof.Rows
abbrev XE:=Value->St->Hp->Prop
def XW (X:Cx) (Z:XE) (e:Value) (s:Shared):Prop:=∃ a c T fl σ H,e=.ref a/\Inv X [] σ H s/\ExAt s.heap a c T fl/\(fl=.none∨fl=rawInt X.env.locals)/\NewX X H a T/\Z c σ H
def CX1 (P:Program) (w:World):CXT:=fun outer H s E e s'=>∃ a c T H',e=.ref a/\s'.os=s.os/\AllBare s'.gens/\Un (frs outer) [] H H' s.heap s'.heap/\HOk P w H' s'.heap/\ExAt s'.heap a c T .none /\
 (∀ b,b=a∨T=some b->s.heap.get? b=none/\H' b=none)/\E c none H'
section
variable {X:Cx} {Z Z':XE} {e:Value} {s s':Shared} {pins:List (Addr×Obj)} {σ:St} {H:Hp}
theorem XW.imp (h:XW X Z e s) (k:∀ c σ H,Z c σ H->Z' c σ H):XW X Z' e s :=
 let ⟨a,c,T,fl,σ,H,q1,q2,q3,q4,q5,q6⟩:=h
 ⟨a,c,T,fl,σ,H,q1,q2,q3,q4,q5,k _ _ _ q6⟩
theorem XW.EH {E:Value->Shared->Prop} (h:XW (X.EH E) Z e s):XW X Z e s :=
 let ⟨a,c,T,fl,σ,H,q1,q2,q3,q4,q5,q6⟩:=h
 ⟨a,c,T,fl,σ,H,q1,q2.DA,q3,q4,q5,q6⟩
theorem CX1.xw (D:X.ex=[]) (I:Inv X pins σ H s) (h:CX1 X.prog X.w X.stack H s (fun c _ H'=>Z c σ H') e s'):XW X Z e s':=by
 obtain ⟨a,c,T,H',rfl,q1,q2,q3,q4,q5,q6,q7⟩:=h
 have I':Inv X pins σ H' s':=I.call' (ch:=[]) q1 q3 q4 q2 fun b z=>absurd z (by simp)
 exact ⟨a,c,T,.none,σ,H',rfl,I'.Gg fun _ z=>absurd z (by simp),q5,.inl rfl,fun b hb=>⟨(I.new D (q6 b hb).1).1,(q6 b hb).2⟩,q7⟩
theorem XW.own (D:DefCx X):PassesOwn (model X.prog X.w) X.A X.env (XW X Z):=by
 intro e s' h
 obtain ⟨a,c,T,fl,σ,H,rfl,I,q3,q4,q5,q6⟩:=h
 refine note_ok D I.ok.frames I q3 q4 q5 fun h1 T1 e1 n1 I1=>?_
 obtain ⟨oe,vs,he,hc,hdi,hd,ht⟩:=id e1
 refine wpAny_bind (wpAny_field he hd ht.1 ?_)
 rw [if_neg (show ¬ ((Value.ref T1 == Value.none)=true) from by simp)]
 rw [D.fr]
 exact DQ (f:=some X.env.locals) D.pn I1 e1 n1 fun h2 e2 I2=>⟨a,c,some T1,rawInt X.env.locals,σ,H,rfl,I2,e2,.inr rfl,n1,q6⟩
end
section
variable {P:Program} {w:World} {K:PySem.W.Frag} {mg:Str->Option Value} {base:Heap} {N:List Str} {qual:Str} {scope:Scope} {f:Addr} {cd:Value} {A:Around} {outer:List Env} {s:Shared} {H:Hp} {E:XK}
theorem defCx:DefCx (cxOf (CX1 P w) P w K mg base N qual scope f cd A outer s H E):=⟨rfl,rfl,rfl,rfl⟩
theorem xe_of {e:Value} {s':Shared} (h:XW (cxOf (CX1 P w) P w K mg base N qual scope f cd A outer s H E) (fun c _ H'=>E c none H') e s'):(cxOf (CX1 P w) P w K mg base N qual scope f cd A outer s H E).xe e s':=by
 obtain ⟨a,c,T,fl,σ,H',rfl,I,q3,q4,q5,q6⟩:=h
 show wpAny _ _ (leaving (cxOf (CX1 P w) P w K mg base N qual scope f cd A outer s H E).env (.ref a)) _ _ s'
 unfold leaving
 refine wpAny_bind (note_ok defCx I.ok.frames I q3 q4 q5 fun h1 T1 e1 n1 I1=>?_)
 refine DQ (f:=none) rfl I1 e1 n1 fun h2 e2 I2=>?_
 exact ⟨a,c,some T1,H',rfl,I2.os,I2.bare,I2.base,I2.hok,e2,n1,q6⟩
end
def Lk (X:Cx) (Z:XE):Prop:=∀ (pins:List (Addr×Obj)) (σ:St) (H:Hp) (s:Shared) (e:Value) (s':Shared),Inv X pins σ H s->CX1 X.prog X.w X.stack H s (fun c _ H'=>Z c σ H') e s'->X.xe e s'
theorem Lk.of {X:Cx} {Z:XE} (D:X.ex=[]) (k:∀ e s,XW X Z e s->X.xe e s):Lk X Z:=fun _ _ _ _ _ _ I h=>k _ _ (CX1.xw D I h)
section
variable {X:Cx} {k:Nat} {f C:Addr} {fd:FuncData} {ps:List Str} {sp:Sp} {Z:XE} {x m:Str} {p pos apos:Pos} {e o:Expr} {es:List Expr} {ta:TE} {t:TA}
def tCallX (sp:Sp) (Z:XE) (t:TA):TE:=fun σ H Q=>t σ H fun vs H1=>sp vs H1 Q fun c _ H'=>Z c σ H'
theorem run_fnX {pins:List (Addr×Obj)} {σ:St} {H:Hp} {s:Shared} {Q:VK} {us:List Value} {vs:List V} (F:Dh X.prog X.w X.K X.mg X.base (CX1 X.prog X.w) k f fd ps sp) (hr:Ff k X.A) (hb:Binds X.K fd ps []) (hx:Lk X Z)
  (I:Inv X pins σ H s) (r:Vals vs us) (h:sp vs H Q fun c _ H'=>Z c σ H'):wpAny (model X.prog X.w) X.A (call (.ref f) us) (EP X pins σ Q) X.xe s:=by
 have hl:us.length=ps.length:=by rw [<- r.length];exact F.len _ _ _ _ h
 have b:=hb s us I.kIn (by rw [List.append_nil];exact hl)
 rw [List.append_nil] at b
 refine wpAny_call (codeAny_mono (F.run X.A X.stack s H ⟨us,[]⟩ us vs Q _ hr I.env0 b r h) fun r s' hq=>?_)
 cases r with
 | error e=>exact hx pins σ H s e s' I hq
 | ok fl =>
  cases fl with
  | ret u=>exact I.after hq
  | next=>exact False.elim hq
  | brk=>exact False.elim hq
  | cont=>exact False.elim hq
theorem pe_fnX (G:FnAt X.prog X.w X.K X.mg X.base (CX1 X.prog X.w) x k ps sp) (hr:Ff k X.A) (hx:Lk X Z) (ha:PA X (e :: es) t) (hg:Gl X x:=by rfl) (hdb:(x == ("__debug__":Str))=false:=by decide)
  (he:starEach (e :: es) X.env=(false,eval e X.env) :: starEach es X.env:=by rfl) (hpl:(backTo pos (starEach es X.env)).any (·.1)=false:=by rfl):PE X (.Call (.Name x p) (e :: es) [] pos) (tCallX sp Z t):=by
 obtain ⟨f,fd,F,hm,hk,hb⟩:=G.ex
 intro pins s σ H Q I h
 refine wpAny_Call_Name_kw (Gi I hg hm ?_ hdb)
 refine PySem.W.callWith_K (h₀:=X.base) I.ok.mod.kin hk (thn (ha pos pins s σ H _ I h) fun us s1 ⟨vs,H1,I1,r,q⟩=>⟨I1.kIn,?_⟩) he hpl
 exact run_fnX F hr hb hx I1 r q
end
def bmVE:List Value:=[.type "ValueError",.type "Exception",.type "BaseException",.type "object"]
structure ExC (K:PySem.W.Frag) (mg:Str->Option Value) (x:Str) (C:Addr):Prop where
 at_:mg x=some (.ref C)
 ok:PySem.W.excIn K C bmVE "ValueError.__new__"=true
def tRaise (C:Addr) (Z:XE) (t:TA):TS:=fun _ σ H=>t σ H fun vs H1=>vs.length<=1000/\Z (.ref C) σ H1
theorem ExC.own {K:PySem.W.Frag} {mg:Str->Option Value} {x:Str} {C:Addr} {h:Heap} (c:ExC K mg x C) (X:K.In h):OwnCls x C bmVE "ValueError.__new__" mg h:=by
 refine ⟨c.at_,?_⟩
 have q:=c.ok
 unfold PySem.W.excIn at q
 split at q
 ·rename_i dd cd sl ho
  split at q
  ·rename_i C' bm k0 k1 k2 k3 n k5 hm hs
   simp only [Bool.and_eq_true,beq_iff_eq,Bool.not_eq_true'] at q
   obtain ⟨⟨⟨⟨⟨rfl,rfl⟩,hdel⟩,ht⟩,hok⟩,hni⟩:=q
   obtain ⟨nm,bs,mro,ns,qn,hd,sn,sub,ab,col,del⟩:=cd
   dsimp only at hm hdel hok hni
   subst hm hdel
   have hsl:sl=#[k0,k1,k2,k3,some (.builtin "ValueError.__new__"),k5]:=by
    obtain ⟨l⟩:=sl
    simp only at hs
    rw [hs]
   subst hsl
   exact ⟨bm,ns,nm,qn,bs,hd,sn,sub,ab,col,dd,k0,k1,k2,k3,k5,_,X _ _ ho,.of_isNs (PySem.W.isNs_of_in X hok),PySem.W.nsMap_none_of_in X hok hni,PySem.W.tail_of_in X ht⟩
  ·cases q
 ·cases q
section
variable {X:Cx} {C:Addr} {Z:XE} {x:Str} {np cpos pos:Pos} {e:Expr} {es:List Expr} {t:TA}
theorem made_xw {pins:List (Addr×Obj)} {σ:St} {H:Hp} {s:Shared} {h':Heap} {a:Addr} {us:List Value} (D:X.ex=[]) (I:Inv X pins σ H s) (hm:Heap.MadeExcOf s.heap h' a (.ref C) us) (q:Z (.ref C) σ H):XW X Z (.ref a) { s with heap:=h' }:=by
 obtain ⟨t,ht,_,_⟩:=hm.there
 refine ⟨a,.ref C,none,.none,σ,H,rfl,(I.kept (t':=s.toks) hm.keeps).Gg fun _ z=>absurd z (by simp),⟨_,_,ht,rfl,rfl,rfl,rfl⟩,.inl rfl,fun b hb=>?_,q⟩
 rcases hb with rfl | hb
 ·exact I.new D hm.new
 ·cases hb
theorem ps_raise (c:ExC X.K X.mg x C) (D:X.ex=[]) (hc:X.calm=true) (hx:∀ e s,XW X Z e s->X.xe e s) (ha:PA X (e :: es) t) (hg:Gl X x:=by rfl) (hdb:(x == ("__debug__":Str))=false:=by decide)
  (he:starEach (e :: es) X.env=(false,eval e X.env) :: starEach es X.env:=by rfl) (hpl:(backTo cpos (starEach es X.env)).any (·.1)=false:=by rfl) :
  PS X (.Raise (some (.Call (.Name x np) (e :: es) [] cpos)) none pos) (tRaise C Z t):=by
 intro pins s σ H D' I h
 obtain ⟨tl,N,nm,q,bs,hdct,sn,sub,ab,col,dd,k0,k1,k2,k3,k5,mN,hC,hN,hni,T⟩:=(c.own I.ok.mod.kin).obj
 refine wpAny_Raise_call_subT (C:=C) (nm:=nm) (q:=q) (N:=N) (bs:=bs) (bm:=tl) (hdct:=hdct) (sn:=sn) (sub:=sub) (ab:=ab) (col:=col) (dd:=dd) (k0:=k0) (k1:=k1) (k2:=k2) (k3:=k3) (k5:=k5)
  PySem.F.excBase_ValueError (mN:=mN) (T.hasType PySem.F.excBase_ValueError.hasBase) (I.ok.hd hc) (by rw [he];show (false || (backTo cpos (starEach es X.env)).any (·.1))=false;rw [hpl];rfl) hni (Gi I hg c.at_ ⟨rfl,?_⟩ hdb)
 have h1:=ha cpos pins s σ H _ I h
 rw [he] at h1 ⊢
 refine Calls.evalArgs_plain (thn h1 fun us s2 ⟨vs,H1,I1,r,hl,hz⟩=>⟨rfl,?_,I1.bk _ _ hC,hN.keeps I1.bk,T.keeps I1.bk,fun h' a hm=>hx _ _ (made_xw D I1 hm hz)⟩)
 show us.length<=sizeLine
 rw [<- r.length,sizeLine_eq]
 omega
end
end L2
namespace L2
open PySem PySem.Spec PyProof.Rows
def exO (c:Value) (a:Addr):HO:=.ext fun h=>∃ o vs,h.get? a=some o/\o.cls=c/\o.dict=none/\o.data=.fields vs
abbrev Cx.hand (X:Cx) (a:Addr):Cx:={ X with A:=X.A.mark (some (.ref a)),calm:=false,xe:=fun _ _=>False }
section
variable {X:Cx} {pins:List (Addr×Obj)} {σ:St} {H:Hp} {s:Shared} {a:Addr}
theorem Cx.Ok.hand (ok:X.Ok):(X.hand a).Ok :=
 ⟨ok.mod,ok.kind,ok.glob,ok.blt,ok.above,ok.inj,ok.has,ok.cab,(fun z=>nomatch z),ok.frames,ok.stk,ok.exf,ok.bs,ok.bsz,ok.noex,ok.exfs,ok.funs,ok.frf⟩
theorem Inv.hand (I:Inv X pins σ H s):Inv (X.hand a) pins σ H s:=⟨I.ok.hand,I.os,I.bare,I.base,I.loc,I.cell,I.free,I.freeC,I.pin,I.hok,I.len⟩
theorem Inv.Fp (ok:X.Ok) (I:Inv (X.hand a) pins σ H s):Inv X pins σ H s:=⟨ok,I.os,I.bare,I.base,I.loc,I.cell,I.free,I.freeC,I.pin,I.hok,I.len⟩
theorem Inv.track {o:HO} (I:Inv X [] σ H s) (hpn:X.pn=[]) (h0:X.s₀.heap.get? a=none) (hn:H a=none) (hf:∃ u vs,s.heap.get? a=some u/\u.data=.fields vs) (new:Bv X.prog X.w (upd H a o) s.heap a o):Inv X [] σ (upd H a o) s:=by
 have ne0:∀ b u,X.s₀.heap.get? b=some u->b≠a:=fun b u e z=>by rw [z,h0] at e;cases e
 obtain ⟨u,vs,hu,hd⟩:=hf
 refine ⟨I.ok,I.os,I.bare,⟨I.base.keep,I.base.slot,fun b o e n hx=>?_,I.base.there,fun b xs e=>?_,fun b o u e=>?_,fun b ps e=>?_⟩,I.loc,I.cell,?_,fun x c e=>?_,fun p hp=>?_,fun b u e=>?_,I.len⟩
 ·rw [Ay (ne0 b o e)]
  exact I.base.free b o e n hx
 ·have q:=I.base.tups b xs e
  rw [Ay (AL q hn)];exact q
 ·have q:=I.base.frzs b o u e
  rw [Ay (AL q hn)];exact q
 ·obtain ⟨more,q⟩:=I.base.tbls b ps e
  exact ⟨more,by rw [Ay (AL q hn)];exact q⟩
 ·rw [Ay]
  ·exact I.free
  ·intro z
   obtain ⟨m,⟨o',_,_,ho',hd',_⟩,_⟩:=I.loc
   rw [z,hu] at ho';cases ho';rw [hd] at hd';cases hd'
 ·rw [Ay]
  ·exact I.freeC x c e
  ·intro z
   obtain ⟨v,o',ho',hd'⟩:=I.cell x c e
   rw [z,hu] at ho';cases ho';rw [hd] at hd';cases hd'
 ·rw [hpn] at hp;cases hp
 ·by_cases hb:b=a
  ·subst hb;rw [AH] at e;cases e;exact new
  ·rw [Ay hb] at e
   exact (I.hok b u e).stay (fun _ _ _ q=>q) (fun c q=>by rw [Ay (AL q hn)];exact q) fun c xs q=>by rw [Ay (AL q hn)];exact q
theorem Gp {M:Model} {A:Around} {E:Value->Shared->Prop} {i:Nat} {n:Str} {pos:Pos} {Q:Unit->Shared->Prop} (I:Inv X [] σ H s) (hpn:X.pn=[]) (hN:X.N.Nodup) (hi:X.N[i]?=some n) (hl:X.env.scope.names.lookup n=some .local)
  (h:∀ s',Inv X [] (σ.set i none) H s'->Q () s'):wpAny M A (do bindName X.env n .none;unbindBehindTheSuite X.env n pos) Q E s:=by
 have hcls:(X.env.scope.kind == .class || (X.env.scope.kind == .module && X.env.locals != X.env.globals))=false:=by rw [I.ok.kind];rfl
 have hk:X.env.kindOf n=some .local:=hl
 refine wpAny_bind (wpAny_bindName (Ew I hN hi (.inl hl) (v:=V.non) (u:=Value.none) rfl (fun s1 I1=>?_) (.inr hl)))
 unfold unbindBehindTheSuite
 refine wpAny_onRaise ?_
 unfold unbindName
 refine wpAny_bind (wpAny_point (wpAny_bind ?_))
 unfold deleteName
 simp only [hk,hcls]
 rw [if_neg (by decide)]
 obtain ⟨m,hn,hl'⟩:=id I1.loc
 have hiσ:i < σ.length:=by rw [I.len];exact (List.getElem?_eq_some_iff.mp hi).1
 have hmn:(m n).isSome=true:=by
  obtain ⟨u,_,z⟩:=hl' i n V.non hi (by rw [List.getElem?_set_self hiσ]) (.inl hl)
  rcases z with ⟨_,z⟩ | ⟨z,_⟩
  ·rw [z];rfl
  ·rw [hk] at z;rcases z with z | z <;> cases z
 refine wpAny_bind (wpAny_nsDel_keeps hn fun h2 v hn2 hs2=>?_)
 simp only [hmn,Bool.not_true,Bool.false_eq_true,if_false]
 refine wpAny_pure (wpAny_point ?_)
 have cne:=I1.cne
 have neL:∀ b o,X.s₀.heap.get? b=some o->b≠X.env.locals:=fun b o e=>Nat.ne_of_lt (Nat.lt_of_lt_of_le (Heap.lt_size e) I.ok.above)
 have key:Inv X [] (σ.set i none) H { s1 with heap:=h2 }:=by
  refine ⟨I1.ok,I1.os,I1.bare,⟨fun b o e n hb hx=>(hs2.2 b (neL b o e)).trans (I1.base.keep b o e n hb hx),fun b o e n hb hx=>?_,I1.base.free,fun b o e hx=>?_,I1.base.tups,I1.base.frzs,I1.base.tbls⟩,⟨_,hn2,fun j y v' e1 e2 e3=>?_⟩,fun y c e=>?_,I1.free,I1.freeC,fun p hp=>?_,fun b ob e=>?_,by simpa using I1.len⟩
  ·obtain ⟨sl,e1⟩:=I1.base.slot b o e n hb hx
   exact ⟨sl,(hs2.2 b (neL b o e)).trans e1⟩
  ·obtain ⟨o',e1⟩:=I1.base.there b o e hx
   exact ⟨o',(hs2.2 b (neL b o e)).trans e1⟩
  ·by_cases hj:j=i
   ·subst hj
    rw [List.getElem?_set_self hiσ] at e2
    cases e2
   ·rw [List.getElem?_set_ne (Ne.symm hj)] at e2
    obtain ⟨u',r',q⟩:=hl' j y v' e1 (by rw [List.getElem?_set_ne (Ne.symm hj)];exact e2) e3
    refine ⟨u',r',?_⟩
    rcases q with ⟨k,e⟩ | ⟨k,c,e,z⟩
    ·refine .inl ⟨k,?_⟩
     have:y≠n:=fun e=>hj (Gh hN e1 (e▸hi))
     simp [this,e]
    ·exact .inr ⟨k,c,e,z.sameBut hs2 (cne y c e)⟩
  ·obtain ⟨w',z⟩:=I1.cell y c e
   exact ⟨w',z.sameBut hs2 (cne y c e)⟩
  ·rw [hpn] at hp;cases hp
  ·refine (I1.hok b ob e).stay (fun c w' hc q=>(hs2.2 c ?_).trans q) (fun _ q=>q) fun _ _ q=>q
   rintro rfl
   rcases hc with rfl | hc
   ·rw [I1.free] at e;cases e
   ·rw [I1.free] at hc;cases hc
 first
  | exact h _ key
  | exact h _ (key.tok _)
end
def PS0 (X:Cx) (st:Stmt) (t:TS):Prop:=∀ (s:Shared) (σ:St) (H:Hp) (D:Ends),Inv X [] σ H s->t D σ H->wpAny (model X.prog X.w) X.A (exec st X.env) (SP X [] D) X.xe s
def PSs0 (X:Cx) (st:List Stmt) (t:TS):Prop:=∀ (s:Shared) (σ:St) (H:Hp) (D:Ends),Inv X [] σ H s->t D σ H->wpAny (model X.prog X.w) X.A (execs st X.env) (SP X [] D) X.xe s
section
variable {X:Cx} {st:Stmt} {rest:List Stmt} {t u:TS}
theorem PS.zero (h:PS X st t):PS0 X st t:=fun s σ H D I q=>h [] s σ H D I q
theorem PSs.zero (h:PSs X rest t):PSs0 X rest t:=fun s σ H D I q=>h [] s σ H D I q
theorem pss0_cons (h1:PS0 X st t) (h2:PSs0 X rest u):PSs0 X (st :: rest) (tSeq t u):=by
 intro s σ H D I h
 refine wpAny_execs_cons (thn (h1 s σ H { D with nx:=u D } I h) fun f s1 q=>?_)
 cases f with
 | next =>
  obtain ⟨σ',H',I',q⟩:=q
  exact h2 s1 σ' H' D I' q
 | ret v=>exact q
 | brk=>exact q
 | cont=>exact q
theorem PSs0.unw {E:Value->Shared->Prop} (h:PSs0 (X.EH E) rest t) (k:∀ e s,E e s->X.xe e s):PSs0 X rest t:=fun s σ H D I hw =>
 wpAny_mono (h s σ H D (I.EH _) hw) (fun _ _ q=>q.DA) fun e s z=>k e s z
end
theorem fn_of0 {CX:CXT} {P:Program} {w:World} {K:PySem.W.Frag} {mg:Str->Option Value} {base:Heap} {k:Nat} {f:Addr} {name qual:Str} {params:Arguments} {body:List Stmt} {scope:Scope} {dV kV doc pm cdv ct oc:Value} {an od:Option Addr}
  {osl:Array (Option Value)} {N ps:List Str} {sp:Sp} (lk:K.lookup f=some ⟨oc,od,.func (PySem.W.fnOf name qual params body scope dV kV doc pm an cdv ct),osl⟩) (hcd:PySem.W.codeIn K cdv qual=true) (S:A1 N ps scope)
  (len:∀ vs H Q E,sp vs H Q E->vs.length=ps.length)
  (hbody:∀ (A:Around) (outer:List Env) (s:Shared) (H:Hp) (vs:List V) (Q:VK) (E:XK),Ff k (A.deeper (envOfC qual scope s.heap.objs.size f cdv))->sp vs H Q E ->
   ∃ t,PSs0 (cxOf CX P w K mg base N qual scope f cdv A outer s H E) body t/\t { nx:=fun _ H'=>Q .non H',rt:=Q } (start N vs) H) :
  Dh P w K mg base CX (k+1) f (PySem.W.fnOf name qual params body scope dV kV doc pm an cdv ct) ps sp:=by
 refine ⟨len,fun A outer s H args us vs Q E hr e0 hb r hsp=>?_⟩
 have hl:=len _ _ _ _ hsp
 have KX:K.In s.heap:=e0.mod.kin.keeps fun b o e=>(e0.bs b o e).1
 have lim:s.heap.NoLimit:=e0.mod.nolimit.keeps fun b o e=>(e0.bs b o e).1
 have hkind:∀ y∈ps.zip us,scope.names.lookup y.1=some .local∨(scope.names.lookup y.1=some .cell/\((cellsFrom (s.heap.objs.size+1) scope.names []).lookup y.1).isSome=true):=fun ⟨n,v⟩ hy=>by
  rcases S.par n (List.of_mem_zip hy).1 with q | q
  ·exact .inl q
  ·exact .inr ⟨q,PySem.W.cellsFrom_some _ _ _ (.inl q)⟩
 refine codeAny_call_function hr.depth (KX _ _ lk) rfl S.co S.gen rfl (PySem.W.codeRec_of KX hcd) (hb _ _ _ _ ?_)
 refine wpAny_newFunctionEnv_cells S.kind hkind fun env he s1 x=>?_
 subst he
 refine ⟨lim.keeps x.toInCall.keep,codeAny_func ?_⟩
 obtain ⟨t,ht,hq⟩:=hbody A outer s H vs Q E (hr.deeper _) hsp
 have I:Inv (cxOf CX P w K mg base N qual scope f cdv A outer s H E) [] (start N vs) H s1:=inv_start S hr.hd e0 hl r x
 refine wpAny_mono (ht s1 (start N vs) H _ I hq) (fun fl s' hs=>?_) fun e s' hs=>hs
 have fin:∀ {σ':St} {H':Hp} {v:V} {u:Value},Inv (cxOf CX P w K mg base N qual scope f cdv A outer s H E) [] σ' H' s'->RelV v u->Q v H'->CE outer P w H s Q u s' :=
  fun {σ' H' v u} J rv q=>⟨v,H',J.os,J.bare,J.base,J.hok,rv,q⟩
 cases fl with
 | ret u =>
  obtain ⟨v,σ',H',J,rv,q⟩:=hs
  exact fin J rv q
 | next =>
  obtain ⟨σ',H',J,q⟩:=hs
  exact fin (v:=V.non) (u:=Value.none) J rfl q
 | brk =>
  obtain ⟨_,_,_,q⟩:=hs
  exact False.elim q
 | cont =>
  obtain ⟨_,_,_,q⟩:=hs
  exact False.elim q
theorem Fun.ok0 {P:Program} {w:World} {K:PySem.W.Frag} {mg:Str->Option Value} {base:Heap} {N:List Str} {qual:Str} {f:Addr} {x:Str} {st:Stmt} {fd:FuncData} {ps:List Str} {k:Nat} {sp:Sp} (F:Fun K x qual st f fd) (S:A1 N ps (Ap st)) (len:∀ vs H Q E,sp vs H Q E->vs.length=ps.length)
  (hbody:∀ (cdv:Value) (A:Around) (outer:List Env) (s:Shared) (H:Hp) (vs:List V) (Q:VK) (E:XK),Ff k (A.deeper (envOfC qual (Ap st) s.heap.objs.size f cdv))->sp vs H Q E ->
   ∃ t,PSs0 ((cxOf (CX1 P w) P w K mg base N qual (Ap st) f cdv A outer s H E).EH (XW (cxOf (CX1 P w) P w K mg base N qual (Ap st) f cdv A outer s H E) fun c _ H'=>E c none H')) (AR st) t/\t { nx:=fun _ H'=>Q .non H',rt:=Q } (start N vs) H) :
  Dh P w K mg base (CX1 P w) (k+1) f fd ps sp:=by
 obtain ⟨oc,od,kV,doc,pm,an,cdv,ct,osl,rfl,lk,hcd⟩:=F.ex
 refine fn_of0 lk hcd S len fun A outer s H vs Q E hr hsp=>?_
 obtain ⟨t,h,q⟩:=hbody cdv A outer s H vs Q E hr hsp
 exact ⟨t,h.unw fun _ _=>xe_of,q⟩
def asEnds (i:Nat) (D:Ends):Ends:={ nx:=fun σ H=>D.nx (σ.set i none) H,rt:=D.rt,bk:=fun σ H=>D.bk (σ.set i none) H,ct:=fun σ H=>D.ct (σ.set i none) H }
def ZTry (K:PySem.W.Frag) (C:Addr) (i:Nat) (th:TS) (D:Ends):XE:=fun c σ H=>PySem.W.exmOne K c (.ref C)=some true/\∀ a,H a=none->th (asEnds i D) (σ.set i (some (.ref a))) (upd H a (exO c a))
section
variable {X:Cx} {C:Addr} {x n:Str} {i:Nat} {np pos hpos:Pos} {body suite:List Stmt} {b₀:Stmt} {tb:Ends->TS} {th:TS}
theorem SP.Fp {a:Addr} {f:Flow} {s':Shared} {D:Ends} (ok:X.Ok) (h:SP (X.hand a) [] D f s'):SP X [] D f s':=by
 cases f with
 | next=>obtain ⟨σ',H',I,q⟩:=h;exact ⟨σ',H',I.Fp ok,q⟩
 | brk=>obtain ⟨σ',H',I,q⟩:=h;exact ⟨σ',H',I.Fp ok,q⟩
 | cont=>obtain ⟨σ',H',I,q⟩:=h;exact ⟨σ',H',I.Fp ok,q⟩
 | ret u=>obtain ⟨v,σ',H',I,r,q⟩:=h;exact ⟨v,σ',H',I.Fp ok,r,q⟩
theorem ps0_try (D:DefCx X) (hC:X.mg x=some (.ref C)) (hN:X.N.Nodup) (hb:∀ D,PSs (X.EH (XW X (ZTry X.K C i th D))) body (tb D)) (hs:∀ a,PSs (X.hand a) (b₀ :: suite) th) (hi:X.N[i]?=some n:=by rfl) (hl:X.env.scope.names.lookup n=some .local:=by rfl)
  (hg:Gl X x:=by rfl) (hdb:(x == ("__debug__":Str))=false:=by decide) :
  PS0 X (.Try body [.ExceptHandler (some (.Name x np)) (some n) (b₀ :: suite) hpos] [] [] pos) (fun D=>tb D D):=by
 intro s σ H D' I h
 refine wpAny_Try_except (wpAny_mono (hb D' [] s σ H D' (I.EH _) h) (fun f s1 q=>?_) fun e s1 q=>?_)
 ·have q:=q.DA
  cases f with
  | next=>exact wpAny_execs_nil q
  | ret v=>exact q
  | brk=>exact q
  | cont=>exact q
 ·obtain ⟨a,c,T,fl,σ1,H1,rfl,I1,e1,f1,n1,z1,z2⟩:=q
  refine note_ok D I1.ok.frames I1 e1 f1 n1 fun h2 T2 e2 n2 I2=>?_
  refine DQ (f:=none) D.pn I2 e2 n2 fun h3 e3 I3=>?_
  refine wpAny_handleBy_cons (codeAny_handlers_test (Gi (X:=X.hand a) I3.hand hg hC ?_ hdb)) (by intro q;cases q)
  obtain ⟨oe,vs,he,hcls,hdi,hd,ht⟩:=id e3
  have LT:PySem.W.Looks (model X.prog X.w) h3 (typeOf (.ref a)) c:=hcls▸(PySem.W.Looks.ld he).andThen .now
  refine PySem.W.Looks.here (s:={ s1 with heap:=h3 }) (PySem.W.exm_one I3.kIn LT z1) ?_
  refine codeAny_handlers_suite_as ?_
  refine DQ (f:=none) D.pn I3 e3 n2 fun h4 e4 I4=>?_
  obtain ⟨oe4,vs4,he4,hcls4,hdi4,hd4,ht4⟩:=id e4
  have hna:=n2 a (.inl rfl)
  have I5:Inv X [] σ1 (upd H1 a (exO c a)) { s1 with heap:=h4 }:=I4.track D.pn hna.1 hna.2 ⟨oe4,vs4,he4,hd4⟩ ⟨⟨oe4,vs4,he4,hcls4,hdi4,hd4⟩,⟨oe4,he4⟩,fun g1 g2 ⟨o,v,q1,q2⟩ k=>⟨o,v,k o q1,q2⟩⟩
  refine Ew I5 hN hi (.inl hl) (v:=V.ref a) (u:=Value.ref a) rfl (fun s6 I6=>?_) (.inr hl)
  refine wpAny_mono (hs a [] s6 _ _ (asEnds i D') I6.hand (z2 a hna.2)) (fun f s7 q=>?_) fun _ _ z=>False.elim z
  have q:=q.Fp I.ok
  cases f with
  | next =>
   obtain ⟨σ',H',I',q⟩:=q
   exact Gp I' D.pn hN hi hl fun s8 I8=>⟨_,_,I8,q⟩
  | ret u =>
   obtain ⟨v,σ',H',I',r,q⟩:=q
   exact Gp I' D.pn hN hi hl fun s8 I8=>⟨v,_,_,I8,r,q⟩
  | brk =>
   obtain ⟨σ',H',I',q⟩:=q
   exact Gp I' D.pn hN hi hl fun s8 I8=>⟨_,_,I8,q⟩
  | cont =>
   obtain ⟨σ',H',I',q⟩:=q
   exact Gp I' D.pn hN hi hl fun s8 I8=>⟨_,_,I8,q⟩
end
end L2
namespace PySem.W
open PySem PySem.Spec PySem.Calls PyProof.Rows
section
variable {prog:Program} {w:World} {A:Around} {E:Value->Shared->Prop} {K:Frag} {x D:Addr} {ox:Obj}
structure ExK (K:Frag) (D:Addr):Prop where
 ga:findIn K (.ref D) "__getattribute__"=some (some (.builtin "BaseException.__getattribute__"))
 gt:findIn K (.ref D) "__getattr__"=some none
 ca:findIn K (.ref D) "__class__"=some (some (.builtin "object.__class__"))
 gs:specialIn K (.builtin "object.__class__") "__get__"=some (some (.builtin "getset_descriptor.__get__"))
 tk:takesIn K (.builtin "object.__class__")=some true
 mo:mroIn K D (.type "object")=some true
 mb:mroIn K D (.type "BaseException")=some true
theorem ExK.find (k:ExK K D) (hc:(clsIn K D).isSome=true):findObj K D none "__class__"=some (.bind (.builtin "getset_descriptor.__get__") (.builtin "object.__class__")):=by
 obtain ⟨cd,hc⟩:=Option.isSome_iff_exists.mp hc
 unfold findObj
 rw [hc,Option.bind_some,k.ca,Option.bind_some]
 simp [k.gs,k.tk]
theorem exc_entry {tk:Tok} {Q:Fin->Shared->Prop} {s:Shared} (k:ExK K D) (hc:(clsIn K D).isSome=true) (X:K.In s.heap) (I:InstAt s.heap x ox D none) (h:Q (.done (.ret (.ref D))) s) :
  wpAny (model prog w) A (Builtin.«object.__getattribute__» ⟨[.ref x,.str "__class__" tk],[]⟩) Q E s:=by
 obtain ⟨hh,g,d,t,os⟩:=s
 have L0:=I.type (M:=model prog w)
 have L1:=looks_find (M:=model prog w) X I (k.find hc)
 unfold Builtin.«object.__getattribute__»
 repeat (any_goals (first | assumption | with_reducible refine L0.at ?_ | with_reducible refine L1.at ?_ | wp_step))
 exact class_get (s:=⟨hh,g,d,t,os⟩) X I k.mo (wpAny_pure h)
theorem exc_check {M:Model} {nameV:Value} {Q:Unit->Shared->Prop} {s:Shared} (k:ExK K D) (X:K.In s.heap) (I:InstAt s.heap x ox D none) (h:Q () s):wpAny M A (checkBuiltinCall "BaseException.__getattribute__" ⟨[.ref x,nameV],[]⟩) Q E s:=by
 obtain ⟨hh,g,d,t,os⟩:=s
 have hk:builtinKind "BaseException.__getattribute__"=some .slot:=by decide +kernel
 have hsplit:splitId "BaseException.__getattribute__"=some ("BaseException","__getattribute__"):=by decide +kernel
 have L0:=I.type (M:=M)
 have L1:=looks_mroIn (M:=M) X k.mb
 have ha:=F.args_bexc_ga (.ref x) nameV
 simp only [checkBuiltinCall,hk,hsplit]
 refine wpAny_bind ?_
 unfold isInstance
 repeat (first | with_reducible refine L0.at ?_ | with_reducible refine L1.at ?_ | wp_step)
 exact h
theorem exc_call {tk:Tok} {R:Result->Shared->Prop} {s:Shared} (k:ExK K D) (hc:(clsIn K D).isSome=true) (X:K.In s.heap) (I:InstAt s.heap x ox D none) (h:R (.ok (.ret (.ref D))) s) :
  codeAny (model prog w) A (.call (.builtin "BaseException.__getattribute__") ⟨[.ref x,.str "__class__" tk],[]⟩) R s :=
 codeAny_call_builtin PySem.F.excAttr_ValueError.ga.plain F.entry_bexc_ga (exc_check k X I (exc_entry k hc X I h))
theorem exc_by {tk:Tok} {Q:Value->Shared->Prop} {s:Shared} (k:ExK K D) (hc:(clsIn K D).isSome=true) (X:K.In s.heap) (I:InstAt s.heap x ox D none) (h:Q (.ref D) s) :
  wpAny (model prog w) A (getAttrBy (.ref x) (.str "__class__" tk) false) Q E s:=by
 obtain ⟨hh,g,d,t,os⟩:=s
 have L0:=I.type (M:=model prog w)
 have L1:=looks_findIn (M:=model prog w) X k.ga
 have L2:=looks_findIn (M:=model prog w) X k.gt
 have f3:=PySem.F.excAttr_ValueError.ga.bind (.ref x)
 have hx2:(Value.builtin "BaseException.__getattribute__" == Value.builtin "object.__getattribute__")=false:=by decide +kernel
 have hx1:(onTheHeap (Value.ref D) && Value.builtin "BaseException.__getattribute__" == Value.builtin "object.__getattribute__")=false:=by rw [hx2];rfl
 have hx0:(false && onTheHeap (Value.builtin "BaseException.__getattribute__"))=false:=rfl
 repeat (any_goals (first | assumption | with_reducible refine L0.at ?_ | with_reducible refine L1.at ?_ | with_reducible refine L2.at ?_ | wp_step))
 refine exc_call (s:=⟨hh,g,d,t,os⟩) k hc X I ?_
 repeat (any_goals (first | assumption | wp_step))
theorem exc_class {Q:Option Value->Shared->Prop} {s:Shared} (k:ExK K D) (hc:(clsIn K D).isSome=true) (X:K.In s.heap) (I:InstAt s.heap x ox D none) (h:Q (some (.ref D)) { s with toks:=s.toks+1 }) :
  wpAny (model prog w) A (getAttr? (.ref x) "__class__") Q E s:=by
 obtain ⟨hh,g,d,t,os⟩:=s
 unfold getAttr? getAttrBy?
 exact wpAny_bind (wpAny_mkText (wpAny_bind (wpAny_attempt (exc_by (s:=⟨hh,g,d,t+1,os⟩) k hc X I (wpAny_pure h)))))
theorem kitx_exc (k:ExK K D) (hc:(clsIn K D).isSome=true):KitX K (.ref x) (.ref D) (fun h=>InstAt h x ox D none) where
 ty:=fun _ _ _ I=>I.type
 it:=fun _ _ X _=>by
  unfold clsIn at hc
  split at hc
  ·rename_i c' d' cd' sl' ho
   intro A' Q' E' s' k q
   unfold isType loadHead
   exact wpAny_bind (wpAny_loadPart (k _ _ (X _ _ ho)) (wpAny_pure q))
  ·cases hc
 ne:=fun h tp dd its n sl X htp=>by
  refine Bool.eq_false_iff.mpr fun q=>?_
  have e:D=tp:=Value.ref.inj (beq_iff_eq.mp q)
  subst e
  unfold clsIn at hc
  split at hc
  ·rename_i c' d' cd' sl' ho
   have z:=(X _ _ ho).symm.trans htp
   cases z
  ·cases hc
 ca:=fun X I q=>exc_class k hc X I q
end
end PySem.W
namespace L2
open PySem PySem.Spec PyProof.Rows
section
variable {X:Cx}
theorem FN:CB X (.builtin "isinstance") (fun xs H Q=>∃ a D y c b,xs=[.ref a,y]/\(∀ u,RelV y u->u=c)/\H a=some (exO (.ref D) a)/\PySem.W.ExK X.K D/\(PySem.W.clsIn X.K D).isSome=true/\PySem.W.kitOne X.K (.ref D) c=some b/\Q (.bl b) H):=by
 intro pins s σ H xs us Q I r h
 obtain ⟨a,D,y,c,b,rfl,hy,ha,k,hc,e,q⟩:=h
 cases r with
 | cons r1 rr =>
  cases rr with
  | cons r2 rr =>
   cases rr
   cases (show _=Value.ref a from r1)
   cases hy _ r2
   obtain ⟨⟨o,vs,h1,h2,h3,h4⟩,_⟩:=(show Bv X.prog X.w H s.heap a (exO (.ref D) a) from I.hok a _ ha)
   have J:PySem.W.InstAt s.heap a o D none:=⟨h1,h2,by unfold PySem.W.notCls;rw [h4],by rw [h3];trivial⟩
   exact PySem.W.kia_one (PySem.W.kitx_exc k hc) I.kIn J e (fun z=>nomatch z) fun tk=>⟨.bl b,H,I.tok tk,rfl,q⟩
theorem bl_items {bs:List Bool} {its:List Value} (rv:Vals (bs.map V.bl) its):∀ y,y∈its.toArray->∃ b,y=Value.bool b:=by
 intro y hy
 rw [CV rv] at hy
 simp only [List.mem_toArray,List.mem_map] at hy
 obtain ⟨b,_,rfl⟩:=hy
 exact ⟨b,rfl⟩
def isT:Value->Bool
 | .bool b=>b == true
 | _=>false
theorem eq_isT {A:Around} {s:Shared} {its:List Value} {bs:List Bool} (rv:Vals (bs.map V.bl) its):∀ y,y∈its.toArray->SeqAt.EqAt A s y (.bool true) (isT y):=fun y hy=>by
 obtain ⟨b,rfl⟩:=bl_items rv y hy
 exact SeqAt.EqAt.bool_bool b true
theorem mt_count:MtR X "list.count" (fun x vs H Q=>∃ (l:Addr) (bs:List Bool),x=.ref l/\vs=[.bl true]/\SqL X.K H l (bs.map V.bl)/\Q (.int ((bs.countP id:Nat):Int)) H):=by
 intro pins s σ H x vs v us Q I rx rv h
 obtain ⟨l,bs,rfl,rfl,hq,q⟩:=h
 cases rx
 obtain ⟨u,rfl,ru⟩:=rv.one
 cases (show u=Value.bool true from ru)
 obtain ⟨its,rv,⟨⟨cls,dd,data,sl⟩,n,ho,hc,hdd,hd⟩,hz⟩:=I.list hq
 simp only at hc hdd hd
 subst hc hdd hd
 have hb:=CV rv
 refine call_meets F.slot_list_count ⟨_,ho,rfl⟩ F.entry_list_count (F.args_list_count_2 _ _) (SeqAt.list_countAt l its.toArray n none sl (.bool true) isT) ⟨ho,eq_isT rv,?_⟩
 refine ⟨.int _,H,I.tok _,⟨_,rfl⟩,?_⟩
 have e:its.toArray.toList.countP isT=bs.countP id:=by
  rw [hb]
  simp only [List.countP_map]
  exact List.countP_congr fun b _=>by cases b <;> simp [isT]
 rw [e]
 exact q
theorem mt_index:MtR X "list.index" (fun x vs H Q=>∃ (l:Addr) (bs:List Bool) (j:Nat),x=.ref l/\vs=[.bl true]/\SqL X.K H l (bs.map V.bl)/\bs[j]?=some true/\(∀ m,m < j->bs[m]?=some false)/\Q (.int ((j:Nat):Int)) H):=by
 intro pins s σ H x vs v us Q I rx rv h
 obtain ⟨l,bs,j,rfl,rfl,hq,hj,hno,q⟩:=h
 cases rx
 obtain ⟨u,rfl,ru⟩:=rv.one
 cases (show u=Value.bool true from ru)
 obtain ⟨its,rv,⟨⟨cls,dd,data,sl⟩,n,ho,hc,hdd,hd⟩,hz⟩:=I.list hq
 simp only at hc hdd hd
 subst hc hdd hd
 have hb:=CV rv
 subst hb
 have hjl:j < bs.length:=(List.getElem?_eq_some_iff.mp hj).1
 rw [List.length_map,sizeLine_eq] at hz
 refine call_meets F.slot_list_index ⟨_,ho,rfl⟩ F.entry_list_index (F.args_list_index_2 _ _) (SeqAt.list_indexAt l (bs.map Value.bool).toArray n none sl (.bool true) isT j (by simpa using hjl) (by omega) ?_ ?_) ⟨ho,eq_isT rv,?_⟩
 ·have:=(List.getElem?_eq_some_iff.mp hj).2
  simp [isT,this]
 ·intro m hm hmj
  have e:=hno m hmj
  have:=(List.getElem?_eq_some_iff.mp e).2
  simp [isT,this]
 ·exact ⟨.int _,H,I.tok _,⟨_,rfl⟩,q⟩
end
end L2
namespace L2
open PySem PySem.Spec PySem.W PyProof.Rows
theorem walk_bitsC {l:PySem.W.OpenLaw} {n k:Nat} {q:Program} {loose:List Str} {XP:(Str->Option Value)->Heap->Prop} {YP:World->Heap->Prop} {d:DefRec} {K:Params->PySem.W.Frag} {CX:World->CXT} {sp:PySem.W.Frag->Sp} {x:Str}
  (hn:l.most=some n) (hn2:n<=sizeLine) (hdf:d.params.defaults=[]) (hr:Ff k callerA)
  (hY:∀ (w:World) (h:Heap),YP w h->(K w.params).In h)
  (F:∀ (w:World) (mg:Str->Option Value) (fa:Addr) (h:Heap),(K w.params).In h->h.Ns mainGlobals mg->mg d.name=some (.ref fa) ->
   ∃ fd:FuncData,(∀ (s:Shared) (u:Value),BindsTo s fd ⟨[u],[]⟩ [(x,u)]) /\
    ∀ base:Heap,(K w.params).In base->base.Ns mainGlobals mg->Dh l.prog w (K w.params) mg base (CX w) k fa fd [x] (sp (K w.params)))
  (hsp:∀ (K:PySem.W.Frag) (H:Hp) (a:Addr) (ns:List Int),ns.length<=n->BC ns<=2 ^ 20->Only H->SqL K H a (ns.map V.int)->sp K [.ref a] H (fun v _=>v=.bl true) fun _ _ _=>False)
  (hCX:∀ (w:World) (H:Hp) (s:Shared) (e:Value) (s':Shared),CX w [] H s (fun _ _ _=>False) e s'->False) :
  PySem.W.WalkO q loose XP YP l.row.toRowW d [] (fun f vs=>PySem.call f vs):=by
 intro w s₀ s₁ mg mb G Y fa o pm cd doc dV kV ho hd hcd hD hmg hg args vals as hpre hlay hrd hwl hlo
 obtain rfl:dV=.none:=Dflts.none hD hdf
 obtain rfl:kV=.none:=Dflts.noKw hD
 obtain ⟨a,vs,ns,rfl,rfl,hobj,hints,hlen⟩:=Att.script_of hn hpre hwl
 have hw:BC ns<=2 ^ 20:=by
  have h1:(WData.list (ns.map WData.int)).layable=true:=by
   unfold WData.layableAll at hlay
   simpa using hlay
  unfold WData.layable at h1
  rw [Bool.and_eq_true] at h1
  have h2:=of_decide_eq_true h1.2
  simp only [WData.weight] at h2
  rw [<- Fd]
  exact h2
 have KX:=hY w _ Y
 obtain ⟨fd,hb,hF⟩:=F w mg fa _ KX G.T.g hmg
 refine PySem.W.enter_call (codeAny_mono (law_call KX G.T.g G.T.b G.T.builtins G.T.nolimit hg hobj hints (Nat.le_trans hlen hn2) hr hF hb (fun H hO hS=>hsp (K w.params) H a ns hlen hw hO hS) fun H e s'=>hCX w H s₁ e s') fun r s' hq=>?_)
 obtain ⟨rfl,h2,h3,h4⟩:=hq
 exact ⟨.inl ⟨.bool true,.bool true,[],rfl,fun _=>rfl,.bool true,Att.post_true l _,fun _=>⟨List.Pairwise.nil,fun _ hm=>(nomatch hm)⟩⟩,h2,h3,h4⟩
theorem HN {l:PySem.W.OpenLaw} {n k N tk:Nat} {q:Program} {loose:List Str} {XP:(Str->Option Value)->Heap->Prop} {d:DefRec} {K:Params->PySem.W.Frag} {as:List Addr} {CX:World->CXT} {sp:PySem.W.Frag->Sp} {x:Str}
  (hn:l.most=some n) (hn2:n<=sizeLine) (hdf:d.params.defaults=[]) (hr:Ff k callerA)
  (hK:∀ P:Params,as=(K P).map (·.1))
  (F:∀ (w:World) (mg:Str->Option Value) (fa:Addr) (h:Heap),(K w.params).In h->h.Ns mainGlobals mg->mg d.name=some (.ref fa) ->
   ∃ fd:FuncData,(∀ (s:Shared) (u:Value),BindsTo s fd ⟨[u],[]⟩ [(x,u)]) /\
    ∀ base:Heap,(K w.params).In base->base.Ns mainGlobals mg->Dh l.prog w (K w.params) mg base (CX w) k fa fd [x] (sp (K w.params)))
  (hsp:∀ (K:PySem.W.Frag) (H:Hp) (a:Addr) (ns:List Int),ns.length<=n->BC ns<=2 ^ 20->Only H->SqL K H a (ns.map V.int)->sp K [.ref a] H (fun v _=>v=.bl true) fun _ _ _=>False)
  (hCX:∀ (w:World) (H:Hp) (s:Shared) (e:Value) (s':Shared),CX w [] H s (fun _ _ _=>False) e s'->False) :
  PySem.W.WalkX q loose XP (PySem.W.X.obsZ as) (PySem.W.X.valZ K N tk) l.row.toRowW d [] (fun f vs=>PySem.call f vs):=by
 intro w s₀ s₁ mg mb G Y fa o pm cd doc dV kV ho hd hcd hD hmg hg args vals ads hL hpre hlay hrd hwl hlo
 have W:=walk_bitsC (l:=l) (q:=q) (loose:=loose) (XP:=XP) (YP:=fun w h=>(K w.params).In h) (d:=d) (K:=K) (CX:=CX) (sp:=sp) (x:=x) hn hn2 hdf hr (fun _ _ h=>h) F hsp hCX
 refine W w s₀ s₁ mg mb G ?_ fa o pm cd doc dV kV ho hd hcd hD hmg hg args vals ads hpre hlay hrd hwl hlo
 have h1:as.map s₀.heap.get?=(K w.params).map (fun p=>some p.2):=congrArg Prod.fst Y
 rw [hK w.params] at h1
 exact fun a o e=>hL.keeps a o (look_in _ h1 a o e)
end L2
namespace FL
open PySem PySem.Spec L2
inductive T where
 | non | bl (b:Bool) | int (i:Int) | str (x:Str)
 | tup (ts:List T) | lst (ts:List T)
 | scr (ts:List T)
 | dK (ks:List Key) (ts:List T) | dT (ks:List (List Key)) (ts:List T)
 | ins (C:Addr) (fs:List Str) (ts:List T)
 | dF (ks:List Key) (ts:List T)
 | exn (c:Str)
inductive FO where
 | lst (ts:List T) | dK (ks:List Key) (ts:List T) | dT (ks:List (List Key)) (ts:List T)
 | ins (C:Addr) (fs:List Str) (os:List FO) | val (t:T)
inductive Sl where
 | val (t:T) | own (o:FO) | bor (o:FO)
abbrev FS:=List (Option Sl)
inductive Rv where
 | t (t:T) | nw (o:FO) | rf (i:Nat)
inductive Out (α:Type) where
 | ok (a:α) (fs:FS) | exc (c:Str) (fs:FS) | bad
inductive SO where
 | nx (fs:FS) | ret (r:Rv) (fs:FS) | brk (fs:FS) | cnt (fs:FS) | exc (c:Str) (fs:FS) | bad
structure Wd where
 f:Addr->Prop
 p:Addr->Prop
instance:CoeFun Wd fun _=>Addr->Prop:=⟨Wd.f⟩
structure Le (F:Wd) (H:Hp) (F':Wd) (H':Hp):Prop where
 f:∀ a,F a->F' a/\H' a=H a
 p:∀ a,F.p a->F'.p a/\H' a=H a
theorem Le.refl {F:Wd} {H:Hp}:Le F H F H:=⟨fun _ h=>⟨h,rfl⟩,fun _ h=>⟨h,rfl⟩⟩
theorem Le.trans {F F1 F2:Wd} {H H1 H2:Hp} (x:Le F H F1 H1) (y:Le F1 H1 F2 H2):Le F H F2 H2 :=
 ⟨fun a h=>let ⟨p,q⟩:=x.f a h;let ⟨p2,q2⟩:=y.f a p;⟨p2,q2.trans q⟩,fun a h=>let ⟨p,q⟩:=x.p a h;let ⟨p2,q2⟩:=y.p a p;⟨p2,q2.trans q⟩⟩
section
variable (K:PySem.W.Frag)
def KL (a:Addr) (vs:List V):Prop:=∃ (o:Obj) (its:Array Value) (n:Nat),K.lookup a=some o/\o.cls=.type "list"/\o.dict=none/\o.data=.seq its n/\its.size<=sizeLine/\Vals vs its.toList
def StL (F:Wd) (H:Hp) (a:Addr) (vs:List V):Prop:=(F a/\Rd H a (.lst vs))∨KL K a vs
def StT (F:Wd) (H:Hp) (a:Addr) (vs:List V):Prop:=K=K/\F a/\H a=some (.tup vs)
end
section
variable {K:PySem.W.Frag} {F F':Wd} {H H':Hp} {a:Addr} {vs:List V}
theorem StL.sq (h:StL K F H a vs):SqL K H a vs:=by
 rcases h with ⟨_,h⟩ | h
 ·exact .inl h
 ·exact .inr h
theorem StT.sq (h:StT K F H a vs):SqT K H a vs:=SqT.of h.2.2
theorem Rd.same {u:HO} (h:Rd H a u) (e:H' a=H a):Rd H' a u:=by
 unfold Rd at *
 rw [e]
 exact h
theorem StL.le (h:StL K F H a vs) (l:Le F H F' H'):StL K F' H' a vs:=by
 rcases h with ⟨f,h⟩ | h
 ·exact .inl ⟨(l.f a f).1,FL.Rd.same h (l.f a f).2⟩
 ·exact .inr h
theorem StT.le (h:StT K F H a vs) (l:Le F H F' H'):StT K F' H' a vs:=⟨rfl,(l.f a h.2.1).1,(l.f a h.2.1).2.trans h.2.2⟩
end
def CN (K:PySem.W.Frag) (c:Str):Option Addr:=match PySem.W.nsIn K mainGlobals c with
 | some (some (.ref C))=>some C
 | _=>none
section
variable (K:PySem.W.Frag) (F:Wd) (H:Hp)
mutual
def AG:T->V->Prop
 | .non,v=>v=.non
 | .bl b,v=>v=.bl b
 | .int i,v=>v=.int i
 | .str x,v=>v=.str x
 | .tup ts,v=>∃ a vs,v=.ref a/\StT K F H a vs/\Af ts vs
 | .lst ts,v=>∃ a vs,v=.ref a/\F a/\H a=some (.lst vs)/\Af ts vs
 | .scr ts,v=>∃ a vs,v=.ref a/\StL K F H a vs/\Af ts vs
 | .dK ks ts,v=>∃ a kvs,v=.ref a/\F a/\Rd H a (.dK kvs)/\kvs.map (·.1)=ks/\Af ts (kvs.map (·.2))
 | .dT ks ts,v=>∃ a kvs,v=.ref a/\F a/\H a=some (.dT kvs)/\kvs.map (·.1)=ks/\Af ts (kvs.map (·.2))
 | .ins C fs ts,v=>∃ a dx kvs,v=.ref a/\F a/\H a=some (.ins C dx kvs)/\kvs.map (·.1)=fs/\Af ts (kvs.map (·.2))
 | .dF ks ts,v=>∃ a kvs,v=.ref a/\F a/\(∃ o,H a=some (.frz o (.dK kvs)))/\kvs.map (·.1)=ks/\Af ts (kvs.map (·.2))
 | .exn c,v=>∃ a C,v=.ref a/\F a/\H a=some (exO (.ref C) a)/\CN K c=some C
def Af:List T->List V->Prop
 | [],vs=>vs=[]
 | t :: ts,vs=>∃ v r,vs=v :: r/\AG t v/\Af ts r
end
mutual
def A5:FO->V->List Addr->Prop
 | .val t,v,L=>L=[]/\AG K F H t v
 | .lst ts,v,L=>∃ a vs,v=.ref a/\H a=some (.lst vs)/\Af K F H ts vs/\L=[a]
 | .dK ks ts,v,L=>∃ a kvs,v=.ref a/\H a=some (.dK kvs)/\kvs.map (·.1)=ks/\Af K F H ts (kvs.map (·.2))/\L=[a]
 | .dT ks ts,v,L=>∃ a kvs,v=.ref a/\H a=some (.dT kvs)/\kvs.map (·.1)=ks/\Af K F H ts (kvs.map (·.2))/\L=[a]
 | .ins C fs os,v,L=>∃ a dx kvs L',v=.ref a/\H a=some (.ins C dx kvs)/\kvs.map (·.1)=fs/\BY os (kvs.map (·.2)) L'/\L=a :: L'
def BY:List FO->List V->List Addr->Prop
 | [],vs,L=>vs=[]/\L=[]
 | o :: os,vs,L=>∃ v r L1 L2,vs=v :: r/\A5 o v L1/\BY os r L2/\L=L1++L2
end
mutual
def toT:FO->T
 | .val t=>t
 | .lst ts=>.lst ts
 | .dK ks ts=>.dK ks ts
 | .dT ks ts=>.dT ks ts
 | .ins C fs os=>.ins C fs (toTs os)
def toTs:List FO->List T
 | []=>[]
 | o :: os=>toT o :: toTs os
end
def Ax:FS->St->List Addr->Prop
 | [],σ,L=>σ=[]/\L=[]
 | none :: r,σ,L=>∃ v σ',σ=v :: σ'/\Ax r σ' L
 | some (.val t) :: r,σ,L=>∃ v σ',σ=some v :: σ'/\AG K F H t v/\Ax r σ' L
 | some (.own o) :: r,σ,L=>∃ v σ' L1 L2,σ=some v :: σ'/\A5 K F H o v L1/\Ax r σ' L2/\L=L1++L2
 | some (.bor o) :: r,σ,L=>∃ v σ' L1 L2,σ=some v :: σ'/\A5 K F H o v L1/\Ax r σ' L2/\L=L1++L2
end
section
variable {K:PySem.W.Frag} {F F':Wd} {H H':Hp}
mutual
theorem AG.le (l:Le F H F' H'):∀ {t:T} {v:V},AG K F H t v->AG K F' H' t v
 | .non,_,h=>h
 | .bl _,_,h=>h
 | .int _,_,h=>h
 | .str _,_,h=>h
 | .tup ts,_,h=>by
  simp only [AG] at h ⊢
  obtain ⟨a,vs,e,s,r⟩:=h
  exact ⟨a,vs,e,s.le l,Af.le l r⟩
 | .lst ts,_,h=>by
  simp only [AG] at h ⊢
  obtain ⟨a,vs,e,f,s,r⟩:=h
  exact ⟨a,vs,e,(l.f a f).1,(l.f a f).2.trans s,Af.le l r⟩
 | .scr ts,_,h=>by
  simp only [AG] at h ⊢
  obtain ⟨a,vs,e,s,r⟩:=h
  exact ⟨a,vs,e,s.le l,Af.le l r⟩
 | .dK ks ts,_,h=>by
  simp only [AG] at h ⊢
  obtain ⟨a,kvs,e,f,s,k,r⟩:=h
  exact ⟨a,kvs,e,(l.f a f).1,FL.Rd.same s (l.f a f).2,k,Af.le l r⟩
 | .dT ks ts,_,h=>by
  simp only [AG] at h ⊢
  obtain ⟨a,kvs,e,f,s,k,r⟩:=h
  exact ⟨a,kvs,e,(l.f a f).1,(l.f a f).2.trans s,k,Af.le l r⟩
 | .ins C fs ts,_,h=>by
  simp only [AG] at h ⊢
  obtain ⟨a,dx,kvs,e,f,s,k,r⟩:=h
  exact ⟨a,dx,kvs,e,(l.f a f).1,(l.f a f).2.trans s,k,Af.le l r⟩
 | .dF ks ts,_,h=>by
  simp only [AG] at h ⊢
  obtain ⟨a,kvs,e,f,⟨o,s⟩,k,r⟩:=h
  exact ⟨a,kvs,e,(l.f a f).1,⟨o,(l.f a f).2.trans s⟩,k,Af.le l r⟩
 | .exn c,_,h=>by
  simp only [AG] at h ⊢
  obtain ⟨a,C,e,f,s,k⟩:=h
  exact ⟨a,C,e,(l.f a f).1,(l.f a f).2.trans s,k⟩
theorem Af.le (l:Le F H F' H'):∀ {ts:List T} {vs:List V},Af K F H ts vs->Af K F' H' ts vs
 | [],_,h=>h
 | t :: ts,_,h=>by
  simp only [Af] at h ⊢
  obtain ⟨v,r,e,h1,h2⟩:=h
  exact ⟨v,r,e,AG.le l h1,Af.le l h2⟩
end
theorem Af.len:∀ {ts:List T} {vs:List V},Af K F H ts vs->vs.length=ts.length
 | [],_,h=>by simp only [Af] at h;subst h;rfl
 | t :: ts,_,h=>by
  simp only [Af] at h
  obtain ⟨v,r,rfl,_,h2⟩:=h
  simp [Af.len h2]
theorem Af.at:∀ {ts:List T} {vs:List V} {i:Nat} {t:T},Af K F H ts vs->ts[i]?=some t->∃ v,vs[i]?=some v/\AG K F H t v
 | [],_,_,_,_,e=>by simp at e
 | t :: ts,_,0,_,h,e=>by
  simp only [Af] at h
  obtain ⟨v,r,rfl,h1,_⟩:=h
  simp at e;subst e
  exact ⟨v,rfl,h1⟩
 | t :: ts,_,i+1,_,h,e=>by
  simp only [Af] at h
  obtain ⟨v,r,rfl,_,h2⟩:=h
  obtain ⟨u,e1,e2⟩:=Af.at (i:=i) h2 (by simpa using e)
  exact ⟨u,by simpa using e1,e2⟩
theorem Af.app:∀ {ts us:List T} {vs ws:List V},Af K F H ts vs->Af K F H us ws->Af K F H (ts++us) (vs++ws)
 | [],_,_,_,h,h'=>by simp only [Af] at h;subst h;exact h'
 | t :: ts,us,_,ws,h,h'=>by
  simp only [Af] at h
  obtain ⟨v,r,rfl,h1,h2⟩:=h
  show Af K F H (t :: (ts++us)) (v :: (r++ws))
  simp only [Af]
  exact ⟨v,r++ws,rfl,h1,Af.app h2 h'⟩
theorem Af.one {t:T} {v:V} (h:AG K F H t v):Af K F H [t] [v]:=by
 simp only [Af]
 exact ⟨v,[],rfl,h,rfl⟩
theorem Af.take:∀ {ts:List T} {vs:List V} (n:Nat),Af K F H ts vs->Af K F H (ts.take n) (vs.take n)
 | [],_,n,h=>by simp only [Af] at h;subst h;simp [Af]
 | t :: ts,_,0,h=>by simp [Af]
 | t :: ts,_,n+1,h=>by
  simp only [Af] at h
  obtain ⟨v,r,rfl,h1,h2⟩:=h
  simp only [List.take_succ_cons,Af]
  exact ⟨v,_,rfl,h1,Af.take n h2⟩
theorem Af.drop:∀ {ts:List T} {vs:List V} (n:Nat),Af K F H ts vs->Af K F H (ts.drop n) (vs.drop n)
 | [],_,n,h=>by simp only [Af] at h;subst h;simp [Af]
 | t :: ts,_,0,h=>by simpa using h
 | t :: ts,_,n+1,h=>by
  simp only [Af] at h
  obtain ⟨v,r,rfl,h1,h2⟩:=h
  simp only [List.drop_succ_cons]
  exact Af.drop n h2
theorem Af.set {t:T} {v:V} (q:AG K F H t v):∀ {ts:List T} {vs:List V} (n:Nat),Af K F H ts vs->Af K F H (ts.set n t) (vs.set n v)
 | [],_,n,h=>by simp only [Af] at h;subst h;simp [Af]
 | u :: ts,_,0,h=>by
  simp only [Af] at h
  obtain ⟨w,r,rfl,h1,h2⟩:=h
  simp only [List.set_cons_zero,Af]
  exact ⟨v,r,rfl,q,h2⟩
 | u :: ts,_,n+1,h=>by
  simp only [Af] at h
  obtain ⟨w,r,rfl,h1,h2⟩:=h
  simp only [List.set_cons_succ,Af]
  exact ⟨w,_,rfl,h1,Af.set q n h2⟩
theorem Af.rev:∀ {ts:List T} {vs:List V},Af K F H ts vs->Af K F H ts.reverse vs.reverse
 | [],_,h=>by simp only [Af] at h;subst h;simp [Af]
 | t :: ts,_,h=>by
  simp only [Af] at h
  obtain ⟨v,r,rfl,h1,h2⟩:=h
  rw [List.reverse_cons,List.reverse_cons]
  exact Af.app (Af.rev h2) (Af.one h1)
mutual
theorem A5.le (l:Le F H F' H'):∀ {o:FO} {v:V} {L:List Addr},(∀ a∈L,H' a=H a)->A5 K F H o v L->A5 K F' H' o v L
 | .val t,_,L,k,h=>by
  simp only [A5] at h ⊢
  exact ⟨h.1,h.2.le l⟩
 | .lst ts,_,L,k,h=>by
  simp only [A5] at h ⊢
  obtain ⟨a,vs,e,s,r,rfl⟩:=h
  exact ⟨a,vs,e,(k a (by simp)).trans s,r.le l,rfl⟩
 | .dK ks ts,_,L,k,h=>by
  simp only [A5] at h ⊢
  obtain ⟨a,vs,e,s,q,r,rfl⟩:=h
  exact ⟨a,vs,e,(k a (by simp)).trans s,q,r.le l,rfl⟩
 | .dT ks ts,_,L,k,h=>by
  simp only [A5] at h ⊢
  obtain ⟨a,vs,e,s,q,r,rfl⟩:=h
  exact ⟨a,vs,e,(k a (by simp)).trans s,q,r.le l,rfl⟩
 | .ins C fs os,_,L,k,h=>by
  simp only [A5] at h ⊢
  obtain ⟨a,dx,kvs,L',e,s,q,r,rfl⟩:=h
  exact ⟨a,dx,kvs,L',e,(k a (by simp)).trans s,q,BY.le l (fun b hb=>k b (List.mem_cons_of_mem _ hb)) r,rfl⟩
theorem BY.le (l:Le F H F' H'):∀ {os:List FO} {vs:List V} {L:List Addr},(∀ a∈L,H' a=H a)->BY K F H os vs L->BY K F' H' os vs L
 | [],_,L,k,h=>h
 | o :: os,_,L,k,h=>by
  simp only [BY] at h ⊢
  obtain ⟨v,r,L1,L2,e,h1,h2,rfl⟩:=h
  exact ⟨v,r,L1,L2,e,A5.le l (fun a ha=>k a (List.mem_append_left _ ha)) h1,BY.le l (fun a ha=>k a (List.mem_append_right _ ha)) h2,rfl⟩
end
mutual
theorem A5.def:∀ {o:FO} {v:V} {L:List Addr},A5 K F H o v L->∀ a∈L,H a≠none
 | .val t,_,L,h,a,m=>by
  simp only [A5] at h
  rw [h.1] at m
  cases m
 | .lst ts,_,L,h,a,m=>by
  simp only [A5] at h
  obtain ⟨b,vs,e,s,r,rfl⟩:=h
  rw [List.mem_singleton.mp m,s]
  simp
 | .dK ks ts,_,L,h,a,m=>by
  simp only [A5] at h
  obtain ⟨b,vs,e,s,q,r,rfl⟩:=h
  rw [List.mem_singleton.mp m,s]
  simp
 | .dT ks ts,_,L,h,a,m=>by
  simp only [A5] at h
  obtain ⟨b,vs,e,s,q,r,rfl⟩:=h
  rw [List.mem_singleton.mp m,s]
  simp
 | .ins C fs os,_,L,h,a,m=>by
  simp only [A5] at h
  obtain ⟨b,dx,kvs,L',e,s,q,r,rfl⟩:=h
  rcases List.mem_cons.mp m with m | m
  ·rw [m,s]
   simp
  ·exact BY.def r a m
theorem BY.def:∀ {os:List FO} {vs:List V} {L:List Addr},BY K F H os vs L->∀ a∈L,H a≠none
 | [],_,L,h,a,m=>by
  simp only [BY] at h
  rw [h.2] at m
  cases m
 | o :: os,_,L,h,a,m=>by
  simp only [BY] at h
  obtain ⟨v,r,L1,L2,e,h1,h2,rfl⟩:=h
  rcases List.mem_append.mp m with m | m
  ·exact A5.def h1 a m
  ·exact BY.def h2 a m
end
mutual
theorem A5.frz (l:Le F H F' H):∀ {o:FO} {v:V} {L:List Addr},(∀ a∈L,F' a)->A5 K F H o v L->AG K F' H (toT o) v
 | .val t,_,L,k,h=>by
  simp only [A5] at h
  exact AG.le l h.2
 | .lst ts,_,L,k,h=>by
  simp only [A5] at h
  obtain ⟨a,vs,e,s,r,rfl⟩:=h
  simp only [toT,AG]
  exact ⟨a,vs,e,k a (by simp),s,Af.le l r⟩
 | .dK ks ts,_,L,k,h=>by
  simp only [A5] at h
  obtain ⟨a,vs,e,s,q,r,rfl⟩:=h
  simp only [toT,AG]
  exact ⟨a,vs,e,k a (by simp),.inl s,q,Af.le l r⟩
 | .dT ks ts,_,L,k,h=>by
  simp only [A5] at h
  obtain ⟨a,vs,e,s,q,r,rfl⟩:=h
  simp only [toT,AG]
  exact ⟨a,vs,e,k a (by simp),s,q,Af.le l r⟩
 | .ins C fs os,_,L,k,h=>by
  simp only [A5] at h
  obtain ⟨a,dx,kvs,L',e,s,q,r,rfl⟩:=h
  simp only [toT,AG]
  exact ⟨a,dx,kvs,e,k a (by simp),s,q,BY.frz l (fun b hb=>k b (List.mem_cons_of_mem _ hb)) r⟩
theorem BY.frz (l:Le F H F' H):∀ {os:List FO} {vs:List V} {L:List Addr},(∀ a∈L,F' a)->BY K F H os vs L->Af K F' H (toTs os) vs
 | [],_,L,k,h=>by
  simp only [BY] at h
  simp only [toTs,Af]
  exact h.1
 | o :: os,_,L,k,h=>by
  simp only [BY] at h
  obtain ⟨v,r,L1,L2,e,h1,h2,rfl⟩:=h
  simp only [toTs,Af]
  exact ⟨v,r,e,A5.frz l (fun a ha=>k a (List.mem_append_left _ ha)) h1,BY.frz l (fun a ha=>k a (List.mem_append_right _ ha)) h2⟩
end
theorem Ax.len:∀ {fs:FS} {σ:St} {L:List Addr},Ax K F H fs σ L->σ.length=fs.length
 | [],_,_,h=>by simp only [Ax] at h;rw [h.1];rfl
 | none :: r,_,_,h=>by
  simp only [Ax] at h
  obtain ⟨v,σ',rfl,h⟩:=h
  simp [Ax.len h]
 | some (.val t) :: r,_,_,h=>by
  simp only [Ax] at h
  obtain ⟨v,σ',rfl,_,h⟩:=h
  simp [Ax.len h]
 | some (.own t) :: r,_,_,h=>by
  simp only [Ax] at h
  obtain ⟨v,σ',L1,L2,rfl,_,h,_⟩:=h
  simp [Ax.len h]
 | some (.bor t) :: r,_,_,h=>by
  simp only [Ax] at h
  obtain ⟨v,σ',L1,L2,rfl,_,h,_⟩:=h
  simp [Ax.len h]
theorem Ax.le (l:Le F H F' H'):∀ {fs:FS} {σ:St} {L:List Addr},(∀ a∈L,H' a=H a)->Ax K F H fs σ L->Ax K F' H' fs σ L
 | [],_,_,k,h=>h
 | none :: r,_,_,k,h=>by
  simp only [Ax] at h ⊢
  obtain ⟨v,σ',e,h⟩:=h
  exact ⟨v,σ',e,Ax.le l k h⟩
 | some (.val t) :: r,_,_,k,h=>by
  simp only [Ax] at h ⊢
  obtain ⟨v,σ',e,q,h⟩:=h
  exact ⟨v,σ',e,q.le l,Ax.le l k h⟩
 | some (.own t) :: r,_,_,k,h=>by
  simp only [Ax] at h ⊢
  obtain ⟨v,σ',L1,L2,e,q,h,rfl⟩:=h
  exact ⟨v,σ',L1,L2,e,q.le l fun a ha=>k a (List.mem_append_left _ ha),Ax.le l (fun a ha=>k a (List.mem_append_right _ ha)) h,rfl⟩
 | some (.bor t) :: r,_,_,k,h=>by
  simp only [Ax] at h ⊢
  obtain ⟨v,σ',L1,L2,e,q,h,rfl⟩:=h
  exact ⟨v,σ',L1,L2,e,q.le l fun a ha=>k a (List.mem_append_left _ ha),Ax.le l (fun a ha=>k a (List.mem_append_right _ ha)) h,rfl⟩
theorem Ax.def:∀ {fs:FS} {σ:St} {L:List Addr},Ax K F H fs σ L->∀ a∈L,H a≠none
 | [],_,_,h,a,m=>by simp only [Ax] at h;rw [h.2] at m;cases m
 | none :: r,_,_,h,a,m=>by
  simp only [Ax] at h
  obtain ⟨v,σ',e,h⟩:=h
  exact Ax.def h a m
 | some (.val t) :: r,_,_,h,a,m=>by
  simp only [Ax] at h
  obtain ⟨v,σ',e,q,h⟩:=h
  exact Ax.def h a m
 | some (.own t) :: r,_,_,h,a,m=>by
  simp only [Ax] at h
  obtain ⟨v,σ',L1,L2,e,q,h,rfl⟩:=h
  rcases List.mem_append.mp m with m | m
  ·exact q.def a m
  ·exact Ax.def h a m
 | some (.bor t) :: r,_,_,h,a,m=>by
  simp only [Ax] at h
  obtain ⟨v,σ',L1,L2,e,q,h,rfl⟩:=h
  rcases List.mem_append.mp m with m | m
  ·exact q.def a m
  ·exact Ax.def h a m
def SlOk (K:PySem.W.Frag) (F:Wd) (H:Hp):Option Sl->Option V->List Addr->Prop
 | none,_,L=>L=[]
 | some (.val t),v,L=>∃ u,v=some u/\AG K F H t u/\L=[]
 | some (.own o),v,L=>∃ u,v=some u/\A5 K F H o u L
 | some (.bor o),v,L=>∃ u,v=some u/\A5 K F H o u L
theorem Ax.cons {s:Option Sl} {r:FS} {v:Option V} {σ:St} {L1 L2:List Addr} (h1:SlOk K F H s v L1) (h2:Ax K F H r σ L2):Ax K F H (s :: r) (v :: σ) (L1++L2):=by
 cases s with
 | none =>
  simp only [SlOk] at h1
  subst h1
  simp only [Ax]
  exact ⟨v,σ,rfl,h2⟩
 | some s =>
  cases s with
  | val t =>
   simp only [SlOk] at h1
   obtain ⟨u,rfl,q,rfl⟩:=h1
   simp only [Ax]
   exact ⟨u,σ,rfl,q,h2⟩
  | own o =>
   simp only [SlOk] at h1
   obtain ⟨u,rfl,q⟩:=h1
   simp only [Ax]
   exact ⟨u,σ,L1,L2,rfl,q,h2,rfl⟩
  | bor o =>
   simp only [SlOk] at h1
   obtain ⟨u,rfl,q⟩:=h1
   simp only [Ax]
   exact ⟨u,σ,L1,L2,rfl,q,h2,rfl⟩
theorem Ax.uncons {s:Option Sl} {r:FS} {σ:St} {L:List Addr} (h:Ax K F H (s :: r) σ L):∃ v σ' L1 L2,σ=v :: σ'/\SlOk K F H s v L1/\Ax K F H r σ' L2/\L=L1++L2:=by
 cases s with
 | none =>
  simp only [Ax] at h
  obtain ⟨v,σ',rfl,h⟩:=h
  exact ⟨v,σ',[],L,rfl,rfl,h,rfl⟩
 | some s =>
  cases s with
  | val t =>
   simp only [Ax] at h
   obtain ⟨v,σ',rfl,q,h⟩:=h
   exact ⟨some v,σ',[],L,rfl,⟨v,rfl,q,rfl⟩,h,rfl⟩
  | own o =>
   simp only [Ax] at h
   obtain ⟨v,σ',L1,L2,rfl,q,h,rfl⟩:=h
   exact ⟨some v,σ',L1,L2,rfl,⟨v,rfl,q⟩,h,rfl⟩
  | bor o =>
   simp only [Ax] at h
   obtain ⟨v,σ',L1,L2,rfl,q,h,rfl⟩:=h
   exact ⟨some v,σ',L1,L2,rfl,⟨v,rfl,q⟩,h,rfl⟩
theorem Ax.pick:∀ {fs:FS} {σ:St} {L:List Addr} {i:Nat} {s:Option Sl},Ax K F H fs σ L->fs[i]?=some s->∃ v L1 L2 L3,σ[i]?=some v/\L=L1++(L2++L3)/\SlOk K F H s v L2 /\
  ∀ (F':Wd) (H':Hp) (s':Option Sl) (v':Option V) (L2':List Addr),Le F H F' H'->(∀ a∈L1++L3,H' a=H a)->SlOk K F' H' s' v' L2'->Ax K F' H' (fs.set i s') (σ.set i v') (L1++(L2'++L3))
 | [],_,_,_,_,_,e=>by simp at e
 | s :: r,_,_,0,_,h,e=>by
  obtain ⟨v,σ',L1,L2,rfl,h1,h2,rfl⟩:=h.uncons
  simp at e
  subst e
  refine ⟨v,[],L1,L2,rfl,rfl,h1,fun F' H' s' v' L2' l k q=>?_⟩
  have h3:=Ax.cons q (h2.le l fun a ha=>k a (by simpa using ha))
  exact h3
 | s :: r,_,_,i+1,_,h,e=>by
  obtain ⟨v,σ',L1,L2,rfl,h1,h2,rfl⟩:=h.uncons
  obtain ⟨w,M1,M2,M3,e1,rfl,h3,h4⟩:=Ax.pick (i:=i) h2 (by simpa using e)
  refine ⟨w,L1++M1,M2,M3,by simpa using e1,by simp,h3,fun F' H' s' v' L2' l k q=>?_⟩
  have h5:=h4 F' H' s' v' L2' l (fun a ha=>k a (by simp at ha ⊢;rcases ha with ha | ha;exact .inr (.inl ha);exact .inr (.inr ha))) q
  have h6:SlOk K F' H' s v L1:=by
   cases s with
   | none=>exact h1
   | some s =>
    cases s with
    | val t =>
     obtain ⟨u,e,q,z⟩:=h1
     exact ⟨u,e,q.le l,z⟩
    | own o =>
     obtain ⟨u,e,q⟩:=h1
     exact ⟨u,e,q.le l fun a ha=>k a (by simp [ha])⟩
    | bor o =>
     obtain ⟨u,e,q⟩:=h1
     exact ⟨u,e,q.le l fun a ha=>k a (by simp [ha])⟩
  have h7:=Ax.cons h6 h5
  simpa using h7
mutual
theorem AG.wp {p:Addr->Prop}:∀ {t:T} {v:V},AG K F H t v->AG K ⟨F.f,p⟩ H t v
 | .non,_,h=>h
 | .bl _,_,h=>h
 | .int _,_,h=>h
 | .str _,_,h=>h
 | .tup ts,_,h=>by
  simp only [AG] at h ⊢
  obtain ⟨a,vs,e,s,r⟩:=h
  exact ⟨a,vs,e,s,Af.wp r⟩
 | .lst ts,_,h=>by
  simp only [AG] at h ⊢
  obtain ⟨a,vs,e,f,s,r⟩:=h
  exact ⟨a,vs,e,f,s,Af.wp r⟩
 | .scr ts,_,h=>by
  simp only [AG] at h ⊢
  obtain ⟨a,vs,e,s,r⟩:=h
  exact ⟨a,vs,e,s,Af.wp r⟩
 | .dK ks ts,_,h=>by
  simp only [AG] at h ⊢
  obtain ⟨a,kvs,e,f,s,k,r⟩:=h
  exact ⟨a,kvs,e,f,s,k,Af.wp r⟩
 | .dT ks ts,_,h=>by
  simp only [AG] at h ⊢
  obtain ⟨a,kvs,e,f,s,k,r⟩:=h
  exact ⟨a,kvs,e,f,s,k,Af.wp r⟩
 | .ins C fs ts,_,h=>by
  simp only [AG] at h ⊢
  obtain ⟨a,dx,kvs,e,f,s,k,r⟩:=h
  exact ⟨a,dx,kvs,e,f,s,k,Af.wp r⟩
 | .dF ks ts,_,h=>by
  simp only [AG] at h ⊢
  obtain ⟨a,kvs,e,f,s,k,r⟩:=h
  exact ⟨a,kvs,e,f,s,k,Af.wp r⟩
 | .exn c,_,h=>by
  simp only [AG] at h ⊢
  obtain ⟨a,C,e,f,s,k⟩:=h
  exact ⟨a,C,e,f,s,k⟩
theorem Af.wp {p:Addr->Prop}:∀ {ts:List T} {vs:List V},Af K F H ts vs->Af K ⟨F.f,p⟩ H ts vs
 | [],_,h=>h
 | t :: ts,_,h=>by
  simp only [Af] at h ⊢
  obtain ⟨v,r,e,h1,h2⟩:=h
  exact ⟨v,r,e,AG.wp h1,Af.wp h2⟩
end
mutual
theorem A5.wp {p:Addr->Prop}:∀ {o:FO} {v:V} {L:List Addr},A5 K F H o v L->A5 K ⟨F.f,p⟩ H o v L
 | .val t,_,L,h=>by
  simp only [A5] at h ⊢
  exact ⟨h.1,h.2.wp⟩
 | .lst ts,_,L,h=>by
  simp only [A5] at h ⊢
  obtain ⟨a,vs,e,s,r,q⟩:=h
  exact ⟨a,vs,e,s,r.wp,q⟩
 | .dK ks ts,_,L,h=>by
  simp only [A5] at h ⊢
  obtain ⟨a,vs,e,s,q,r,z⟩:=h
  exact ⟨a,vs,e,s,q,r.wp,z⟩
 | .dT ks ts,_,L,h=>by
  simp only [A5] at h ⊢
  obtain ⟨a,vs,e,s,q,r,z⟩:=h
  exact ⟨a,vs,e,s,q,r.wp,z⟩
 | .ins C fs os,_,L,h=>by
  simp only [A5] at h ⊢
  obtain ⟨a,dx,kvs,L',e,s,q,r,z⟩:=h
  exact ⟨a,dx,kvs,L',e,s,q,BY.wp r,z⟩
theorem BY.wp {p:Addr->Prop}:∀ {os:List FO} {vs:List V} {L:List Addr},BY K F H os vs L->BY K ⟨F.f,p⟩ H os vs L
 | [],_,L,h=>h
 | o :: os,_,L,h=>by
  simp only [BY] at h ⊢
  obtain ⟨v,r,L1,L2,e,h1,h2,z⟩:=h
  exact ⟨v,r,L1,L2,e,A5.wp h1,BY.wp h2,z⟩
end
theorem Ax.wp {p:Addr->Prop}:∀ {fs:FS} {σ:St} {L:List Addr},Ax K F H fs σ L->Ax K ⟨F.f,p⟩ H fs σ L
 | [],_,_,h=>h
 | none :: r,_,_,h=>by
  simp only [Ax] at h ⊢
  obtain ⟨v,σ',e,h⟩:=h
  exact ⟨v,σ',e,Ax.wp h⟩
 | some (.val t) :: r,_,_,h=>by
  simp only [Ax] at h ⊢
  obtain ⟨v,σ',e,q,h⟩:=h
  exact ⟨v,σ',e,q.wp,Ax.wp h⟩
 | some (.own t) :: r,_,_,h=>by
  simp only [Ax] at h ⊢
  obtain ⟨v,σ',L1,L2,e,q,h,z⟩:=h
  exact ⟨v,σ',L1,L2,e,q.wp,Ax.wp h,z⟩
 | some (.bor t) :: r,_,_,h=>by
  simp only [Ax] at h ⊢
  obtain ⟨v,σ',L1,L2,e,q,h,z⟩:=h
  exact ⟨v,σ',L1,L2,e,q.wp,Ax.wp h,z⟩
theorem SlOk.le (l:Le F H F' H') {s:Option Sl} {v:Option V} {L:List Addr} (k:∀ a∈L,H' a=H a) (h:SlOk K F H s v L):SlOk K F' H' s v L:=by
 cases s with
 | none=>exact h
 | some s =>
  cases s with
  | val t =>
   obtain ⟨u,e,q,z⟩:=h
   exact ⟨u,e,q.le l,z⟩
  | own o =>
   obtain ⟨u,e,q⟩:=h
   exact ⟨u,e,q.le l k⟩
  | bor o =>
   obtain ⟨u,e,q⟩:=h
   exact ⟨u,e,q.le l k⟩
end
end FL
namespace FL
open PySem PySem.Spec L2
def Fm (B:Nat->Option V) (fs:FS) (σ:St):Prop:=∀ (i:Nat) (o:FO),fs[i]?=some (some (.bor o))->∃ v,σ[i]?=some (some v)/\B i=some v
structure Ok (K:PySem.W.Frag) (F:Wd) (B:Nat->Option V) (H:Hp) (fs:FS) (σ:St) (L:List Addr):Prop where
 sl:Ax K F H fs σ L
 nd:L.Nodup
 nf:∀ a∈L,¬ F a
 fd:∀ a,F a->H a≠none
 bo:Fm B fs σ
 pd:∀ a,F.p a->H a≠none
 pf:∀ a,F a->¬ F.p a
 pl:∀ a∈L,¬ F.p a
def Okk (K:PySem.W.Frag) (F:Wd) (B:Nat->Option V) (H:Hp) (fs:FS) (σ:St):Prop:=∃ L,Ok K F B H fs σ L
structure Xp where
 p:Wd->(Nat->Option V)->Hp->Str->FS->Prop
 mono:∀ {F:Wd} {B:Nat->Option V} {H:Hp} {c:Str} {fs:FS} {F':Wd} {H':Hp},p F B H c fs->Le F H F' H'->p F' B H' c fs
def Xp.no:Xp:=⟨fun _ _ _ _ _=>False,fun h _=>h⟩
def sat (Z:Xp) (B:Nat->Option V) {α β:Type} (R:Wd->Hp->FS->α->β->Prop) (F:Wd) (H:Hp) (o:Out α) (Q:β->Hp->Prop):Prop :=
 match o with
 | .ok a fs=>∀ F' H' b,Le F H F' H'->R F' H' fs a b->Q b H'
 | .exc c fs=>Z.p F B H c fs
 | .bad=>False
theorem sat.le {Z:Xp} {B:Nat->Option V} {α β:Type} {R:Wd->Hp->FS->α->β->Prop} {F F':Wd} {H H':Hp} {o:Out α} {Q:β->Hp->Prop} (h:sat Z B R F H o Q) (l:Le F H F' H'):sat Z B R F' H' o Q:=by
 cases o with
 | ok a fs=>exact fun F2 H2 b l2 r=>h F2 H2 b (l.trans l2) r
 | exc c fs=>exact Z.mono h l
 | bad=>exact h
def Out.bind {α β:Type} (o:Out α) (k:α->FS->Out β):Out β:=match o with
 | .ok a fs=>k a fs
 | .exc c fs=>.exc c fs
 | .bad=>.bad
theorem AM {Z:Xp} {B:Nat->Option V} {α β γ δ:Type} {R1:Wd->Hp->FS->α->β->Prop} {R2:Wd->Hp->FS->γ->δ->Prop} {F:Wd} {H:Hp} {o:Out α} {k:α->FS->Out γ} {Q:δ->Hp->Prop} {Q':β->Hp->Prop}
  (h:sat Z B R2 F H (o.bind k) Q) (hk:∀ a fs F' H' b,Le F H F' H'->R1 F' H' fs a b->sat Z B R2 F' H' (k a fs) Q->Q' b H'):sat Z B R1 F H o Q':=by
 cases o with
 | ok a fs=>exact fun F2 H2 b l r=>hk a fs F2 H2 b l r (sat.le h l)
 | exc c fs=>exact h
 | bad=>exact h
def RelR (K:PySem.W.Frag) (F:Wd) (H:Hp) (σ:St):Rv->V->List Addr->Prop
 | .t t,v,L=>L=[]/\AG K F H t v
 | .nw o,v,L=>A5 K F H o v L
 | .rf i,v,L=>L=[]/\σ[i]?=some (some v)
def RR (K:PySem.W.Frag) (B:Nat->Option V) (σ:St):Wd->Hp->FS->Rv->V->Prop:=fun F H fs r u=>∃ L L',Ok K F B H fs σ L/\RelR K F H σ r u L'/\(L++L').Nodup/\∀ a∈L',¬ F a/\¬ F.p a
def BV (K:PySem.W.Frag) (F:Wd) (H:Hp) (σ:St):Rv->V->Prop
 | .t t,v=>AG K F H t v
 | .nw _,_=>False
 | .rf i,v=>σ[i]?=some (some v)
def Out.bnd {α:Type} (o:Out Rv) (k:Rv->FS->Out α):Out α:=o.bind fun r fs=>match r with
 | .nw _=>.bad
 | .t t=>k (.t t) fs
 | .rf i=>k (.rf i) fs
section
variable {K:PySem.W.Frag} {Z:Xp} {B:Nat->Option V} {F F':Wd} {H H':Hp} {σ:St} {fs:FS} {r:Rv} {u:V}
theorem BV.le (h:BV K F H σ r u) (l:Le F H F' H'):BV K F' H' σ r u:=by
 cases r with
 | t t=>exact AG.le l h
 | nw o=>exact h
 | rf i=>exact h
theorem RR.of (h:Okk K F B H fs σ) (q:BV K F H σ r u):RR K B σ F H fs r u:=by
 obtain ⟨L,h⟩:=h
 refine ⟨L,[],h,?_,by simpa using h.nd,(fun _ m=>nomatch m)⟩
 cases r with
 | t t=>exact ⟨rfl,q⟩
 | nw o=>exact q.elim
 | rf i=>exact ⟨rfl,q⟩
theorem RR.ok (h:RR K B σ F H fs r u):Okk K F B H fs σ:=let ⟨L,_,h,_⟩:=h;⟨L,h⟩
theorem AQ {γ δ:Type} {R2:Wd->Hp->FS->γ->δ->Prop} {o:Out Rv} {k:Rv->FS->Out γ} {Q:δ->Hp->Prop} {Q':V->Hp->Prop}
  (h:sat Z B R2 F H (o.bnd k) Q) (hk:∀ r fs F' H' u,Le F H F' H'->Okk K F' B H' fs σ->BV K F' H' σ r u->sat Z B R2 F' H' (k r fs) Q->Q' u H'):sat Z B (RR K B σ) F H o Q':=by
 refine AM h fun r fs F' H' u l q s=>?_
 cases r with
 | t t =>
  obtain ⟨L,L',q1,q2,_⟩:=q
  exact hk (.t t) fs F' H' u l ⟨L,q1⟩ q2.2 s
 | nw o=>exact s.elim
 | rf i =>
  obtain ⟨L,L',q1,q2,_⟩:=q
  exact hk (.rf i) fs F' H' u l ⟨L,q1⟩ q2.2 s
end
def tF (K:PySem.W.Frag) (Z:Xp) (f:FS->Out Rv):TE:=fun σ H Q=>∃ F B fs,Okk K F B H fs σ/\sat Z B (RR K B σ) F H (f fs) Q
def RB (K:PySem.W.Frag) (B:Nat->Option V) (σ:St):Wd->Hp->FS->Bool->Bool->Prop:=fun F H fs b b'=>Okk K F B H fs σ/\b'=b
def tT (K:PySem.W.Frag) (Z:Xp) (f:FS->Out Bool):TT:=fun σ H Q=>∃ F B fs,Okk K F B H fs σ/\sat Z B (RB K B σ) F H (f fs) Q
def GI (K:PySem.W.Frag) (F:Wd) (H:Hp) (σ:St):List Rv->List V->Prop
 | [],vs=>vs=[]
 | r :: rs,vs=>∃ v w,vs=v :: w/\BV K F H σ r v/\GI K F H σ rs w
def RA (K:PySem.W.Frag) (B:Nat->Option V) (σ:St):Wd->Hp->FS->List Rv->List V->Prop:=fun F H fs rs vs=>Okk K F B H fs σ/\GI K F H σ rs vs
def tA (K:PySem.W.Frag) (Z:Xp) (f:FS->Out (List Rv)):TA:=fun σ H Q=>∃ F B fs,Okk K F B H fs σ/\sat Z B (RA K B σ) F H (f fs) Q
def FE (X:Cx) (Z:Xp) (e:Expr) (f:FS->Out Rv):Prop:=PE X e (tF X.K Z f)
def FT (X:Cx) (Z:Xp) (e:Expr) (f:FS->Out Bool):Prop:=PT X e (tT X.K Z f)
def FA (X:Cx) (Z:Xp) (es:List Expr) (f:FS->Out (List Rv)):Prop:=PA X es (tA X.K Z f)
theorem Bn {X:Cx} {e:Expr} {t t':TE} (h:PE X e t) (i:∀ σ H Q,t' σ H Q->t σ H Q):PE X e t':=fun pins s σ H Q I q=>h pins s σ H Q I (i _ _ _ q)
theorem pt_imp {X:Cx} {e:Expr} {t t':TT} (h:PT X e t) (i:∀ σ H Q,t' σ H Q->t σ H Q):PT X e t':=fun pins s σ H Q I q=>h pins s σ H Q I (i _ _ _ q)
theorem pa_imp {X:Cx} {e:List Expr} {t t':TA} (h:PA X e t) (i:∀ σ H Q,t' σ H Q->t σ H Q):PA X e t':=fun pos pins s σ H Q I q=>h pos pins s σ H Q I (i _ _ _ q)
theorem DN {X:Cx} {e:Stmt} {t t':TS} (h:PS X e t) (i:∀ D σ H,t' D σ H->t D σ H):PS X e t':=fun pins s σ H D I q=>h pins s σ H D I (i _ _ _ q)
theorem pss_imp {X:Cx} {e:List Stmt} {t t':TS} (h:PSs X e t) (i:∀ D σ H,t' D σ H->t D σ H):PSs X e t':=fun pins s σ H D I q=>h pins s σ H D I (i _ _ _ q)
section
variable {K:PySem.W.Frag} {B:Nat->Option V} {F:Wd} {H:Hp} {σ:St} {fs:FS} {p:Addr} {o:HO}
def addF (F:Wd) (p:Addr):Wd:=⟨fun a=>F a∨a=p,F.p⟩
theorem Bw (h:Okk K F B H fs σ) (hp:H p=none):Le F H (addF F p) (upd H p o) :=
 let ⟨_,h⟩:=h
 ⟨fun a f=>⟨.inl f,Ay fun e=>h.fd a f (e▸hp)⟩,fun a f=>⟨f,Ay fun e=>h.pd a f (e▸hp)⟩⟩
theorem Bh (h:Okk K F B H fs σ) (hp:H p=none):Le F H F (upd H p o) :=
 let ⟨_,h⟩:=h
 ⟨fun a f=>⟨f,Ay fun e=>h.fd a f (e▸hp)⟩,fun a f=>⟨f,Ay fun e=>h.pd a f (e▸hp)⟩⟩
theorem C5 {a:Addr} (h:H a≠none):upd H p o a≠none:=by
 by_cases e:a=p
 ·subst e
  rw [AH]
  simp
 ·rw [Ay e]
  exact h
theorem Ok.keepL {L:List Addr} (h:Ok K F B H fs σ L) (hp:H p=none):∀ a∈L,(upd H p o) a=H a:=fun a m=>Ay fun e=>h.sl.def a m (e▸hp)
theorem Okk.fd (h:Okk K F B H fs σ):∀ a,F a->H a≠none:=let ⟨_,h⟩:=h;h.fd
theorem Okk.alloc (h:Okk K F B H fs σ) (hp:H p=none):Okk K (addF F p) B (upd H p o) fs σ:=by
 obtain ⟨L,h⟩:=h
 refine ⟨L,h.sl.le (Bw ⟨L,h⟩ hp) (h.keepL hp),h.nd,fun a m q=>?_,fun a q=>?_,h.bo,fun a q=>C5 (h.pd a q),fun a q z=>?_,h.pl⟩
 rotate_left 2
 ·rcases q with q | q
  ·exact h.pf a q z
  ·exact h.pd a z (q▸hp)
 ·rcases q with q | q
  ·exact h.nf a m q
  ·exact h.sl.def a m (q▸hp)
 ·rcases q with q | q
  ·exact C5 (h.fd a q)
  ·rw [q,AH]
   simp
theorem RR.alloc {ob:FO} (h:Okk K F B H fs σ) (hp:H p=none) (q:A5 K F (upd H p o) ob (.ref p) [p]):RR K B σ F (upd H p o) fs (.nw ob) (.ref p):=by
 obtain ⟨L,h⟩:=h
 refine ⟨L,[p],⟨h.sl.le (Bh ⟨L,h⟩ hp) (h.keepL hp),h.nd,h.nf,fun a q=>C5 (h.fd a q),h.bo,fun a q=>C5 (h.pd a q),h.pf,h.pl⟩,q,?_,fun a m=>?_⟩
 ·rw [List.nodup_append]
  exact ⟨h.nd,by simp,fun a ma b mb e=>h.sl.def a ma (by rw [e,List.mem_singleton.mp mb];exact hp)⟩
 ·rw [List.mem_singleton.mp m]
  exact ⟨fun f=>h.fd p f hp,fun f=>h.pd p f hp⟩
end
def Sl.put:Sl->FO->Sl
 | .own _,o=>.own o
 | .bor _,o=>.bor o
 | .val t,_=>.val t
def A9 (fs:FS) (i:Nat):Option FO:=match fs[i]? with
 | some (some (.own o))=>some o
 | some (some (.bor o))=>some o
 | _=>none
def putAt (fs:FS) (i:Nat) (o:FO):FS:=match fs[i]? with
 | some (some s)=>fs.set i (some (s.put o))
 | _=>fs
section
variable {K:PySem.W.Frag} {B:Nat->Option V} {F F':Wd} {H H':Hp} {σ:St} {fs:FS} {i:Nat} {ob:FO}
theorem Fm.put {s:Option Sl} {v:Option V} (h:Fm B fs σ) (hs:∀ o,s=some (.bor o)->∃ u,v=some u/\B i=some u) (hl:σ.length=fs.length):Fm B (fs.set i s) (σ.set i v):=by
 intro j o e
 by_cases hj:i=j
 ·subst hj
  have hi:i < fs.length:=by
   have:=(List.getElem?_eq_some_iff.mp e).1
   simpa using this
  rw [List.getElem?_set_self hi] at e
  obtain ⟨u,e1,e2⟩:=hs o (by simpa using e)
  exact ⟨u,by rw [List.getElem?_set_self (by omega),e1],e2⟩
 ·rw [List.getElem?_set_ne hj] at e
  obtain ⟨v,e1,e2⟩:=h j o e
  exact ⟨v,by rw [List.getElem?_set_ne hj];exact e1,e2⟩
theorem Dj {α:Type} {l:List α} {i:Nat} {x:α} (h:l[i]?=some x):l.set i x=l:=by
 apply List.ext_getElem?
 intro j
 by_cases hj:i=j
 ·subst hj
  rw [List.getElem?_set_self (List.getElem?_eq_some_iff.mp h).1,h]
 ·rw [List.getElem?_set_ne hj]
theorem Dv {L1 L2 L3 M:List Addr} (h:(L1++(L2++L3)).Nodup) (hm:M.Nodup) (d:∀ a∈M,a∉L1++L3):(L1++(M++L3)).Nodup:=by
 rw [List.nodup_append] at h ⊢
 obtain ⟨h1,h2,h3⟩:=h
 rw [List.nodup_append] at h2
 obtain ⟨h4,h5,h6⟩:=h2
 refine ⟨h1,?_,fun a ha b hb e=>?_⟩
 ·rw [List.nodup_append]
  exact ⟨hm,h5,fun a ha b hb e=>d a ha (by rw [e];exact List.mem_append_right _ hb)⟩
 ·rcases List.mem_append.mp hb with hb | hb
  ·exact d b hb (by rw [<- e];exact List.mem_append_left _ ha)
  ·exact h3 a ha b (List.mem_append_right _ hb) e
theorem Okk.own (h:Okk K F B H fs σ) (e:A9 fs i=some ob):∃ v L2,σ[i]?=some (some v)/\A5 K F H ob v L2/\(∀ a∈L2,¬ F a/\¬ F.p a)/\L2.Nodup /\
  ∀ ob' H',(∀ a,a∉L2->H a≠none->H' a=H a)->A5 K F H' ob' v L2->Okk K F B H' (putAt fs i ob') σ/\Le F H F H':=by
 obtain ⟨L,h⟩:=h
 have key:∀ s:Sl,fs[i]?=some (some s)->(s=.own ob∨s=.bor ob)->∃ v L2,σ[i]?=some (some v)/\A5 K F H ob v L2/\(∀ a∈L2,¬ F a/\¬ F.p a)/\L2.Nodup /\
  ∀ ob' H',(∀ a,a∉L2->H a≠none->H' a=H a)->A5 K F H' ob' v L2->Okk K F B H' (fs.set i (some (s.put ob'))) σ/\Le F H F H':=by
  intro s es ho
  obtain ⟨v,L1,L2,L3,e1,rfl,h1,h2⟩:=h.sl.pick es
  obtain ⟨u,rfl,q⟩:∃ u,v=some u/\A5 K F H ob u L2:=by
   rcases ho with rfl | rfl
   ·exact h1
   ·exact h1
  have nd:=h.nd
  have dis:∀ a∈L1++L3,a∉L2:=fun a ha hb=>by
   rw [List.nodup_append] at nd
   rcases List.mem_append.mp ha with ha | ha
   ·exact nd.2.2 a ha a (List.mem_append_left _ hb) rfl
   ·have:=(List.nodup_append.mp nd.2.1).2.2
    exact this a hb a ha rfl
  refine ⟨u,L2,e1,q,fun a m=>⟨h.nf a (by simp [m]),h.pl a (by simp [m])⟩,?_,fun ob' H' k q'=>?_⟩
  ·rw [List.nodup_append] at nd
   exact (List.nodup_append.mp nd.2.1).1
  ·have l:Le F H F H':=⟨fun a f=>⟨f,k a (fun m=>h.nf a (by simp [m]) f) (h.fd a f)⟩,fun a f=>⟨f,k a (fun m=>h.pl a (by simp [m]) f) (h.pd a f)⟩⟩
   refine ⟨⟨L1++(L2++L3),?_,nd,h.nf,fun a f=>by rw [(l.f a f).2];exact h.fd a f,?_,fun a f=>by rw [(l.p a f).2];exact h.pd a f,h.pf,h.pl⟩,l⟩
   ·have hL:∀ a∈L1++L3,H' a=H a:=fun a m=>k a (dis a m) (h.sl.def a (by
      rcases List.mem_append.mp m with m | m
      ·simp [m]
      ·simp [m]))
    have h3:=h2 F H' (some (s.put ob')) (some u) L2 l hL (by
     rcases ho with rfl | rfl
     ·exact ⟨u,rfl,q'⟩
     ·exact ⟨u,rfl,q'⟩)
    rwa [Dj e1] at h3
   ·have:=Fm.put (i:=i) (s:=some (s.put ob')) (v:=some u) h.bo (fun o eo=>by
     rcases ho with rfl | rfl
     ·cases eo
     ·obtain ⟨w,e3,e4⟩:=h.bo i ob es
      rw [e1] at e3
      have e5:u=w:=by simpa using e3
      exact ⟨u,rfl,by rw [e5];exact e4⟩) h.sl.len
    rwa [Dj e1] at this
 unfold A9 at e
 split at e
 ·rename_i o es
  cases e
  obtain ⟨v,L2,a1,a2,a3,a4,a5⟩:=key _ es (.inl rfl)
  refine ⟨v,L2,a1,a2,a3,a4,fun ob' H' k q=>?_⟩
  have:=a5 ob' H' k q
  unfold putAt
  rw [es]
  exact this
 ·rename_i o es
  cases e
  obtain ⟨v,L2,a1,a2,a3,a4,a5⟩:=key _ es (.inr rfl)
  refine ⟨v,L2,a1,a2,a3,a4,fun ob' H' k q=>?_⟩
  have:=a5 ob' H' k q
  unfold putAt
  rw [es]
  exact this
 ·cases e
end
def Aa (i:Nat):FS->Out Rv:=fun fs=>match fs[i]? with
 | some (some (.val t))=>.ok (.t t) fs
 | some (some (.own _))=>.ok (.rf i) fs
 | some (some (.bor _))=>.ok (.rf i) fs
 | _=>.bad
def gc (t:T):FS->Out Rv:=fun fs=>.ok (.t t) fs
section
variable {X:Cx} {Z:Xp} {e:Expr}
theorem Aq (i:Nat) {x:Str} {pos:Pos} (hN:X.N[i]?=some x:=by rfl) (hv:Vis X.env.scope x:=by first | exact Or.inl rfl | exact Or.inr (Or.inl rfl) | exact Or.inr (Or.inr rfl)) (hd:(x == ("__debug__":Str))=false:=by decide)
  (hcd:(x == ("__classdict__":Str))=false:=by decide):FE X Z (.Name x pos) (Aa i):=by
 refine Bn (pv i hN hv hd hcd) fun σ H Q h=>?_
 obtain ⟨F,B,fs,ok,s⟩:=h
 obtain ⟨L,o⟩:=id ok
 unfold Aa at s
 split at s
 ·rename_i t es
  obtain ⟨v,L1,L2,L3,e1,_,h1,_⟩:=o.sl.pick es
  obtain ⟨u,rfl,q,_⟩:=h1
  exact ⟨u,e1,s F H u Le.refl (RR.of ok q)⟩
 ·rename_i t es
  obtain ⟨v,L1,L2,L3,e1,_,h1,_⟩:=o.sl.pick es
  obtain ⟨u,rfl,q⟩:=h1
  exact ⟨u,e1,s F H u Le.refl (RR.of ok e1)⟩
 ·rename_i t es
  obtain ⟨v,L1,L2,L3,e1,_,h1,_⟩:=o.sl.pick es
  obtain ⟨u,rfl,q⟩:=h1
  exact ⟨u,e1,s F H u Le.refl (RR.of ok e1)⟩
 ·exact s.elim
theorem fe_c {v:V} (t:T) (h:PE X e (tC v)) (r:∀ K F H,AG K F H t v):FE X Z e (gc t) :=
 Bn h fun σ H Q ⟨F,B,fs,ok,s⟩=>s F H v Le.refl (RR.of ok (r _ _ _))
theorem Ah {i j pos}:FE X Z (.Constant (.int i) j pos) (gc (.int i)):=fe_c _ pe_int fun _ _ _=>rfl
theorem Ht {b j pos}:FE X Z (.Constant (.bool b) j pos) (gc (.bl b)):=fe_c _ pe_bl fun _ _ _=>rfl
theorem fe_non {j pos}:FE X Z (.Constant .none j pos) (gc .non):=fe_c _ pe_non fun _ _ _=>rfl
theorem De {x j pos}:FE X Z (.Constant (.str x) j pos) (gc (.str x)):=fe_c _ pe_str fun _ _ _=>rfl
end
def fz (f:FS->Out Rv):FS->Out Rv:=fun fs=>(f fs).bind fun r fs=>match r with
 | .t t=>.ok (.t t) fs
 | .nw o=>.ok (.t (toT o)) fs
 | .rf i=>match fs[i]? with
  | some (some (.own o))=>.ok (.t (toT o)) (fs.set i (some (.val (toT o))))
  | _=>.bad
section
variable {X:Cx} {Z:Xp} {e:Expr} {f:FS->Out Rv}
def addL (F:Wd) (L:List Addr):Wd:=⟨fun a=>F a∨a∈L,F.p⟩
theorem orF {F:Wd} {L:List Addr} {H:Hp}:Le F H (addL F L) H:=⟨fun _ f=>⟨.inl f,rfl⟩,fun _ f=>⟨f,rfl⟩⟩
theorem As (h:FE X Z e f):FE X Z e (fz f):=by
 refine Bn h fun σ H Q ⟨F,B,fs,ok,s⟩=>⟨F,B,fs,ok,?_⟩
 refine AM s fun r fs F' H' u l q s=>?_
 cases r with
 | t t=>exact s F' H' u Le.refl q
 | nw o =>
  obtain ⟨L,L',o1,q,nd,nf⟩:=q
  refine s (addL F' L') H' u orF (RR.of ⟨L,?_⟩ (A5.frz orF (fun a m=>.inr m) q))
  refine ⟨o1.sl.le orF fun _ _=>rfl,o1.nd,fun a m z=>?_,fun a z=>?_,o1.bo,o1.pd,fun a z=>?_,o1.pl⟩
  ·rcases z with z | z
   ·exact o1.nf a m z
   ·exact (List.nodup_append.mp nd).2.2 a m a z rfl
  ·rcases z with z | z
   ·exact o1.fd a z
   ·exact A5.def q a z
  ·rcases z with z | z
   ·exact o1.pf a z
   ·exact (nf a z).2
 | rf i =>
  dsimp only at s
  split at s
  ·rename_i o es
   obtain ⟨L,L',o1,⟨_,q⟩,nd,nf⟩:=q
   obtain ⟨v,L1,L2,L3,e1,rfl,h1,h2⟩:=o1.sl.pick es
   obtain ⟨w,rfl,q2⟩:=h1
   rw [e1] at q
   have eu:w=u:=by simpa using q
   subst eu
   have l2:Le F' H' (addL F' L2) H':=orF
   have r2:AG X.K (addL F' L2) H' (toT o) w:=A5.frz orF (fun a m=>.inr m) q2
   refine s (addL F' L2) H' w l2 (RR.of ⟨L1++([]++L3),?_⟩ r2)
   have h3:=h2 (addL F' L2) H' (some (.val (toT o))) (some w) [] l2 (fun _ _=>rfl) ⟨w,rfl,r2,rfl⟩
   rw [Dj e1] at h3
   have nd1:=o1.nd
   refine ⟨h3,Dv nd1 List.nodup_nil (fun _ m=>nomatch m),fun a m z=>?_,fun a z=>?_,?_,o1.pd,fun a z=>?_,fun a m=>o1.pl a ?_⟩
   ·have m':a∈L1∨a∈L3:=by simpa using m
    rcases z with z | z
    ·exact o1.nf a (by rcases m' with m | m <;> simp [m]) z
    ·rw [List.nodup_append] at nd1
     rcases m' with m | m
     ·exact nd1.2.2 a m a (List.mem_append_left _ z) rfl
     ·exact (List.nodup_append.mp nd1.2.1).2.2 a z a m rfl
   ·rcases z with z | z
    ·exact o1.fd a z
    ·exact A5.def q2 a z
   ·have:=Fm.put (i:=i) (s:=some (.val (toT o))) (v:=some w) o1.bo (fun o eo=>by cases eo) o1.sl.len
    rwa [Dj e1] at this
   ·rcases z with z | z
    ·exact o1.pf a z
    ·exact o1.pl a (by simp [z])
   ·have m':a∈L1∨a∈L3:=by simpa using m
    rcases m' with m | m <;> simp [m]
  ·exact s.elim
end
end FL
namespace FL
open PySem PySem.Spec L2
def big:Nat:=1000000
theorem DU:big<=sizeLine:=by rw [sizeLine_eq];decide
theorem big_lt:big < sizeLine:=by rw [sizeLine_eq];decide
def CZ (fs:FS):Rv->Option (List T)
 | .t (.lst ts)=>some ts
 | .t (.scr ts)=>some ts
 | .rf i=>match A9 fs i with
  | some (.lst ts)=>some ts
  | _=>none
 | _=>none
def seqT:Rv->Option (List T)
 | .t (.tup ts)=>some ts
 | _=>none
section
variable {K:PySem.W.Frag} {B:Nat->Option V} {F F':Wd} {H H':Hp} {σ:St} {fs:FS} {x:Rv} {u:V} {ts:List T}
theorem Br (h:Okk K F B H fs σ) (r:BV K F H σ x u) (e:CZ fs x=some ts):∃ a vs,u=.ref a/\SqL K H a vs/\Af K F H ts vs:=by
 unfold CZ at e
 split at e
 ·cases e
  simp only [BV,AG] at r
  obtain ⟨a,vs,e,f,s,q⟩:=r
  exact ⟨a,vs,e,SqL.of s,q⟩
 ·cases e
  simp only [BV,AG] at r
  obtain ⟨a,vs,e,s,q⟩:=r
  exact ⟨a,vs,e,s.sq,q⟩
 ·rename_i i
  split at e
  ·rename_i ts' eo
   cases e
   obtain ⟨v,L2,e1,q,_⟩:=h.own eo
   have e2:σ[i]?=some (some u):=r
   rw [e1] at e2
   have e3:v=u:=by simpa using e2
   subst e3
   simp only [A5] at q
   obtain ⟨a,vs,e,s,q,_⟩:=q
   exact ⟨a,vs,e,SqL.of s,q⟩
  ·cases e
 ·cases e
theorem Ca (r:BV K F H σ x u) (e:seqT x=some ts):∃ a vs,u=.ref a/\SqT K H a vs/\Af K F H ts vs:=by
 unfold seqT at e
 split at e
 ·cases e
  simp only [BV,AG] at r
  obtain ⟨a,vs,e,s,q⟩:=r
  exact ⟨a,vs,e,s.sq,q⟩
 ·cases e
theorem atI_rel {vs:List V} {i:Int} {t:T} (r:Af K F H ts vs) (e:atI ts i=some t):∃ v,atI vs i=some v/\AG K F H t v:=by
 unfold atI at e ⊢
 rw [r.len]
 cases q:ixN ts.length i with
 | none=>rw [q] at e;cases e
 | some j =>
  rw [q] at e
  exact r.at e
theorem Af.ints:∀ {ns:List Int} {vs:List V},Af K F H (ns.map T.int) vs->vs=ns.map V.int
 | [],_,h=>by simpa [Af] using h
 | n :: ns,_,h=>by
  simp only [List.map_cons,Af,AG] at h
  obtain ⟨v,r,rfl,rfl,h⟩:=h
  rw [List.map_cons,Af.ints h]
theorem Af.bls:∀ {ns:List Bool} {vs:List V},Af K F H (ns.map T.bl) vs->vs=ns.map V.bl
 | [],_,h=>by simpa [Af] using h
 | n :: ns,_,h=>by
  simp only [List.map_cons,Af,AG] at h
  obtain ⟨v,r,rfl,rfl,h⟩:=h
  rw [List.map_cons,Af.bls h]
theorem Af.strs:∀ {ns:List Str} {vs:List V},Af K F H (ns.map T.str) vs->vs=ns.map V.str
 | [],_,h=>by simpa [Af] using h
 | n :: ns,_,h=>by
  simp only [List.map_cons,Af,AG] at h
  obtain ⟨v,r,rfl,rfl,h⟩:=h
  rw [List.map_cons,Af.strs h]
end
def Cc:List T->Option (List Int)
 | []=>some []
 | .int i :: r=>(Cc r).map (i :: ·)
 | _=>none
def DJ:List T->Option (List Bool)
 | []=>some []
 | .bl i :: r=>(DJ r).map (i :: ·)
 | _=>none
def Cb:List T->Option (List Str)
 | []=>some []
 | .str i :: r=>(Cb r).map (i :: ·)
 | _=>none
theorem HJ:∀ {ts:List T} {ns:List Int},Cc ts=some ns->ts=ns.map T.int
 | [],_,e=>by cases e;rfl
 | .int i :: r,_,e=>by
  simp only [Cc,Option.map_eq_some_iff] at e
  obtain ⟨ns,e,rfl⟩:=e
  rw [List.map_cons,<- HJ e]
 | .non :: r,_,e=>by simp [Cc] at e
 | .bl _ :: r,_,e=>by simp [Cc] at e
 | .str _ :: r,_,e=>by simp [Cc] at e
 | .tup _ :: r,_,e=>by simp [Cc] at e
 | .lst _ :: r,_,e=>by simp [Cc] at e
 | .scr _ :: r,_,e=>by simp [Cc] at e
 | .dK _ _ :: r,_,e=>by simp [Cc] at e
 | .dT _ _ :: r,_,e=>by simp [Cc] at e
 | .ins _ _ _ :: r,_,e=>by simp [Cc] at e
 | .dF _ _ :: r,_,e=>by simp [Cc] at e
theorem GH:∀ {ts:List T} {ns:List Bool},DJ ts=some ns->ts=ns.map T.bl
 | [],_,e=>by cases e;rfl
 | .bl i :: r,_,e=>by
  simp only [DJ,Option.map_eq_some_iff] at e
  obtain ⟨ns,e,rfl⟩:=e
  rw [List.map_cons,<- GH e]
 | .non :: r,_,e=>by simp [DJ] at e
 | .int _ :: r,_,e=>by simp [DJ] at e
 | .str _ :: r,_,e=>by simp [DJ] at e
 | .tup _ :: r,_,e=>by simp [DJ] at e
 | .lst _ :: r,_,e=>by simp [DJ] at e
 | .scr _ :: r,_,e=>by simp [DJ] at e
 | .dK _ _ :: r,_,e=>by simp [DJ] at e
 | .dT _ _ :: r,_,e=>by simp [DJ] at e
 | .ins _ _ _ :: r,_,e=>by simp [DJ] at e
 | .dF _ _ :: r,_,e=>by simp [DJ] at e
theorem HI:∀ {ts:List T} {ns:List Str},Cb ts=some ns->ts=ns.map T.str
 | [],_,e=>by cases e;rfl
 | .str i :: r,_,e=>by
  simp only [Cb,Option.map_eq_some_iff] at e
  obtain ⟨ns,e,rfl⟩:=e
  rw [List.map_cons,<- HI e]
 | .non :: r,_,e=>by simp [Cb] at e
 | .int _ :: r,_,e=>by simp [Cb] at e
 | .bl _ :: r,_,e=>by simp [Cb] at e
 | .tup _ :: r,_,e=>by simp [Cb] at e
 | .lst _ :: r,_,e=>by simp [Cb] at e
 | .scr _ :: r,_,e=>by simp [Cb] at e
 | .dK _ _ :: r,_,e=>by simp [Cb] at e
 | .dT _ _ :: r,_,e=>by simp [Cb] at e
 | .ins _ _ _ :: r,_,e=>by simp [Cb] at e
 | .dF _ _ :: r,_,e=>by simp [Cb] at e
def Ad (g:Rv->Rv->FS->Out Rv) (fa fb:FS->Out Rv):FS->Out Rv:=fun fs=>(fa fs).bnd fun x fs=>(fb fs).bnd fun y fs=>g x y fs
def OpF (K:PySem.W.Frag) (Z:Xp) (r:R2) (g:Rv->Rv->FS->Out Rv):Prop:=∀ (F:Wd) (B:Nat->Option V) (H:Hp) (σ:St) (fs:FS) (x y:Rv) (u w:V) (Q:VK),Okk K F B H fs σ->BV K F H σ x u->BV K F H σ y w ->
 sat Z B (RR K B σ) F H (g x y fs) Q->r u w H Q
def asB (f:FS->Out Rv):FS->Out Bool:=fun fs=>(f fs).bind fun r fs=>match r with
 | .t (.bl b)=>.ok b fs
 | _=>.bad
section
variable {X:Cx} {K:PySem.W.Frag} {Z:Xp} {a b c:Expr} {fa fb fc f:FS->Out Rv} {r r':R2} {g g':Rv->Rv->FS->Out Rv} {pos:Pos} {σ:St} {H:Hp}
theorem EB {Q:VK} (hg:OpF K Z r g) (h:tF K Z (Ad g fa fb) σ H Q):tOp r (tF K Z fa) (tF K Z fb) σ H Q:=by
 obtain ⟨F,B,fs,ok,s⟩:=h
 exact ⟨F,B,fs,ok,AQ s fun x fs1 F1 H1 u l ok1 rx s1=>⟨F1,B,fs1,ok1,AQ s1 fun y fs2 F2 H2 w l2 ok2 ry s2=>hg F2 B H2 σ fs2 x y u w Q ok2 (rx.le l2) ry s2⟩⟩
theorem asB_tF {Q:Bool->Hp->Prop} (h:tT K Z (asB f) σ H Q):tF K Z f σ H fun x H'=>∃ k,x=.bl k/\Q k H':=by
 obtain ⟨F,B,fs,ok,s⟩:=h
 refine ⟨F,B,fs,ok,AM s fun r fs1 F1 H1 u l q s1=>?_⟩
 split at s1
 ·rename_i b
  obtain ⟨L,L',o1,⟨_,q⟩,_⟩:=q
  exact ⟨b,q,s1 F1 H1 b Le.refl ⟨⟨L,o1⟩,rfl⟩⟩
 ·exact s1.elim
theorem fe_op {op:Operator} (hg:OpF X.K Z r g) (ho:OpR X (binaryOp op) r) (ha:FE X Z a fa) (hb:FE X Z b fb):FE X Z (.BinOp a op b pos) (Ad g fa fb) :=
 Bn (pe_op ho ha hb) fun _ _ _ h=>EB hg h
theorem fe_cmp {op:CmpOp} (hg:OpF X.K Z r g) (ho:OpR X (compareOp op) r) (ha:FE X Z a fa) (hb:FE X Z b fb) (hm:behindInMarks op b=false):FE X Z (.Compare a [op] [b] pos) (Ad g fa fb) :=
 Bn (pe_cmpR ho ha hb hm) fun _ _ _ h=>EB hg h
theorem ft_cmp {op:CmpOp} (hg:OpF X.K Z r g) (ho:OpR X (compareOp op) r) (ha:FE X Z a fa) (hb:FE X Z b fb) (hm:behindInMarks op b=false):FT X Z (.Compare a [op] [b] pos) (asB (Ad g fa fb)) :=
 pt_imp (pt_cmpR ho ha hb hm) fun _ _ _ h=>EB hg (asB_tF h)
theorem fe_ix (hg:OpF X.K Z r g) (hr:IxR X r) (ha:FE X Z a fa) (hb:FE X Z b fb) (hs:PlainIx b):FE X Z (.Subscript a b pos) (Ad g fa fb) :=
 Bn (pe_ix hr ha hb hs) fun _ _ _ h=>EB hg h
def chain (g g':Rv->Rv->FS->Out Rv) (fa fb fc:FS->Out Rv):FS->Out Rv:=fun fs=>(fa fs).bnd fun x fs=>(fb fs).bnd fun y fs=>(g x y fs).bnd fun z fs=>match z with
 | .t (.bl true)=>(fc fs).bnd fun w fs=>g' y w fs
 | .t (.bl false)=>.ok (.t (.bl false)) fs
 | _=>.bad
theorem chain_t {Q:VK} (hg:OpF K Z r g) (hg':OpF K Z r' g') (h:tF K Z (chain g g' fa fb fc) σ H Q):tChain r r' (tF K Z fa) (tF K Z fb) (tF K Z fc) σ H Q:=by
 obtain ⟨F,B,fs,ok,s⟩:=h
 refine ⟨F,B,fs,ok,AQ s fun x fs1 F1 H1 u l ok1 rx s1=>⟨F1,B,fs1,ok1,AQ s1 fun y fs2 F2 H2 w l2 ok2 ry s2=>hg F2 B H2 σ fs2 x y u w _ ok2 (rx.le l2) ry ?_⟩⟩
 refine AQ s2 fun z fs3 F3 H3 v l3 ok3 rz s3=>?_
 split at s3
 ·refine ⟨true,rz,?_⟩
  rw [if_pos rfl]
  exact ⟨F3,B,fs3,ok3,AQ s3 fun w' fs4 F4 H4 v' l4 ok4 rw' s4=>hg' F4 B H4 σ fs4 y w' w v' Q ok4 ((ry.le l3).le l4) rw' s4⟩
 ·refine ⟨false,rz,?_⟩
  rw [if_neg (by decide)]
  exact s3 F3 H3 (.bl false) Le.refl (RR.of ok3 rfl)
 ·exact s3.elim
end
theorem mul_bits {a b:Int} (ha:Builtin.Int.intBits a<=2 ^ 26) (hb:Builtin.Int.intBits b<=2 ^ 26):IntMulOk a b:=by
 intro h
 rw [Bool.and_eq_true] at h
 have h2:=of_decide_eq_true (show decide _=true from h.2)
 have e:bitsLine=134217728:=rfl
 rw [e] at h2
 omega
def gI (g:Int->Int->FS->Out Rv):Rv->Rv->FS->Out Rv
 | .t (.int i),.t (.int j),fs=>g i j fs
 | _,_,_=>.bad
def okT (t:T) (fs:FS):Out Rv:=.ok (.t t) fs
def gAdd:=gI fun i j=>okT (.int (i+j))
def Em:=gI fun i j=>okT (.int (i - j))
def gMul:=gI fun i j fs=>if (decide (-(2 ^ 64) < i/\i < 2 ^ 64) || decide (-(2 ^ 64) < j/\j < 2 ^ 64) || (decide (Builtin.Int.intBits i<=2 ^ 26) && decide (Builtin.Int.intBits j<=2 ^ 26)))=true then okT (.int (i * j)) fs else .bad
def Bd:=gI fun i j fs=>if 0 < j then okT (.int (i % j)) fs else .bad
def BZ:=gI fun i j fs=>if 0 < j/\j < 1073741824 then okT (.int (i / j)) fs else .bad
def gLt:=gI fun i j=>okT (.bl (decide (i < j)))
def gLe:=gI fun i j=>okT (.bl (decide (i<=j)))
section
variable {K:PySem.W.Frag} {Z:Xp}
theorem opf_I {g:Int->Int->FS->Out Rv} {C:Int->Int->Prop} {v:Int->Int->V} {t:Int->Int->T} (hv:∀ K F H i j,AG K F H (t i j) (v i j)) (hg:∀ i j fs,g i j fs=.bad∨(C i j/\g i j fs=okT (t i j) fs)):OpF K Z (rI C v) (gI g):=by
 intro F B H σ fs x y u w Q ok rx ry s
 unfold gI at s
 split at s
 ·rename_i i j
  simp only [BV,AG] at rx ry
  rcases hg i j fs with e | ⟨c,e⟩
  ·rw [e] at s
   exact s.elim
  ·rw [e] at s
   exact ⟨i,j,rx,ry,c,s F H _ Le.refl (RR.of ok (hv _ _ _ _ _))⟩
 ·exact s.elim
theorem opf_I0 {v:Int->Int->V} {t:Int->Int->T} (hv:∀ K F H i j,AG K F H (t i j) (v i j)):OpF K Z (rI0 v) (gI fun i j=>okT (t i j)):=by
 intro F B H σ fs x y u w Q ok rx ry s
 unfold gI at s
 split at s
 ·rename_i i j
  simp only [BV,AG] at rx ry
  exact ⟨i,j,rx,ry,s F H _ Le.refl (RR.of ok (hv _ _ _ _ _))⟩
 ·exact s.elim
theorem of_add:OpF K Z (rI0 fun i j=>.int (i+j)) gAdd:=opf_I0 fun _ _ _ _ _=>rfl
theorem of_sub:OpF K Z (rI0 fun i j=>.int (i - j)) Em:=opf_I0 fun _ _ _ _ _=>rfl
theorem of_lt:OpF K Z (rI0 fun i j=>.bl (decide (i < j))) gLt:=opf_I0 fun _ _ _ _ _=>rfl
theorem of_le:OpF K Z (rI0 fun i j=>.bl (decide (i<=j))) gLe:=opf_I0 fun _ _ _ _ _=>rfl
theorem of_mod:OpF K Z (rI (fun _ j=>0 < j) fun i j=>.int (i % j)) Bd:=opf_I (t:=fun i j=>.int (i % j)) (fun _ _ _ _ _=>rfl) fun i j fs=>by
 by_cases h:0 < j
 ·exact .inr ⟨h,if_pos h⟩
 ·exact .inl (if_neg h)
theorem of_div:OpF K Z (rI CDiv fun i j=>.int (i / j)) BZ:=opf_I (t:=fun i j=>.int (i / j)) (fun _ _ _ _ _=>rfl) fun i j fs=>by
 by_cases h:0 < j/\j < 1073741824
 ·exact .inr ⟨h,if_pos h⟩
 ·exact .inl (if_neg h)
theorem of_mul:OpF K Z (rI IntMulOk fun i j=>.int (i * j)) gMul:=opf_I (t:=fun i j=>.int (i * j)) (fun _ _ _ _ _=>rfl) fun i j fs=>by
 by_cases h:(decide (-(2 ^ 64) < i/\i < 2 ^ 64) || decide (-(2 ^ 64) < j/\j < 2 ^ 64) || (decide (Builtin.Int.intBits i<=2 ^ 26) && decide (Builtin.Int.intBits j<=2 ^ 26)))=true
 ·refine .inr ⟨?_,if_pos h⟩
  rw [Bool.or_eq_true,Bool.or_eq_true,Bool.and_eq_true] at h
  rcases h with (h | h) | ⟨h1,h2⟩
  ·exact CMul.ok (.inl (of_decide_eq_true h))
  ·exact CMul.ok (.inr (of_decide_eq_true h))
  ·exact mul_bits (of_decide_eq_true h1) (of_decide_eq_true h2)
 ·exact .inl (if_neg h)
end
def plV:T->Option V
 | .non=>some .non
 | .bl b=>some (.bl b)
 | .int i=>some (.int i)
 | .str x=>some (.str x)
 | _=>none
theorem Cm {K:PySem.W.Frag} {F:Wd} {H:Hp} {t:T} {u v:V} (e:plV t=some v) (r:AG K F H t u):u=v:=by
 cases t with
 | non=>cases e;exact r
 | bl b=>cases e;exact r
 | int i=>cases e;exact r
 | str x=>cases e;exact r
 | tup ts=>cases e
 | lst ts=>cases e
 | scr ts=>cases e
 | dK ks ts=>cases e
 | dT ks ts=>cases e
 | ins C fs ts=>cases e
 | dF ks ts=>cases e
 | exn c=>cases e
def gEq (neg:Bool):Rv->Rv->FS->Out Rv
 | .t x,.t y,fs=>match plV x,plV y with
  | some u,some w=>if scal u w=true then okT (.bl (if neg then !decide (u=w) else decide (u=w))) fs else .bad
  | _,_=>.bad
 | _,_,_=>.bad
theorem Du {t:T} {v:V} (e:plV t=some v):flatV v=true:=by
 cases t <;> first | (cases e;rfl) | cases e
section
variable {K:PySem.W.Frag} {Z:Xp}
theorem of_eq:OpF K Z rEq (gEq false):=by
 intro F B H σ fs x y u w Q ok rx ry s
 unfold gEq at s
 split at s
 ·split at s
  ·rename_i e1 e2
   split at s
   ·rename_i hs
    have h1:=Cm e1 rx
    have h2:=Cm e2 ry
    subst h1 h2
    exact ⟨hs,s F H _ Le.refl (RR.of ok rfl)⟩
   ·exact s.elim
  ·exact s.elim
 ·exact s.elim
theorem of_ne:OpF K Z rNe (gEq true):=by
 intro F B H σ fs x y u w Q ok rx ry s
 unfold gEq at s
 split at s
 ·split at s
  ·rename_i e1 e2
   split at s
   ·rename_i hs
    have h1:=Cm e1 rx
    have h2:=Cm e2 ry
    subst h1 h2
    exact ⟨hs,s F H _ Le.refl (RR.of ok rfl)⟩
   ·exact s.elim
  ·exact s.elim
 ·exact s.elim
end
def gIx:Rv->Rv->FS->Out Rv
 | x,.t (.int i),fs=>match CZ fs x with
  | some ts=>match atI ts i with
   | some t=>okT t fs
   | none=>.bad
  | none=>match x with
   | .t (.tup ts)=>match atI ts i with
    | some t=>okT t fs
    | none=>.bad
   | .t (.str z)=>if z.length<=big then match atI z.cps.toList i with
     | some c=>okT (.str ⟨#[c]⟩) fs
     | none=>.bad
    else .bad
   | _=>.bad
 | _,_,_=>.bad
section
variable {K:PySem.W.Frag} {Z:Xp}
theorem of_ix:OpF K Z (rIx K) gIx:=by
 intro F B H σ fs x y u w Q ok rx ry s
 unfold gIx at s
 split at s
 ·rename_i i
  split at s
  ·rename_i ts e
   split at s
   ·rename_i t et
    obtain ⟨a,vs,rfl,hs,q⟩:=Br ok rx e
    obtain ⟨v,ev,rv⟩:=atI_rel q et
    exact .inl ⟨a,vs,i,v,rfl,ry,hs,ev,s F H v Le.refl (RR.of ok rv)⟩
   ·exact s.elim
  ·split at s
   ·rename_i ts _
    split at s
    ·rename_i t et
     obtain ⟨a,vs,rfl,hs,q⟩:=Ca (ts:=ts) rx rfl
     obtain ⟨v,ev,rv⟩:=atI_rel q et
     exact .inr (.inl ⟨a,vs,i,v,rfl,ry,hs,ev,s F H v Le.refl (RR.of ok rv)⟩)
    ·exact s.elim
   ·rename_i z _
    split at s
    ·rename_i hz
     split at s
     ·rename_i c ec
      exact .inr (.inr ⟨z,i,c,rx,ry,Nat.le_trans hz DU,ec,s F H _ Le.refl (RR.of ok rfl)⟩)
     ·exact s.elim
    ·exact s.elim
   ·exact s.elim
 ·exact s.elim
end
def gAddS:Rv->Rv->FS->Out Rv
 | .t (.str i),.t (.str j),fs=>if i.length+j.length<=big then okT (.str (i++j)) fs else .bad
 | _,_,_=>.bad
def gMulS:Rv->Rv->FS->Out Rv
 | .t (.str z),.t (.int n),fs=>if z.length=1/\1<=n/\n<=1000 then okT (.str (Txt.mul z n)) fs else .bad
 | _,_,_=>.bad
theorem mul_ok1 {z:Str} {n:Int} (hz:z.length=1) (h0:1<=n) (h1:n<=1000):MulOk z n:=by
 refine ⟨?_,fun _ _=>?_,fun _ _=>?_⟩
 ·rw [Bool.or_eq_false_iff]
  exact ⟨decide_eq_false (by omega),decide_eq_false (by omega)⟩
 ·have h:(n:Int)<=2 ^ 63 - 1:=by omega
  have h2:1<=((2:Int) ^ 63 - 1) / n:=(Int.le_ediv_iff_mul_le (by omega)).mpr (by omega)
  rw [hz]
  show ¬ ((1:Nat):Int) > _
  omega
 ·unfold Builtin.Str.tooLong
  have:n.toNat<=1000:=by omega
  refine decide_eq_false ?_
  rw [hz]
  have h3:(1000:Nat)<=sizeLine:=by rw [sizeLine_eq];decide
  omega
section
variable {K:PySem.W.Frag} {Z:Xp}
theorem of_addS:OpF K Z (fun x y H Q=>∃ i j,x=.str i/\y=.str j/\i.length+j.length<=sizeLine/\Q (.str (i++j)) H) gAddS:=by
 intro F B H σ fs x y u w Q ok rx ry s
 unfold gAddS at s
 split at s
 ·rename_i i j
  split at s
  ·rename_i h
   exact ⟨i,j,rx,ry,Nat.le_trans h DU,s F H _ Le.refl (RR.of ok rfl)⟩
  ·exact s.elim
 ·exact s.elim
theorem of_mulS:OpF K Z (fun x y H Q=>∃ z n,x=.str z/\y=.int n/\MulOk z n/\Q (.str (Txt.mul z n)) H) gMulS:=by
 intro F B H σ fs x y u w Q ok rx ry s
 unfold gMulS at s
 split at s
 ·rename_i i j
  split at s
  ·rename_i h
   exact ⟨i,j,rx,ry,mul_ok1 h.1 h.2.1 h.2.2,s F H _ Le.refl (RR.of ok rfl)⟩
  ·exact s.elim
 ·exact s.elim
end
end FL
namespace FL
open PySem PySem.Spec L2
def truR (fs:FS):Rv->Option Bool
 | .t .non=>some false
 | .t (.bl b)=>some b
 | .t (.int i)=>some (i != 0)
 | .t (.str x)=>if x.length<=big then some ((x.length:Int) != 0) else none
 | .t (.lst ts)=>some !ts.isEmpty
 | .t (.tup ts)=>some !ts.isEmpty
 | .rf i=>match A9 fs i with
  | some (.lst ts)=>some !ts.isEmpty
  | some (.dK ks _)=>some !ks.isEmpty
  | _=>none
 | _=>none
def DK (f:FS->Out Rv):FS->Out Bool:=fun fs=>(f fs).bnd fun r fs=>match truR fs r with
 | some b=>.ok b fs
 | none=>.bad
def C8 (f:FS->Out Bool):FS->Out Bool:=fun fs=>(f fs).bind fun b fs=>.ok (!b) fs
def andT (f g:FS->Out Bool):FS->Out Bool:=fun fs=>(f fs).bind fun b fs=>if b=true then g fs else .ok false fs
def orT (f g:FS->Out Bool):FS->Out Bool:=fun fs=>(f fs).bind fun b fs=>if b=true then .ok true fs else g fs
def ifV (c:FS->Out Bool) (f g:FS->Out Rv):FS->Out Rv:=fun fs=>(c fs).bind fun b fs=>if b=true then f fs else g fs
theorem CP {α β:Type} {xs:List α} {ys:List β} (h:ys.length=xs.length):(!ys.isEmpty)=!xs.isEmpty:=by
 cases xs <;> cases ys <;> simp_all
section
variable {K:PySem.W.Frag} {B:Nat->Option V} {F:Wd} {H:Hp} {σ:St} {fs:FS} {x:Rv} {u:V}
theorem truR_ok {b:Bool} (h:Okk K F B H fs σ) (r:BV K F H σ x u) (e:truR fs x=some b):TruV K u H b:=by
 unfold truR at e
 split at e
 ·cases e;cases r;rfl
 ·cases e;cases r;rfl
 ·cases e;cases r;rfl
 ·split at e
  ·rename_i hz
   cases e;cases r
   exact ⟨Nat.le_trans hz DU,rfl⟩
  ·cases e
 ·cases e
  obtain ⟨a,vs,rfl,hs,q⟩:=Br h r rfl
  exact .inl ⟨vs,hs,(CP q.len).symm⟩
 ·cases e
  obtain ⟨a,vs,rfl,hs,q⟩:=Ca r rfl
  exact .inr (.inl ⟨vs,hs,(CP q.len).symm⟩)
 ·rename_i i
  split at e
  ·rename_i ts eo
   cases e
   obtain ⟨a,vs,rfl,hs,q⟩:=Br (ts:=ts) h r (by simp [CZ,eo])
   exact .inl ⟨vs,hs,(CP q.len).symm⟩
  ·rename_i ks ts eo
   cases e
   obtain ⟨v,L2,e1,q,_⟩:=h.own eo
   have e2:σ[i]?=some (some u):=r
   rw [e1] at e2
   have e3:v=u:=by simpa using e2
   subst e3
   simp only [A5] at q
   obtain ⟨a,kvs,rfl,hd,rfl,_⟩:=q
   exact .inr (.inr ⟨kvs,hd,(CP (by simp))⟩)
  ·cases e
 ·cases e
end
section
variable {X:Cx} {Z:Xp} {a b c:Expr} {fa fb:FS->Out Rv} {ga gb:FS->Out Bool} {pos:Pos} {rest:List Expr}
theorem Cd (ha:FE X Z a fa) (he:∀ whole,isTrue a X.env whole=(do let v <- whole;standAt a.pos;holding [v] (truthy v))):FT X Z a (DK fa):=by
 refine pt_imp (pt_truth ha he) fun σ H Q ⟨F,B,fs,ok,s⟩=>⟨F,B,fs,ok,AQ s fun r fs1 F1 H1 u l ok1 rx s1=>?_⟩
 split at s1
 ·rename_i b e
  exact ⟨b,truR_ok ok1 rx e,s1 F1 H1 b Le.refl ⟨ok1,rfl⟩⟩
 ·exact s1.elim
theorem DC (ha:FT X Z a ga):FT X Z (.UnaryOp .Not a pos) (C8 ga):=by
 refine pt_imp (pt_not ha) fun σ H Q ⟨F,B,fs,ok,s⟩=>⟨F,B,fs,ok,AM s fun b fs1 F1 H1 b' l q s1=>?_⟩
 obtain ⟨ok1,rfl⟩:=q
 exact s1 F1 H1 _ Le.refl ⟨ok1,rfl⟩
def FW (X:Cx) (Z:Xp) (e:Expr) (f:FS->Out Bool):Prop:=PW X e (tT X.K Z f)
theorem FW.ft (h:FW X Z a ga):FT X Z a ga:=PW.pt h
theorem pw_imp {e:Expr} {t t':TT} (h:PW X e t) (i:∀ σ H Q,t' σ H Q->t σ H Q):PW X e t':=fun whole pins s σ H Q I q=>h whole pins s σ H Q I (i _ _ _ q)
theorem E2 (ha:FT X Z a ga):FW X Z (.BoolOp .Or [a] pos) ga:=pw_or1 ha
theorem Gr (ha:FT X Z a ga) (hb:FW X Z (.BoolOp .Or (b :: rest) pos) gb):FW X Z (.BoolOp .Or (a :: b :: rest) pos) (orT ga gb):=by
 refine pw_imp (pw_or ha hb) fun σ H Q ⟨F,B,fs,ok,s⟩=>⟨F,B,fs,ok,AM s fun b fs1 F1 H1 b' l q s1=>?_⟩
 obtain ⟨ok1,rfl⟩:=q
 cases b' with
 | true =>
  rw [if_pos rfl] at s1 ⊢
  exact s1 F1 H1 _ Le.refl ⟨ok1,rfl⟩
 | false =>
  rw [if_neg (by decide)] at s1 ⊢
  exact ⟨F1,B,fs1,ok1,s1⟩
theorem fe_if (hc:FT X Z c ga) (ha:FE X Z a fa) (hb:FE X Z b fb):FE X Z (.IfExp c a b pos) (ifV ga fa fb):=by
 refine Bn (pe_ifExp hc ha hb) fun σ H Q ⟨F,B,fs,ok,s⟩=>⟨F,B,fs,ok,AM s fun b fs1 F1 H1 b' l q s1=>?_⟩
 obtain ⟨ok1,rfl⟩:=q
 cases b' with
 | true =>
  rw [if_pos rfl] at s1 ⊢
  exact ⟨F1,B,fs1,ok1,s1⟩
 | false =>
  rw [if_neg (by decide)] at s1 ⊢
  exact ⟨F1,B,fs1,ok1,s1⟩
end
section
variable {X:Cx} {Z:Xp} {a b c:Expr} {fa fb fc:FS->Out Rv} {r r':R2} {g g':Rv->Rv->FS->Out Rv} {pos:Pos}
theorem ft_chain {op op':CmpOp} (hg:OpF X.K Z r g) (hg':OpF X.K Z r' g') (ha:FE X Z a fa) (hb:FE X Z b fb) (hc:FE X Z c fc)
  (h:∀ {ta tb tc:TE},PE X a ta->PE X b tb->PE X c tc->PT X (.Compare a [op,op'] [b,c] pos) (tTest (tChain r r' ta tb tc))):FT X Z (.Compare a [op,op'] [b,c] pos) (asB (chain g g' fa fb fc)) :=
 pt_imp (h ha hb hc) fun _ _ _ q=>chain_t hg hg' (asB_tF q)
end
def Ao:FS->Out (List Rv):=fun fs=>.ok [] fs
def Ac (f:FS->Out Rv) (g:FS->Out (List Rv)):FS->Out (List Rv):=fun fs=>(f fs).bnd fun r fs=>(g fs).bind fun rs fs=>.ok (r :: rs) fs
def allT:List Rv->Option (List T)
 | []=>some []
 | .t t :: r=>(allT r).map (t :: ·)
 | _=>none
theorem EG {K:PySem.W.Frag} {F:Wd} {H:Hp} {σ:St}:∀ {rs:List Rv} {vs:List V} {ts:List T},GI K F H σ rs vs->allT rs=some ts->Af K F H ts vs
 | [],_,_,h,e=>by cases e;exact h
 | .t t :: r,_,_,h,e=>by
  simp only [allT,Option.map_eq_some_iff] at e
  obtain ⟨ts,e,rfl⟩:=e
  obtain ⟨v,w,rfl,h1,h2⟩:=h
  simp only [Af]
  exact ⟨v,w,rfl,h1,EG h2 e⟩
 | .nw _ :: r,_,_,h,e=>by simp [allT] at e
 | .rf _ :: r,_,_,h,e=>by simp [allT] at e
def AD (g:List T->FS->Out Rv) (f:FS->Out (List Rv)):FS->Out Rv:=fun fs=>(f fs).bind fun rs fs=>match allT rs with
 | some ts=>if ts.length<=big then g ts fs else .bad
 | none=>.bad
def Bg (ts:List T) (fs:FS):Out Rv:=.ok (.t (.tup ts)) fs
def Bs (ts:List T) (fs:FS):Out Rv:=.ok (.t (.lst ts)) fs
def En (ts:List T) (fs:FS):Out Rv:=.ok (.nw (.lst ts)) fs
section
variable {X:Cx} {Z:Xp} {e:Expr} {es:List Expr} {f:FS->Out Rv} {g:FS->Out (List Rv)} {pos:Pos}
theorem Au:FA X Z [] Ao:=pa_imp FD fun σ H Q ⟨F,B,fs,ok,s⟩=>s F H [] Le.refl ⟨ok,rfl⟩
theorem Ag (ha:FE X Z e f) (hr:FA X Z es g) (hs:starEach (e :: es) X.env=(false,eval e X.env) :: starEach es X.env:=by rfl):FA X Z (e :: es) (Ac f g):=by
 refine pa_imp (Cv ha hr hs) fun σ H Q ⟨F,B,fs,ok,s⟩=>⟨F,B,fs,ok,AQ s fun r fs1 F1 H1 u l ok1 rx s1=>⟨F1,B,fs1,ok1,AM s1 fun rs fs2 F2 H2 us l2 q s2=>?_⟩⟩
 exact s2 F2 H2 (u :: us) Le.refl ⟨q.1,u,us,rfl,rx.le l2,q.2⟩
theorem DD {x1} (h:FA X Z es g):FE X Z (.Tuple es x1 pos) (AD Bg g):=by
 refine Bn (pe_tup h) fun σ H Q ⟨F,B,fs,ok,s⟩=>⟨F,B,fs,ok,AM s fun rs fs1 F1 H1 us l q s1=>?_⟩
 obtain ⟨ok1,q⟩:=q
 split at s1
 ·rename_i ts e
  have r:=EG q e
  split at s1
  ·rename_i hl
   refine ⟨by rw [r.len];exact Nat.le_trans hl DU,fun p hp=>s1 (addF F1 p) (upd H1 p (.tup us)) (.ref p) (Bw ok1 hp) (RR.of (ok1.alloc hp) ?_)⟩
   simp only [BV,AG]
   exact ⟨p,us,rfl,⟨rfl,.inr rfl,AH⟩,r.le (Bw ok1 hp)⟩
  ·exact s1.elim
 ·exact s1.elim
theorem CL (h:FA X Z es g):FE X Z (.List es pos) (AD Bs g):=by
 refine Bn (pe_lst h) fun σ H Q ⟨F,B,fs,ok,s⟩=>⟨F,B,fs,ok,AM s fun rs fs1 F1 H1 us l q s1=>?_⟩
 obtain ⟨ok1,q⟩:=q
 split at s1
 ·rename_i ts e
  have r:=EG q e
  split at s1
  ·rename_i hl
   refine ⟨by rw [r.len];exact Nat.le_trans hl DU,fun p hp=>s1 (addF F1 p) (upd H1 p (.lst us)) (.ref p) (Bw ok1 hp) (RR.of (ok1.alloc hp) ?_)⟩
   simp only [BV,AG]
   exact ⟨p,us,rfl,.inr rfl,AH,r.le (Bw ok1 hp)⟩
  ·exact s1.elim
 ·exact s1.elim
theorem Cr {K:PySem.W.Frag} {F:Wd} {H:Hp} {p:Addr} {ts:List T} {us:List V} (h:H p=some (.lst us)) (r:Af K F H ts us):A5 K F H (.lst ts) (.ref p) [p]:=by
 simp only [A5]
 exact ⟨p,us,rfl,h,r,rfl⟩
theorem Gw (h:FA X Z es g):FE X Z (.List es pos) (AD En g):=by
 refine Bn (pe_lst h) fun σ H Q ⟨F,B,fs,ok,s⟩=>⟨F,B,fs,ok,AM s fun rs fs1 F1 H1 us l q s1=>?_⟩
 obtain ⟨ok1,q⟩:=q
 split at s1
 ·rename_i ts e
  have r:=EG q e
  split at s1
  ·rename_i hl
   exact ⟨by rw [r.len];exact Nat.le_trans hl DU,fun p hp=>s1 F1 (upd H1 p (.lst us)) (.ref p) (Bh ok1 hp) (RR.alloc ok1 hp (Cr AH (r.le (Bh ok1 hp))))⟩
  ·exact s1.elim
 ·exact s1.elim
end
def Di (K:PySem.W.Frag) (Z:Xp) (r:List V->Hp->VK->Prop) (g:List Rv->FS->Out Rv):Prop:=∀ (F:Wd) (B:Nat->Option V) (H:Hp) (σ:St) (fs:FS) (rs:List Rv) (vs:List V) (Q:VK),Okk K F B H fs σ->GI K F H σ rs vs ->
 sat Z B (RR K B σ) F H (g rs fs) Q->r vs H Q
def Ak (g:List Rv->FS->Out Rv) (f:FS->Out (List Rv)):FS->Out Rv:=fun fs=>(f fs).bind fun rs fs=>g rs fs
section
variable {X:Cx} {Z:Xp} {e:Expr} {es:List Expr} {fa:FS->Out (List Rv)} {g:List Rv->FS->Out Rv} {r:List V->Hp->VK->Prop} {pos p:Pos} {x:Str} {id Ty:String}
theorem Gx (hg':Di X.K Z r g) (hc:CB X (.builtin id) r) (hm:X.mg x=none) (hv:bootBuiltins x=some (.builtin id)) (ha:FA X Z (e :: es) fa) (hg:Gl X x:=by rfl) (hn:x≠"__name__":=by decide) (hdb:(x == ("__debug__":Str))=false:=by decide)
  (he:starEach (e :: es) X.env=(false,eval e X.env) :: starEach es X.env:=by rfl) (hpl:(backTo pos (starEach es X.env)).any (·.1)=false:=by rfl):FE X Z (.Call (.Name x p) (e :: es) [] pos) (Ak g fa) :=
 Bn (Ey hc hg hm hv ha hn hdb he hpl) fun σ H Q ⟨F,B,fs,ok,s⟩=>⟨F,B,fs,ok,AM s fun rs fs1 F1 H1 us l q s1=>hg' F1 B H1 σ fs1 rs us Q q.1 q.2 s1⟩
theorem Hs (hg':Di X.K Z r g) (hc:CB X (.type Ty) r) (hm:X.mg x=none) (hv:bootBuiltins x=some (.type Ty)) (ha:FA X Z (e :: es) fa) (hg:Gl X x:=by rfl) (hn:x≠"__name__":=by decide) (hdb:(x == ("__debug__":Str))=false:=by decide)
  (he:starEach (e :: es) X.env=(false,eval e X.env) :: starEach es X.env:=by rfl) (hpl:(backTo pos (starEach es X.env)).any (·.1)=false:=by rfl):FE X Z (.Call (.Name x p) (e :: es) [] pos) (Ak g fa) :=
 Bn (pe_callTy hc hg hm hv ha hn hdb he hpl) fun σ H Q ⟨F,B,fs,ok,s⟩=>⟨F,B,fs,ok,AM s fun rs fs1 F1 H1 us l q s1=>hg' F1 B H1 σ fs1 rs us Q q.1 q.2 s1⟩
end
def gLen:List Rv->FS->Out Rv
 | [x],fs=>match CZ fs x with
  | some ts=>okT (.int ts.length) fs
  | none=>match seqT x with
   | some ts=>okT (.int ts.length) fs
   | none=>.bad
 | _,_=>.bad
def gLenS:List Rv->FS->Out Rv
 | [.t (.str z)],fs=>if z.length<=big then okT (.int z.length) fs else .bad
 | _,_=>.bad
def D5:List Rv->FS->Out Rv
 | [.t (.int i),.t (.int j)],fs=>okT (.int (if j < i then j else i)) fs
 | _,_=>.bad
def gSum:List Rv->FS->Out Rv
 | [x],fs=>match (CZ fs x).bind Cc with
  | some ns=>okT (.int ns.sum) fs
  | none=>.bad
 | _,_=>.bad
def gList:List Rv->FS->Out Rv
 | [x],fs=>match CZ fs x with
  | some ts=>.ok (.nw (.lst ts)) fs
  | none=>match seqT x with
   | some ts=>.ok (.nw (.lst ts)) fs
   | none=>.bad
 | _,_=>.bad
def EY:List Rv->FS->Out Rv
 | [x],fs=>match CZ fs x with
  | some ts=>okT (.tup ts) fs
  | none=>match seqT x with
   | some ts=>okT (.tup ts) fs
   | none=>.bad
 | _,_=>.bad
def keyT:Key->T
 | .inl i=>.int i
 | .inr x=>.str x
def gListD:List Rv->FS->Out Rv
 | [.t (.dK ks _)],fs=>.ok (.nw (.lst (ks.map keyT))) fs
 | _,_=>.bad
section
variable {K:PySem.W.Frag} {Z:Xp}
theorem BQ {F:Wd} {H:Hp} {σ:St} {x:Rv} {vs:List V} (h:GI K F H σ [x] vs):∃ v,vs=[v]/\BV K F H σ x v:=by
 obtain ⟨v,w,rfl,h1,h2⟩:=h
 have:w=[]:=h2
 subst this
 exact ⟨v,rfl,h1⟩
theorem cf_len:Di K Z (fun xs H Q=>∃ p ys,xs=[.ref p]/\(SqL K H p ys∨SqT K H p ys)/\Q (.int ys.length) H) gLen:=by
 intro F B H σ fs rs vs Q ok q s
 unfold gLen at s
 split at s
 ·obtain ⟨v,rfl,qq⟩:=BQ q
  have q:=qq
  split at s
  ·rename_i ts e
   obtain ⟨a,us,rfl,hs,r⟩:=Br ok q e
   exact ⟨a,us,rfl,.inl hs,by rw [r.len];exact s F H _ Le.refl (RR.of ok rfl)⟩
  ·split at s
   ·rename_i ts e
    obtain ⟨a,us,rfl,hs,r⟩:=Ca q e
    exact ⟨a,us,rfl,.inr hs,by rw [r.len];exact s F H _ Le.refl (RR.of ok rfl)⟩
   ·exact s.elim
 ·exact s.elim
theorem cf_lenS:Di K Z (fun xs H Q=>∃ z,xs=[.str z]/\z.length<=sizeLine/\Q (.int z.length) H) gLenS:=by
 intro F B H σ fs rs vs Q ok q s
 unfold gLenS at s
 split at s
 ·rename_i z
  obtain ⟨v,rfl,qq⟩:=BQ q
  have q:=qq
  cases q
  split at s
  ·rename_i hz
   exact ⟨z,rfl,Nat.le_trans hz DU,s F H _ Le.refl (RR.of ok rfl)⟩
  ·exact s.elim
 ·exact s.elim
theorem cf_min2:Di K Z (fun xs H Q=>∃ i j,xs=[.int i,.int j]/\Q (.int (if j < i then j else i)) H) D5:=by
 intro F B H σ fs rs vs Q ok q s
 unfold D5 at s
 split at s
 ·rename_i i j
  obtain ⟨v,w,rfl,q1,v2,w2,rfl,q2,q3⟩:=q
  cases q1
  cases q2
  cases q3
  exact ⟨i,j,rfl,s F H _ Le.refl (RR.of ok rfl)⟩
 ·exact s.elim
theorem cf_sum:Di K Z (fun xs H Q=>∃ (l:Addr) (ns:List Int),xs=[.ref l]/\SqL K H l (ns.map V.int)/\Q (.int ns.sum) H) gSum:=by
 intro F B H σ fs rs vs Q ok q s
 unfold gSum at s
 split at s
 ·obtain ⟨v,rfl,qq⟩:=BQ q
  have q:=qq
  split at s
  ·rename_i ns e
   rw [Option.bind_eq_some_iff] at e
   obtain ⟨ts,e1,e2⟩:=e
   obtain ⟨a,us,rfl,hs,r⟩:=Br ok q e1
   rw [HJ e2] at r
   rw [Af.ints r] at hs
   exact ⟨a,ns,rfl,hs,s F H _ Le.refl (RR.of ok rfl)⟩
  ·exact s.elim
 ·exact s.elim
theorem cf_list:Di K Z (fun xs H Q=>∃ p ys,xs=[.ref p]/\(SqL K H p ys∨SqT K H p ys)/\∀ l,H l=none->Q (.ref l) (upd H l (.lst ys))) gList:=by
 intro F B H σ fs rs vs Q ok q s
 unfold gList at s
 split at s
 ·obtain ⟨v,rfl,qq⟩:=BQ q
  have q:=qq
  split at s
  ·rename_i ts e
   obtain ⟨a,us,rfl,hs,r⟩:=Br ok q e
   exact ⟨a,us,rfl,.inl hs,fun p hp=>s F (upd H p (.lst us)) (.ref p) (Bh ok hp) (RR.alloc ok hp (Cr AH (r.le (Bh ok hp))))⟩
  ·split at s
   ·rename_i ts e
    obtain ⟨a,us,rfl,hs,r⟩:=Ca q e
    exact ⟨a,us,rfl,.inr hs,fun p hp=>s F (upd H p (.lst us)) (.ref p) (Bh ok hp) (RR.alloc ok hp (Cr AH (r.le (Bh ok hp))))⟩
   ·exact s.elim
 ·exact s.elim
theorem D1 {F:Wd} {H:Hp} {ts:List T} {us:List V} {p:Addr} {σ:St} {B:Nat->Option V} {fs:FS} (ok:Okk K F B H fs σ) (hp:H p=none) (r:Af K F H ts us):RR K B σ (addF F p) (upd H p (.tup us)) fs (.t (.tup ts)) (.ref p):=by
 refine RR.of (ok.alloc hp) ?_
 simp only [BV,AG]
 exact ⟨p,us,rfl,⟨rfl,.inr rfl,AH⟩,r.le (Bw ok hp)⟩
theorem rel_newLst {F:Wd} {H:Hp} {ts:List T} {us:List V} {p:Addr} {σ:St} {B:Nat->Option V} {fs:FS} (ok:Okk K F B H fs σ) (hp:H p=none) (r:Af K F H ts us):RR K B σ (addF F p) (upd H p (.lst us)) fs (.t (.lst ts)) (.ref p):=by
 refine RR.of (ok.alloc hp) ?_
 simp only [BV,AG]
 exact ⟨p,us,rfl,.inr rfl,AH,r.le (Bw ok hp)⟩
theorem cf_tuple:Di K Z (fun xs H Q=>∃ p ys,xs=[.ref p]/\((SqL K H p ys/\∀ l,H l=none->Q (.ref l) (upd H l (.tup ys)))∨(SqT K H p ys/\Q (.ref p) H))) EY:=by
 intro F B H σ fs rs vs Q ok q s
 unfold EY at s
 split at s
 ·rename_i x
  obtain ⟨v,rfl,qq⟩:=BQ q
  have q:=qq
  split at s
  ·rename_i ts e
   obtain ⟨a,us,rfl,hs,r⟩:=Br ok q e
   exact ⟨a,us,rfl,.inl ⟨hs,fun p hp=>s _ _ (.ref p) (Bw ok hp) (D1 ok hp r)⟩⟩
  ·split at s
   ·rename_i ts e
    obtain ⟨a,us,rfl,hs,r⟩:=Ca q e
    have ex:x=.t (.tup ts):=by
     unfold seqT at e
     split at e
     ·cases e;rfl
     ·cases e
    rw [ex] at q
    exact ⟨a,us,rfl,.inr ⟨hs,s F H _ Le.refl (RR.of ok q)⟩⟩
   ·exact s.elim
 ·exact s.elim
theorem Gj {F:Wd} {H:Hp}:∀ ks:List Key,Af K F H (ks.map keyT) (ks.map kV)
 | []=>by simp [Af]
 | .inl i :: r=>by
  simp only [List.map_cons,Af]
  exact ⟨_,_,rfl,rfl,Gj r⟩
 | .inr i :: r=>by
  simp only [List.map_cons,Af]
  exact ⟨_,_,rfl,rfl,Gj r⟩
theorem cf_listD:Di K Z (fun xs H Q=>∃ p kvs,xs=[.ref p]/\Rd H p (.dK kvs)/\∀ l,H l=none->Q (.ref l) (upd H l (.lst (kvs.map fun kv=>kV kv.1)))) gListD:=by
 intro F B H σ fs rs vs Q ok q s
 unfold gListD at s
 split at s
 ·rename_i ks ts
  obtain ⟨v,rfl,qq⟩:=BQ q
  have q:=qq
  simp only [BV,AG] at q
  obtain ⟨a,kvs,rfl,f,hd,rfl,r⟩:=q
  refine ⟨a,kvs,rfl,hd,fun p hp=>s F _ (.ref p) (Bh ok hp) (RR.alloc ok hp (Cr AH ?_))⟩
  have e:(kvs.map fun kv=>kV kv.1)=(kvs.map (·.1)).map kV:=by rw [List.map_map];rfl
  rw [e]
  exact Gj _
 ·exact s.elim
end
end FL
namespace FL
open PySem PySem.Spec L2
def MtF (K:PySem.W.Frag) (Z:Xp) (r:V->List V->Hp->VK->Prop) (g:Rv->List Rv->FS->Out Rv):Prop:=∀ (F:Wd) (B:Nat->Option V) (H:Hp) (σ:St) (fs:FS) (x:Rv) (rs:List Rv) (u:V) (vs:List V) (Q:VK),Okk K F B H fs σ->BV K F H σ x u->GI K F H σ rs vs ->
 sat Z B (RR K B σ) F H (g x rs fs) Q->r u vs H Q
def Bk (g:Rv->List Rv->FS->Out Rv) (fo:FS->Out Rv) (fa:FS->Out (List Rv)):FS->Out Rv:=fun fs=>(fo fs).bnd fun x fs=>if (CZ fs x).isSome=true then (fa fs).bind fun rs fs=>g x rs fs else .bad
def El (g:Rv->List Rv->FS->Out Rv) (fo:FS->Out Rv) (fa:FS->Out (List Rv)):FS->Out Rv:=fun fs=>(fo fs).bnd fun x fs=>match x with
 | .t (.str _)=>(fa fs).bind fun rs fs=>g x rs fs
 | _=>.bad
section
variable {X:Cx} {Z:Xp} {o e:Expr} {es:List Expr} {fo:FS->Out Rv} {fa:FS->Out (List Rv)} {g:Rv->List Rv->FS->Out Rv} {r:V->List V->Hp->VK->Prop} {apos cpos:Pos} {name:Str} {id:String}
theorem fe_bm (hg:MtF X.K Z r g) (slot:Slot "list" name id) (hty:typeOf (.builtin id)=pure (.type "method_descriptor")) (hm:MtR X id r) (ho:FE X Z o fo) (ha:FA X Z (e :: es) fa)
  (hbase:attributeBase o name X.env (eval o X.env)=eval o X.env:=by rfl)
  (hfew:((backTo cpos (starEach (e :: es) X.env)).all (fun x=>!x.1) && (backToKw cpos (keywordEach [] X.env)).all (fun x=>x.1.isSome)
   && decide ((e :: es).length+([]:List Keyword).length+(if ([]:List Keyword).isEmpty then 0 else 1) < 30))=true:=by rfl)
  (hline:(apos.endLine == cpos.line)=true:=by rfl) (hs:starEach (e :: es) X.env=(false,eval e X.env) :: starEach es X.env:=by rfl) (hplain:(backTo cpos (starEach es X.env)).any (·.1)=false:=by rfl) :
  FE X Z (.Call (.Attribute o name apos) (e :: es) [] cpos) (Bk g fo fa):=by
 refine Bn (pe_bm PySem.F.plainAttrs_list slot hty hm ho ha hbase hfew hline hs hplain) fun σ H Q ⟨F,B,fs,ok,s⟩=>⟨F,B,fs,ok,AQ s fun x fs1 F1 H1 u l ok1 rx s1=>?_⟩
 split at s1
 ·rename_i he
  obtain ⟨ts,ets⟩:=Option.isSome_iff_exists.mp he
  obtain ⟨a,vs,rfl,hs,q⟩:=Br ok1 rx ets
  exact ⟨.inl ⟨rfl,vs,hs⟩,F1,B,fs1,ok1,AM s1 fun rs fs2 F2 H2 us l2 q2 s2=>hg F2 B H2 σ fs2 x rs _ us Q q2.1 (rx.le l2) q2.2 s2⟩
 ·exact s1.elim
theorem fe_bm0 (hg:MtF X.K Z r g) (slot:Slot "list" name id) (hty:typeOf (.builtin id)=pure (.type "method_descriptor")) (hm:MtR X id r) (ho:FE X Z o fo)
  (hbase:attributeBase o name X.env (eval o X.env)=eval o X.env:=by rfl) (hline:(apos.endLine == cpos.line)=true:=by rfl):FE X Z (.Call (.Attribute o name apos) [] [] cpos) (Bk g fo Ao):=by
 refine Bn (pe_bm0 PySem.F.plainAttrs_list slot hty hm ho hbase hline) fun σ H Q ⟨F,B,fs,ok,s⟩=>⟨F,B,fs,ok,AQ s fun x fs1 F1 H1 u l ok1 rx s1=>?_⟩
 split at s1
 ·rename_i he
  obtain ⟨ts,ets⟩:=Option.isSome_iff_exists.mp he
  obtain ⟨a,vs,rfl,hs,q⟩:=Br ok1 rx ets
  exact ⟨.inl ⟨rfl,vs,hs⟩,hg F1 B H1 σ fs1 x [] _ [] Q ok1 rx rfl s1⟩
 ·exact s1.elim
theorem fe_bmS (hg:MtF X.K Z r g) (slot:Slot "str" name id) (hty:typeOf (.builtin id)=pure (.type "method_descriptor")) (hm:MtR X id r) (ho:FE X Z o fo) (ha:FA X Z (e :: es) fa)
  (hbase:attributeBase o name X.env (eval o X.env)=eval o X.env:=by rfl)
  (hfew:((backTo cpos (starEach (e :: es) X.env)).all (fun x=>!x.1) && (backToKw cpos (keywordEach [] X.env)).all (fun x=>x.1.isSome)
   && decide ((e :: es).length+([]:List Keyword).length+(if ([]:List Keyword).isEmpty then 0 else 1) < 30))=true:=by rfl)
  (hline:(apos.endLine == cpos.line)=true:=by rfl) (hs:starEach (e :: es) X.env=(false,eval e X.env) :: starEach es X.env:=by rfl) (hplain:(backTo cpos (starEach es X.env)).any (·.1)=false:=by rfl) :
  FE X Z (.Call (.Attribute o name apos) (e :: es) [] cpos) (El g fo fa):=by
 refine Bn (pe_bm PySem.F.plainAttrs_str slot hty hm ho ha hbase hfew hline hs hplain) fun σ H Q ⟨F,B,fs,ok,s⟩=>⟨F,B,fs,ok,AQ s fun x fs1 F1 H1 u l ok1 rx s1=>?_⟩
 split at s1
 ·have rx2:=rx
  cases rx
  exact ⟨rfl,F1,B,fs1,ok1,AM s1 fun rs fs2 F2 H2 us l2 q2 s2=>hg F2 B H2 σ fs2 _ rs _ us Q q2.1 (BV.le rx2 l2) q2.2 s2⟩
 ·exact s1.elim
end
def D6:Rv->List Rv->FS->Out Rv
 | .rf i,[.t t],fs=>match A9 fs i with
  | some (.lst ts)=>if ts.length < big then .ok (.t .non) (putAt fs i (.lst (ts++[t]))) else .bad
  | _=>.bad
 | _,_,_=>.bad
def gPop:Rv->List Rv->FS->Out Rv
 | .rf i,[],fs=>match A9 fs i with
  | some (.lst ts)=>match ts.getLast? with
   | some t=>.ok (.t t) (putAt fs i (.lst ts.dropLast))
   | none=>.bad
  | _=>.bad
 | _,_,_=>.bad
def E1:Rv->List Rv->FS->Out Rv
 | .t (.str z),[x],fs=>match (CZ fs x).bind Cb with
  | some ys=>if (ys.map (·.length)).sum+ys.length * z.length<=big then okT (.str (Txt.join z ys)) fs else .bad
  | none=>.bad
 | _,_,_=>.bad
section
variable {K:PySem.W.Frag} {Z:Xp} {B:Nat->Option V} {F:Wd} {H:Hp} {σ:St} {fs:FS} {i:Nat} {u:V} {ts:List T}
theorem Af.last {vs:List V} {t:T} (r:Af K F H ts vs) (e:ts.getLast?=some t):∃ z,vs=vs.dropLast++[z]/\AG K F H t z/\Af K F H ts.dropLast vs.dropLast:=by
 have hl:=r.len
 rw [List.getLast?_eq_getElem?] at e
 obtain ⟨z,ez,rz⟩:=r.at e
 have hpos:0 < ts.length:=by
  have:=(List.getElem?_eq_some_iff.mp e).1
  omega
 refine ⟨z,?_,rz,?_⟩
 ·have hne:vs≠[]:=by intro q;rw [q] at hl;simp at hl;omega
  have h1:=(List.dropLast_concat_getLast hne).symm
  have h2:vs.getLast hne=z:=by
   rw [List.getLast_eq_getElem]
   have:=(List.getElem?_eq_some_iff.mp ez)
   obtain ⟨h3,h4⟩:=this
   rw [<- h4]
   congr 1
   rw [hl]
  rw [h2] at h1
  exact h1
 ·rw [List.dropLast_eq_take,List.dropLast_eq_take,hl]
  exact r.take _
theorem Okk.list (h:Okk K F B H fs σ) (r:σ[i]?=some (some u)) (e:A9 fs i=some (.lst ts)):∃ a vs,u=.ref a/\H a=some (.lst vs)/\Af K F H ts vs /\
  ∀ ts' vs',Af K F H ts' vs'->Okk K F B (upd H a (.lst vs')) (putAt fs i (.lst ts')) σ/\Le F H F (upd H a (.lst vs')):=by
 obtain ⟨v,L2,e1,q,nf,_,k⟩:=h.own e
 rw [e1] at r
 have e3:v=u:=by simpa using r
 subst e3
 simp only [A5] at q
 obtain ⟨a,vs,rfl,hs,q,rfl⟩:=q
 refine ⟨a,vs,rfl,hs,q,fun ts' vs' q'=>?_⟩
 have l:Le F H F (upd H a (.lst vs')):=⟨fun b f=>⟨f,Ay fun z=>(nf a (by simp)).1 (z▸f)⟩,fun b f=>⟨f,Ay fun z=>(nf a (by simp)).2 (z▸f)⟩⟩
 exact k _ _ (fun b hb _=>Ay (by simpa using hb)) (Cr AH (q'.le l))
theorem Hj:MtF K Z rAppend D6:=by
 intro F B H σ fs x rs u vs Q ok rx q s
 unfold D6 at s
 split at s
 ·rename_i i t
  obtain ⟨v,rfl,qq⟩:=BQ q
  have q:=qq
  split at s
  ·rename_i ts e
   split at s
   ·rename_i hl
    obtain ⟨a,us,rfl,hs,r,k⟩:=ok.list rx e
    obtain ⟨ok',l⟩:=k (ts++[t]) (us++[v]) (r.app (Af.one q))
    exact ⟨a,us,v,rfl,rfl,hs,by rw [r.len];exact Nat.lt_trans hl big_lt,s F _ _ l (RR.of ok' rfl)⟩
   ·exact s.elim
  ·exact s.elim
 ·exact s.elim
theorem mf_pop:MtF K Z (fun x vs H Q=>∃ l e z,x=.ref l/\vs=[]/\H l=some (.lst (e++[z]))/\Q z (upd H l (.lst e))) gPop:=by
 intro F B H σ fs x rs u vs Q ok rx q s
 unfold gPop at s
 split at s
 ·have:vs=[]:=q
  subst this
  split at s
  ·rename_i ts e
   split at s
   ·rename_i t et
    obtain ⟨a,us,rfl,hs,r,k⟩:=ok.list rx e
    obtain ⟨z,ez,rz,rd⟩:=r.last et
    obtain ⟨ok',l⟩:=k _ _ rd
    refine ⟨a,us.dropLast,z,rfl,rfl,by rw [<- ez];exact hs,s F _ z l (RR.of ok' (AG.le l rz))⟩
   ·exact s.elim
  ·exact s.elim
 ·exact s.elim
theorem mf_join:MtF K Z (fun x xs H Q=>∃ (z:Str) (l:Addr) (ys:List Str),x=.str z/\xs=[.ref l]/\SqL K H l (ys.map V.str)/\(ys.map (·.length)).sum+ys.length * z.length<=16777216/\Q (.str (Txt.join z ys)) H) E1:=by
 intro F B H σ fs x rs u vs Q ok rx q s
 unfold E1 at s
 split at s
 ·rename_i z x
  obtain ⟨v,rfl,qq⟩:=BQ q
  have q:=qq
  cases rx
  split at s
  ·rename_i ys e
   rw [Option.bind_eq_some_iff] at e
   obtain ⟨ts,e1,e2⟩:=e
   split at s
   ·rename_i hl
    obtain ⟨a,us,rfl,hs,r⟩:=Br ok q e1
    rw [HI e2] at r
    rw [Af.strs r] at hs
    exact ⟨z,a,ys,rfl,rfl,hs,Nat.le_trans hl (by decide),s F H _ Le.refl (RR.of ok rfl)⟩
   ·exact s.elim
  ·exact s.elim
 ·exact s.elim
end
def tKey:T->Option Key
 | .int i=>some (.inl i)
 | .str x=>some (.inr x)
 | _=>none
def HR:List T->Option (List Key)
 | []=>some []
 | t :: r=>(tKey t).bind fun k=>(HR r).map (k :: ·)
theorem FZ {K:PySem.W.Frag} {F:Wd} {H:Hp} {t:T} {u:V} {k:Key} (e:tKey t=some k) (r:AG K F H t u):u=kV k:=by
 unfold tKey at e
 split at e
 ·cases e;exact r
 ·cases e;exact r
 ·cases e
theorem EL {K:PySem.W.Frag} {F:Wd} {H:Hp}:∀ {ts:List T} {us:List V} {ks:List Key},HR ts=some ks->Af K F H ts us->us=ks.map kV
 | [],_,_,e,r=>by cases e;exact r
 | t :: ts,_,_,e,r=>by
  simp only [HR,Option.bind_eq_some_iff,Option.map_eq_some_iff] at e
  obtain ⟨k,e1,ks,e2,rfl⟩:=e
  simp only [Af] at r
  obtain ⟨v,w,rfl,r1,r2⟩:=r
  rw [List.map_cons,EL e2 r2,FZ e1 r1]
def HP {κ:Type} [DecidableEq κ]:List κ->List T->κ->Option T
 | k :: ks,t :: ts,j=>if k=j then some t else HP ks ts j
 | _,_,_=>none
def putT {κ:Type} [DecidableEq κ] (ks:List κ) (ts:List T) (j:κ) (v:T):List κ×List T :=
 if (ks.any fun k=>decide (k=j))=true then (ks,List.zipWith (fun k t=>if k=j then v else t) ks ts) else (ks++[j],ts++[v])
section
variable {K:PySem.W.Frag} {F:Wd} {H:Hp} {κ:Type} [DecidableEq κ]
theorem Et:∀ {kvs:List (κ×V)} {ts:List T} {j:κ},Af K F H ts (kvs.map (·.2))->(HP (kvs.map (·.1)) ts j=none/\valV kvs j=none)∨∃ t v,HP (kvs.map (·.1)) ts j=some t/\valV kvs j=some v/\AG K F H t v
 | [],ts,j,r=>by
  have h:=r.len
  cases ts with
  | nil=>exact .inl ⟨rfl,rfl⟩
  | cons t ts=>simp at h
 | (k,v) :: kvs,ts,j,r=>by
  cases ts with
  | nil =>
   have h:=r.len
   simp at h
  | cons t ts =>
   simp only [List.map_cons,Af] at r
   obtain ⟨v',w,e,r1,r2⟩:=r
   cases e
   by_cases hk:k=j
   ·refine .inr ⟨t,v,?_,Er hk,r1⟩
    simp only [List.map_cons,HP]
    rw [if_pos hk]
   ·have e1:HP (((k,v) :: kvs).map (·.1)) (t :: ts) j=HP (kvs.map (·.1)) ts j:=by
     simp only [List.map_cons,HP]
     rw [if_neg hk]
    rw [e1,Es (p:=(k,v)) hk]
    exact Et r2
theorem zip_rel {j:κ} {t:T} {w:V} (q:AG K F H t w):∀ {kvs:List (κ×V)} {ts:List T},Af K F H ts (kvs.map (·.2)) ->
  Af K F H (List.zipWith (fun k t'=>if k=j then t else t') (kvs.map (·.1)) ts) ((kvs.map fun kv=>if kv.1=j then (kv.1,w) else kv).map (·.2))
 | [],ts,r=>by
  have h:=r.len
  cases ts with
  | cons t ts=>simp at h
  | nil=>exact rfl
 | (k,v) :: kvs,ts,r=>by
  cases ts with
  | nil =>
   have h:=r.len
   simp at h
  | cons t' ts =>
   simp only [List.map_cons,Af] at r
   obtain ⟨v',w',e,r1,r2⟩:=r
   cases e
   have ih:=zip_rel q (j:=j) r2
   simp only [List.map_cons,List.zipWith_cons_cons,Af]
   by_cases hk:k=j
   ·rw [if_pos hk,if_pos hk]
    exact ⟨w,_,rfl,q,ih⟩
   ·rw [if_neg hk,if_neg hk]
    exact ⟨v,_,rfl,r1,ih⟩
theorem putT_rel {j:κ} {t:T} {w:V} (q:AG K F H t w) {kvs:List (κ×V)} {ts:List T} (r:Af K F H ts (kvs.map (·.2))) :
  (putK kvs j w).map (·.1)=(putT (kvs.map (·.1)) ts j t).1/\Af K F H (putT (kvs.map (·.1)) ts j t).2 ((putK kvs j w).map (·.2)):=by
 have e:((kvs.map (·.1)).any fun k=>decide (k=j))=(kvs.any fun kv=>decide (kv.1=j)):=by rw [List.any_map];rfl
 unfold putK putT
 rw [e]
 by_cases h:(kvs.any fun kv=>decide (kv.1=j))=true
 ·rw [if_pos h,if_pos h]
  refine ⟨?_,zip_rel q r⟩
  rw [List.map_map]
  refine List.map_congr_left fun p hp=>?_
  show (if p.1=j then (p.1,w) else p).1=p.1
  split <;> rfl
 ·rw [if_neg h,if_neg h]
  refine ⟨by rw [List.map_append];rfl,?_⟩
  rw [List.map_append]
  exact r.app (Af.one q)
end
def dget (fs:FS):Rv->T->Option (Option T)
 | .t (.dK ks ts),y=>(tKey y).map fun k=>HP ks ts k
 | .t (.dF ks ts),y=>(tKey y).map fun k=>HP ks ts k
 | .t (.dT ks ts),.tup y=>(HR y).map fun k=>HP ks ts k
 | .rf i,y=>match A9 fs i with
  | some (.dK ks ts)=>(tKey y).map fun k=>HP ks ts k
  | some (.dT ks ts)=>match y with
   | .tup y=>(HR y).map fun k=>HP ks ts k
   | _=>none
  | _=>none
 | _,_=>none
section
variable {K:PySem.W.Frag} {B:Nat->Option V} {F:Wd} {H:Hp} {σ:St} {fs:FS} {x:Rv} {y:T} {u w:V}
theorem dget_ok {o:Option T} (h:Okk K F B H fs σ) (rx:BV K F H σ x u) (ry:AG K F H y w) (e:dget fs x y=some o) :
  ∃ a o',u=.ref a/\DGet H a w o'/\((o=none/\o'=none)∨∃ t v,o=some t/\o'=some v/\AG K F H t v):=by
 have key:∀ {a:Addr} {kvs:List (Key×V)} {ts:List T},Rd H a (.dK kvs)->Af K F H ts (kvs.map (·.2))->(tKey y).map (fun k=>HP (kvs.map (·.1)) ts k)=some o ->
   ∃ o',DGet H a w o'/\((o=none/\o'=none)∨∃ t v,o=some t/\o'=some v/\AG K F H t v):=by
  intro a kvs ts hd r e
  rw [Option.map_eq_some_iff] at e
  obtain ⟨k,ek,eo⟩:=e
  have:=FZ ek ry
  subst this
  refine ⟨_,.inl ⟨kvs,k,hd,rfl,rfl⟩,?_⟩
  rcases Et (j:=k) r with ⟨h1,h2⟩ | ⟨t,v,h1,h2,h3⟩
  ·exact .inl ⟨eo.symm.trans h1,h2⟩
  ·exact .inr ⟨t,v,eo.symm.trans h1,h2,h3⟩
 have keyT:∀ {a:Addr} {kvs:List (List Key×V)} {ts ys:List T},H a=some (.dT kvs)->Af K F H ts (kvs.map (·.2))->y=.tup ys->(HR ys).map (fun k=>HP (kvs.map (·.1)) ts k)=some o ->
   ∃ o',DGet H a w o'/\((o=none/\o'=none)∨∃ t v,o=some t/\o'=some v/\AG K F H t v):=by
  intro a kvs ts ys hd r ey e
  rw [Option.map_eq_some_iff] at e
  obtain ⟨k,ek,eo⟩:=e
  subst ey
  simp only [AG] at ry
  obtain ⟨b,vs,rfl,hb,rb⟩:=ry
  have:=EL ek rb
  subst this
  refine ⟨_,DGet.t hd hb.2.2,?_⟩
  rcases Et (j:=k) r with ⟨h1,h2⟩ | ⟨t,v,h1,h2,h3⟩
  ·exact .inl ⟨eo.symm.trans h1,h2⟩
  ·exact .inr ⟨t,v,eo.symm.trans h1,h2,h3⟩
 unfold dget at e
 split at e
 ·simp only [BV,AG] at rx
  obtain ⟨a,kvs,rfl,f,hd,rfl,r⟩:=rx
  obtain ⟨o',h1,h2⟩:=key hd r e
  exact ⟨a,o',rfl,h1,h2⟩
 ·simp only [BV,AG] at rx
  obtain ⟨a,kvs,rfl,f,⟨ob,hd⟩,rfl,r⟩:=rx
  obtain ⟨o',h1,h2⟩:=key (.inr ⟨ob,hd⟩) r e
  exact ⟨a,o',rfl,h1,h2⟩
 ·simp only [BV,AG] at rx
  obtain ⟨a,kvs,rfl,f,hd,rfl,r⟩:=rx
  obtain ⟨o',h1,h2⟩:=keyT hd r rfl e
  exact ⟨a,o',rfl,h1,h2⟩
 ·rename_i y' i
  have e2:σ[i]?=some (some u):=rx
  split at e
  ·rename_i eo
   obtain ⟨v,L2,e1,q,_⟩:=h.own eo
   rw [e1] at e2
   have e3:v=u:=by simpa using e2
   subst e3
   simp only [A5] at q
   obtain ⟨a,kvs,rfl,hd,rfl,r,_⟩:=q
   obtain ⟨o',h1,h2⟩:=key (.inl hd) r e
   exact ⟨a,o',rfl,h1,h2⟩
  ·rename_i eo
   split at e
   ·obtain ⟨v,L2,e1,q,_⟩:=h.own eo
    rw [e1] at e2
    have e3:v=u:=by simpa using e2
    subst e3
    simp only [A5] at q
    obtain ⟨a,kvs,rfl,hd,rfl,r,_⟩:=q
    obtain ⟨o',h1,h2⟩:=keyT hd r rfl e
    exact ⟨a,o',rfl,h1,h2⟩
   ·cases e
  ·cases e
 ·cases e
end
def gDGet:Rv->Rv->FS->Out Rv
 | x,.t y,fs=>match dget fs x y with
  | some (some t)=>okT t fs
  | _=>.bad
 | _,_,_=>.bad
section
variable {X:Cx} {Z:Xp} {o i:Expr} {fo fi:FS->Out Rv} {pos:Pos}
end
section
variable {X:Cx} {Z:Xp} {o:Expr} {fo:FS->Out Rv} {pos:Pos} {C:Addr} {f:Str}
end
end FL
namespace FL
open PySem PySem.Spec L2
def Fy (K:PySem.W.Frag) (Z:Xp) (B:Nat->Option V) (F:Wd) (H:Hp) (o:SO) (D:Ends):Prop:=match o with
 | .nx fs=>∀ F' H' σ,Le F H F' H'->Okk K F' B H' fs σ->D.nx σ H'
 | .ret r fs=>∀ F' H' σ u,Le F H F' H'->RR K B σ F' H' fs r u->D.rt u H'
 | .brk fs=>∀ F' H' σ,Le F H F' H'->Okk K F' B H' fs σ->D.bk σ H'
 | .cnt fs=>∀ F' H' σ,Le F H F' H'->Okk K F' B H' fs σ->D.ct σ H'
 | .exc c fs=>Z.p F B H c fs
 | .bad=>False
def tSt (K:PySem.W.Frag) (Z:Xp) (g:FS->SO):TS:=fun D σ H=>∃ F B fs,Okk K F B H fs σ/\Fy K Z B F H (g fs) D
def GS (X:Cx) (Z:Xp) (st:Stmt) (g:FS->SO):Prop:=PS X st (tSt X.K Z g)
def GSs (X:Cx) (Z:Xp) (sts:List Stmt) (g:FS->SO):Prop:=PSs X sts (tSt X.K Z g)
theorem Fy.le {K:PySem.W.Frag} {Z:Xp} {B:Nat->Option V} {F F':Wd} {H H':Hp} {o:SO} {D:Ends} (h:Fy K Z B F H o D) (l:Le F H F' H'):Fy K Z B F' H' o D:=by
 cases o with
 | nx fs=>exact fun F2 H2 σ l2 k=>h F2 H2 σ (l.trans l2) k
 | ret r fs=>exact fun F2 H2 σ u l2 k=>h F2 H2 σ u (l.trans l2) k
 | brk fs=>exact fun F2 H2 σ l2 k=>h F2 H2 σ (l.trans l2) k
 | cnt fs=>exact fun F2 H2 σ l2 k=>h F2 H2 σ (l.trans l2) k
 | exc c fs=>exact Z.mono h l
 | bad=>exact h
def nxS:FS->SO:=fun fs=>.nx fs
def AW (g h:FS->SO):FS->SO:=fun fs=>match g fs with
 | .nx fs=>h fs
 | o=>o
def SO.of {α:Type} (o:Out α) (k:α->FS->SO):SO:=match o with
 | .ok a fs=>k a fs
 | .exc c fs=>.exc c fs
 | .bad=>.bad
theorem C7 {K:PySem.W.Frag} {Z:Xp} {B:Nat->Option V} {F:Wd} {H:Hp} {α β:Type} {R:Wd->Hp->FS->α->β->Prop} {o:Out α} {k:α->FS->SO} {D:Ends} {Q:β->Hp->Prop} (h:Fy K Z B F H (SO.of o k) D)
  (hk:∀ a fs F' H' b,Le F H F' H'->R F' H' fs a b->Fy K Z B F' H' (k a fs) D->Q b H'):sat Z B R F H o Q:=by
 cases o with
 | ok a fs=>exact fun F2 H2 b l r=>hk a fs F2 H2 b l r (Fy.le h l)
 | exc c fs=>exact h
 | bad=>exact h
def putSl (i:Nat) (r:Rv) (fs:FS):Option FS:=match r with
 | .t t=>some (fs.set i (some (.val t)))
 | .nw o=>some (fs.set i (some (.own o)))
 | .rf _=>none
def HL (i:Nat) (r:Rv) (fs:FS):Option FS:=match fs[i]? with
 | none=>none
 | some (some (.bor _))=>none
 | some _=>putSl i r fs
theorem HU {K:PySem.W.Frag} {B:Nat->Option V} {σ:St} {F:Wd} {H:Hp} {fs fs':FS} {r:Rv} {u:V} {i:Nat} (h:RR K B σ F H fs r u) (e:HL i r fs=some fs'):Okk K F B H fs' (σ.set i (some u)):=by
 obtain ⟨L,L',ok,q,nd,nf⟩:=h
 have key:∀ s:Option Sl,fs[i]?=some s->(∀ o,s≠some (.bor o))->putSl i r fs=some fs'->Okk K F B H fs' (σ.set i (some u)):=by
  intro s es hb e
  obtain ⟨v,L1,L2,L3,e1,rfl,h1,h2⟩:=ok.sl.pick es
  have dis:∀ a∈L',a∉L1++L3:=fun a m m2=>(List.nodup_append.mp nd).2.2 a (by
   rcases List.mem_append.mp m2 with m2 | m2
   ·simp [m2]
   ·simp [m2]) a m rfl
  have nf3:∀ a∈L1++(L'++L3),¬ F a/\¬ F.p a:=fun a m=>by
   rcases List.mem_append.mp m with m | m
   ·exact ⟨ok.nf a (by simp [m]),ok.pl a (by simp [m])⟩
   ·rcases List.mem_append.mp m with m | m
    ·exact nf a m
    ·exact ⟨ok.nf a (by simp [m]),ok.pl a (by simp [m])⟩
  cases r with
  | t t =>
   cases e
   obtain ⟨rfl,q⟩:=q
   refine ⟨L1++([]++L3),h2 F H (some (.val t)) (some u) [] Le.refl (fun _ _=>rfl) ⟨u,rfl,q,rfl⟩,Dv ok.nd List.nodup_nil (fun _ m=>nomatch m),fun a m=>(nf3 a m).1,ok.fd,?_,ok.pd,ok.pf,fun a m=>(nf3 a m).2⟩
   exact Fm.put ok.bo (fun o eo=>by cases eo) ok.sl.len
  | nw o =>
   cases e
   refine ⟨L1++(L'++L3),h2 F H (some (.own o)) (some u) L' Le.refl (fun _ _=>rfl) ⟨u,rfl,q⟩,Dv ok.nd (List.nodup_append.mp nd).2.1 dis,fun a m=>(nf3 a m).1,ok.fd,?_,ok.pd,ok.pf,fun a m=>(nf3 a m).2⟩
   exact Fm.put ok.bo (fun o eo=>by cases eo) ok.sl.len
  | rf j=>cases e
 unfold HL at e
 split at e
 ·cases e
 ·cases e
 ·rename_i s hb es
  exact key s es (fun o z=>hb o z) e
def AK (i:Nat) (f:FS->Out Rv):FS->SO:=fun fs=>SO.of (f fs) fun r fs=>match HL i r fs with
 | some fs=>.nx fs
 | none=>.bad
def BE (f:FS->Out Rv):FS->SO:=fun fs=>SO.of (f fs) fun _ fs=>.nx fs
def retS (f:FS->Out Rv):FS->SO:=fun fs=>SO.of (f fs) fun r fs=>.ret r fs
def ifS (c:FS->Out Bool) (g h:FS->SO):FS->SO:=fun fs=>SO.of (c fs) fun b fs=>if b=true then g fs else h fs
section
variable {X:Cx} {Z:Xp} {st:Stmt} {rest a b:List Stmt} {e c:Expr} {f:FS->Out Rv} {fc:FS->Out Bool} {g h:FS->SO} {pos:Pos}
theorem BG:GSs X Z [] nxS:=pss_imp pss_nil fun D σ H ⟨F,B,fs,ok,s⟩=>s F H σ Le.refl ok
theorem Al (h1:GS X Z st g) (h2:GSs X Z rest h):GSs X Z (st :: rest) (AW g h):=by
 refine pss_imp (pss_cons h1 h2) fun D σ H ⟨F,B,fs,ok,s⟩=>⟨F,B,fs,ok,?_⟩
 unfold AW at s
 cases e:g fs with
 | nx fs1 =>
  rw [e] at s
  exact fun F1 H1 σ1 l k=>⟨F1,B,fs1,k,Fy.le s l⟩
 | ret r fs1=>rw [e] at s;exact s
 | brk fs1=>rw [e] at s;exact s
 | cnt fs1=>rw [e] at s;exact s
 | exc c fs1=>rw [e] at s;exact s
 | bad=>rw [e] at s;exact s
theorem Av (h1:GS X Z st g):GSs X Z [st] g:=pss_one h1
theorem DF (he:FE X Z e f) (hs:swapsWith e none pos.line X.env=pure false:=by rfl):GS X Z (.Expr e pos) (BE f) :=
 DN (ps_expr he hs) fun D σ H ⟨F,B,fs,ok,s⟩=>⟨F,B,fs,ok,C7 s fun r fs1 F1 H1 u l q s1=>s1 F1 H1 σ Le.refl q.ok⟩
theorem A2 (he:FE X Z e f):GS X Z (.Return (some e) pos) (retS f) :=
 DN (ps_ret he) fun D σ H ⟨F,B,fs,ok,s⟩=>⟨F,B,fs,ok,C7 s fun r fs1 F1 H1 u l q s1=>s1 F1 H1 σ u Le.refl q⟩
theorem Dy (hc:FT X Z c fc) (ha:GSs X Z a g) (hb:GSs X Z b h):GS X Z (.If c a b pos) (ifS fc g h):=by
 refine DN (ps_if hc ha hb) fun D σ H ⟨F,B,fs,ok,s⟩=>⟨F,B,fs,ok,C7 s fun r fs1 F1 H1 u l q s1=>?_⟩
 obtain ⟨ok1,rfl⟩:=q
 cases u with
 | true =>
  rw [if_pos rfl] at s1 ⊢
  exact ⟨F1,B,fs1,ok1,s1⟩
 | false =>
  rw [if_neg (by decide)] at s1 ⊢
  exact ⟨F1,B,fs1,ok1,s1⟩
theorem set_t {i:Nat} {D:Ends} {σ:St} {H:Hp} {K:PySem.W.Frag} (s:tSt K Z (AK i f) D σ H):tAsg (tF K Z f) (gName i) D σ H:=by
 obtain ⟨F,B,fs,ok,s⟩:=s
 refine ⟨F,B,fs,ok,C7 s fun r fs1 F1 H1 u l q s1=>?_⟩
 split at s1
 ·rename_i fs2 e2
  exact s1 F1 H1 _ Le.refl (HU q e2)
 ·exact s1.elim
theorem AB (i:Nat) {x:Str} {pos':Pos} (hN:X.N.Nodup) (hx:Loc X.env.scope x) (he:FE X Z e f) (hi:X.N[i]?=some x:=by rfl) (hs:swapsWith e (some (.Name x pos')) pos.line X.env=pure false:=by rfl) (hf:X.fn x=true∨X.env.scope.names.lookup x=some .local:=by first | exact .inl rfl | exact .inr rfl | assumption) :
  GS X Z (.Assign [.Name x pos'] e pos) (AK i f) :=
 DN (ps_set hN hi hx he hs hf) fun _ _ _ s=>set_t s
end
def tG (K:PySem.W.Frag) (gt:T->FS->Option FS):TG:=fun v σ H Q=>∃ F B fs t,Okk K F B H fs σ/\AG K F H t v/\match gt t fs with
 | some fs'=>∀ F' H' σ',Le F H F' H'->Okk K F' B H' fs' σ'->Q σ' H'
 | none=>False
def tGs (K:PySem.W.Frag) (gt:List T->FS->Option FS):TGs:=fun vs σ H Q=>∃ F B fs ts,Okk K F B H fs σ/\Af K F H ts vs/\match gt ts fs with
 | some fs'=>∀ F' H' σ',Le F H F' H'->Okk K F' B H' fs' σ'->Q σ' H'
 | none=>False
def GT (X:Cx) (tg:Expr) (gt:T->FS->Option FS):Prop:=PG X tg (tG X.K gt)
def GTs (X:Cx) (tgs:List Expr) (gt:List T->FS->Option FS):Prop:=PGs X tgs (tGs X.K gt)
theorem pg_imp {X:Cx} {e:Expr} {t t':TG} (h:PG X e t) (i:∀ v σ H Q,t' v σ H Q->t v σ H Q):PG X e t':=fun pins s σ H v u Q I r q=>h pins s σ H v u Q I r (i _ _ _ _ q)
theorem pgs_imp {X:Cx} {e:List Expr} {t t':TGs} (h:PGs X e t) (i:∀ v σ H Q,t' v σ H Q->t v σ H Q):PGs X e t':=fun pins s σ H v u Q I r q=>h pins s σ H v u Q I r (i _ _ _ _ q)
def tgN (i:Nat):T->FS->Option FS:=fun t fs=>HL i (.t t) fs
def DL:List T->FS->Option FS
 | [],fs=>some fs
 | _,_=>none
def AS (g:T->FS->Option FS) (h:List T->FS->Option FS):List T->FS->Option FS
 | t :: ts,fs=>(g t fs).bind fun fs=>h ts fs
 | _,_=>none
def EK (n:Nat) (h:List T->FS->Option FS):T->FS->Option FS
 | .tup ts,fs=>if ts.length=n then h ts fs else none
 | _,_=>none
section
variable {X:Cx} {e:Expr} {es:List Expr} {g:T->FS->Option FS} {h:List T->FS->Option FS} {pos:Pos}
theorem Bl (i:Nat) {x:Str} (hN:X.N.Nodup) (hx:Loc X.env.scope x) (hi:X.N[i]?=some x:=by rfl) (hf:X.fn x=true∨X.env.scope.names.lookup x=some .local:=by first | exact .inl rfl | exact .inr rfl | assumption):GT X (.Name x pos) (tgN i):=by
 refine pg_imp (pg_name hN hi hx hf) fun v σ H Q ⟨F,B,fs,t,ok,r,s⟩=>?_
 split at s
 ·rename_i fs' e
  exact s F H _ Le.refl (HU (RR.of (r:=.t t) ok r) e)
 ·exact s.elim
theorem gts_nil:GTs X [] DL:=by
 refine pgs_imp pgs_nil fun v σ H Q ⟨F,B,fs,ts,ok,r,s⟩=>?_
 cases ts with
 | nil=>exact ⟨r,s F H σ Le.refl ok⟩
 | cons t ts=>exact s.elim
theorem DP (h1:GT X e g) (h2:GTs X es h)
  (hc:∀ {t:TG} {u:TGs},PG X e t->PGs X es u->PGs X (e :: es) (gCons t u)):GTs X (e :: es) (AS g h):=by
 refine pgs_imp (hc h1 h2) fun v σ H Q ⟨F,B,fs,ts,ok,r,s⟩=>?_
 cases ts with
 | nil=>exact s.elim
 | cons t ts =>
  simp only [Af] at r
  obtain ⟨v',w,rfl,r1,r2⟩:=r
  refine ⟨v',w,rfl,F,B,fs,t,ok,r1,?_⟩
  simp only [AS] at s
  cases e1:g t fs with
  | none=>rw [e1] at s;exact s.elim
  | some fs1 =>
   rw [e1] at s
   exact fun F1 H1 σ1 l k=>⟨F1,B,fs1,ts,k,r2.le l,by
    simp only [Option.bind_some] at s
    split at s
    ·exact fun F2 H2 σ2 l2 k2=>s F2 H2 σ2 (l.trans l2) k2
    ·exact s.elim⟩
theorem gt_tup {k n:Nat} (hc:X.calm=true) (h1:GTs X es h) (hn:(assignEach es X.env).length=n:=by rfl) (hst:(assignEach es X.env).findIdx? (·.1)=none:=by rfl):GT X (.Tuple es k pos) (EK n h):=by
 refine pg_imp (pg_tup hc h1 hn hst) fun v σ H Q ⟨F,B,fs,t,ok,r,s⟩=>?_
 unfold EK at s
 split at s
 ·rename_i fs' e
  split at e
  ·rename_i ts
   split at e
   ·rename_i hl
    simp only [AG] at r
    obtain ⟨a,vs,rfl,hs,r⟩:=r
    refine ⟨a,vs,rfl,hs.sq,by rw [r.len];exact hl,F,B,fs,ts,ok,r,?_⟩
    rw [e]
    exact s
   ·cases e
  ·cases e
 ·exact s.elim
end
def asgS (f:FS->Out Rv) (g:T->FS->Option FS):FS->SO:=fun fs=>SO.of (f fs) fun r fs=>match r with
 | .t t=>match g t fs with
  | some fs=>.nx fs
  | none=>.bad
 | _=>.bad
section
variable {X:Cx} {Z:Xp} {e tg:Expr} {f:FS->Out Rv} {g:T->FS->Option FS} {pos:Pos}
theorem gs_asg (he:FE X Z e f) (hg:GT X tg g) (hs:swapsWithSole [tg] e pos.line X.env=pure false:=by rfl) (hw:swappedStores [tg] e X.env=pure none:=by rfl)
  (h1:(assignEach [tg] X.env).map (·.2)=[assign tg X.env]:=by rfl):GS X Z (.Assign [tg] e pos) (asgS f g):=by
 refine DN (ps_asg he hg hs hw h1) fun D σ H ⟨F,B,fs,ok,s⟩=>⟨F,B,fs,ok,C7 s fun r fs1 F1 H1 u l q s1=>?_⟩
 split at s1
 ·rename_i t
  obtain ⟨L,L',o1,⟨_,q⟩,_⟩:=q
  refine ⟨F1,B,fs1,t,⟨L,o1⟩,q,?_⟩
  split at s1
  ·rename_i fs2 e2
   exact fun F2 H2 σ2 l2 k2=>s1 F2 H2 σ2 l2 k2
  ·exact s1.elim
 ·exact s1.elim
end
def Nw (K:PySem.W.Frag) (F:Wd) (H:Hp) (F':Wd) (H':Hp):Prop:=Le F H F' H'/\∀ B fs σ,Okk K F B H fs σ->Okk K F' B H' fs σ
theorem Nw.refl {K:PySem.W.Frag} {F:Wd} {H:Hp}:Nw K F H F H:=⟨Le.refl,fun _ _ _ h=>h⟩
def JOk (K:PySem.W.Frag) (F:Wd) (H:Hp) (J:It) (ts:List T):Prop:=∀ (F':Wd) (H':Hp),(∀ a,F a->F' a/\H' a=H a)->(∃ B fs σ,Okk K F' B H' fs σ)->∀ i,(∀ t,ts[i]?=some t->J.go i H'/\∀ x H'',J.yld i H' x H''->∃ F'',Nw K F' H' F'' H''/\AG K F'' H'' t x)/\(ts.length<=i->J.stop i H')
theorem JOk.within {K:PySem.W.Frag} {F:Wd} {p:Addr->Prop} {H:Hp} {J:It} {ts:List T} (h:JOk K F H J ts):JOk K ⟨F.f,p⟩ H J ts:=fun F2 H2 l2=>h F2 H2 l2
theorem Af.lf {K:PySem.W.Frag} {F F':Wd} {H H':Hp} {ts:List T} {vs:List V} (l:∀ a,F a->F' a/\H' a=H a) (r:Af K F H ts vs):Af K F' H' ts vs :=
 Af.le (F:=⟨F.f,fun _=>False⟩) ⟨l,fun _ z=>z.elim⟩ (Af.wp r)
theorem StL.lf {K:PySem.W.Frag} {F F':Wd} {H H':Hp} {a:Addr} {vs:List V} (l:∀ a,F a->F' a/\H' a=H a) (r:StL K F H a vs):StL K F' H' a vs:=by
 rcases r with ⟨f,h⟩ | h
 ·exact .inl ⟨(l a f).1,FL.Rd.same h (l a f).2⟩
 ·exact .inr h
theorem stays {K:PySem.W.Frag} {F:Wd} {H H':Hp} {t:T} {x:V} (e:H'=H) (r:AG K F H t x):∃ F',Nw K F H F' H'/\AG K F' H' t x:=by subst e;exact ⟨F,Nw.refl,r⟩
def RJ (K:PySem.W.Frag) (B:Nat->Option V) (σ:St):Wd->Hp->FS->List T->It->Prop:=fun F H fs ts J=>Okk K F B H fs σ/\JOk K F H J ts
def tI (K:PySem.W.Frag) (Z:Xp) (f:FS->Out (List T)):TI:=fun σ H R=>∃ F B fs,Okk K F B H fs σ/\sat Z B (RJ K B σ) F H (f fs) R
def FI (X:Cx) (Z:Xp) (tg iter:Expr) (f:FS->Out (List T)):Prop:=PI X tg iter (tI X.K Z f)
theorem pi_imp {X:Cx} {tg e:Expr} {t t':TI} (h:PI X tg e t) (i:∀ σ H Q,t' σ H Q->t σ H Q):PI X tg e t':=fun pins s σ H Q I q=>h pins s σ H Q I (i _ _ _ q)
def signs (z:Str):List T:=z.cps.toList.map fun c=>T.str ⟨#[c]⟩
def upTo (lo:Int) (n:Nat):List T:=(List.range n).map fun i=>T.int (lo+(i:Nat))
def upBy (lo st:Int) (n:Nat):List T:=(List.range n).map fun i=>T.int (lo+(i:Nat) * st)
def itR1 (f:FS->Out (List Rv)):FS->Out (List T):=fun fs=>(f fs).bind fun rs fs=>match rs with
 | [.t (.int j)]=>if -(2 ^ 62)<=j/\j < 2 ^ 62 then .ok (upTo 0 j.toNat) fs else .bad
 | _=>.bad
def itR3 (f:FS->Out (List Rv)):FS->Out (List T):=fun fs=>(f fs).bind fun rs fs=>match rs with
 | [.t (.int i),.t (.int j),.t (.int c)]=>if 0 < c/\c < 1073741824/\Builtin.Range.small i j c=true/\0<=Builtin.Range.rangeSize i j c then .ok (upBy i c (Builtin.Range.rangeSize i j c).toNat) fs else .bad
 | _=>.bad
section
variable {X:Cx} {Z:Xp} {tg l a b c:Expr} {f:FS->Out Rv} {fa:FS->Out (List Rv)} {p pos:Pos} {K:PySem.W.Frag} {F:Wd} {H:Hp}
theorem jok_list {a:Addr} {vs:List V} {ts:List T} (hs:∀ (F':Wd) H',(∀ a,F a->F' a/\H' a=H a)->SqL K H' a vs) (r:Af K F H ts vs):JOk K F H (Itl K a) ts:=by
 intro F' H' l _ i
 have r':=Af.lf l r
 refine ⟨fun t et=>?_,fun hl=>⟨vs,hs F' H' l,by rw [r.len];exact hl⟩⟩
 obtain ⟨v,ev,rv⟩:=r'.at et
 refine ⟨⟨vs,v,hs F' H' l,ev⟩,fun x H'' hy=>stays hy.1 ?_⟩
 have:=hy.2 vs (hs F' H' l)
 rw [ev] at this
 cases this
 exact rv
theorem jok_tup {a:Addr} {vs:List V} {ts:List T} (hs:∀ (F':Wd) H',(∀ a,F a->F' a/\H' a=H a)->SqT K H' a vs) (r:Af K F H ts vs):JOk K F H (Itt K a) ts:=by
 intro F' H' l _ i
 have r':=Af.lf l r
 refine ⟨fun t et=>?_,fun hl=>⟨vs,hs F' H' l,by rw [r.len];exact hl⟩⟩
 obtain ⟨v,ev,rv⟩:=r'.at et
 refine ⟨⟨vs,v,hs F' H' l,ev⟩,fun x H'' hy=>stays hy.1 ?_⟩
 have:=hy.2 vs (hs F' H' l)
 rw [ev] at this
 cases this
 exact rv
theorem jok_range {lo:Int} {n:Nat}:JOk K F H (Itr lo n) (upTo lo n):=by
 intro F' H' l _ i
 refine ⟨fun t et=>?_,fun hl=>by unfold upTo at hl;simpa [Itr] using hl⟩
 unfold upTo at et
 rw [List.getElem?_map] at et
 have hi:i < n:=by
  by_cases h:i < n
  ·exact h
  ·rw [List.getElem?_eq_none (by simpa using h)] at et;cases et
 rw [List.getElem?_range hi] at et
 cases et
 exact ⟨hi,fun x H'' hy=>stays hy.1 hy.2⟩
theorem jok_ranges {lo st:Int} {n:Nat}:JOk K F H (Itrs lo st n) (upBy lo st n):=by
 intro F' H' l _ i
 refine ⟨fun t et=>?_,fun hl=>by unfold upBy at hl;simpa [Itrs] using hl⟩
 unfold upBy at et
 rw [List.getElem?_map] at et
 have hi:i < n:=by
  by_cases h:i < n
  ·exact h
  ·rw [List.getElem?_eq_none (by simpa using h)] at et;cases et
 rw [List.getElem?_range hi] at et
 cases et
 exact ⟨hi,fun x H'' hy=>stays hy.1 hy.2⟩
theorem jok_str {z:Str}:JOk K F H (Its z) (signs z):=by
 intro F' H' l _ i
 refine ⟨fun t et=>?_,fun hl=>by unfold signs at hl;simpa [Its] using hl⟩
 unfold signs at et
 rw [List.getElem?_map,Option.map_eq_some_iff] at et
 obtain ⟨c,ec,rfl⟩:=et
 have hi:i < z.cps.size:=by
  have:=(List.getElem?_eq_some_iff.mp ec).1
  simpa using this
 refine ⟨hi,fun x H'' hy=>stays hy.1 ?_⟩
 obtain ⟨c',e1,e2⟩:=hy.2
 rw [Array.getElem?_toList] at ec
 rw [ec] at e1
 cases e1
 exact e2
theorem CK (hm:X.mg "range"=none) (ha:FA X Z [a] fa) (hg:Gl X "range":=by rfl) (hs:starEach [a] X.env=[(false,eval a X.env)]:=by rfl):FI X Z tg (.Call (.Name "range" p) [a] [] pos) (itR1 fa):=by
 refine pi_imp (pi_range1 hg hm ha hs) fun σ H Q ⟨F,B,fs,ok,s⟩=>⟨F,B,fs,ok,AM s fun rs fs1 F1 H1 us l q s1=>?_⟩
 obtain ⟨ok1,q⟩:=q
 split at s1
 ·rename_i j
  split at s1
  ·rename_i hj
   obtain ⟨v,rfl,qq⟩:=BQ q
   have q:=qq
   cases q
   exact ⟨j,rfl,hj.1,hj.2,s1 F1 H1 _ Le.refl ⟨ok1,jok_range⟩⟩
  ·exact s1.elim
 ·exact s1.elim
theorem Hr (ha:FA X Z [a,b,c] fa)
  (h:∀ {ta:TA},PA X [a,b,c] ta->PI X tg (.Call (.Name "range" p) [a,b,c] [] pos) (iRng3 ta)):FI X Z tg (.Call (.Name "range" p) [a,b,c] [] pos) (itR3 fa):=by
 refine pi_imp (h ha) fun σ H Q ⟨F,B,fs,ok,s⟩=>⟨F,B,fs,ok,AM s fun rs fs1 F1 H1 us l q s1=>?_⟩
 obtain ⟨ok1,q⟩:=q
 split at s1
 ·rename_i i j k
  split at s1
  ·rename_i hj
   obtain ⟨v,w,rfl,q1,v2,w2,rfl,q2,v3,w3,rfl,q3,q4⟩:=q
   cases q1
   cases q2
   cases q3
   cases q4
   exact ⟨i,j,k,rfl,hj.1,hj.2.1,hj.2.2.1,hj.2.2.2,s1 F1 H1 _ Le.refl ⟨ok1,jok_ranges⟩⟩
  ·exact s1.elim
 ·exact s1.elim
end
def Eo (gt:T->FS->Option FS) (body:FS->SO):List T->FS->SO
 | [],fs=>.nx fs
 | t :: ts,fs=>match gt t fs with
  | none=>.bad
  | some fs=>match body fs with
   | .nx fs=>Eo gt body ts fs
   | .cnt fs=>Eo gt body ts fs
   | .brk fs=>.nx fs
   | o=>o
def Gu (src:FS->Out (List T)) (gt:T->FS->Option FS) (body:FS->SO):FS->SO:=fun fs=>SO.of (src fs) fun ts fs=>Eo gt body ts fs
section
variable {X:Cx} {Z:Xp} {tg iter c:Expr} {src:FS->Out (List T)} {gt:T->FS->Option FS} {g:FS->SO} {body:List Stmt} {pos:Pos} {fc:FS->Out Bool}
theorem Eh (hp:PassesOwn (model X.prog X.w) X.A X.env X.xe) (hc:X.calm=true) (hi:FI X Z tg iter src) (hg:GT X tg gt) (hb:GSs X Z body g)
  (hs:∀ x,foldedSetIterable iter X.env x=pure x:=by intro _;rfl):GS X Z (.For tg iter body [] pos) (Gu src gt g):=by
 refine DN (ps_for hp hc hi hg hb hs) fun D σ H ⟨F,B,fs,ok,s⟩=>⟨F,B,fs,ok,C7 s fun ts fs1 F1 H1 J l q s1=>?_⟩
 obtain ⟨ok1,jk⟩:=q
 refine ⟨fun i m σ H=>m=ts.length - i/\∃ F' fs',Le F1 H1 F' H/\Okk X.K F' B H fs' σ/\Fy X.K Z B F' H (Eo gt g (ts.drop i) fs') D,⟨ts.length,rfl,F1,fs1,Le.refl,ok1,s1⟩,?_⟩
 rintro i m σ H ⟨rfl,F2,fs2,l2,ok2,s2⟩
 by_cases hi:i < ts.length
 ·refine .inr ?_
  have ei:ts[i]?=some ts[i]:=List.getElem?_eq_getElem hi
  have ed:ts.drop i=ts[i] :: ts.drop (i+1):=List.drop_eq_getElem_cons hi
  rw [ed] at s2
  obtain ⟨j1,j2⟩:=(jk F2 H l2.f ⟨_,_,_,ok2⟩ i).1 _ ei
  refine ⟨j1,fun σ' H'=>∃ F' fs',Le F1 H1 F' H'/\Okk X.K F' B H' fs' σ'/\Fy X.K Z B F' H' (Eo gt g (ts.drop (i+1)) fs') D,fun σ' H' h=>⟨ts.length - (i+1),by omega,rfl,h⟩,fun x H' hy=>?_⟩
  obtain ⟨F2',⟨l22,nw⟩,rx⟩:=j2 x H' hy
  replace l2:=l2.trans l22
  replace s2:=Fy.le s2 l22
  replace ok2:=nw _ _ _ ok2
  refine ⟨F2',B,fs2,ts[i],ok2,rx,?_⟩
  simp only [Eo] at s2
  cases eg:gt ts[i] fs2 with
  | none=>rw [eg] at s2;exact s2.elim
  | some fs3 =>
   rw [eg] at s2
   intro F3 H3 σ3 l3 ok3
   refine ⟨F3,B,fs3,ok3,?_⟩
   have s3:=Fy.le s2 l3
   simp only at s3
   cases eb:g fs3 with
   | nx fs4 =>
    rw [eb] at s3
    exact fun F4 H4 σ4 l4 ok4=>⟨F4,fs4,(l2.trans l3).trans l4,ok4,Fy.le s3 l4⟩
   | cnt fs4 =>
    rw [eb] at s3
    exact fun F4 H4 σ4 l4 ok4=>⟨F4,fs4,(l2.trans l3).trans l4,ok4,Fy.le s3 l4⟩
   | brk fs4=>rw [eb] at s3;exact s3
   | ret r fs4=>rw [eb] at s3;exact s3
   | exc c fs4=>rw [eb] at s3;exact s3
   | bad=>rw [eb] at s3;exact s3
 ·refine .inl ⟨(jk F2 H l2.f ⟨_,_,_,ok2⟩ i).2 (by omega),?_⟩
  rw [List.drop_eq_nil_of_le (by omega)] at s2
  exact s2 F2 H σ Le.refl ok2
end
end FL
namespace FL
open PySem PySem.Spec L2
section
variable {K:PySem.W.Frag} {F F':Wd} {H H':Hp} {B:Nat->Option V} {fs:FS} {σ:St} {L:List Addr}
theorem Ax.toP:∀ {fs:FS} {σ:St} {L:List Addr},Ax K F H fs σ L->∃ ℓ:Nat->List Addr,(∀ i s,fs[i]?=some s->∃ v,σ[i]?=some v/\SlOk K F H s v (ℓ i))/\(∀ i a,a∈ℓ i->a∈L) /\
  (L.Nodup->(∀ i,(ℓ i).Nodup)/\∀ i j a,i≠j->a∈ℓ i->a∉ℓ j)/\∀ i,fs.length<=i->ℓ i=[]
 | [],σ,L,h=>⟨fun _=>[],(fun i s e=>by simp at e),(fun i a m=>nomatch m),(fun _=>⟨fun _=>List.nodup_nil,(fun _ _ _ _ m=>nomatch m)⟩),fun _ _=>rfl⟩
 | s :: r,σ,L,h=>by
  obtain ⟨v,σ',L1,L2,rfl,h1,h2,rfl⟩:=h.uncons
  obtain ⟨ℓ,q1,q2,q3,q4⟩:=Ax.toP h2
  refine ⟨fun i=>match i with | 0=>L1 | i+1=>ℓ i,fun i s' e=>?_,fun i a m=>?_,fun nd=>?_,fun i hi=>?_⟩
  ·cases i with
   | zero =>
    simp at e
    subst e
    exact ⟨v,rfl,h1⟩
   | succ i =>
    obtain ⟨w,e1,e2⟩:=q1 i s' (by simpa using e)
    exact ⟨w,by simpa using e1,e2⟩
  ·cases i with
   | zero=>exact List.mem_append_left _ m
   | succ i=>exact List.mem_append_right _ (q2 i a m)
  ·rw [List.nodup_append] at nd
   obtain ⟨n1,n2,n3⟩:=nd
   obtain ⟨m1,m2⟩:=q3 n2
   refine ⟨fun i=>?_,fun i j a hij hi hj=>?_⟩
   ·cases i with
    | zero=>exact n1
    | succ i=>exact m1 i
   ·cases i with
    | zero =>
     cases j with
     | zero=>exact hij rfl
     | succ j=>exact n3 a hi a (q2 j a hj) rfl
    | succ i =>
     cases j with
     | zero=>exact n3 a hj a (q2 i a hi) rfl
     | succ j=>exact m2 i j a (fun e=>hij (by rw [e])) hi hj
  ·cases i with
   | zero=>simp at hi
   | succ i=>exact q4 i (by simpa using hi)
theorem Ax.ofP:∀ {fs:FS} {σ:St} (ℓ:Nat->List Addr),σ.length=fs.length->(∀ i s,fs[i]?=some s->∃ v,σ[i]?=some v/\SlOk K F H s v (ℓ i))->(∀ i,(ℓ i).Nodup)->(∀ i j a,i≠j->a∈ℓ i->a∉ℓ j) ->
  ∃ L,Ax K F H fs σ L/\L.Nodup/\∀ a∈L,∃ i,i < fs.length/\a∈ℓ i
 | [],σ,ℓ,hl,h,nd,dj=>by
  have:σ=[]:=List.eq_nil_of_length_eq_zero (by simpa using hl)
  subst this
  exact ⟨[],⟨rfl,rfl⟩,List.nodup_nil,fun _ m=>nomatch m⟩
 | s :: r,[],ℓ,hl,h,nd,dj=>by simp at hl
 | s :: r,v :: σ,ℓ,hl,h,nd,dj=>by
  obtain ⟨L,h1,h2,h3⟩:=Ax.ofP (fs:=r) (σ:=σ) (fun i=>ℓ (i+1)) (by simpa using hl) (fun i s' e=>by
   obtain ⟨w,e1,e2⟩:=h (i+1) s' (by simpa using e)
   exact ⟨w,by simpa using e1,e2⟩) (fun i=>nd (i+1)) (fun i j a hij=>dj (i+1) (j+1) a (by omega))
  obtain ⟨w,e1,e2⟩:=h 0 s rfl
  simp at e1
  subst e1
  refine ⟨ℓ 0++L,Ax.cons e2 h1,?_,fun a m=>?_⟩
  ·rw [List.nodup_append]
   refine ⟨nd 0,h2,fun a ha b hb e=>?_⟩
   obtain ⟨i,_,hi⟩:=h3 b hb
   exact dj 0 (i+1) a (by omega) ha (by rw [e];exact hi)
  ·rcases List.mem_append.mp m with m | m
   ·exact ⟨0,by simp,m⟩
   ·obtain ⟨i,hi,q⟩:=h3 a m
    exact ⟨i+1,by simp;exact hi,q⟩
theorem Ok.take (h:Ok K F B H fs σ L) (n:Nat):∃ L',Ok K F B H (fs.take n) (σ.take n) L'/\∀ a∈L',a∈L:=by
 obtain ⟨ℓ,q1,q2,q3,q4⟩:=h.sl.toP
 obtain ⟨n1,n2⟩:=q3 h.nd
 have hl:(σ.take n).length=(fs.take n).length:=by rw [List.length_take,List.length_take,h.sl.len]
 obtain ⟨L',p1,p2,p3⟩:=Ax.ofP (K:=K) (F:=F) (H:=H) (fs:=fs.take n) (σ:=σ.take n) ℓ hl (fun i s e=>by
  have hi:i < n:=by
   have:=(List.getElem?_eq_some_iff.mp e).1
   rw [List.length_take] at this
   omega
  rw [List.getElem?_take_of_lt hi] at e ⊢
  exact q1 i s e) n1 n2
 have sub:∀ a∈L',a∈L:=fun a m=>let ⟨i,_,q⟩:=p3 a m;q2 i a q
 refine ⟨L',⟨p1,p2,fun a m=>h.nf a (sub a m),h.fd,fun i o e=>?_,h.pd,h.pf,fun a m=>h.pl a (sub a m)⟩,sub⟩
 have hi:i < n:=by
  have:=(List.getElem?_eq_some_iff.mp e).1
  rw [List.length_take] at this
  omega
 rw [List.getElem?_take_of_lt hi] at e ⊢
 exact h.bo i o e
theorem RR.take {r:Rv} {u:V} (h:RR K B σ F H fs r u) (n:Nat) (hr:∀ i,r≠.rf i):RR K B (σ.take n) F H (fs.take n) r u:=by
 obtain ⟨L,L',ok,q,nd,nf⟩:=h
 obtain ⟨L2,ok2,sub⟩:=ok.take n
 refine ⟨L2,L',ok2,?_,?_,nf⟩
 ·cases r with
  | t t=>exact q
  | nw o=>exact q
  | rf i=>exact (hr i rfl).elim
 ·rw [List.nodup_append] at nd ⊢
  exact ⟨ok2.nd,nd.2.1,fun a ha b hb=>nd.2.2 a (sub a ha) b hb⟩
theorem Ok.more (h:Ok K F B H fs σ L) (n:Nat):Ok K F B H (fs++List.replicate n none) (σ++List.replicate n none) L:=by
 have key:∀ n:Nat,Ax K F H (List.replicate n none) (List.replicate n none) []:=by
  intro n
  induction n with
  | zero=>exact ⟨rfl,rfl⟩
  | succ n ih =>
   rw [List.replicate_succ,List.replicate_succ]
   simp only [Ax]
   exact ⟨none,_,rfl,ih⟩
 have app:∀ {fs gs:FS} {σ τ:St} {L M:List Addr},Ax K F H fs σ L->Ax K F H gs τ M->Ax K F H (fs++gs) (σ++τ) (L++M):=by
  intro fs
  induction fs with
  | nil =>
   intro gs σ τ L M h1 h2
   simp only [Ax] at h1
   obtain ⟨rfl,rfl⟩:=h1
   exact h2
  | cons s r ih =>
   intro gs σ τ L M h1 h2
   obtain ⟨v,σ',L1,L2,rfl,q1,q2,rfl⟩:=h1.uncons
   have:=Ax.cons q1 (ih q2 h2)
   simpa using this
 refine ⟨by simpa using app h.sl (key n),h.nd,h.nf,h.fd,fun i o e=>?_,h.pd,h.pf,h.pl⟩
 by_cases hi:i < fs.length
 ·rw [List.getElem?_append_left hi] at e
  obtain ⟨v,e1,e2⟩:=h.bo i o e
  exact ⟨v,by rw [List.getElem?_append_left (by rw [h.sl.len];exact hi)];exact e1,e2⟩
 ·rw [List.getElem?_append_right (by omega)] at e
  have:=List.mem_of_getElem? e
  simp at this
theorem RR.mv {u:V} {i:Nat} {o:FO} (q:RR K B σ F H fs (.rf i) u) (es:fs[i]?=some (some (.own o))):RR K B σ F H (fs.set i none) (.nw o) u:=by
 obtain ⟨L,L',o1,⟨_,q⟩,nd,nf⟩:=q
 obtain ⟨v,L1,L2,L3,e1,rfl,h1,h2⟩:=o1.sl.pick es
 obtain ⟨w,rfl,q2⟩:=h1
 rw [e1] at q
 have eu:w=u:=by simpa using q
 subst eu
 have h3:=h2 F H none (some w) [] Le.refl (fun _ _=>rfl) rfl
 rw [Dj e1] at h3
 have nd1:=o1.nd
 refine ⟨L1++([]++L3),L2,⟨h3,Dv nd1 List.nodup_nil (fun _ m=>nomatch m),fun a m=>o1.nf a ?_,o1.fd,?_,o1.pd,o1.pf,fun a m=>o1.pl a ?_⟩,q2,?_,fun a m=>⟨o1.nf a (by simp [m]),o1.pl a (by simp [m])⟩⟩
 ·have m':a∈L1∨a∈L3:=by simpa using m
  rcases m' with m | m <;> simp [m]
 ·have:=Fm.put (i:=i) (s:=none) (v:=some w) o1.bo (fun o eo=>by cases eo) o1.sl.len
  rwa [Dj e1] at this
 ·have m':a∈L1∨a∈L3:=by simpa using m
  rcases m' with m | m <;> simp [m]
 ·have p:(L1++(L2++L3)).Perm ((L1++([]++L3))++L2):=by
   rw [List.nil_append,List.append_assoc]
   exact List.Perm.append_left _ List.perm_append_comm
  exact p.nodup_iff.mp nd1
end
inductive Ini where
 | no | val (t:T) | slot (j:Nat) | new (o:FO)
def ini1 (fs:FS):Ini->Option Sl
 | .no=>none
 | .val t=>some (.val t)
 | .new o=>some (.bor o)
 | .slot j=>match fs[j]? with
  | some (some (.val t))=>some (.val t)
  | some (some (.own o))=>some (.bor o)
  | some (some (.bor o))=>some (.bor o)
  | _=>none
def D2 (fs:FS) (is:List Ini):FS:=is.map (ini1 fs)
def Cs (fs:FS):Ini->Option Nat
 | .slot j=>if (A9 fs j).isSome=true then some j else none
 | _=>none
def Dc (fs:FS) (is:List Ini):List Nat:=is.filterMap (Cs fs)
def placeOf (fs:FS) (j:Nat):List Ini->Nat->Option Nat
 | [],_=>none
 | i :: r,k=>if Cs fs i=some j then some k else placeOf fs j r (k+1)
def back1 (fs:FS) (is:List Ini) (τ:FS) (j:Nat) (s:Option Sl):Option (Option Sl):=match placeOf fs j is 0 with
 | none=>some s
 | some k=>match τ[k]?,s with
  | some (some (.bor o)),some s=>some (some (s.put o))
  | _,_=>none
def backL (fs:FS) (is:List Ini) (τ:FS):Nat->FS->Option FS
 | _,[]=>some []
 | j,s :: r=>match back1 fs is τ j s,backL fs is τ (j+1) r with
  | some s',some r'=>some (s' :: r')
  | _,_=>none
def Fl (is:List Ini) (τ fs:FS):Option FS:=backL fs is τ 0 fs
theorem placeOf_some {fs:FS} {j:Nat}:∀ {is:List Ini} {k k':Nat},placeOf fs j is k=some k'->k<=k'/\∃ i,is[k' - k]?=some i/\Cs fs i=some j
 | [],_,_,e=>by simp [placeOf] at e
 | i :: r,k,k',e=>by
  simp only [placeOf] at e
  split at e
  ·rename_i h
   cases e
   exact ⟨Nat.le_refl _,i,by simp,h⟩
  ·obtain ⟨h1,i',h2,h3⟩:=placeOf_some e
   refine ⟨by omega,i',?_,h3⟩
   rw [show k' - k=(k' - (k+1))+1 by omega]
   simpa using h2
theorem placeOf_none {fs:FS} {j:Nat}:∀ {is:List Ini} {k:Nat},placeOf fs j is k=none->j∉Dc fs is
 | [],_,_,h=>by simp [Dc] at h
 | i :: r,k,e,h=>by
  simp only [placeOf] at e
  split at e
  ·cases e
  ·rename_i hn
   unfold Dc at h
   rw [List.filterMap_cons] at h
   cases q:Cs fs i with
   | none =>
    rw [q] at h
    exact placeOf_none e h
   | some j' =>
    rw [q] at h
    rcases List.mem_cons.mp h with h | h
    ·exact hn (by rw [q,h])
    ·exact placeOf_none e h
theorem Hk {fs:FS}:∀ {is:List Ini} {k k':Nat} {i i':Ini} {j:Nat},(Dc fs is).Nodup->is[k]?=some i->is[k']?=some i'->Cs fs i=some j->Cs fs i'=some j->k=k'
 | [],_,_,_,_,_,_,e,_,_,_=>by simp at e
 | i0 :: r,k,k',i,i',j,nd,e,e',h,h'=>by
  have mem:∀ {m:Nat} {x:Ini},r[m]?=some x->Cs fs x=some j->j∈Dc fs r:=fun hm hx=>List.mem_filterMap.mpr ⟨_,List.mem_of_getElem? hm,hx⟩
  unfold Dc at nd
  rw [List.filterMap_cons] at nd
  cases k with
  | zero =>
   simp at e
   subst e
   rw [h] at nd
   have nd':(j :: Dc fs r).Nodup:=nd
   cases k' with
   | zero=>rfl
   | succ k'=>exact ((List.nodup_cons.mp nd').1 (mem (by simpa using e') h')).elim
  | succ k =>
   cases k' with
   | zero =>
    simp at e'
    subst e'
    rw [h'] at nd
    have nd':(j :: Dc fs r).Nodup:=nd
    exact ((List.nodup_cons.mp nd').1 (mem (by simpa using e) h)).elim
   | succ k' =>
    have nd':(Dc fs r).Nodup:=by
     cases q:Cs fs i0 with
     | none=>rw [q] at nd;exact nd
     | some j'=>rw [q] at nd;exact (List.nodup_cons.mp nd).2
    exact congrArg (·+1) (Hk (k:=k) (k':=k') nd' (by simpa using e) (by simpa using e') h h')
theorem backL_at {fs:FS} {is:List Ini} {τ:FS}:∀ {r r':FS} {j:Nat},backL fs is τ j r=some r'->r'.length=r.length/\∀ i s,r[i]?=some s->∃ s',r'[i]?=some s'/\back1 fs is τ (j+i) s=some s'
 | [],_,_,e=>by
  simp only [backL] at e
  cases e
  exact ⟨rfl,fun i s q=>by simp at q⟩
 | s :: r,_,j,e=>by
  simp only [backL] at e
  split at e
  ·rename_i s' r' h1 h2
   cases e
   obtain ⟨q1,q2⟩:=backL_at h2
   refine ⟨by simp [q1],fun i s0 q=>?_⟩
   cases i with
   | zero =>
    simp at q
    subst q
    exact ⟨s',rfl,h1⟩
   | succ i =>
    obtain ⟨s1,e1,e2⟩:=q2 i s0 (by simpa using q)
    exact ⟨s1,by simpa using e1,by rw [show j+(i+1)=j+1+i by omega];exact e2⟩
  ·cases e
def IniOk (K:PySem.W.Frag) (F:Wd) (H:Hp) (σ:St) (i:Ini) (v:Option V) (M:List Addr):Prop:=match i with
 | .no=>True
 | .val t=>∃ u,v=some u/\AG K F H t u
 | .slot j=>σ[j]?=some v
 | .new o=>∃ u,v=some u/\A5 K F H o u M
structure Mu (F:Wd) (H:Hp) (L:List Addr) (μ:Nat->List Addr):Prop where
 out:∀ k a,a∈μ k->¬ F a/\¬ F.p a/\a∉L/\H a≠none
 nd:∀ k,(μ k).Nodup
 dj:∀ k k' a,k≠k'->a∈μ k->a∉μ k'
theorem Mu.no {F:Wd} {H:Hp} {L:List Addr}:Mu F H L (fun _=>[]):=⟨(fun _ _ m=>nomatch m),fun _=>List.nodup_nil,(fun _ _ _ _ m=>nomatch m)⟩
theorem lend {K:PySem.W.Frag} {F:Wd} {H:Hp} {B:Nat->Option V} {fs:FS} {σ σi:St} {is:List Ini} {L:List Addr} {μ:Nat->List Addr} (ok:Ok K F B H fs σ L) (hl:σi.length=is.length) (hi:∀ (k:Nat) (i:Ini) (v:Option V),is[k]?=some i->σi[k]?=some v->IniOk K F H σ i v (μ k)) (nd:(Dc fs is).Nodup) (hμ:Mu F H L μ) :
  ∃ P:Addr->Prop,(∀ a,F.p a->P a)/\Okk K ⟨F.f,P⟩ (fun k=>(σi[k]?).join) H (D2 fs is) σi/\(∀ a,P a->H a≠none) /\
   ∀ (F2:Wd) (H2:Hp) (τ:FS) (σ2:St) (Li:List Addr) (fs':FS),Le ⟨F.f,P⟩ H F2 H2->Ok K F2 (fun k=>(σi[k]?).join) H2 τ σ2 Li->Fl is τ fs=some fs' ->
    Le F H ⟨F2.f,F.p⟩ H2/\∃ L,Ok K ⟨F2.f,F.p⟩ B H2 fs' σ L/\∀ a∈L,a∈Li∨P a:=by
 obtain ⟨ℓ,q1,q2,q3,q4⟩:=ok.sl.toP
 obtain ⟨n1,n2⟩:=q3 ok.nd
 have objSl:∀ j,(A9 fs j).isSome=true->∃ o s,A9 fs j=some o/\fs[j]?=some (some s)/\(s=.own o∨s=.bor o):=by
  intro j hj
  unfold A9 at hj ⊢
  split at hj
  ·rename_i o es
   exact ⟨o,_,rfl,es,.inl rfl⟩
  ·rename_i o es
   exact ⟨o,_,rfl,es,.inr rfl⟩
  ·cases hj
 refine ⟨fun a=>F.p a∨∃ j,a∈ℓ j/\j∉Dc fs is,fun a p=>.inl p,?_,fun a p=>?_,?_⟩
 ·
  obtain ⟨L',p1,p2,p3⟩:=Ax.ofP (K:=K) (F:=⟨F.f,fun a=>F.p a∨∃ j,a∈ℓ j/\j∉Dc fs is⟩) (H:=H) (fs:=D2 fs is) (σ:=σi) (fun k=>match is[k]? with | some i=>(match Cs fs i with | some j=>ℓ j | none=>(match i with | .new _=>μ k | _=>[])) | none=>[]) (by unfold D2;rw [List.length_map];exact hl)
   (fun k s e=>by
    unfold D2 at e
    rw [List.getElem?_map,Option.map_eq_some_iff] at e
    obtain ⟨i,ei,rfl⟩:=e
    have hk:k < σi.length:=by rw [hl];exact (List.getElem?_eq_some_iff.mp ei).1
    refine ⟨σi[k],List.getElem?_eq_getElem hk,?_⟩
    have io:=hi k i _ ei (List.getElem?_eq_getElem hk)
    simp only [ei]
    have lw:∀ (t:T) (u:V),AG K F H t u->AG K ⟨F.f,fun a=>F.p a∨∃ j,a∈ℓ j/\j∉Dc fs is⟩ H t u:=fun t u r=>AG.wp r
    cases i with
    | no=>rfl
    | val t =>
     obtain ⟨u,eu,r⟩:=io
     exact ⟨u,eu,lw t u r,rfl⟩
    | new o =>
     obtain ⟨u,eu,r⟩:=io
     exact ⟨u,eu,A5.wp r⟩
    | slot j =>
     have ej:σ[j]?=some σi[k]:=io
     simp only [ini1,Cs]
     cases es:fs[j]? with
     | none =>
      have:A9 fs j=none:=by unfold A9;rw [es]
      rw [this]
      rfl
     | some s =>
      obtain ⟨v,e1,e2⟩:=q1 j s es
      rw [ej] at e1
      cases e1
      cases s with
      | none =>
       have:A9 fs j=none:=by unfold A9;rw [es]
       rw [this]
       rfl
      | some s =>
       cases s with
       | val t =>
        have:A9 fs j=none:=by unfold A9;rw [es]
        rw [this]
        obtain ⟨u,eu,r,_⟩:=e2
        exact ⟨u,eu,lw t u r,rfl⟩
       | own o =>
        have:A9 fs j=some o:=by unfold A9;rw [es]
        rw [this]
        obtain ⟨u,eu,r⟩:=e2
        exact ⟨u,eu,A5.wp r⟩
       | bor o =>
        have:A9 fs j=some o:=by unfold A9;rw [es]
        rw [this]
        obtain ⟨u,eu,r⟩:=e2
        exact ⟨u,eu,A5.wp r⟩)
   (fun k=>by
    try dsimp only
    split
    ·split
     ·exact n1 _
     ·split
      ·exact hμ.nd _
      ·exact List.nodup_nil
    ·exact List.nodup_nil)
   (fun k k' a hk ha hb=>by
    try dsimp only at ha hb
    split at ha
    ·rename_i i ei
     split at ha
     ·rename_i j ej
      split at hb
      ·rename_i i' ei'
       split at hb
       ·rename_i j' ej'
        by_cases e:j=j'
        ·subst e
         exact hk (Hk nd ei ei' ej ej')
        ·exact n2 j j' a e ha hb
       ·split at hb
        ·exact (hμ.out _ a hb).2.2.1 (q2 j a ha)
        ·cases hb
      ·cases hb
     ·split at ha
      ·split at hb
       ·split at hb
        ·rename_i j' ej'
         exact (hμ.out _ a ha).2.2.1 (q2 j' a hb)
        ·split at hb
         ·exact hμ.dj k k' a hk ha hb
         ·cases hb
       ·cases hb
      ·cases ha
    ·cases ha)
  have mem:∀ a∈L',(∃ j,j∈Dc fs is/\a∈ℓ j)∨∃ k,a∈μ k:=fun a m=>by
   obtain ⟨k,_,q⟩:=p3 a m
   try dsimp only at q
   split at q
   ·rename_i i ei
    split at q
    ·rename_i j ej
     exact .inl ⟨j,List.mem_filterMap.mpr ⟨i,List.mem_of_getElem? ei,ej⟩,q⟩
    ·split at q
     ·exact .inr ⟨k,q⟩
     ·cases q
   ·cases q
  refine ⟨L',p1,p2,fun a m=>?_,ok.fd,fun k o e=>?_,fun a p=>?_,fun a f p=>?_,fun a m p=>?_⟩
  ·rcases mem a m with ⟨j,_,q⟩ | ⟨k,q⟩
   ·exact ok.nf a (q2 j a q)
   ·exact (hμ.out k a q).1
  ·unfold D2 at e
   rw [List.getElem?_map,Option.map_eq_some_iff] at e
   obtain ⟨i,ei,e⟩:=e
   have hk:k < σi.length:=by rw [hl];exact (List.getElem?_eq_some_iff.mp ei).1
   cases i with
   | no=>cases e
   | val t=>cases e
   | new o' =>
    obtain ⟨u,eu,_⟩:=hi k _ _ ei (List.getElem?_eq_getElem hk)
    exact ⟨u,by rw [List.getElem?_eq_getElem hk,eu],by show (σi[k]?).join=some u;rw [List.getElem?_eq_getElem hk,eu];rfl⟩
   | slot j =>
    have ej:σ[j]?=some σi[k]:=hi k _ _ ei (List.getElem?_eq_getElem hk)
    simp only [ini1] at e
    have:∃ o s,fs[j]?=some (some s)/\(s=.own o∨s=.bor o):=by
     split at e
     ·cases e
     ·rename_i o' es
      exact ⟨o',_,es,.inl rfl⟩
     ·rename_i o' es
      exact ⟨o',_,es,.inr rfl⟩
     ·cases e
    obtain ⟨o',s,es,hs⟩:=this
    obtain ⟨v,e1,e2⟩:=q1 j _ es
    rw [ej] at e1
    cases e1
    obtain ⟨u,eu⟩:∃ u,σi[k]=some u:=by
     rcases hs with rfl | rfl
     ·exact ⟨_,e2.choose_spec.1⟩
     ·exact ⟨_,e2.choose_spec.1⟩
    exact ⟨u,by rw [List.getElem?_eq_getElem hk,eu],by show (σi[k]?).join=some u;rw [List.getElem?_eq_getElem hk,eu];rfl⟩
  ·rcases p with p | ⟨j,p,_⟩
   ·exact ok.pd a p
   ·exact ok.sl.def a (q2 j a p)
  ·rcases p with p | ⟨j,p,_⟩
   ·exact ok.pf a f p
   ·exact ok.nf a (q2 j a p) f
  ·rcases mem a m with ⟨j,hj,q⟩ | ⟨k,q⟩
   ·rcases p with p | ⟨j',p,hj'⟩
    ·exact ok.pl a (q2 j a q) p
    ·by_cases e:j=j'
     ·subst e
      exact hj' hj
     ·exact n2 j j' a e q p
   ·rcases p with p | ⟨j',p,hj'⟩
    ·exact (hμ.out k a q).2.1 p
    ·exact (hμ.out k a q).2.2.1 (q2 j' a p)
 ·rcases p with p | ⟨j,p,_⟩
  ·exact ok.pd a p
  ·exact ok.sl.def a (q2 j a p)
 ·
  intro F2 H2 τ σ2 Li fs' l ok2 eb
  have le:Le F H ⟨F2.f,F.p⟩ H2:=⟨fun a f=>l.f a f,fun a f=>⟨f,(l.p a (.inl f)).2⟩⟩
  obtain ⟨ℓ2,r1,r2,r3,r4⟩:=ok2.sl.toP
  obtain ⟨m1,m2⟩:=r3 ok2.nd
  obtain ⟨b1,b2⟩:=backL_at eb
  have restP:∀ j a,a∈ℓ j->j∉Dc fs is->F2.p a/\H2 a=H a:=fun j a q hj=>l.p a (.inr ⟨j,q,hj⟩)
  refine ⟨le,?_⟩
  obtain ⟨L',p1,p2,p3⟩:=Ax.ofP (K:=K) (F:=⟨F2.f,F.p⟩) (H:=H2) (fs:=fs') (σ:=σ) (fun j=>match placeOf fs j is 0 with | some k=>ℓ2 k | none=>ℓ j) (by rw [b1];exact ok.sl.len)
   (fun j s' e=>by
    have hj:j < fs.length:=by rw [<- b1];exact (List.getElem?_eq_some_iff.mp e).1
    obtain ⟨s1,e1,e2⟩:=b2 j fs[j] (List.getElem?_eq_getElem hj)
    rw [e] at e1
    cases e1
    rw [Nat.zero_add] at e2
    obtain ⟨v,e3,e4⟩:=q1 j fs[j] (List.getElem?_eq_getElem hj)
    refine ⟨v,e3,?_⟩
    unfold back1 at e2
    cases ep:placeOf fs j is 0 with
    | none =>
     rw [ep] at e2
     cases e2
     have hn:=placeOf_none ep
     exact SlOk.le le (fun a m=>(restP j a m hn).2) e4
    | some k =>
     rw [ep] at e2
     obtain ⟨_,i,ei,hlo⟩:=placeOf_some ep
     rw [Nat.sub_zero] at ei
     dsimp only at e2 ⊢
     split at e2
     ·rename_i o s et es
      cases e2
      obtain ⟨w,e5,e6⟩:=r1 k _ et
      obtain ⟨u,e7,e8⟩:=ok2.bo k o et
      rw [e5] at e7
      cases e7
      have ij:i=.slot j:=by
       cases i with
       | no=>cases hlo
       | val t=>cases hlo
       | new o=>cases hlo
       | slot j' =>
        simp only [Cs] at hlo
        split at hlo
        ·cases hlo;rfl
        ·cases hlo
      subst ij
      have hk:k < σi.length:=by rw [hl];exact (List.getElem?_eq_some_iff.mp ei).1
      have io:σ[j]?=some σi[k]:=hi k _ _ ei (List.getElem?_eq_getElem hk)
      rw [e3] at io
      cases io
      have e9:(σi[k]?).join=some u:=e8
      rw [List.getElem?_eq_getElem hk] at e9
      have e10:σi[k]=some u:=by simpa using e9
      rw [e10]
      obtain ⟨u',eu,ro⟩:=e6
      cases eu
      have ob:∃ o0,s=.own o0∨s=.bor o0:=by
       simp only [Cs] at hlo
       split at hlo
       ·rename_i hob
        obtain ⟨o0,s0,_,es0,hs0⟩:=objSl j hob
        rw [List.getElem?_eq_getElem hj,es] at es0
        cases es0
        exact ⟨o0,hs0⟩
       ·cases hlo
      obtain ⟨o0,ob⟩:=ob
      have ro':A5 K ⟨F2.f,F.p⟩ H2 o u (ℓ2 k):=A5.wp ro
      rcases ob with rfl | rfl
      ·exact ⟨u,rfl,ro'⟩
      ·exact ⟨u,rfl,ro'⟩
     ·cases e2)
   (fun j=>by
    try dsimp only
    split
    ·exact m1 _
    ·exact n1 _)
   (fun j j' a hj ha hb=>by
    try dsimp only at ha hb
    split at ha
    ·rename_i k ek
     split at hb
     ·rename_i k' ek'
      by_cases e:k=k'
      ·subst e
       obtain ⟨_,i,ei,h1⟩:=placeOf_some ek
       obtain ⟨_,i',ei',h2⟩:=placeOf_some ek'
       rw [ei] at ei'
       cases ei'
       rw [h1] at h2
       cases h2
       exact hj rfl
      ·exact m2 k k' a e ha hb
     ·rename_i ek'
      exact ok2.pl a (r2 k a ha) (restP j' a hb (placeOf_none ek')).1
    ·rename_i ek
     split at hb
     ·rename_i k' ek'
      exact ok2.pl a (r2 k' a hb) (restP j a ha (placeOf_none ek)).1
     ·exact n2 j j' a hj ha hb)
  have src:∀ a∈L',(a∈Li/\¬ F2.p a)∨∃ j,a∈ℓ j/\j∉Dc fs is:=fun a m=>by
   obtain ⟨j,_,q⟩:=p3 a m
   try dsimp only at q
   split at q
   ·rename_i k ek
    exact .inl ⟨r2 k a q,ok2.pl a (r2 k a q)⟩
   ·rename_i ek
    exact .inr ⟨j,q,placeOf_none ek⟩
  refine ⟨L',⟨p1,p2,fun a m f=>?_,fun a f=>ok2.fd a f,fun j o e=>?_,fun a p=>?_,fun a f p=>?_,fun a m p=>?_⟩,fun a m=>?_⟩
  ·rcases src a m with ⟨q,_⟩ | ⟨j,q,hj⟩
   ·exact ok2.nf a q f
   ·exact ok2.pf a f (restP j a q hj).1
  ·have hj:j < fs.length:=by rw [<- b1];exact (List.getElem?_eq_some_iff.mp e).1
   obtain ⟨s1,e1,e2⟩:=b2 j fs[j] (List.getElem?_eq_getElem hj)
   rw [e] at e1
   cases e1
   rw [Nat.zero_add] at e2
   have:∃ o',fs[j]?=some (some (.bor o')):=by
    unfold back1 at e2
    split at e2
    ·exact ⟨o,by rw [List.getElem?_eq_getElem hj];exact e2⟩
    ·split at e2
     ·rename_i o1 s et es
      cases s with
      | val t=>cases e2
      | own o2=>cases e2
      | bor o2=>exact ⟨o2,by rw [List.getElem?_eq_getElem hj,es]⟩
     ·cases e2
   obtain ⟨o',eo⟩:=this
   exact ok.bo j o' eo
  ·rw [(l.p a (.inl p)).2]
   exact ok.pd a p
  ·exact ok2.pf a f (l.p a (.inl p)).1
  ·rcases src a m with ⟨_,q⟩ | ⟨j,q,hj⟩
   ·exact q (l.p a (.inl p)).1
   ·exact ok.pl a (q2 j a q) p
  ·rcases src a m with ⟨q,_⟩ | ⟨j,q,hj⟩
   ·exact .inl q
   ·exact .inr (.inr ⟨j,q,hj⟩)
end FL
namespace FL
open PySem PySem.Spec L2
def Bof (σ:St):Nat->Option V:=fun k=>(σ[k]?).join
def Dt (n:Nat) (g:FS->SO):FS->Out Rv:=fun args=>match g (args++List.replicate n none) with
 | .nx τ=>.ok (.t .non) (τ.take args.length)
 | .ret (.t t) τ=>.ok (.t t) (τ.take args.length)
 | .ret (.nw o) τ=>.ok (.nw o) (τ.take args.length)
 | .ret (.rf i) τ=>match τ[i]? with
  | some (some (.own o))=>.ok (.nw o) ((τ.set i none).take args.length)
  | _=>.bad
 | .exc c τ=>.exc c (τ.take args.length)
 | _=>.bad
section
variable {P:Program} {w:World} {K:PySem.W.Frag} {mg:Str->Option Value} {base:Heap}
end
def CQ:Rv->Ini
 | .t t=>.val t
 | .rf i=>.slot i
 | .nw o=>.new o
theorem GI.len {K:PySem.W.Frag} {F:Wd} {H:Hp} {σ:St}:∀ {rs:List Rv} {vs:List V},GI K F H σ rs vs->vs.length=rs.length
 | [],_,h=>by cases h;rfl
 | r :: rs,_,h=>by
  obtain ⟨v,w,rfl,h1,h2⟩:=h
  simp [GI.len h2]
def Ee (K:PySem.W.Frag) (F:Wd) (H:Hp) (σ:St):List Rv->List V->List Addr->Prop
 | [],vs,L=>vs=[]/\L=[]
 | r :: rs,vs,L=>∃ v w L1 L2,vs=v :: w/\RelR K F H σ r v L1/\Ee K F H σ rs w L2/\L=L1++L2
def RAn (K:PySem.W.Frag) (B:Nat->Option V) (σ:St):Wd->Hp->FS->List Rv->List V->Prop:=fun F H fs rs vs=>∃ L M,Ok K F B H fs σ L/\Ee K F H σ rs vs M/\(L++M).Nodup/\∀ a∈M,¬ F a/\¬ F.p a
def tAn (K:PySem.W.Frag) (Z:Xp) (f:FS->Out (List Rv)):TA:=fun σ H Q=>∃ F B fs,Okk K F B H fs σ/\sat Z B (RAn K B σ) F H (f fs) Q
def FAn (X:Cx) (Z:Xp) (es:List Expr) (f:FS->Out (List Rv)):Prop:=PA X es (tAn X.K Z f)
def Ai (f:FS->Out Rv) (g:FS->Out (List Rv)):FS->Out (List Rv):=fun fs=>(f fs).bind fun r fs=>(g fs).bind fun rs fs=>.ok (r :: rs) fs
section
variable {K:PySem.W.Frag} {F F':Wd} {H H':Hp} {B:Nat->Option V} {fs:FS} {σ:St} {rs:List Rv} {vs:List V} {Z:Xp} {Q:VK} {Fn:FS->Out Rv} {E:XK}
theorem Ee.len:∀ {rs:List Rv} {vs:List V} {M:List Addr},Ee K F H σ rs vs M->vs.length=rs.length
 | [],_,_,h=>by obtain ⟨rfl,_⟩:=h;rfl
 | r :: rs,_,_,h=>by
  obtain ⟨v,w,L1,L2,rfl,_,h,_⟩:=h
  simp [Ee.len h]
theorem RelR.def {r:Rv} {v:V} {L:List Addr} (h:RelR K F H σ r v L):∀ a∈L,H a≠none:=by
 cases r with
 | t t=>obtain ⟨rfl,_⟩:=h;exact fun a m=>nomatch m
 | nw o=>exact A5.def h
 | rf i=>obtain ⟨rfl,_⟩:=h;exact fun a m=>nomatch m
theorem RelR.lf {r:Rv} {v:V} {L:List Addr} (l:∀ a,F a->F' a/\H' a=H a) (k:∀ a∈L,H' a=H a) (h:RelR K F H σ r v L):RelR K F' H' σ r v L:=by
 cases r with
 | t t=>exact ⟨h.1,AG.le (F:=⟨F.f,fun _=>False⟩) ⟨l,fun _ z=>z.elim⟩ (AG.wp h.2)⟩
 | nw o=>exact A5.le (F:=⟨F.f,fun _=>False⟩) ⟨l,fun _ z=>z.elim⟩ k (A5.wp h)
 | rf i=>exact h
theorem Ee.lf (l:∀ a,F a->F' a/\H' a=H a):∀ {rs:List Rv} {vs:List V} {M:List Addr},(∀ a∈M,H' a=H a)->Ee K F H σ rs vs M->Ee K F' H' σ rs vs M
 | [],_,_,_,h=>h
 | r :: rs,_,_,k,h=>by
  obtain ⟨v,w,L1,L2,e,h1,h2,rfl⟩:=h
  exact ⟨v,w,L1,L2,e,h1.lf l fun a m=>k a (List.mem_append_left _ m),Ee.lf l (fun a m=>k a (List.mem_append_right _ m)) h2,rfl⟩
theorem Ee.toP:∀ {rs:List Rv} {vs:List V} {M:List Addr},Ee K F H σ rs vs M->∃ μ:Nat->List Addr,(∀ k r,rs[k]?=some r->∃ v,vs[k]?=some v/\RelR K F H σ r v (μ k))/\(∀ k a,a∈μ k->a∈M/\H a≠none) /\
  (M.Nodup->(∀ k,(μ k).Nodup)/\∀ i j a,i≠j->a∈μ i->a∉μ j)
 | [],_,_,h=>⟨fun _=>[],(fun k r e=>by simp at e),(fun _ _ m=>nomatch m),fun _=>⟨fun _=>List.nodup_nil,(fun _ _ _ _ m=>nomatch m)⟩⟩
 | r :: rs,_,_,h=>by
  obtain ⟨v,w,L1,L2,rfl,h1,h2,rfl⟩:=h
  obtain ⟨μ,q1,q2,q3⟩:=Ee.toP h2
  refine ⟨fun i=>match i with | 0=>L1 | i+1=>μ i,fun k r' e=>?_,fun k a m=>?_,fun nd=>?_⟩
  ·cases k with
   | zero =>
    simp at e
    subst e
    exact ⟨v,rfl,h1⟩
   | succ k =>
    obtain ⟨u,e1,e2⟩:=q1 k r' (by simpa using e)
    exact ⟨u,by simpa using e1,e2⟩
  ·cases k with
   | zero=>exact ⟨List.mem_append_left _ m,h1.def a m⟩
   | succ k=>exact ⟨List.mem_append_right _ (q2 k a m).1,(q2 k a m).2⟩
  ·rw [List.nodup_append] at nd
   obtain ⟨n1,n2,n3⟩:=nd
   obtain ⟨m1,m2⟩:=q3 n2
   refine ⟨fun i=>?_,fun i j a hij hi hj=>?_⟩
   ·cases i with
    | zero=>exact n1
    | succ i=>exact m1 i
   ·cases i with
    | zero =>
     cases j with
     | zero=>exact hij rfl
     | succ j=>exact n3 a hi a (q2 j a hj).1 rfl
    | succ i =>
     cases j with
     | zero=>exact n3 a hj a (q2 i a hi).1 rfl
     | succ j=>exact m2 i j a (fun e=>hij (by rw [e])) hi hj
theorem ini_ok (q:RAn K B σ F H fs rs vs):∃ L μ,Ok K F B H fs σ L/\Mu F H L μ/\(vs.map some).length=(rs.map CQ).length/\∀ (k:Nat) (i:Ini) (v:Option V),(rs.map CQ)[k]?=some i->(vs.map some)[k]?=some v->IniOk K F H σ i v (μ k):=by
 obtain ⟨L,M,ok,q,nd,nf⟩:=q
 obtain ⟨μ,q1,q2,q3⟩:=q.toP
 rw [List.nodup_append] at nd
 obtain ⟨m1,m2⟩:=q3 nd.2.1
 refine ⟨L,μ,ok,⟨fun k a m=>⟨(nf a (q2 k a m).1).1,(nf a (q2 k a m).1).2,fun z=>nd.2.2 a z a (q2 k a m).1 rfl,(q2 k a m).2⟩,m1,m2⟩,by simp [q.len],fun k i v e1 e2=>?_⟩
 rw [List.getElem?_map,Option.map_eq_some_iff] at e1 e2
 obtain ⟨r,er,rfl⟩:=e1
 obtain ⟨u,eu,rfl⟩:=e2
 obtain ⟨u',e3,rr⟩:=q1 k r er
 rw [eu] at e3
 cases e3
 cases r with
 | t t=>exact ⟨u,rfl,rr.2⟩
 | nw o=>exact ⟨u,rfl,rr⟩
 | rf i=>exact rr.2
theorem RAn.len (q:RAn K B σ F H fs rs vs):vs.length=rs.length:=by
 obtain ⟨L,M,ok,q,_⟩:=q
 exact q.len
end
section
variable {X:Cx} {Z:Xp} {e:Expr} {es:List Expr} {f:FS->Out Rv} {g:FS->Out (List Rv)}
theorem AF:FAn X Z [] Ao:=pa_imp FD fun σ H Q ⟨F,B,fs,⟨L,ok⟩,s⟩=>s F H [] Le.refl ⟨L,[],ok,⟨rfl,rfl⟩,by simpa using ok.nd,(fun _ m=>nomatch m)⟩
theorem Aj (ha:FE X Z e f) (hr:FAn X Z es g) (hs:starEach (e :: es) X.env=(false,eval e X.env) :: starEach es X.env:=by rfl):FAn X Z (e :: es) (Ai f g):=by
 refine pa_imp (Cv ha hr hs) fun σ H Q ⟨F,B,fs,ok,s⟩=>⟨F,B,fs,ok,AM s fun r fs1 F1 H1 u l q s1=>?_⟩
 obtain ⟨L,L1,o1,r1,nd,nf⟩:=q
 have nda:=List.nodup_append.mp nd
 have le1:Le F1 H1 ⟨F1.f,fun a=>F1.p a∨a∈L1⟩ H1:=⟨fun a f=>⟨f,rfl⟩,fun a f=>⟨.inl f,rfl⟩⟩
 refine ⟨⟨F1.f,fun a=>F1.p a∨a∈L1⟩,B,fs1,⟨L,o1.sl.le le1 fun _ _=>rfl,o1.nd,o1.nf,o1.fd,o1.bo,fun a p=>?_,fun a f p=>?_,fun a m p=>?_⟩,?_⟩
 ·rcases p with p | p
  ·exact o1.pd a p
  ·exact r1.def a p
 ·rcases p with p | p
  ·exact o1.pf a f p
  ·exact (nf a p).1 f
 ·rcases p with p | p
  ·exact o1.pl a m p
  ·exact nda.2.2 a m a p rfl
 ·cases eg:g fs1 with
  | bad=>rw [eg] at s1;exact s1.elim
  | exc c t=>rw [eg] at s1;exact Z.mono s1 le1
  | ok rs fs2 =>
   rw [eg] at s1
   intro F2 H2 us l2 q2
   obtain ⟨L2,M2,o2,r2,nd2,nf2⟩:=q2
   have le2:Le F1 H1 ⟨F2.f,F1.p⟩ H2:=⟨fun a f=>l2.f a f,fun a f=>⟨f,(l2.p a (.inl f)).2⟩⟩
   have hp:∀ a∈L1,F2.p a/\H2 a=H1 a:=fun a m=>l2.p a (.inr m)
   have nd2':=List.nodup_append.mp nd2
   refine s1 ⟨F2.f,F1.p⟩ H2 (u :: us) le2 ⟨L2,L1++M2,⟨Ax.wp o2.sl,o2.nd,o2.nf,o2.fd,o2.bo,fun a f=>by rw [(le2.p a f).2];exact o1.pd a f,fun a f p=>o2.pf a f (l2.p a (.inl p)).1,fun a m p=>o2.pl a m (l2.p a (.inl p)).1⟩,⟨u,us,L1,M2,rfl,RelR.lf (F:=F1) (F':=⟨F2.f,F1.p⟩) (H:=H1) (H':=H2) (fun a f=>l2.f a f) (fun a m=>(hp a m).2) r1,Ee.lf (F:=F2) (F':=⟨F2.f,F1.p⟩) (fun a f=>⟨f,rfl⟩) (fun _ _=>rfl) r2,rfl⟩,?_,fun a m=>?_⟩
   ·rw [List.nodup_append]
    refine ⟨o2.nd,?_,fun a ha b hb e=>?_⟩
    ·rw [List.nodup_append]
     exact ⟨nda.2.1,nd2'.2.1,fun a ha b hb e=>(nf2 b hb).2 (e▸(hp a ha).1)⟩
    ·rcases List.mem_append.mp hb with hb | hb
     ·exact o2.pl a ha (e▸(hp b hb).1)
     ·exact nd2'.2.2 a ha b hb e
   ·rcases List.mem_append.mp m with m | m
    ·exact ⟨fun f=>o2.pf a f (hp a m).1,(nf a m).2⟩
    ·exact ⟨(nf2 a m).1,fun p=>(nf2 a m).2 (l2.p a (.inl p)).1⟩
end
section
variable {X:Cx} {Z:Xp} {x:Str} {k p:Nat} {ps:List Str} {Fn:FS->Out Rv} {e o:Expr} {es:List Expr} {fa:FS->Out (List Rv)} {fo:FS->Out Rv} {pp pos apos:Pos} {C:Addr} {m:Str}
end
def CU (gt:T->FS->Option FS) (ft:FS->Out Bool) (fe:FS->Out Rv):List T->FS->List T->Option (List T×FS)
 | [],τ,acc=>some (acc,τ)
 | t :: ts,τ,acc=>match gt t τ with
  | none=>none
  | some τ=>match ft τ with
   | .ok true τ=>(match fe τ with
    | .ok (.t v) τ=>if acc.length < big then CU gt ft fe ts τ (acc++[v]) else none
    | _=>none)
   | .ok false τ=>CU gt ft fe ts τ acc
   | _=>none
def HK:FS->Out Bool:=fun fs=>.ok true fs
def CA (new:Bool) (src:List (Option Nat)) (fi:FS->Out (List T)) (gt:T->FS->Option FS) (ft:FS->Out Bool) (fe:FS->Out Rv):FS->Out Rv:=fun fs=>(fi fs).bind fun ts fs =>
 if (Dc fs (src.map fun o=>o.elim Ini.no Ini.slot)).Nodup/\(src.all fun o=>o.elim true fun j=>decide (j < fs.length))=true then (match CU gt ft fe ts (D2 fs (src.map fun o=>o.elim Ini.no Ini.slot)) [] with
  | some (vs,τ)=>(match Fl (src.map fun o=>o.elim Ini.no Ini.slot) τ fs with
   | some fs'=>if new=true then .ok (.nw (.lst vs)) fs' else .ok (.t (.lst vs)) fs'
   | none=>.bad)
  | none=>.bad) else .bad
def FIf (X:Cx) (ifs:List Expr) (ft:FS->Out Bool):Prop:=PIfs X ifs (tT X.K Xp.no ft)
theorem pifs_imp {X:Cx} {e:List Expr} {t t':TT} (h:PIfs X e t) (i:∀ σ H Q,t' σ H Q->t σ H Q):PIfs X e t':=fun pins s σ H Q I q=>h pins s σ H Q I (i _ _ _ q)
theorem Gv {X:Cx}:FIf X [] HK:=pifs_imp pifs_nil fun σ H Q ⟨F,B,fs,ok,s⟩=>s F H true Le.refl ⟨ok,rfl⟩
theorem fif_one {X:Cx} {c:Expr} {ft:FS->Out Bool} (h:FT X Xp.no c ft):FIf X [c] ft:=pifs_one h
section
variable {K:PySem.W.Frag} {F:Wd} {H:Hp} {B:Nat->Option V} {fs:FS} {σ:St}
theorem Okk.hide {p:Addr} {o:HO} (h:Okk K F B H fs σ) (hp:H p=none):Okk K ⟨F.f,fun a=>F.p a∨a=p⟩ B (upd H p o) fs σ:=by
 obtain ⟨L,h⟩:=h
 have l:Le F H ⟨F.f,fun a=>F.p a∨a=p⟩ (upd H p o):=⟨fun a f=>⟨f,Ay fun e=>h.fd a f (e▸hp)⟩,fun a f=>⟨.inl f,Ay fun e=>h.pd a f (e▸hp)⟩⟩
 refine ⟨L,h.sl.le l (h.keepL hp),h.nd,h.nf,fun a q=>C5 (h.fd a q),h.bo,fun a q=>?_,fun a f q=>?_,fun a m q=>?_⟩
 ·rcases q with q | q
  ·exact C5 (h.pd a q)
  ·rw [q,AH];simp
 ·rcases q with q | q
  ·exact h.pf a f q
  ·exact h.fd a f (q▸hp)
 ·rcases q with q | q
  ·exact h.pl a m q
  ·exact h.sl.def a m (q▸hp)
theorem Okk.upP {p:Addr} {o:HO} (h:Okk K F B H fs σ) (hp:F.p p):Okk K F B (upd H p o) fs σ:=by
 obtain ⟨L,h⟩:=h
 have hf:∀ a,F a->(upd H p o) a=H a:=fun a f=>Ay fun e=>h.pf a f (e▸hp)
 have l:Le ⟨F.f,fun _=>False⟩ H ⟨F.f,F.p⟩ (upd H p o):=⟨fun a f=>⟨f,hf a f⟩,fun a f=>f.elim⟩
 have sl:Ax K ⟨F.f,fun _=>False⟩ H fs σ L:=Ax.wp h.sl
 refine ⟨L,sl.le l fun a m=>Ay fun e=>h.pl a m (e▸hp),h.nd,h.nf,fun a q=>C5 (h.fd a q),h.bo,fun a q=>C5 (h.pd a q),h.pf,h.pl⟩
theorem Af.upP {p:Addr} {o:HO} {ts:List T} {vs:List V} (h:Okk K F B H fs σ) (hp:F.p p) (r:Af K F H ts vs):Af K F (upd H p o) ts vs:=by
 obtain ⟨L,h⟩:=h
 have l:Le ⟨F.f,fun _=>False⟩ H ⟨F.f,F.p⟩ (upd H p o):=⟨fun a f=>⟨f,Ay fun e=>h.pf a f (e▸hp)⟩,fun a f=>f.elim⟩
 exact Af.le l (Af.wp r)
end
section
variable {X:Cx} {Z:Xp} {N:List Str} {sc:Scope} {tg iter elt:Expr} {ifs:List Expr} {fi:FS->Out (List T)} {gt:T->FS->Option FS} {ft:FS->Out Bool} {fe:FS->Out Rv} {pos:Pos} {K:PySem.W.Frag}
inductive CI (K:PySem.W.Frag) (W:Wd) (H1:Hp) (D:Addr) (Bc:Nat->Option V) (gt:T->FS->Option FS) (ft:FS->Out Bool) (fe:FS->Out Rv) (r:List T×FS) (l:List T) (τσ:St) (H2:Hp):Prop
 | mk (F2:Wd) (τ:FS) (acc:List T) (ys:List V) (l2:Le W H1 F2 H2) (pD:F2.p D) (ok2:Okk K F2 Bc H2 τ τσ) (hD2:H2 D=some (.lst ys)) (racc:Af K F2 H2 acc ys) (ec:CU gt ft fe l τ acc=some r):CI K W H1 D Bc gt ft fe r l τσ H2
theorem CI.put {W F6:Wd} {H1 H6:Hp} {D:Addr} {Bc:Nat->Option V} {r:List T×FS} {l:List T} {τσ:St} {τ3:FS} {acc:List T} {ys:List V} {v:T} {y:V} {L6:List Addr} (nP:¬ W.p D) (l16:Le W H1 F6 H6) (p6:F6.p D) (o6:Ok K F6 Bc H6 τ3 τσ L6) (racc6:Af K F6 H6 acc ys) (rv:AG K F6 H6 v y)
  (ec2:CU gt ft fe l τ3 (acc++[v])=some r):CI K W H1 D Bc gt ft fe r l τσ (upd H6 D (.lst (ys++[y]))) :=
 .mk F6 τ3 (acc++[v]) (ys++[y]) ⟨fun a f=>⟨(l16.f a f).1,by rw [Ay fun e=>o6.pf a (l16.f a f).1 (by rw [e];exact p6)];exact (l16.f a f).2⟩,fun a f=>⟨(l16.p a f).1,by rw [Ay fun e=>nP (by rw [<- e];exact f)];exact (l16.p a f).2⟩⟩
  p6 (Okk.upP ⟨L6,o6⟩ p6) AH (Af.upP ⟨L6,o6⟩ p6 (racc6.app (Af.one rv))) ec2
theorem CI.one {W F5:Wd} {H1 H5:Hp} {D:Addr} {Bc:Nat->Option V} {r:List T×FS} {l:List T} {τσ:St} {τ2:FS} {acc:List T} {ys:List V} (nP:¬ W.p D) (l15:Le W H1 F5 H5) (p5:F5.p D) (ok5:Okk K F5 Bc H5 τ2 τσ) (hD5:H5 D=some (.lst ys)) (racc5:Af K F5 H5 acc ys)
  (ec2:(match fe τ2 with | .ok (.t v) τ=>if acc.length < big then CU gt ft fe l τ (acc++[v]) else none | _=>none)=some r) :
  tF K Xp.no fe τσ H5 fun y H6=>∃ ys,H6 D=some (.lst ys)/\ys.length < sizeLine/\CI K W H1 D Bc gt ft fe r l τσ (upd H6 D (.lst (ys++[y]))):=by
 refine ⟨F5,Bc,τ2,ok5,?_⟩
 cases ee:fe τ2 with
 | exc c τ3=>rw [ee] at ec2;cases ec2
 | bad=>rw [ee] at ec2;cases ec2
 | ok w τ3 =>
  rw [ee] at ec2
  cases w with
  | nw o=>cases ec2
  | rf o=>cases ec2
  | t v =>
   dsimp only at ec2
   by_cases hlen:acc.length < big
   ·rw [if_pos hlen] at ec2
    intro F6 H6 y l6 q6
    obtain ⟨L6,L6',o6,⟨_,rv⟩,_⟩:=q6
    have p6:=l6.p D p5
    exact ⟨ys,p6.2.trans hD5,by rw [racc5.len];exact Nat.lt_trans hlen big_lt,CI.put nP (l15.trans l6) p6.1 o6 (racc5.le l6) rv ec2⟩
   ·rw [if_neg hlen] at ec2
    cases ec2
theorem CI.turn {W F3:Wd} {H1 H3:Hp} {D:Addr} {Bc:Nat->Option V} {r:List T×FS} {t:T} {l:List T} {τσ:St} {τ:FS} {acc:List T} {ys:List V} {x:V} (nP:¬ W.p D) (l2:Le W H1 F3 H3) (pD:F3.p D) (ok2:Okk K F3 Bc H3 τ τσ) (hD2:H3 D=some (.lst ys)) (racc:Af K F3 H3 acc ys)
  (ec2:CU gt ft fe (t :: l) τ acc=some r) (rx:AG K F3 H3 t x) :
  tG K gt x τσ H3 fun τ2 H4=>tT K Xp.no ft τ2 H4 fun b H5=>if b=true then tF K Xp.no fe τ2 H5 fun y H6=>∃ ys,H6 D=some (.lst ys)/\ys.length < sizeLine/\CI K W H1 D Bc gt ft fe r l τ2 (upd H6 D (.lst (ys++[y]))) else CI K W H1 D Bc gt ft fe r l τ2 H5:=by
 simp only [CU] at ec2
 refine ⟨F3,Bc,τ,t,ok2,rx,?_⟩
 cases eg:gt t τ with
 | none=>rw [eg] at ec2;cases ec2
 | some τ1 =>
  rw [eg] at ec2
  intro F4 H4 τσ4 l4 ok4
  refine ⟨F4,Bc,τ1,ok4,?_⟩
  dsimp only at ec2
  cases et:ft τ1 with
  | exc c τ2=>rw [et] at ec2;cases ec2
  | bad=>rw [et] at ec2;cases ec2
  | ok b τ2 =>
   rw [et] at ec2
   intro F5 H5 b' l5 q5
   obtain ⟨ok5,rfl⟩:=q5
   have p4:=l4.p D pD
   have p5:=l5.p D p4.1
   have h5:=(p5.2.trans p4.2).trans hD2
   have l15:=(l2.trans l4).trans l5
   have r5:=(racc.le l4).le l5
   cases b' with
   | false =>
    rw [if_neg (by decide)]
    exact .mk F5 τ2 acc ys l15 p5.1 ok5 h5 r5 ec2
   | true =>
    rw [if_pos rfl]
    exact CI.one nP l15 p5.1 ok5 h5 r5 ec2
theorem cap_ini {F:Wd} {H:Hp} {B:Nat->Option V} {fs:FS} {σ:St} {src:List (Option Nat)} (ok:Okk K F B H fs σ) (hall:(src.all fun o=>o.elim true fun j=>decide (j < fs.length))=true) (k:Nat) (i:Ini) (v:Option V) (e1:(src.map fun o=>o.elim Ini.no Ini.slot)[k]?=some i) (e2:(Ep σ src)[k]?=some v):IniOk K F H σ i v []:=by
 unfold Ep at e2
 rw [List.getElem?_map,Option.map_eq_some_iff] at e1 e2
 obtain ⟨o,eo,rfl⟩:=e1
 obtain ⟨o',eo',rfl⟩:=e2
 rw [eo] at eo'
 cases eo'
 cases o with
 | none=>exact trivial
 | some j =>
  have hj:j < σ.length:=by
   obtain ⟨L1,o1⟩:=ok
   rw [o1.sl.len]
   exact of_decide_eq_true (List.all_eq_true.mp hall _ (List.mem_of_getElem? eo))
  show σ[j]?=some ((σ[j]?).join)
  rw [List.getElem?_eq_getElem hj]
  rfl
theorem comp_new {F1 F2:Wd} {H2:Hp} {B:Nat->Option V} {fs':FS} {σ:St} {D:Addr} {ys:List V} {acc:List T} {L:List Addr} (o3:Ok K ⟨F2.f,F1.p⟩ B H2 fs' σ L) (hD2:H2 D=some (.lst ys)) (racc:Af K F2 H2 acc ys) (nL:D∉L) (nF:¬ F2 D) (np:¬ F1.p D):RR K B σ ⟨F2.f,F1.p⟩ H2 fs' (.nw (.lst acc)) (.ref D):=by
 refine ⟨L,[D],o3,Cr hD2 (Af.wp racc),?_,fun a m=>?_⟩
 ·rw [List.nodup_append]
  exact ⟨o3.nd,by simp,fun a ha b hb e=>nL (by rw [<- List.mem_singleton.mp hb,<- e];exact ha)⟩
 ·rw [List.mem_singleton.mp m]
  exact ⟨nF,np⟩
theorem comp_val {F1 F2:Wd} {H2:Hp} {B:Nat->Option V} {fs':FS} {σ:St} {D:Addr} {ys:List V} {acc:List T} {L:List Addr} (o3:Ok K ⟨F2.f,F1.p⟩ B H2 fs' σ L) (hD2:H2 D=some (.lst ys)) (racc:Af K F2 H2 acc ys) (nL:D∉L) (np:¬ F1.p D):RR K B σ (addL ⟨F2.f,F1.p⟩ [D]) H2 fs' (.t (.lst acc)) (.ref D):=by
 have l3:Le ⟨F2.f,F1.p⟩ H2 (addL ⟨F2.f,F1.p⟩ [D]) H2:=orF
 refine RR.of ⟨L,?_⟩ ?_
 ·refine ⟨o3.sl.le l3 fun _ _=>rfl,o3.nd,fun a m z=>?_,fun a z=>?_,o3.bo,o3.pd,fun a z=>?_,o3.pl⟩
  ·rcases z with z | z
   ·exact o3.nf a m z
   ·exact nL (by rw [<- List.mem_singleton.mp z];exact m)
  ·rcases z with z | z
   ·exact o3.fd a z
   ·rw [List.mem_singleton.mp z,hD2];simp
  ·rcases z with z | z
   ·exact o3.pf a z
   ·rw [List.mem_singleton.mp z];exact np
 ·simp only [BV,AG]
  exact ⟨D,ys,rfl,.inr (by simp),hD2,Af.le l3 (Af.wp racc)⟩
theorem comp_t {new:Bool} {src:List (Option Nat)} {σ:St} {H:Hp} {Q:VK} (h:tF K Z (CA new src fi gt ft fe) σ H Q):tComp src (tI K Z fi) (tG K gt) (tT K Xp.no ft) (tF K Xp.no fe) σ H Q:=by
 obtain ⟨F,B,fs,ok,s⟩:=h
 refine ⟨F,B,fs,ok,AM s fun ts fs1 F1 H1 J l q s1=>?_⟩
 obtain ⟨ok1,jk⟩:=q
 split at s1
 ·rename_i hnd
  obtain ⟨L9,ok9⟩:=id ok1
  obtain ⟨Pp,p1,p2,p3,p4⟩:=lend (μ:=fun _=>[]) ok9 (by unfold Ep;simp) (cap_ini ok1 hnd.2) hnd.1 Mu.no
  have jI:JOk K ⟨F1.f,Pp⟩ H1 J ts:=jk.within
  split at s1
  ·rename_i vs τe ec
   split at s1
   ·rename_i fs' eb
    intro D hD
    have nP:¬ Pp D:=fun z=>p3 D z hD
    refine ⟨fun i m τσ H2=>m=ts.length - i/\CI K ⟨F1.f,Pp⟩ H1 D (Bof (Ep σ src)) gt ft fe (vs,τe) (ts.drop i) τσ H2,
     ⟨ts.length,rfl,.mk ⟨F1.f,fun a=>Pp a∨a=D⟩ _ [] [] ⟨fun a f=>⟨f,Ay fun e=>p2.fd a f (e▸hD)⟩,fun a f=>⟨.inl f,Ay fun e=>nP (e▸f)⟩⟩ (.inr rfl) (p2.hide hD) AH rfl ec⟩,fun i m τσ H2 hc=>?_⟩
    obtain ⟨rfl,F2,τ,acc,ys,l2,pD,ok2,hD2,racc,ec2⟩:=hc
    by_cases hit:i < ts.length
    ·have ei:ts[i]?=some ts[i]:=List.getElem?_eq_getElem hit
     rw [List.drop_eq_getElem_cons hit] at ec2
     obtain ⟨j1,j2⟩:=(jI F2 H2 l2.f ⟨_,_,_,ok2⟩ i).1 _ ei
     refine .inr ⟨j1,CI K ⟨F1.f,Pp⟩ H1 D (Bof (Ep σ src)) gt ft fe (vs,τe) (ts.drop (i+1)),fun τσ' H' h=>⟨ts.length - (i+1),by omega,rfl,h⟩,fun x H3 hy=>?_⟩
     obtain ⟨F3,⟨l23,nw⟩,rx⟩:=j2 x H3 hy
     exact CI.turn nP (l2.trans l23) (l23.p D pD).1 (nw _ _ _ ok2) ((l23.p D pD).2.trans hD2) (racc.le l23) ec2 rx
    ·refine .inl ⟨(jI F2 H2 l2.f ⟨_,_,_,ok2⟩ i).2 (by omega),?_⟩
     rw [List.drop_eq_nil_of_le (by omega)] at ec2
     simp only [CU] at ec2
     cases ec2
     obtain ⟨Li,o2⟩:=ok2
     obtain ⟨le,L,o3,sub⟩:=p4 F2 H2 τe τσ Li fs' l2 o2 eb
     have nL:D∉L:=fun m=>(sub D m).elim (fun z=>o2.pl D z pD) nP
     have np:¬ F1.p D:=fun z=>nP (p1 D z)
     cases new with
     | true =>
      rw [if_pos rfl] at s1
      exact s1 ⟨F2.f,F1.p⟩ H2 (.ref D) le (comp_new o3 hD2 racc nL (fun f=>o2.pf D f pD) np)
     | false =>
      rw [if_neg (by decide)] at s1
      exact s1 (addL ⟨F2.f,F1.p⟩ [D]) H2 (.ref D) (le.trans orF) (comp_val o3 hD2 racc nL np)
   ·exact s1.elim
  ·exact s1.elim
 ·exact s1.elim
theorem E4 (new:Bool) (N:List Str) (src:List (Option Nat)) (hcalm:X.calm=true) (hi:FI X Z tg iter fi) (hg:∀ cl C s H fp,GT (BS X N sc cl C s H fp) tg gt) (ht:∀ cl C s H fp,FIf (BS X N sc cl C s H fp) ifs ft)
  (he:∀ cl C s H fp,FE (BS X N sc cl C s H fp) Xp.no elt fe) (hS:FK X.env.scope sc=true:=by rfl) (hcap:D8 X.N sc N src=true:=by rfl)
  (hs:∀ x,foldedSetIterable iter X.env x=pure x:=by intro _;rfl):FE X Z (.ListComp elt [⟨tg,iter,ifs,0⟩] sc pos) (CA new src fi gt ft fe) :=
 Bn (pe_comp (g:=tG X.K gt) (tt:=tT X.K Xp.no ft) (te:=tF X.K Xp.no fe) N src hcalm hi hg ht he hS hcap hs) fun _ _ _ h=>comp_t h
theorem gs_setComp (new:Bool) (i:Nat) {y:Str} {pos' spos:Pos} (N:List Str) (src:List (Option Nat)) (hcalm:X.calm=true) (hN:X.N.Nodup) (hy:Loc X.env.scope y) (hi:FI X Z tg iter fi) (hg:∀ cl C s H fp,GT (BS X N sc cl C s H fp) tg gt) (ht:∀ cl C s H fp,FIf (BS X N sc cl C s H fp) ifs ft)
  (he:∀ cl C s H fp,FE (BS X N sc cl C s H fp) Xp.no elt fe) (hiy:X.N[i]?=some y:=by rfl) (hS:FK X.env.scope sc=true:=by rfl) (hcap:D8 X.N sc N src=true:=by rfl)
  (hs:∀ x,foldedSetIterable iter X.env x=pure x:=by intro _;rfl) (hsw:swapsWith (.ListComp elt [⟨tg,iter,ifs,0⟩] sc pos) (some (.Name y pos')) spos.line X.env=pure true:=by rfl)
  (hf:X.fn y=true∨X.env.scope.names.lookup y=some .local:=by first | exact .inl rfl | exact .inr rfl | assumption) :
  GS X Z (.Assign [.Name y pos'] (.ListComp elt [⟨tg,iter,ifs,0⟩] sc pos) spos) (AK i (CA new src fi gt ft fe)) :=
 DN (ps_setComp (g:=tG X.K gt) (tt:=tT X.K Xp.no ft) (te:=tF X.K Xp.no fe) N src hcalm hN hiy hy hi hg ht he hS hcap hs hsw hf) fun _ _ _ s=>comp_t (set_t s)
end
end FL
namespace FL
open PySem PySem.Spec L2
def orG (g g':Rv->Rv->FS->Out Rv):Rv->Rv->FS->Out Rv:=fun x y fs=>match g x y fs with
 | .bad=>g' x y fs
 | o=>o
theorem OpF.or {K:PySem.W.Frag} {Z:Xp} {r r':R2} {g g':Rv->Rv->FS->Out Rv} (h:OpF K Z r g) (h':OpF K Z r' g'):OpF K Z (orR r r') (orG g g'):=by
 intro F B H σ fs x y u w Q ok rx ry s
 unfold orG at s
 cases e:g x y fs with
 | ok a t=>rw [e] at s;exact .inl (h F B H σ fs x y u w Q ok rx ry (by rw [e];exact s))
 | exc c t=>rw [e] at s;exact .inl (h F B H σ fs x y u w Q ok rx ry (by rw [e];exact s))
 | bad=>rw [e] at s;exact .inr (h' F B H σ fs x y u w Q ok rx ry s)
def orC (g g':List Rv->FS->Out Rv):List Rv->FS->Out Rv:=fun x fs=>match g x fs with
 | .bad=>g' x fs
 | o=>o
theorem Di.or {K:PySem.W.Frag} {Z:Xp} {r r':List V->Hp->VK->Prop} {g g':List Rv->FS->Out Rv} (h:Di K Z r g) (h':Di K Z r' g'):Di K Z (orCall r r') (orC g g'):=by
 intro F B H σ fs x u Q ok rx s
 unfold orC at s
 cases e:g x fs with
 | ok a t=>rw [e] at s;exact .inl (h F B H σ fs x u Q ok rx (by rw [e];exact s))
 | exc c t=>rw [e] at s;exact .inl (h F B H σ fs x u Q ok rx (by rw [e];exact s))
 | bad=>rw [e] at s;exact .inr (h' F B H σ fs x u Q ok rx s)
def exL (fs:FS):Rv->Option (List T)
 | .t (.lst ts)=>some ts
 | .rf i=>match A9 fs i with
  | some (.lst ts)=>some ts
  | _=>none
 | _=>none
theorem exL_ok {K:PySem.W.Frag} {B:Nat->Option V} {F:Wd} {H:Hp} {σ:St} {fs:FS} {x:Rv} {u:V} {ts:List T} (h:Okk K F B H fs σ) (r:BV K F H σ x u) (e:exL fs x=some ts):∃ a vs,u=.ref a/\H a=some (.lst vs)/\Af K F H ts vs:=by
 unfold exL at e
 split at e
 ·cases e
  simp only [BV,AG] at r
  obtain ⟨a,vs,e,f,s,q⟩:=r
  exact ⟨a,vs,e,s,q⟩
 ·rename_i i
  split at e
  ·rename_i ts' eo
   cases e
   obtain ⟨v,L2,e1,q,_⟩:=h.own eo
   have e2:σ[i]?=some (some u):=r
   rw [e1] at e2
   have e3:v=u:=by simpa using e2
   subst e3
   simp only [A5] at q
   obtain ⟨a,vs,e,s,q,_⟩:=q
   exact ⟨a,vs,e,s,q⟩
  ·cases e
 ·cases e
def gCatL:Rv->Rv->FS->Out Rv:=fun x y fs=>match exL fs x,exL fs y with
 | some ts,some us=>if ts.length+us.length<=big then .ok (.nw (.lst (ts++us))) fs else .bad
 | _,_=>.bad
def gCatT:Rv->Rv->FS->Out Rv
 | .t (.tup ts),.t (.tup us),fs=>if ts≠[]/\ts.length+us.length<=big then okT (.tup (ts++us)) fs else .bad
 | _,_,_=>.bad
section
variable {K:PySem.W.Frag} {Z:Xp}
theorem of_catL:OpF K Z rCat gCatL:=by
 intro F B H σ fs x y u w Q ok rx ry s
 unfold gCatL at s
 split at s
 ·rename_i ts us e1 e2
  split at s
  ·rename_i hl
   obtain ⟨a,vs,rfl,hs,r⟩:=exL_ok ok rx e1
   obtain ⟨b,ws,rfl,hs2,r2⟩:=exL_ok ok ry e2
   exact ⟨a,b,vs,ws,rfl,rfl,hs,hs2,by rw [r.len,r2.len];exact Nat.le_trans hl DU,fun p hp=>s F _ (.ref p) (Bh ok hp) (RR.alloc ok hp (Cr AH ((r.app r2).le (Bh ok hp))))⟩
  ·exact s.elim
 ·exact s.elim
theorem of_catT:OpF K Z (rCatT K) gCatT:=by
 intro F B H σ fs x y u w Q ok rx ry s
 unfold gCatT at s
 split at s
 ·rename_i ts us
  split at s
  ·rename_i hl
   obtain ⟨a,vs,rfl,hs,r⟩:=Ca (ts:=ts) rx rfl
   obtain ⟨b,ws,rfl,hs2,r2⟩:=Ca (ts:=us) ry rfl
   refine ⟨a,b,vs,ws,rfl,rfl,hs,hs2,fun z=>hl.1 ?_,by rw [r.len,r2.len];exact Nat.le_trans hl.2 DU,fun z=>?_,fun _ p hp=>s _ _ (.ref p) (Bw ok hp) (D1 ok hp (r.app r2))⟩
   ·have:=r.len
    rw [z] at this
    exact List.eq_nil_of_length_eq_zero this.symm
   ·have e:us=[]:=by
     have:=r2.len
     rw [z] at this
     exact List.eq_nil_of_length_eq_zero this.symm
    subst e
    rw [List.append_nil] at s
    exact s F H _ Le.refl (RR.of ok rx)
  ·exact s.elim
 ·exact s.elim
def gCatT0:Rv->Rv->FS->Out Rv
 | .t (.tup []),.t (.tup us),fs=>okT (.tup us) fs
 | _,_,_=>.bad
theorem of_catT0:OpF K Z (rCatT0 K) gCatT0:=by
 intro F B H σ fs x y u w Q ok rx ry s
 unfold gCatT0 at s
 split at s
 ·rename_i us
  obtain ⟨a,vs,rfl,hs,r⟩:=Ca (ts:=[]) rx rfl
  obtain ⟨b,ws,rfl,hs2,r2⟩:=Ca (ts:=us) ry rfl
  have e:vs=[]:=by simpa [Af] using r
  subst e
  exact ⟨a,b,ws,rfl,rfl,hs,hs2,s F H _ Le.refl (RR.of ok ry)⟩
 ·exact s.elim
theorem of_dget:OpF K Z rDGet gDGet:=by
 intro F B H σ fs x y u w Q ok rx ry s
 unfold gDGet at s
 split at s
 ·split at s
  ·rename_i t e
   obtain ⟨a,o',rfl,hd,h⟩:=dget_ok ok rx ry e
   rcases h with ⟨h1,_⟩ | ⟨t',v,h1,h2,h3⟩
   ·cases h1
   ·cases h1
    subst h2
    exact ⟨a,v,rfl,hd,s F H v Le.refl (RR.of ok h3)⟩
  ·exact s.elim
 ·exact s.elim
end
def Ar:=orG gAdd (orG gAddS (orG gCatL (orG gCatT gCatT0)))
def Bb:=orG gMul gMulS
def AN:=orG gIx gDGet
def gLenD:List Rv->FS->Out Rv
 | [.t (.dK ks _)],fs=>okT (.int ks.length) fs
 | [.rf i],fs=>match A9 fs i with
  | some (.dK ks _)=>okT (.int ks.length) fs
  | _=>.bad
 | _,_=>.bad
def Be:=orC gLen (orC gLenS gLenD)
def gListU:=orC gList gListD
section
variable {K:PySem.W.Frag} {Z:Xp}
theorem cf_lenD:Di K Z (fun xs H Q=>∃ a kvs,xs=[V.ref a]/\Rd H a (.dK kvs)/\Q (.int kvs.length) H) gLenD:=by
 intro F B H σ fs rs vs Q ok q s
 unfold gLenD at s
 split at s
 ·obtain ⟨v,rfl,qq⟩:=BQ q
  have q:=qq
  simp only [BV,AG] at q
  obtain ⟨a,kvs,rfl,f,hd,rfl,r⟩:=q
  rw [List.length_map] at s
  exact ⟨a,kvs,rfl,hd,s F H _ Le.refl (RR.of ok rfl)⟩
 ·rename_i i
  obtain ⟨v,rfl,qq⟩:=BQ q
  have q:=qq
  split at s
  ·rename_i eo
   obtain ⟨v',L2,e1,q2,_⟩:=ok.own eo
   have e2:σ[i]?=some (some v):=q
   rw [e1] at e2
   have e3:v'=v:=by simpa using e2
   subst e3
   simp only [A5] at q2
   obtain ⟨a,kvs,rfl,hd,rfl,_⟩:=q2
   rw [List.length_map] at s
   exact ⟨a,kvs,rfl,.inl hd,s F H _ Le.refl (RR.of ok rfl)⟩
  ·exact s.elim
 ·exact s.elim
end
section
variable {X:Cx} {Z:Xp} {a b:Expr} {fa fb:FS->Out Rv} {pos:Pos}
theorem AO (ha:FE X Z a fa) (hb:FE X Z b fb):FE X Z (.BinOp a .Add b pos) (Ad Ar fa fb) :=
 fe_op (OpF.or of_add (OpF.or of_addS (OpF.or of_catL (OpF.or of_catT of_catT0)))) (OpR.orR op_add (OpR.orR op_add_str (OpR.orR op_cat (OpR.orR op_catT op_catT0)))) ha hb
theorem fe_sub (ha:FE X Z a fa) (hb:FE X Z b fb):FE X Z (.BinOp a .Sub b pos) (Ad Em fa fb):=fe_op of_sub op_sub ha hb
theorem Df (ha:FE X Z a fa) (hb:FE X Z b fb):FE X Z (.BinOp a .Mult b pos) (Ad Bb fa fb):=fe_op (OpF.or of_mul of_mulS) (OpR.orR op_mulK op_mulStr) ha hb
theorem A3 (ha:FE X Z a fa) (hb:FE X Z b fb):FE X Z (.BinOp a .Mod b pos) (Ad Bd fa fb):=fe_op of_mod op_mod ha hb
theorem BO (ha:FE X Z a fa) (hb:FE X Z b fb):FE X Z (.BinOp a .FloorDiv b pos) (Ad BZ fa fb):=fe_op of_div op_fdiv ha hb
theorem Bo (hu:X.A.units+1 < cLine) (ha:FE X Z a fa) (hb:FE X Z b fb) (hs:PlainIx b):FE X Z (.Subscript a b pos) (Ad AN fa fb):=fe_ix (OpF.or of_ix of_dget) (IxR.orR ix_seq (ix_dict hu)) ha hb hs
theorem ft_lt (ha:FE X Z a fa) (hb:FE X Z b fb):FT X Z (.Compare a [.Lt] [b] pos) (asB (Ad gLt fa fb)):=ft_cmp of_lt op_lt ha hb (nomark _)
end
def itU (f:FS->Out Rv):FS->Out (List T):=fun fs=>(f fs).bnd fun r fs=>match r with
 | .t (.lst ts)=>.ok ts fs
 | .t (.scr ts)=>.ok ts fs
 | .t (.tup ts)=>.ok ts fs
 | .t (.str z)=>.ok (signs z) fs
 | _=>.bad
theorem Hq {X:Cx} {Z:Xp} {tg l:Expr} {f:FS->Out Rv} (hl:FE X Z l f):FI X Z tg l (itU f):=by
 refine pi_imp (pi_seq hl) fun σ H Q ⟨F,B,fs,ok,s⟩=>⟨F,B,fs,ok,AQ s fun r fs1 F1 H1 u l ok1 rx s1=>?_⟩
 split at s1
 ·rename_i ts
  simp only [BV,AG] at rx
  obtain ⟨a,vs,rfl,ff,hs,r⟩:=rx
  exact .inl ⟨a,rfl,⟨vs,SqL.of hs⟩,s1 F1 H1 _ Le.refl ⟨ok1,jok_list (fun F' H' l=>SqL.of ((l a ff).2.trans hs)) r⟩⟩
 ·rename_i ts
  simp only [BV,AG] at rx
  obtain ⟨a,vs,rfl,hs,r⟩:=rx
  exact .inl ⟨a,rfl,⟨vs,hs.sq⟩,s1 F1 H1 _ Le.refl ⟨ok1,jok_list (fun F' H' l=>(StL.lf l hs).sq) r⟩⟩
 ·rename_i ts
  simp only [BV,AG] at rx
  obtain ⟨a,vs,rfl,hs,r⟩:=rx
  exact .inr (.inl ⟨a,rfl,⟨vs,hs.sq⟩,s1 F1 H1 _ Le.refl ⟨ok1,jok_tup (fun F' H' l=>SqT.of ((l a hs.2.1).2.trans hs.2.2)) r⟩⟩)
 ·rename_i z
  exact .inr (.inr ⟨z,rx,s1 F1 H1 _ Le.refl ⟨ok1,jok_str⟩⟩)
 ·exact s1.elim
def gSetL:Rv->Rv->Rv->FS->SO
 | .rf i,.t (.int k),.t t,fs=>match A9 fs i with
  | some (.lst ts)=>match ixN ts.length k with
   | some j=>.nx (putAt fs i (.lst (ts.set j t)))
   | none=>.bad
  | _=>.bad
 | _,_,_,_=>.bad
def gSetD:Rv->Rv->Rv->FS->SO
 | .rf i,.t y,.t t,fs=>match A9 fs i with
  | some (.dK ks ts)=>match tKey y with
   | some k=>if ks.length < big then .nx (putAt fs i (.dK (putT ks ts k t).1 (putT ks ts k t).2)) else .bad
   | none=>.bad
  | some (.dT ks ts)=>match y with
   | .tup ys=>match HR ys with
    | some k=>if ks.length < big then .nx (putAt fs i (.dT (putT ks ts k t).1 (putT ks ts k t).2)) else .bad
    | none=>.bad
   | _=>.bad
  | _=>.bad
 | _,_,_,_=>.bad
def gSetU:Rv->Rv->Rv->FS->SO:=fun o i v fs=>match gSetL o i v fs with
 | .bad=>gSetD o i v fs
 | s=>s
def setItS (fv fo fi:FS->Out Rv):FS->SO:=fun fs=>SO.of ((fv fs).bnd fun v fs=>(fo fs).bnd fun o fs=>(fi fs).bnd fun i fs=>.ok (v,o,i) fs) fun (v,o,i) fs=>gSetU o i v fs
section
variable {K:PySem.W.Frag} {Z:Xp} {B:Nat->Option V} {F:Wd} {H:Hp} {σ:St} {fs:FS} {D:Ends}
theorem gSetL_ok {o i v:Rv} {uo ui uv:V} (ok:Okk K F B H fs σ) (ro:BV K F H σ o uo) (ri:BV K F H σ i ui) (rv:BV K F H σ v uv) (s:Fy K Z B F H (gSetL o i v fs) D):rSetL uo ui uv H (fun H3=>D.nx σ H3):=by
 unfold gSetL at s
 split at s
 ·rename_i i k t
  split at s
  ·rename_i ts e
   split at s
   ·rename_i j ej
    obtain ⟨a,us,rfl,hs,r,kk⟩:=ok.list ro e
    obtain ⟨ok',l⟩:=kk (ts.set j t) (us.set j uv) (Af.set rv j r)
    exact ⟨a,us,k,j,rfl,ri,hs,by rw [r.len];exact ej,s F _ σ l ok'⟩
   ·exact s.elim
  ·exact s.elim
 ·exact s.elim
theorem gSetD_ok {o i v:Rv} {uo ui uv:V} (ok:Okk K F B H fs σ) (ro:BV K F H σ o uo) (ri:BV K F H σ i ui) (rv:BV K F H σ v uv) (s:Fy K Z B F H (gSetD o i v fs) D):rDPut uo ui uv H (fun H3=>D.nx σ H3):=by
 unfold gSetD at s
 split at s
 ·rename_i i y t
  split at s
  ·rename_i ks ts e
   split at s
   ·rename_i k ek
    split at s
    ·rename_i hl
     obtain ⟨v,L2,e1,q,nf,_,kk⟩:=ok.own e
     have e2:σ[i]?=some (some uo):=ro
     rw [e1] at e2
     have e3:v=uo:=by simpa using e2
     subst e3
     simp only [A5] at q
     obtain ⟨a,kvs,rfl,hs,rfl,q,rfl⟩:=q
     have:=FZ ek ri
     subst this
     refine ⟨a,_,rfl,DPut.k hs (by rw [List.length_map] at hl;exact Nat.lt_trans hl big_lt),?_⟩
     obtain ⟨h1,h2⟩:=putT_rel (j:=k) rv q
     have l:Le F H F (upd H a (.dK (putK kvs k uv))):=⟨fun b f=>⟨f,Ay fun z=>(nf a (by simp)).1 (z▸f)⟩,fun b f=>⟨f,Ay fun z=>(nf a (by simp)).2 (z▸f)⟩⟩
     obtain ⟨ok',l'⟩:=kk (.dK (putT (kvs.map (·.1)) ts k t).1 (putT (kvs.map (·.1)) ts k t).2) (upd H a (.dK (putK kvs k uv))) (fun b hb _=>Ay (by simpa using hb)) (by
      simp only [A5]
      exact ⟨a,_,rfl,AH,h1,h2.le l,rfl⟩)
     exact s F _ σ l' ok'
    ·exact s.elim
   ·exact s.elim
  ·rename_i ks ts e
   split at s
   ·rename_i ys
    split at s
    ·rename_i k ek
     split at s
     ·rename_i hl
      obtain ⟨v,L2,e1,q,nf,_,kk⟩:=ok.own e
      have e2:σ[i]?=some (some uo):=ro
      rw [e1] at e2
      have e3:v=uo:=by simpa using e2
      subst e3
      simp only [A5] at q
      obtain ⟨a,kvs,rfl,hs,rfl,q,rfl⟩:=q
      simp only [BV,AG] at ri
      obtain ⟨b,vs,rfl,hb,rb⟩:=ri
      have:=EL ek rb
      subst this
      refine ⟨a,_,rfl,DPut.t hs hb.2.2 (by rw [List.length_map] at hl;exact Nat.lt_trans hl big_lt),?_⟩
      obtain ⟨h1,h2⟩:=putT_rel (j:=k) rv q
      have l:Le F H F (upd H a (.dT (putK kvs k uv))):=⟨fun b f=>⟨f,Ay fun z=>(nf a (by simp)).1 (z▸f)⟩,fun b f=>⟨f,Ay fun z=>(nf a (by simp)).2 (z▸f)⟩⟩
      obtain ⟨ok',l'⟩:=kk (.dT (putT (kvs.map (·.1)) ts k t).1 (putT (kvs.map (·.1)) ts k t).2) (upd H a (.dT (putK kvs k uv))) (fun b hb _=>Ay (by simpa using hb)) (by
       simp only [A5]
       exact ⟨a,_,rfl,AH,h1,h2.le l,rfl⟩)
      exact s F _ σ l' ok'
     ·exact s.elim
    ·exact s.elim
   ·exact s.elim
  ·exact s.elim
 ·exact s.elim
end
theorem gs_setIt {X:Cx} {Z:Xp} {o i e:Expr} {fv fo fi:FS->Out Rv} {tpos pos:Pos} (hu:X.A.units+1 < cLine) (he:FE X Z e fv) (ho:FE X Z o fo) (hi:FE X Z i fi)
  (h:∀ {te to ti:TE} {t:TSet},PE X e te->PE X o to->PE X i ti->PSet X t->PS X (.Assign [.Subscript o i tpos] e pos) (tAsg te (gSub to ti t))):GS X Z (.Assign [.Subscript o i tpos] e pos) (setItS fv fo fi):=by
 refine DN (h he ho hi (PSet.orR set_list (set_dict hu))) fun D σ H ⟨F,B,fs,ok,s⟩=>?_
 have s':sat Z B (RR X.K B σ) F H (fv fs) (fun v H1=>gSub (tF X.K Z fo) (tF X.K Z fi) (orSet rSetL rDPut) v σ H1 D.nx):=by
  have s1:=C7 (R:=fun F' H' fs' (a:Rv×Rv×Rv) (b:V×V×V)=>Okk X.K F' B H' fs' σ/\BV X.K F' H' σ a.1 b.1/\BV X.K F' H' σ a.2.1 b.2.1/\BV X.K F' H' σ a.2.2 b.2.2) (Q:=fun b H3=>orSet rSetL rDPut b.2.1 b.2.2 b.1 H3 fun H4=>D.nx σ H4) s (fun a fs' F' H' b l q s2=>by
   obtain ⟨q1,q2,q3,q4⟩:=q
   obtain ⟨v,o,i⟩:=a
   dsimp only at s2 q2 q3 q4 ⊢
   unfold gSetU at s2
   split at s2
   ·exact .inr (gSetD_ok q1 q3 q4 q2 s2)
   ·exact .inl (gSetL_ok q1 q3 q4 q2 s2))
  refine AQ s1 fun v fs1 F1 H1 uv l1 ok1 rv s2=>?_
  refine ⟨F1,B,fs1,ok1,AQ s2 fun o fs2 F2 H2 uo l2 ok2 ro s3=>⟨F2,B,fs2,ok2,AQ s3 fun i fs3 F3 H3 ui l3 ok3 ri s4=>?_⟩⟩
  exact s4 F3 H3 (uv,uo,ui) Le.refl ⟨ok3,(rv.le l2).le l3,ro.le l3,ri⟩
 exact ⟨F,B,fs,ok,s'⟩
end FL
namespace FL
open PySem PySem.Spec L2
section
variable {K:PySem.W.Frag} {B:Nat->Option V} {F F':Wd} {H H':Hp} {σ:St} {fs:FS} {i:Nat} {ob:FO} {r:Rv} {u:V}
end
end FL
namespace FL
open PySem PySem.Spec L2
section
variable {X:Cx} {Z:Xp} {e:Expr} {es:List Expr} {fa:FS->Out (List Rv)} {pos p:Pos}
theorem Cp (hm:X.mg "len"=none) (ha:FA X Z (e :: es) fa) (hg:Gl X "len":=by rfl) (he:starEach (e :: es) X.env=(false,eval e X.env) :: starEach es X.env:=by rfl) (hpl:(backTo pos (starEach es X.env)).any (·.1)=false:=by rfl) :
  FE X Z (.Call (.Name "len" p) (e :: es) [] pos) (Ak Be fa):=Gx (Di.or cf_len (Di.or cf_lenS cf_lenD)) (CB.orR HC (CB.orR HB call_lenDR)) hm PySem.boot_len ha hg (by decide) (by decide) he hpl
theorem fe_min2 (hm:X.mg "min"=none) (ha:FA X Z (e :: es) fa) (hc:X.calm=true:=by rfl) (hg:Gl X "min":=by rfl) (he:starEach (e :: es) X.env=(false,eval e X.env) :: starEach es X.env:=by rfl) (hpl:(backTo pos (starEach es X.env)).any (·.1)=false:=by rfl) :
  FE X Z (.Call (.Name "min" p) (e :: es) [] pos) (Ak D5 fa):=Gx cf_min2 (call_min2 hc) hm PyProof.Rows.boot_min ha hg (by decide) (by decide) he hpl
theorem fe_sum (hm:X.mg "sum"=none) (ha:FA X Z (e :: es) fa) (hc:X.calm=true:=by rfl) (hg:Gl X "sum":=by rfl) (he:starEach (e :: es) X.env=(false,eval e X.env) :: starEach es X.env:=by rfl) (hpl:(backTo pos (starEach es X.env)).any (·.1)=false:=by rfl) :
  FE X Z (.Call (.Name "sum" p) (e :: es) [] pos) (Ak gSum fa):=Gx cf_sum (call_sum hc) hm PyProof.Rows.boot_sum ha hg (by decide) (by decide) he hpl
theorem fe_list (hm:X.mg "list"=none) (ha:FA X Z (e :: es) fa) (hc:X.calm=true:=by rfl) (hg:Gl X "list":=by rfl) (he:starEach (e :: es) X.env=(false,eval e X.env) :: starEach es X.env:=by rfl) (hpl:(backTo pos (starEach es X.env)).any (·.1)=false:=by rfl) :
  FE X Z (.Call (.Name "list" p) (e :: es) [] pos) (Ak gListU fa):=Hs (Di.or cf_list cf_listD) (CB.orR HA (Fb hc)) hm PyProof.Rows.boot_list ha hg (by decide) (by decide) he hpl
theorem fe_tuple (hm:X.mg "tuple"=none) (ha:FA X Z (e :: es) fa) (hg:Gl X "tuple":=by rfl) (he:starEach (e :: es) X.env=(false,eval e X.env) :: starEach es X.env:=by rfl) (hpl:(backTo pos (starEach es X.env)).any (·.1)=false:=by rfl) :
  FE X Z (.Call (.Name "tuple" p) (e :: es) [] pos) (Ak EY fa):=Hs cf_tuple GA hm PyProof.Rows.boot_tuple ha hg (by decide) (by decide) he hpl
end
def revF (f:FS->Out Rv):FS->Out Rv:=fun fs=>(f fs).bnd fun r fs=>match CZ fs r with
 | some ts=>.ok (.nw (.lst ts.reverse)) fs
 | none=>.bad
theorem fe_listRev {X:Cx} {Z:Xp} {a:Expr} {f:FS->Out Rv} {p1 p2 pos1 pos2:Pos} (hc:X.calm=true) (hm1:X.mg "list"=none) (hm2:X.mg "reversed"=none) (ha:FE X Z a f) (hg1:Gl X "list":=by rfl) (hg2:Gl X "reversed":=by rfl)
  (he:starEach [(.Call (.Name "reversed" p2) [a] [] pos2:Expr)] X.env=[(false,eval (.Call (.Name "reversed" p2) [a] [] pos2) X.env)]:=by rfl) (he2:starEach [a] X.env=[(false,eval a X.env)]:=by rfl) :
  FE X Z (.Call (.Name "list" p1) [.Call (.Name "reversed" p2) [a] [] pos2] [] pos1) (revF f):=by
 refine Bn (pe_listRev hc hm1 hm2 ha hg1 hg2 he he2) fun σ H Q ⟨F,B,fs,ok,s⟩=>⟨F,B,fs,ok,AQ s fun r fs1 F1 H1 u l ok1 rx s1=>?_⟩
 split at s1
 ·rename_i ts ets
  obtain ⟨a,vs,rfl,hs,q⟩:=Br ok1 rx ets
  exact ⟨a,vs,rfl,hs,fun d hd=>s1 F1 _ (.ref d) (Bh ok1 hd) (RR.alloc ok1 hd (Cr AH ((q.rev).le (Bh ok1 hd))))⟩
 ·exact s1.elim
def negF (f:FS->Out Rv):FS->Out Rv:=fun fs=>(f fs).bnd fun r fs=>match r with
 | .t (.int i)=>okT (.int (-i)) fs
 | _=>.bad
theorem FH {X:Cx} {Z:Xp} {a:Expr} {f:FS->Out Rv} {pos:Pos} (ha:FE X Z a f):FE X Z (.UnaryOp .USub a pos) (negF f):=by
 refine Bn (pe_un un_neg ha) fun σ H Q ⟨F,B,fs,ok,s⟩=>⟨F,B,fs,ok,AQ s fun r fs1 F1 H1 u l ok1 rx s1=>?_⟩
 split at s1
 ·exact ⟨_,rx,s1 F1 H1 _ Le.refl (RR.of ok1 rfl)⟩
 ·exact s1.elim
def gPow:=gI fun i j fs=>if 0<=j/\j<=1000000/\i.natAbs < 2 ^ 64 then okT (.int (i ^ j.toNat)) fs else .bad
theorem of_pow {K:PySem.W.Frag} {Z:Xp}:OpF K Z (rI CPow fun i j=>.int (i ^ j.toNat)) gPow:=opf_I (t:=fun i j=>.int (i ^ j.toNat)) (fun _ _ _ _ _=>rfl) fun i j fs=>by
 by_cases h:0<=j/\j<=1000000/\i.natAbs < 2 ^ 64
 ·exact .inr ⟨h,if_pos h⟩
 ·exact .inl (if_neg h)
theorem fe_pow {X:Cx} {Z:Xp} {a b:Expr} {fa fb:FS->Out Rv} {pos:Pos} (ha:FE X Z a fa) (hb:FE X Z b fb):FE X Z (.BinOp a .Pow b pos) (Ad gPow fa fb):=fe_op of_pow op_pow ha hb
def RP (K:PySem.W.Frag) (B:Nat->Option V) (σ:St):Wd->Hp->FS->Option Int->Option Int->Prop:=fun F H fs a b=>Okk K F B H fs σ/\b=a
def tP (K:PySem.W.Frag) (Z:Xp) (f:FS->Out (Option Int)):TO:=fun σ H Q=>∃ F B fs,Okk K F B H fs σ/\sat Z B (RP K B σ) F H (f fs) Q
def FP (X:Cx) (Z:Xp) (e:Option Expr) (f:FS->Out (Option Int)):Prop:=PO X e (tP X.K Z f)
theorem po_imp {X:Cx} {e:Option Expr} {t t':TO} (h:PO X e t) (i:∀ σ H Q,t' σ H Q->t σ H Q):PO X e t':=fun pins s σ H Q I q=>h pins s σ H Q I (i _ _ _ q)
def noP:FS->Out (Option Int):=fun fs=>.ok none fs
def AU (f:FS->Out Rv):FS->Out (Option Int):=fun fs=>(f fs).bnd fun r fs=>match r with
 | .t (.int i)=>.ok (some i) fs
 | _=>.bad
def FJ (ts:List T) (lo hi:Option Int):List T:=(ts.drop (HT.sIx ts.length 0 lo)).take (HT.sIx ts.length ts.length hi - HT.sIx ts.length 0 lo)
theorem cutT_rel {K:PySem.W.Frag} {F:Wd} {H:Hp} {ts:List T} {vs:List V} {lo hi:Option Int} (r:Af K F H ts vs):Af K F H (FJ ts lo hi) (cutV vs lo hi):=by
 unfold FJ cutV
 rw [r.len]
 exact (r.drop _).take _
def gSlU:Rv->Option Int->Option Int->FS->Out Rv:=fun x lo hi fs=>match CZ fs x with
 | some ts=>okT (.lst (FJ ts lo hi)) fs
 | none=>match x with
  | .t (.tup ts)=>okT (.tup (FJ ts lo hi)) fs
  | _=>.bad
def slF (f:FS->Out Rv) (l h:FS->Out (Option Int)):FS->Out Rv:=fun fs=>(f fs).bnd fun x fs=>(l fs).bind fun lo fs=>(h fs).bind fun hi fs=>gSlU x lo hi fs
section
variable {X:Cx} {Z:Xp} {e:Expr} {lo hi:Option Expr} {f:FS->Out Rv} {l h:FS->Out (Option Int)} {pos p2:Pos}
theorem Cz:FP X Z none noP:=po_imp po_none fun σ H Q ⟨F,B,fs,ok,s⟩=>s F H none Le.refl ⟨ok,rfl⟩
theorem Cy (he:FE X Z e f):FP X Z (some e) (AU f):=by
 refine po_imp (po_some he) fun σ H Q ⟨F,B,fs,ok,s⟩=>⟨F,B,fs,ok,AQ s fun r fs1 F1 H1 u l ok1 rx s1=>?_⟩
 split at s1
 ·exact ⟨_,rx,s1 F1 H1 _ Le.refl ⟨ok1,rfl⟩⟩
 ·exact s1.elim
theorem Fi (he:FE X Z e f) (hl:FP X Z lo l) (hu:FP X Z hi h):FE X Z (.Subscript e (.Slice lo hi none p2) pos) (slF f l h):=by
 refine Bn (pe_slice (SlR.or sl_list (SlR.or sl_tup sl_all)) he hl hu) fun σ H Q ⟨F,B,fs,ok,s⟩=>⟨F,B,fs,ok,AQ s fun x fs1 F1 H1 u l1 ok1 rx s1=>⟨F1,B,fs1,ok1,AM s1 fun lo fs2 F2 H2 lo' l2 q2 s2=>?_⟩⟩
 obtain ⟨ok2,rfl⟩:=q2
 refine ⟨F2,B,fs2,ok2,AM s2 fun hi fs3 F3 H3 hi' l3 q3 s3=>?_⟩
 obtain ⟨ok3,rfl⟩:=q3
 have rx3:=(rx.le l2).le l3
 unfold gSlU at s3
 split at s3
 ·rename_i ts e
  obtain ⟨a,vs,rfl,hs,r⟩:=Br ok3 rx3 e
  exact .inl ⟨a,vs,rfl,hs,fun p hp=>s3 _ _ (.ref p) (Bw ok3 hp) (rel_newLst ok3 hp (cutT_rel r))⟩
 ·split at s3
  ·rename_i ts _
   obtain ⟨a,vs,rfl,hs,r⟩:=Ca (ts:=ts) rx3 rfl
   by_cases hw:HT.sIx ts.length 0 lo'=0/\HT.sIx ts.length ts.length hi'=ts.length
   ·refine .inr (.inr ⟨a,vs,rfl,hs,by rw [r.len];exact hw,s3 F3 H3 _ Le.refl (RR.of ok3 ?_)⟩)
    have e:FJ ts lo' hi'=ts:=by
     unfold FJ
     rw [hw.1,hw.2]
     simp
    rw [e]
    exact rx3
   ·exact .inr (.inl ⟨a,vs,rfl,hs,by rw [r.len];exact hw,fun p hp=>s3 _ _ (.ref p) (Bw ok3 hp) (D1 ok3 hp (cutT_rel r))⟩)
  ·exact s3.elim
end
end FL
namespace FL
open PySem PySem.Spec L2
def seqB:T->Option (List T)
 | .lst ts=>some ts
 | .scr ts=>some ts
 | .tup ts=>some ts
 | _=>none
def pairs:List T->List T->List T
 | x :: xs,y :: ys=>.tup [x,y] :: pairs xs ys
 | _,_=>[]
theorem pairs_at:∀ {xs ys:List T} {i:Nat} {t:T},(pairs xs ys)[i]?=some t->∃ x y,xs[i]?=some x/\ys[i]?=some y/\t=.tup [x,y]
 | [],_,i,t,h=>by simp [pairs] at h
 | _ :: _,[],i,t,h=>by simp [pairs] at h
 | x :: xs,y :: ys,0,t,h=>by
  simp only [pairs,List.getElem?_cons_zero,Option.some.injEq] at h
  exact ⟨x,y,rfl,rfl,h.symm⟩
 | x :: xs,y :: ys,i+1,t,h=>by
  simp only [pairs,List.getElem?_cons_succ] at h
  simpa using pairs_at h
theorem seqB_ok {K:PySem.W.Frag} {F:Wd} {H:Hp} {t:T} {ts:List T} {u:V} (r:AG K F H t u) (e:seqB t=some ts):∃ b a vs,u=.ref a/\Af K F H ts vs/\∀ (F':Wd) (H':Hp),(∀ a,F a->F' a/\H' a=H a)->SqB b K H' a vs:=by
 unfold seqB at e
 split at e
 ·cases e
  simp only [AG] at r
  obtain ⟨a,vs,rfl,f,hs,r⟩:=r
  exact ⟨false,a,vs,rfl,r,fun F' H' l=>SqL.of ((l a f).2.trans hs)⟩
 ·cases e
  simp only [AG] at r
  obtain ⟨a,vs,rfl,hs,r⟩:=r
  exact ⟨false,a,vs,rfl,r,fun F' H' l=>(StL.lf l hs).sq⟩
 ·cases e
  simp only [AG] at r
  obtain ⟨a,vs,rfl,hs,r⟩:=r
  exact ⟨true,a,vs,rfl,r,fun F' H' l=>SqT.of ((l a hs.2.1).2.trans hs.2.2)⟩
 ·cases e
def addFs (F:Wd) (as:List Addr):Wd:=⟨fun a=>F a∨a∈as,F.p⟩
theorem Af.intro {K:PySem.W.Frag} {F:Wd} {H:Hp}:∀ {ts:List T} {vs:List V},ts.length=vs.length->(∀ (j:Nat) (t:T) (v:V),ts[j]?=some t->vs[j]?=some v->AG K F H t v)->Af K F H ts vs
 | [],[],_,_=>by simp [Af]
 | [],_ :: _,h,_=>by simp at h
 | _ :: _,[],h,_=>by simp at h
 | t :: ts,v :: vs,h,k=>by
  simp only [Af]
  exact ⟨v,vs,rfl,k 0 t v rfl rfl,Af.intro (by simpa using h) fun j t' v' e1 e2=>k (j+1) t' v' (by simpa using e1) (by simpa using e2)⟩
theorem Eg:∀ {xs ys:List T},(pairs xs ys).length=min xs.length ys.length
 | [],_=>by simp [pairs]
 | _ :: _,[]=>by simp [pairs]
 | x :: xs,y :: ys=>by
  simp only [pairs,List.length_cons,Eg]
  omega
theorem zipped_ok {K:PySem.W.Frag} {B:Nat->Option V} {F:Wd} {H H':Hp} {σ:St} {fs:FS} {d:Addr} {as:List Addr} {vs ws:List V} {xs ys:List T} (ok:Okk K F B H fs σ) (zz:Zipped H H' d as vs ws) (r1:Af K F H xs vs) (r2:Af K F H ys ws) :
  Le F H (addFs F as) H'/\RR K B σ (addFs F as) H' fs (.nw (.lst (pairs xs ys))) (.ref d):=by
 obtain ⟨L,h⟩:=ok
 have kp:∀ b,H b≠none->H' b=H b:=fun b hb=>zz.els b (fun e=>hb (e▸zz.fd)) fun m=>hb (zz.fa b m)
 have le:Le F H (addFs F as) H':=⟨fun a f=>⟨.inl f,kp a (h.fd a f)⟩,fun a f=>⟨f,kp a (h.pd a f)⟩⟩
 refine ⟨le,L,[d],⟨h.sl.le le fun a m=>kp a (h.sl.def a m),h.nd,fun a m f=>?_,fun a f=>?_,h.bo,fun a p=>by rw [kp a (h.pd a p)];exact h.pd a p,fun a f p=>?_,h.pl⟩,?_,?_,fun a m=>?_⟩
 ·rcases f with f | f
  ·exact h.nf a m f
  ·exact h.sl.def a m (zz.fa a f)
 ·rcases f with f | f
  ·rw [kp a (h.fd a f)];exact h.fd a f
  ·obtain ⟨j,hj⟩:=List.mem_iff_getElem?.mp f
   obtain ⟨x,y,_,_,e⟩:=zz.pr j a hj
   rw [e];simp
 ·rcases f with f | f
  ·exact h.pf a f p
  ·exact h.pd a p (zz.fa a f)
 ·show A5 K (addFs F as) H' (.lst (pairs xs ys)) (.ref d) [d]
  simp only [A5]
  refine ⟨d,as.map V.ref,rfl,zz.lst,Af.intro (by rw [Eg,List.length_map,zz.len,r1.len,r2.len]) fun j t v et ev=>?_,rfl⟩
  obtain ⟨x,y,ex,ey,rfl⟩:=pairs_at et
  rw [List.getElem?_map,Option.map_eq_some_iff] at ev
  obtain ⟨a,ea,rfl⟩:=ev
  obtain ⟨u,w,eu,ew,e⟩:=zz.pr j a ea
  obtain ⟨u',eu',ru⟩:=r1.at ex
  obtain ⟨w',ew',rw'⟩:=r2.at ey
  rw [eu'] at eu
  rw [ew'] at ew
  cases eu
  cases ew
  simp only [AG]
  exact ⟨a,[u,w],rfl,⟨rfl,.inr (List.mem_of_getElem? ea),e⟩,by
   simp only [Af]
   exact ⟨u,[w],rfl,ru.le le,w,[],rfl,rw'.le le,rfl⟩⟩
 ·rw [List.nodup_append]
  exact ⟨h.nd,by simp,fun a ma b mb e=>h.sl.def a ma (by rw [e,List.mem_singleton.mp mb];exact zz.fd)⟩
 ·rw [List.mem_singleton.mp m]
  exact ⟨fun f=>f.elim (fun f=>h.fd d f zz.fd) zz.nm,fun p=>h.pd d p zz.fd⟩
def zipF (f g:FS->Out Rv):FS->Out Rv:=fun fs=>(f fs).bnd fun r fs=>(g fs).bnd fun r' fs=>match r,r' with
 | .t x,.t y=>match seqB x,seqB y with
  | some xs,some ys=>.ok (.nw (.lst (pairs xs ys))) fs
  | _,_=>.bad
 | _,_=>.bad
theorem fe_listZip {X:Cx} {Z:Xp} {a b:Expr} {fa fb:FS->Out Rv} {p1 p2 pos1 pos2:Pos} (hc:X.calm=true) (hm1:X.mg "list"=none) (hm2:X.mg "zip"=none) (ha:FE X Z a fa) (hb:FE X Z b fb) (hg1:Gl X "list":=by rfl) (hg2:Gl X "zip":=by rfl)
  (he:starEach [(.Call (.Name "zip" p2) [a,b] [] pos2:Expr)] X.env=[(false,eval (.Call (.Name "zip" p2) [a,b] [] pos2) X.env)]:=by rfl) (hs:starEach [a,b] X.env=[(false,eval a X.env),(false,eval b X.env)]:=by rfl) (hs2:starEach [b] X.env=[(false,eval b X.env)]:=by rfl) :
  FE X Z (.Call (.Name "list" p1) [.Call (.Name "zip" p2) [a,b] [] pos2] [] pos1) (zipF fa fb):=by
 refine Bn (pe_listZip hc hm1 hm2 (Cv ha (Cv hb FD hs2) (by rw [hs,hs2])) hg1 hg2 he hs hs2) fun σ H Q ⟨F,B,fs,ok,s⟩=>?_
 refine ⟨F,B,fs,ok,AQ s fun r fs1 F1 H1 u l1 ok1 rx s1=>⟨F1,B,fs1,ok1,AQ s1 fun r' fs2 F2 H2 u' l2 ok2 ry s2=>?_⟩⟩
 split at s2
 ·rename_i x y
  split at s2
  ·rename_i xs ys e1 e2
   obtain ⟨b1,a1,vs,rfl,q1,h1⟩:=seqB_ok (AG.le l2 rx) e1
   obtain ⟨b2,a2,ws,rfl,q2,h2⟩:=seqB_ok ry e2
   refine ⟨b1,a1,b2,a2,vs,ws,rfl,h1 F2 H2 fun _ f=>⟨f,rfl⟩,h2 F2 H2 fun _ f=>⟨f,rfl⟩,fun d as H' zz=>?_⟩
   obtain ⟨le,rr⟩:=zipped_ok ok2 zz q1 q2
   exact s2 _ H' (.ref d) le rr
  ·exact s2.elim
 ·exact s2.elim
def tyT:T->Option String
 | .non=>some "NoneType"
 | .bl _=>some "bool"
 | .int _=>some "int"
 | .str _=>some "str"
 | .tup _=>some "tuple"
 | .lst _=>some "list"
 | .dT _ _=>some "dict"
 | _=>none
def FX:List String:=["NoneType","bool","int","str","tuple","list","dict"]
def subTy (t T:String):Bool:=t == T || (t == "bool" && T == "int")
def Kit (K:PySem.W.Frag) (T:String):Prop:=∀ t,t∈FX->PySem.W.kitOne K (.type t) (.type T)=some (subTy t T)
theorem tyT_ok {K:PySem.W.Frag} {F:Wd} {H:Hp} {t:T} {u:V} {n:String} (r:AG K F H t u) (e:tyT t=some n):TyOf K H u (.type n)/\n∈FX:=by
 cases t <;> simp only [tyT,Option.some.injEq,reduceCtorEq] at e <;> (try subst e) <;> (try simp only [AG] at r)
 ·subst r;exact ⟨.non,by decide⟩
 ·subst r;exact ⟨.bl _,by decide⟩
 ·subst r;exact ⟨.int _,by decide⟩
 ·subst r;exact ⟨.str _,by decide⟩
 ·obtain ⟨a,vs,rfl,hs,_⟩:=r;exact ⟨.tup hs.2.2,by decide⟩
 ·obtain ⟨a,vs,rfl,f,hs,_⟩:=r;exact ⟨.lst hs,by decide⟩
 ·obtain ⟨a,kvs,rfl,f,hs,_⟩:=r;exact ⟨.dT hs,by decide⟩
def isF (T:String) (f:FS->Out Rv):FS->Out Rv:=fun fs=>(f fs).bnd fun r fs=>match r with
 | .t t=>match tyT t with
  | some n=>.ok (.t (.bl (subTy n T))) fs
  | none=>.bad
 | _=>.bad
theorem E3 {X:Cx} {Z:Xp} {a:Expr} {f:FS->Out Rv} {p p2 pos:Pos} {x:Str} {T:String} (k:Kit X.K T) (hb:bootBuiltins x=some (.type T)) (hm:X.mg "isinstance"=none) (hm2:X.mg x=none) (ha:FE X Z a f) (hg:Gl X "isinstance":=by rfl) (hg2:Gl X x:=by rfl)
  (hn:x≠"__name__":=by decide) (hdb:(x == ("__debug__":Str))=false:=by decide)
  (hs:starEach [a,.Name x p2] X.env=(false,eval a X.env) :: starEach [.Name x p2] X.env:=by rfl) (hs2:starEach [.Name x p2] X.env=[(false,eval (.Name x p2) X.env)]:=by rfl) (hpl:(backTo pos (starEach [.Name x p2] X.env)).any (·.1)=false:=by rfl) :
  FE X Z (.Call (.Name "isinstance" p) [a,.Name x p2] [] pos) (isF T f):=by
 refine Bn (Ey (call_isinst T) hg hm PyProof.Rows.boot_isinstance (Cv ha (Cv (pe_bltn (v:=.ty T) hg2 hm2 hb rfl hn hdb) FD hs2) hs) (by decide) (by decide) hs hpl) fun σ H Q ⟨F,B,fs,ok,s⟩=>?_
 refine ⟨F,B,fs,ok,AQ s fun r fs1 F1 H1 u l1 ok1 rx s1=>?_⟩
 split at s1
 ·rename_i t
  split at s1
  ·rename_i n e
   obtain ⟨ty,mem⟩:=tyT_ok rx e
   exact ⟨u,_,_,rfl,ty,k n mem,s1 F1 H1 _ Le.refl (RR.of ok1 rfl)⟩
  ·exact s1.elim
 ·exact s1.elim
section
variable {K:PySem.W.Frag}
theorem kit_str:Kit K "str":=fun t h=>by simp only [FX,List.mem_cons,List.not_mem_nil,or_false] at h;rcases h with rfl | rfl | rfl | rfl | rfl | rfl | rfl <;> rfl
theorem kit_tuple:Kit K "tuple":=fun t h=>by simp only [FX,List.mem_cons,List.not_mem_nil,or_false] at h;rcases h with rfl | rfl | rfl | rfl | rfl | rfl | rfl <;> rfl
end
end FL
namespace FL
open PySem PySem.Spec L2
section
variable {X:Cx} {Z:Xp} {o e f:Expr} {fo fk fd:FS->Out Rv} {apos cpos:Pos}
end
end FL
namespace FL
open PySem PySem.Spec L2
def EI:T->Option (List T)
 | .tup ts=>some ts
 | _=>none
theorem tupOf_eq {t:T} {ts:List T} (e:EI t=some ts):t=.tup ts:=by
 cases t <;> first | (cases e;rfl) | cases e
def Fj (f:T->T->Option Bool):List T->List T->Option Bool
 | x :: xs,y :: ys=>(f x y).bind fun b=>(Fj f xs ys).map (b && ·)
 | _,_=>some true
def eqT:Nat->T->T->Option Bool
 | 0,x,y=>(plV x).bind fun u=>(plV y).map (eqV u)
 | n+1,x,y=>match EI x with
  | some xs=>match EI y with
   | some ys=>(Fj (eqT n) xs ys).map (· && xs.length == ys.length)
   | none=>(plV y).map fun _=>false
  | none=>match EI y with
   | some _=>(plV x).map fun _=>false
   | none=>(plV x).bind fun u=>(plV y).map (eqV u)
def eAt (f:T->T->Option Bool) (xs ys:List T) (j:Nat):Bool:=(f (xs.getD j .non) (ys.getD j .non)).getD false
theorem Dx {f:T->T->Option Bool}:∀ {xs ys:List T} {b:Bool},Fj f xs ys=some b->b=(List.range (min xs.length ys.length)).all (eAt f xs ys)
 | [],_,_,e=>by cases e;simp
 | _ :: _,[],_,e=>by cases e;simp
 | x :: xs,y :: ys,b,e=>by
  simp only [Fj,Option.bind_eq_some_iff,Option.map_eq_some_iff] at e
  obtain ⟨c,e1,d,e2,rfl⟩:=e
  have ih:=Dx e2
  rw [List.length_cons,List.length_cons,Nat.succ_min_succ,List.range_succ_eq_map,List.all_cons,List.all_map,ih]
  have h0:eAt f (x :: xs) (y :: ys) 0=c:=by simp [eAt,e1]
  rw [h0]
  congr 1
theorem eqTs_at {f:T->T->Option Bool}:∀ {xs ys:List T} {b:Bool},Fj f xs ys=some b->∀ (j:Nat) (x y:T),xs[j]?=some x->ys[j]?=some y->f x y=some (eAt f xs ys j)
 | [],_,_,e=>by intro j x y h;simp at h
 | _ :: _,[],_,e=>by intro j x y _ h;simp at h
 | x :: xs,y :: ys,b,e=>by
  simp only [Fj,Option.bind_eq_some_iff,Option.map_eq_some_iff] at e
  obtain ⟨c,e1,d,e2,rfl⟩:=e
  intro j x' y' h1 h2
  cases j with
  | zero =>
   simp only [List.getElem?_cons_zero,Option.some.injEq] at h1 h2
   subst h1 h2
   simp [eAt,e1]
  | succ j =>
   rw [List.getElem?_cons_succ] at h1 h2
   have:=eqTs_at e2 _ _ _ h1 h2
   rw [this]
   simp [eAt]
theorem eqV_self {v:V} (h:flatV v=true):eqV v v=true:=by
 cases v <;> first | rfl | (simp [eqV];done) | (simp [flatV] at h)
theorem plV_eq {K:PySem.W.Frag} {F:Wd} {H:Hp} {x y:T} {v:V} {b:Bool} (rx:AG K F H x v) (ry:AG K F H y v) (e:((plV x).bind fun u=>(plV y).map (eqV u))=some b):b=true:=by
 simp only [Option.bind_eq_some_iff,Option.map_eq_some_iff] at e
 obtain ⟨u,e1,w,e2,rfl⟩:=e
 have h1:=Cm e1 rx
 have h2:=Cm e2 ry
 subst h1 h2
 exact eqV_self (Du e1)
theorem Hc {K:PySem.W.Frag} {F:Wd} {H:Hp} {x:T} {v u:V} {a:Addr} (e:plV x=some u) (r:AG K F H x v):v≠.ref a:=by
 have h1:=Cm e r
 subst h1
 have:=Du e
 intro h
 subst h
 cases this
theorem CD {K:PySem.W.Frag} {F:Wd} {H:Hp} {t:T} {ts:List T} {v:V} (e:EI t=some ts) (r:AG K F H t v):∃ a vs,v=.ref a/\StT K F H a vs/\Af K F H ts vs:=by
 cases tupOf_eq e
 simpa only [AG] using r
theorem eqT_same {K:PySem.W.Frag} {F:Wd} {H:Hp}:∀ {n:Nat} {x y:T} {v:V} {b:Bool},eqT n x y=some b->AG K F H x v->AG K F H y v->b=true
 | 0,x,y,v,b,e,rx,ry=>plV_eq rx ry e
 | n+1,x,y,v,b,e,rx,ry=>by
  unfold eqT at e
  cases e1:EI x with
  | none =>
   rw [e1] at e
   cases e2:EI y with
   | none=>rw [e2] at e;exact plV_eq rx ry e
   | some ys =>
    rw [e2] at e
    obtain ⟨a,vs,rfl,_⟩:=CD e2 ry
    obtain ⟨u,e3,_⟩:=Option.map_eq_some_iff.mp e
    exact absurd rfl (Hc e3 rx)
  | some xs =>
   rw [e1] at e
   obtain ⟨a,vs,rfl,sx,rxs⟩:=CD e1 rx
   cases e2:EI y with
   | none =>
    rw [e2] at e
    obtain ⟨u,e3,_⟩:=Option.map_eq_some_iff.mp e
    exact absurd rfl (Hc e3 ry)
   | some ys =>
    rw [e2] at e
    obtain ⟨a',vs',ea,sy,rys⟩:=CD e2 ry
    cases ea
    have hv:vs=vs':=by
     have:=sx.2.2.symm.trans sy.2.2
     injection this with this
     injection this
    subst hv
    obtain ⟨c,e3,rfl⟩:=Option.map_eq_some_iff.mp e
    have hl:xs.length=ys.length:=by rw [<- rxs.len,<- rys.len]
    rw [Bool.and_eq_true]
    refine ⟨?_,by simp [hl]⟩
    rw [Dx e3,List.all_eq_true]
    intro j hj
    rw [List.mem_range] at hj
    have h1:j < xs.length:=by omega
    have h2:j < ys.length:=by omega
    have g1:xs[j]?=some xs[j]:=List.getElem?_eq_getElem h1
    have g2:ys[j]?=some ys[j]:=List.getElem?_eq_getElem h2
    obtain ⟨v1,q1,r1⟩:=rxs.at g1
    obtain ⟨v2,q2,r2⟩:=rys.at g2
    have:v1=v2:=by rw [q1] at q2;injection q2
    subst this
    exact eqT_same (eqTs_at e3 _ _ _ g1 g2) r1 r2
section
variable {X:Cx} {pins:List (Addr×Obj)} {σ:St} {H:Hp} {s:Shared} {F:Wd}
theorem flat_tup {A:Around} {l:Addr} {items:Array Value} {y:V} {u:Value} (hl:s.heap.IsTuple l items) (hu:A.units < cLine) (ry:RelV y u) (fy:flatV y=true) :
  SeqAt.EqAt A s (.ref l) u false/\SeqAt.EqAt A s u (.ref l) false/\SeqAt.RcAt A s (.ref l) u false/\SeqAt.RcAt A s u (.ref l) false:=by
 cases y with
 | non=>cases ry;exact ⟨.tuple_none hl hu,.none_tuple hl hu,.tuple_none hl hu,.none_tuple hl hu⟩
 | bl b=>cases ry;exact ⟨.tuple_bool _ hl hu,.bool_tuple _ hl hu,.tuple_bool _ hl hu,.bool_tuple _ hl hu⟩
 | int b=>obtain ⟨t,rfl⟩:=ry;exact ⟨.tuple_int _ _ hl hu,.int_tuple _ _ hl hu,.tuple_int _ _ hl hu,.int_tuple _ _ hl hu⟩
 | str b=>obtain ⟨t,rfl⟩:=ry;exact ⟨.tuple_str _ _ hl hu,.str_tuple _ _ hl hu,.tuple_str _ _ hl hu,.str_tuple _ _ hl hu⟩
 | _=>cases fy
theorem plV_eqAt {A:Around} {x y:T} {v w:V} {u u':Value} {b:Bool} (rx:AG X.K F H x v) (ry:AG X.K F H y w) (qx:RelV v u) (qy:RelV w u') (e:((plV x).bind fun u=>(plV y).map (eqV u))=some b):SeqAt.EqAt A s u u' b:=by
 simp only [Option.bind_eq_some_iff,Option.map_eq_some_iff] at e
 obtain ⟨p,e1,q,e2,rfl⟩:=e
 have h1:=Cm e1 rx
 have h2:=Cm e2 ry
 subst h1 h2
 exact eqAt_V qx qy (Du e1) (Du e2)
theorem items_eqAt {A:Around} {xs ys:List T} {vs ws:List V} {us us':List Value} {f:T->T->Option Bool} {b:Bool} (e:Fj f xs ys=some b) (rx:Af X.K F H xs vs) (ry:Af X.K F H ys ws) (qx:Vals vs us) (qy:Vals ws us')
  (ih:∀ {x y:T} {v w:V} {u u':Value} {b:Bool},f x y=some b->AG X.K F H x v->AG X.K F H y w->RelV v u->RelV w u'->SeqAt.EqAt A s u u' b) :
  ∀ j (h1:j < us.toArray.size) (h2:j < us'.toArray.size),SeqAt.EqAt A s us.toArray[j] us'.toArray[j] (eAt f xs ys j):=by
 intro j h1 h2
 have l1:=rx.len
 have l2:=ry.len
 have l3:=qx.length
 have l4:=qy.length
 rw [List.size_toArray] at h1 h2
 have g1:xs[j]?=some (xs[j]'(by omega)):=List.getElem?_eq_getElem (by omega)
 have g2:ys[j]?=some (ys[j]'(by omega)):=List.getElem?_eq_getElem (by omega)
 obtain ⟨v,q1,r1⟩:=rx.at g1
 obtain ⟨w,q2,r2⟩:=ry.at g2
 obtain ⟨u,p1,o1⟩:=qx.get q1
 obtain ⟨u',p2,o2⟩:=qy.get q2
 rw [List.getElem?_eq_getElem h1] at p1
 rw [List.getElem?_eq_getElem h2] at p2
 injection p1 with p1
 injection p2 with p2
 rw [show us.toArray[j]=us[j] by simp,show us'.toArray[j]=us'[j] by simp,p1,p2]
 exact ih (eqTs_at e _ _ _ g1 g2) r1 r2 o1 o2
theorem eqT_at (I:Inv X pins σ H s):∀ {n:Nat} {A:Around} {x y:T} {v w:V} {u u':Value} {b:Bool},A.units+n < cLine->eqT n x y=some b->AG X.K F H x v->AG X.K F H y w->RelV v u->RelV w u'->SeqAt.EqAt A s u u' b
 | 0,A,x,y,v,w,u,u',b,hu,e,rx,ry,qx,qy=>plV_eqAt rx ry qx qy e
 | n+1,A,x,y,v,w,u,u',b,hu,e,rx,ry,qx,qy=>by
  have e0:=e
  unfold eqT at e
  cases e1:EI x with
  | none =>
   rw [e1] at e
   cases e2:EI y with
   | none=>rw [e2] at e;exact plV_eqAt rx ry qx qy e
   | some ys =>
    rw [e2] at e
    obtain ⟨a,vs,rfl,st,_⟩:=CD e2 ry
    obtain ⟨p,e3,rfl⟩:=Option.map_eq_some_iff.mp e
    have h1:=Cm e3 rx
    subst h1
    cases qy
    obtain ⟨its,_,ht,_⟩:=I.tuple st.sq
    exact (flat_tup ht (by omega) qx (Du e3)).2.1
  | some xs =>
   rw [e1] at e
   obtain ⟨a,vs,rfl,sx,rxs⟩:=CD e1 rx
   cases qx
   obtain ⟨its,vx,ht,_⟩:=I.tuple sx.sq
   cases e2:EI y with
   | none =>
    rw [e2] at e
    obtain ⟨p,e3,rfl⟩:=Option.map_eq_some_iff.mp e
    have h1:=Cm e3 ry
    subst h1
    exact (flat_tup ht (by omega) qy (Du e3)).1
   | some ys =>
    rw [e2] at e
    obtain ⟨a',vs',rfl,sy,rys⟩:=CD e2 ry
    cases qy
    obtain ⟨its',vx',ht',_⟩:=I.tuple sy.sq
    by_cases hab:a=a'
    ·subst hab
     rw [eqT_same e0 rx ry]
     exact SeqAt.EqAt.same _
    ·obtain ⟨c,e3,rfl⟩:=Option.map_eq_some_iff.mp e
     have l1:its.length=xs.length:=by rw [<- vx.length,rxs.len]
     have l2:its'.length=ys.length:=by rw [<- vx'.length,rys.len]
     have:=SeqAt.RcAt.tuples ht ht' (A:=A) (by omega) (items_eqAt e3 rxs rys vx vx' (fun h r1 r2 o1 o2=>eqT_at I (n:=n) (A:=A.in1) (by show A.units+1+n < _;omega) h r1 r2 o1 o2))
     rw [List.size_toArray,List.size_toArray,l1,l2,<- Dx e3] at this
     exact SeqAt.EqAt.of_refs hab this
end
def eqB (neg:Bool) (xs ys:List T) (fs:FS):Out Rv:=match Fj (eqT 60) xs ys with
 | some b=>okT (.bl (if neg then !(b && xs.length == ys.length) else (b && xs.length == ys.length))) fs
 | none=>.bad
def gEqT (neg:Bool):Rv->Rv->FS->Out Rv:=fun x y fs=>match seqT x with
 | some xs=>match seqT y with
  | some ys=>eqB neg xs ys fs
  | none=>.bad
 | none=>match CZ fs x with
  | some xs=>match CZ fs y with
   | some ys=>eqB neg xs ys fs
   | none=>.bad
  | none=>.bad
def EqS (X:Cx) (neg:Bool) (H:Hp) (x y:V) (b:Bool):Prop:=∀ (pins:List (Addr×Obj)) (σ:St) (s:Shared) (u w:Value),Inv X pins σ H s->RelV x u->RelV y w ->
 if neg then SeqAt.RcNeAt X.A s u w (!b) else SeqAt.RcAt X.A s u w b
def rEqS (X:Cx) (neg:Bool):R2:=fun x y H Q=>∃ b,EqS X neg H x y b/\Q (.bl (if neg then !b else b)) H
theorem op_eqS {X:Cx}:OpR X (compareOp .Eq) (rEqS X false):=by
 intro pins s σ H x y v u Q I rx ry h
 obtain ⟨b,e,q⟩:=h
 have e:SeqAt.RcAt X.A s v u b:=e pins σ s v u I rx ry
 exact e X.prog X.w X.xe _ ⟨.bl b,H,I,rfl,q⟩
theorem op_neS {X:Cx}:OpR X (compareOp .NotEq) (rEqS X true):=by
 intro pins s σ H x y v u Q I rx ry h
 obtain ⟨b,e,q⟩:=h
 have e:SeqAt.RcNeAt X.A s v u (!b):=e pins σ s v u I rx ry
 exact e X.prog X.w X.xe _ ⟨.bl (!b),H,I,rfl,q⟩
theorem eqS_tup {X:Cx} {neg:Bool} {F:Wd} {H:Hp} {a a':Addr} {xs ys:List T} {vs ws:List V} {b:Bool} (hu:X.A.units+61 < cLine) (e:Fj (eqT 60) xs ys=some b) (sx:SqT X.K H a vs) (sy:SqT X.K H a' ws) (rx:Af X.K F H xs vs) (ry:Af X.K F H ys ws) :
  EqS X neg H (.ref a) (.ref a') (b && xs.length == ys.length):=by
 intro pins σ s u w I qx qy
 cases qx
 cases qy
 obtain ⟨its,vx,ht,_⟩:=I.tuple sx
 obtain ⟨its',vx',ht',_⟩:=I.tuple sy
 have l1:its.length=xs.length:=by rw [<- vx.length,rx.len]
 have l2:its'.length=ys.length:=by rw [<- vx'.length,ry.len]
 have he:=items_eqAt (s:=s) (A:=X.A.in1) e rx ry vx vx' (fun h r1 r2 o1 o2=>eqT_at I (n:=60) (A:=X.A.in1) (by show X.A.units+1+60 < _;omega) h r1 r2 o1 o2)
 cases neg with
 | false =>
  have:=SeqAt.RcAt.tuples ht ht' (A:=X.A) (by omega) he
  rw [List.size_toArray,List.size_toArray,l1,l2,<- Dx e] at this
  exact this
 | true =>
  have:=SeqAt.RcNeAt.tuples ht ht' (A:=X.A) (by omega) he
  rw [List.size_toArray,List.size_toArray,l1,l2,<- Dx e] at this
  exact this
theorem eqS_lst {X:Cx} {neg:Bool} {F:Wd} {H:Hp} {a a':Addr} {xs ys:List T} {vs ws:List V} {b:Bool} (hu:X.A.units+61 < cLine) (e:Fj (eqT 60) xs ys=some b) (sx:SqL X.K H a vs) (sy:SqL X.K H a' ws) (rx:Af X.K F H xs vs) (ry:Af X.K F H ys ws) :
  EqS X neg H (.ref a) (.ref a') (b && xs.length == ys.length):=by
 intro pins σ s u w I qx qy
 cases qx
 cases qy
 obtain ⟨its,vx,ht,_⟩:=I.list sx
 obtain ⟨its',vx',ht',_⟩:=I.list sy
 have l1:its.length=xs.length:=by rw [<- vx.length,rx.len]
 have l2:its'.length=ys.length:=by rw [<- vx'.length,ry.len]
 have he:=items_eqAt (s:=s) (A:=X.A.in1) e rx ry vx vx' (fun h r1 r2 o1 o2=>eqT_at I (n:=60) (A:=X.A.in1) (by show X.A.units+1+60 < _;omega) h r1 r2 o1 o2)
 by_cases hl:xs.length=ys.length
 ·have hs:its.toArray.size=its'.toArray.size:=by rw [List.size_toArray,List.size_toArray];omega
  have hb:(b && xs.length == ys.length)=(List.range its.toArray.size).all (eAt (eqT 60) xs ys):=by
   rw [Dx e,hl,Nat.min_self,List.size_toArray,l1,hl]
   simp
  rw [hb]
  cases neg with
  | false=>exact SeqAt.RcAt.lists ht.isList ht'.isList hs (A:=X.A) (by omega) he
  | true=>exact SeqAt.RcNeAt.lists ht.isList ht'.isList hs (A:=X.A) (by omega) he
 ·have hs:(its.toArray.size != its'.toArray.size)=true:=by rw [List.size_toArray,List.size_toArray,bne_iff_ne];omega
  have hb:(b && xs.length == ys.length)=false:=by simp [hl]
  rw [hb]
  cases neg with
  | false=>exact SeqAt.RcAt.lists_lengths ht.isList ht'.isList hs (A:=X.A) (by omega)
  | true=>exact SeqAt.RcNeAt.lists_lengths ht.isList ht'.isList hs (A:=X.A) (by omega)
theorem of_eqT {X:Cx} {Z:Xp} (neg:Bool) (hu:X.A.units+61 < cLine):OpF X.K Z (rEqS X neg) (gEqT neg):=by
 intro F B H σ fs x y u w Q ok rx ry s
 unfold gEqT at s
 cases e1:seqT x with
 | some xs =>
  rw [e1] at s
  cases e2:seqT y with
  | none=>rw [e2] at s;exact s.elim
  | some ys =>
   rw [e2] at s
   obtain ⟨a,vs,rfl,sx,r1⟩:=Ca rx e1
   obtain ⟨a',ws,rfl,sy,r2⟩:=Ca ry e2
   simp only [eqB] at s
   cases e3:Fj (eqT 60) xs ys with
   | none=>rw [e3] at s;exact s.elim
   | some b =>
    rw [e3] at s
    exact ⟨_,eqS_tup hu e3 sx sy r1 r2,s F H _ Le.refl (RR.of ok rfl)⟩
 | none =>
  rw [e1] at s
  cases e2:CZ fs x with
  | none=>rw [e2] at s;exact s.elim
  | some xs =>
   rw [e2] at s
   cases e3:CZ fs y with
   | none=>rw [e3] at s;exact s.elim
   | some ys =>
    rw [e3] at s
    obtain ⟨a,vs,rfl,sx,r1⟩:=Br ok rx e2
    obtain ⟨a',ws,rfl,sy,r2⟩:=Br ok ry e3
    simp only [eqB] at s
    cases e4:Fj (eqT 60) xs ys with
    | none=>rw [e4] at s;exact s.elim
    | some b =>
     rw [e4] at s
     exact ⟨_,eqS_lst hu e4 sx sy r1 r2,s F H _ Le.refl (RR.of ok rfl)⟩
section
variable {X:Cx} {Z:Xp} {a b:Expr} {fa fb:FS->Out Rv} {pos:Pos}
end
end FL
namespace FL
open PySem PySem.Spec L2
section
variable {X:Cx} {Z:Xp} {a b:Expr} {fa fb:FS->Out Rv} {pos:Pos}
end
end FL
namespace FL
open PySem PySem.Spec L2
end FL
namespace FL
open PySem PySem.Spec L2
def dictR (fs:FS):Rv->Option (List Key×List T)
 | .t (.dK ks ts)=>some (ks,ts)
 | .t (.dF ks ts)=>some (ks,ts)
 | .rf i=>match A9 fs i with
  | some (.dK ks ts)=>some (ks,ts)
  | _=>none
 | _=>none
theorem dictR_ok {K:PySem.W.Frag} {B:Nat->Option V} {F:Wd} {H:Hp} {σ:St} {fs:FS} {x:Rv} {u:V} {ks:List Key} {ts:List T} (h:Okk K F B H fs σ) (rx:BV K F H σ x u) (e:dictR fs x=some (ks,ts)) :
  ∃ a kvs,u=.ref a/\Rd H a (.dK kvs)/\kvs.map (·.1)=ks/\Af K F H ts (kvs.map (·.2)):=by
 unfold dictR at e
 split at e
 ·cases e
  simp only [BV,AG] at rx
  obtain ⟨a,kvs,rfl,f,hd,rfl,r⟩:=rx
  exact ⟨a,kvs,rfl,hd,rfl,r⟩
 ·cases e
  simp only [BV,AG] at rx
  obtain ⟨a,kvs,rfl,f,⟨ob,hd⟩,rfl,r⟩:=rx
  exact ⟨a,kvs,rfl,.inr ⟨ob,hd⟩,rfl,r⟩
 ·rename_i i
  have e2:σ[i]?=some (some u):=rx
  split at e
  ·rename_i eo
   cases e
   obtain ⟨v,L2,e1,q,_⟩:=h.own eo
   rw [e1] at e2
   have e3:v=u:=by simpa using e2
   subst e3
   simp only [A5] at q
   obtain ⟨a,kvs,rfl,hd,rfl,r,_⟩:=q
   exact ⟨a,kvs,rfl,.inl hd,rfl,r⟩
  ·cases e
 ·cases e
def eqD (ks':List Key) (ts':List T):List Key->List T->Option Bool
 | k :: ks,t :: ts=>match HP ks' ts' k with
  | none=>some false
  | some t'=>(eqT 60 t t').bind fun b=>(eqD ks' ts' ks ts).map (b && ·)
 | _,_=>some true
def gEqD (neg:Bool):Rv->Rv->FS->Out Rv:=fun x y fs=>match dictR fs x with
 | some (ks,ts)=>match dictR fs y with
  | some (ks',ts')=>match eqD ks' ts' ks ts with
   | some r=>okT (.bl (if neg then !(ks.length == ks'.length && r) else (ks.length == ks'.length && r))) fs
   | none=>.bad
  | none=>.bad
 | none=>.bad
theorem hits_of {X:Cx} {pins:List (Addr×Obj)} {σ:St} {H:Hp} {s:Shared} {F:Wd} {A:Around} (I:Inv X pins σ H s) (hu:A.units+60 < cLine) {kvs':List (Key×V)} {vs':List (Key×Value)} {ts':List T} (rel':KV kvs' vs') (rt':Af X.K F H ts' (kvs'.map (·.2))) :
  ∀ {kvs:List (Key×V)} {vs:List (Key×Value)} {ts:List T} {r:Bool},KV kvs vs->Af X.K F H ts (kvs.map (·.2))->eqD (kvs'.map (·.1)) ts' (kvs.map (·.1)) ts=some r->PySem.W.KeqHits A s vs' vs r
 | [],[],[],r,_,_,e=>by cases e;exact .nil
 | [],[],t :: ts,r,_,rt,e=>by have:=rt.len;simp at this
 | (k,v) :: kvs,(k',u) :: vs,[],r,_,rt,e=>by have:=rt.len;simp at this
 | (k,v) :: kvs,(k',u) :: vs,t :: ts,r,rel,rt,e=>by
  cases rel with
  | cons h tl =>
   obtain ⟨h1,h2⟩:=h
   have h1:k=k':=h1
   have h2:RelV v u:=h2
   subst h1
   simp only [List.map_cons,Af] at rt
   obtain ⟨v0,r0,e0,rt1,rt2⟩:=rt
   cases e0
   simp only [List.map_cons,eqD] at e
   have q:=rel'.val k
   rcases Et (j:=k) rt' with ⟨g1,g2⟩ | ⟨t',v',g1,g2,g3⟩
   ·rw [g1] at e
    cases e
    rw [g2] at q
    refine .miss ?_
    cases hx:valueAt vs' k with
    | none=>rfl
    | some x=>rw [hx] at q;exact q.elim
   ·rw [g1] at e
    simp only [Option.bind_eq_some_iff,Option.map_eq_some_iff] at e
    obtain ⟨b,e1,r',e2,rfl⟩:=e
    rw [g2] at q
    cases hx:valueAt vs' k with
    | none=>rw [hx] at q;exact q.elim
    | some y =>
     rw [hx] at q
     exact .hit hx (eqT_at I hu e1 rt1 g3 h2 q) (hits_of I hu rel' rt' tl rt2 e2)
def EqO (X:Cx) (neg:Bool) (H:Hp) (x y:V) (b:Bool):Prop:=∀ (pins:List (Addr×Obj)) (σ:St) (s:Shared) (u w:Value) (Q:Value->Shared->Prop) (E:Value->Shared->Prop),Inv X pins σ H s->RelV x u->RelV y w->Q (.bool b) s ->
 wpAny (model X.prog X.w) X.A (compareOp (if neg then .NotEq else .Eq) u w) Q E s
def rEqO (X:Cx) (neg:Bool):R2:=fun x y H Q=>∃ b,EqO X neg H x y b/\Q (.bl b) H
theorem op_eqO {X:Cx}:OpR X (compareOp .Eq) (rEqO X false):=by
 intro pins s σ H x y v u Q I rx ry h
 obtain ⟨b,e,q⟩:=h
 exact e pins σ s v u _ _ I rx ry ⟨.bl b,H,I,rfl,q⟩
theorem op_neO {X:Cx}:OpR X (compareOp .NotEq) (rEqO X true):=by
 intro pins s σ H x y v u Q I rx ry h
 obtain ⟨b,e,q⟩:=h
 exact e pins σ s v u _ _ I rx ry ⟨.bl b,H,I,rfl,q⟩
theorem of_eqD {X:Cx} {Z:Xp} (neg:Bool) (hu:X.A.units+61 < cLine):OpF X.K Z (rEqO X neg) (gEqD neg):=by
 intro F B H σ fs x y u w Q ok rx ry s
 unfold gEqD at s
 cases e1:dictR fs x with
 | none=>rw [e1] at s;exact s.elim
 | some p =>
  obtain ⟨ks,ts⟩:=p
  rw [e1] at s
  cases e2:dictR fs y with
  | none=>rw [e2] at s;exact s.elim
  | some p =>
   obtain ⟨ks',ts'⟩:=p
   rw [e2] at s
   dsimp only at s
   cases e3:eqD ks' ts' ks ts with
   | none=>rw [e3] at s;exact s.elim
   | some r =>
    rw [e3] at s
    obtain ⟨a,kvs,rfl,hd,rfl,rt⟩:=dictR_ok ok rx e1
    obtain ⟨a',kvs',rfl,hd',rfl,rt'⟩:=dictR_ok ok ry e2
    refine ⟨_,?_,s F H _ Le.refl (RR.of ok rfl)⟩
    intro pins σ' sh u w Q' E' I qx qy q
    cases qx
    cases qy
    obtain ⟨z,hS,vs,rel,dd⟩:=dk_rd I.hok hd
    obtain ⟨z',hS',vs',rel',dd'⟩:=dk_rd I.hok hd'
    have l1:kvs.length=vs.length:=Paired.length rel
    have l2:kvs'.length=vs'.length:=Paired.length rel'
    rw [List.length_map,List.length_map,l1,l2] at q
    have hits:=hits_of (A:=X.A.in1) I (by show X.A.units+1+60 < _;omega) rel' rt' rel rt e3
    cases neg with
    | false=>exact PySem.W.keq_eq hS hS' dd dd' (by omega) (fun _=>hits) q
    | true=>exact PySem.W.keq_ne hS hS' dd dd' (by omega) (fun _=>hits) q
def BD (neg:Bool):=orG (gEq neg) (orG (gEqT neg) (gEqD neg))
section
variable {X:Cx} {Z:Xp} {a b:Expr} {fa fb:FS->Out Rv} {pos:Pos}
theorem fe_eqV (hu:X.A.units+61 < cLine) (ha:FE X Z a fa) (hb:FE X Z b fb):FE X Z (.Compare a [.Eq] [b] pos) (Ad (BD false) fa fb):=fe_cmp (OpF.or of_eq (OpF.or (of_eqT false hu) (of_eqD false hu))) (OpR.orR op_eq (OpR.orR op_eqS op_eqO)) ha hb (nomark _)
theorem Ej (hu:X.A.units+61 < cLine) (ha:FE X Z a fa) (hb:FE X Z b fb):FT X Z (.Compare a [.Eq] [b] pos) (asB (Ad (BD false) fa fb)):=ft_cmp (OpF.or of_eq (OpF.or (of_eqT false hu) (of_eqD false hu))) (OpR.orR op_eq (OpR.orR op_eqS op_eqO)) ha hb (nomark _)
theorem Ei (hu:X.A.units+61 < cLine) (ha:FE X Z a fa) (hb:FE X Z b fb):FT X Z (.Compare a [.NotEq] [b] pos) (asB (Ad (BD true) fa fb)):=ft_cmp (OpF.or of_ne (OpF.or (of_eqT true hu) (of_eqD true hu))) (OpR.orR op_ne (OpR.orR op_neS op_neO)) ha hb (nomark _)
end
theorem Gn {A:Around} {k:Nat} (hr:Ff k A):A.units+61 < cLine:=by have:=hr.units;omega
section
variable {X:Cx} {Z:Xp} {a b:Expr} {fa fb:FS->Out Rv} {pos:Pos}
end
end FL
namespace FL
open PySem PySem.Spec L2
section
variable {K:PySem.W.Frag} {Z:Xp}
end
section
variable {X:Cx} {Z:Xp} {a:Expr} {f:FS->Out Rv} {fa:FS->Out (List Rv)} {p p1 p2 pos pos1 pos2:Pos}
end
end FL
namespace FL
open PySem PySem.Spec L2
def EZ (K:PySem.W.Frag) (Z:Xp):XE:=fun cv σ H=>∃ F B fs c C,CN K c=some C/\cv=.ref C/\Okk K F B H fs σ/\Z.p F B H c fs
def Lks (X:Cx) (Z:Xp):Prop:=Lk X (EZ X.K Z)
theorem Lks.no {X:Cx}:Lks X Xp.no:=fun _ _ _ _ _ _ _ ⟨_,_,_,_,_,_,_,_,_,_,_,⟨_,_,_,_,_,_,_,_,z⟩⟩=>z.elim
structure LkD (X:Cx) (Z:Xp):Prop where
 d:DefCx X
 k:∀ e s,XW X (EZ X.K Z) e s->X.xe e s
 own:PassesOwn (model X.prog X.w) X.A X.env X.xe
theorem LkD.lk {X:Cx} {Z:Xp} (l:LkD X Z):Lks X Z:=Lk.of l.d.ex l.k
def Zd (K:PySem.W.Frag) (E:XK):Xp:=⟨fun F B H c fs=>∀ C,CN K c=some C->∀ F' H' σ',Le F H F' H'->Okk K F' B H' fs σ'->E (.ref C) none H',fun h l C hC F' H' σ' l' k=>h C hC F' H' σ' (l.trans l') k⟩
def spX (K:PySem.W.Frag) (p:Nat) (Fn:FS->Out Rv):Sp:=fun vs H Q E=>vs.length=p/\∃ F fs0,Okk K F (Bof (vs.map some)) H fs0 (vs.map some)/\match Fn fs0 with
 | .ok r τ=>∀ F' H' u σ',Le F H F' H'->RR K (Bof (vs.map some)) σ' F' H' τ r u->Q u H'
 | .exc c τ=>∀ C,CN K c=some C->∀ F' H' σ',Le F H F' H'->Okk K F' (Bof (vs.map some)) H' τ σ'->E (.ref C) none H'
 | .bad=>False
def GS0 (X:Cx) (Z:Xp) (st:Stmt) (g:FS->SO):Prop:=PS0 X st (tSt X.K Z g)
def GSs0 (X:Cx) (Z:Xp) (sts:List Stmt) (g:FS->SO):Prop:=PSs0 X sts (tSt X.K Z g)
section
variable {X:Cx} {Z:Xp} {st:Stmt} {rest:List Stmt} {g h:FS->SO}
theorem GS.zero (q:GS X Z st g):GS0 X Z st g:=PS.zero q
theorem GSs.zero (q:GSs X Z rest g):GSs0 X Z rest g:=PSs.zero q
theorem Hm (h1:GS0 X Z st g) (h2:GSs0 X Z rest h):GSs0 X Z (st :: rest) (AW g h):=by
 intro s0 σ H D I q
 refine pss0_cons h1 h2 s0 σ H D I ?_
 obtain ⟨F,B,fs,ok,s⟩:=q
 refine ⟨F,B,fs,ok,?_⟩
 unfold AW at s
 cases e:g fs with
 | nx fs1 =>
  rw [e] at s
  exact fun F1 H1 σ1 l k=>⟨F1,B,fs1,k,Fy.le s l⟩
 | ret r fs1=>rw [e] at s;exact s
 | brk fs1=>rw [e] at s;exact s
 | cnt fs1=>rw [e] at s;exact s
 | exc c fs1=>rw [e] at s;exact s
 | bad=>rw [e] at s;exact s
end
section
variable {P:Program} {w:World} {K:PySem.W.Frag} {mg:Str->Option Value} {base:Heap}
theorem BN {x qual:Str} {st:Stmt} {f:Addr} {fd:FuncData} {N ps:List Str} {k:Nat} {g:FS->SO} (Fu:Fun K x qual st f fd) (S:A1 N ps (Ap st)) (p n:Nat) (hp:ps.length=p) (hn:N.length=p+n)
  (hb:∀ cdv (A:Around) outer (s:Shared) H E E' (Z:Xp),Ff k (A.deeper (PyProof.Rows.envOfC qual (Ap st) s.heap.objs.size f cdv))->LkD ((cxOf (CX1 P w) P w K mg base N qual (Ap st) f cdv A outer s H E).EH E') Z ->
   GSs0 ((cxOf (CX1 P w) P w K mg base N qual (Ap st) f cdv A outer s H E).EH E') Z (AR st) g):Dh P w K mg base (CX1 P w) (k+1) f fd ps (spX K p (Dt n g)):=by
 refine Fu.ok0 S (fun vs H Q E h=>by rw [h.1,hp]) (fun cdv A outer s H vs Q E hr h=>⟨_,hb cdv A outer s H E _ (Zd K E) hr ⟨⟨rfl,rfl,rfl,rfl⟩,fun e s q=>?_,XW.own defCx⟩,?_⟩)
 ·refine XW.imp (XW.EH q) fun c σ H z=>?_
  obtain ⟨F,B,fs,c,C,hC,rfl,ok,z⟩:=z
  exact z C hC F H σ Le.refl ok
 obtain ⟨hl,F,fs0,⟨L,ok⟩,h⟩:=h
 have hfl:fs0.length=p:=by rw [<- ok.sl.len,List.length_map];exact hl
 have es:L2.start N vs=vs.map some++List.replicate n none:=by
  unfold L2.start
  rw [hl,hn,Nat.add_sub_cancel_left]
 rw [es]
 refine ⟨F,Bof (vs.map some),fs0++List.replicate n none,⟨L,ok.more n⟩,?_⟩
 unfold Dt at h
 cases e:g (fs0++List.replicate n none) with
 | nx τ =>
  rw [e] at h
  intro F' H' σ' l k
  exact h F' H' .non (σ'.take fs0.length) l (RR.take (RR.of (r:=.t .non) k rfl) _ (fun i z=>nomatch z))
 | ret r τ =>
  rw [e] at h
  intro F' H' σ' u l k
  cases r with
  | t t=>exact h F' H' u (σ'.take fs0.length) l (RR.take k _ (fun i z=>nomatch z))
  | nw o=>exact h F' H' u (σ'.take fs0.length) l (RR.take k _ (fun i z=>nomatch z))
  | rf i =>
   dsimp only at h
   split at h
   ·rename_i r' τ' e2
    split at e2
    ·rename_i o eo
     cases e2
     exact h F' H' u (σ'.take fs0.length) l (RR.take (RR.mv k eo) _ (fun i z=>nomatch z))
    ·cases e2
   ·rename_i c τ' e2
    split at e2
    ·cases e2
    ·cases e2
   ·exact h.elim
 | brk τ=>rw [e] at h;exact h.elim
 | cnt τ=>rw [e] at h;exact h.elim
 | exc c τ =>
  rw [e] at h
  intro C hC F' H' σ' l k
  exact h C hC F' H' (σ'.take fs0.length) l (RR.take (RR.of (r:=.t .non) k rfl) _ (fun i z=>nomatch z)).ok
 | bad=>rw [e] at h;exact h.elim
end
def FQ (Fn:FS->Out Rv) (rs:List Rv) (fs:FS):Out Rv :=
 if (Dc fs (rs.map CQ)).Nodup then (match Fn (D2 fs (rs.map CQ)) with
  | .ok (.t t) τ=>(match Fl (rs.map CQ) τ fs with
   | some fs'=>.ok (.t t) fs'
   | none=>.bad)
  | .ok (.nw o) τ=>(match Fl (rs.map CQ) τ fs with
   | some fs'=>.ok (.nw o) fs'
   | none=>.bad)
  | .exc c τ=>(match Fl (rs.map CQ) τ fs with
   | some fs'=>.exc c fs'
   | none=>.bad)
  | _=>.bad) else .bad
def Am (p:Nat) (Fn:FS->Out Rv):List Rv->FS->Out Rv:=fun rs fs=>if rs.length=p then FQ Fn rs fs else .bad
section
variable {K:PySem.W.Frag} {F F':Wd} {H H':Hp} {B:Nat->Option V} {fs:FS} {σ:St} {rs:List Rv} {vs:List V} {Z:Xp} {Q:VK} {Fn:FS->Out Rv}
theorem callRX_ok (q:RAn K B σ F H fs rs vs) (s:sat Z B (RR K B σ) F H (FQ Fn rs fs) Q):spX K rs.length Fn vs H Q fun c _ H'=>EZ K Z c σ H':=by
 unfold FQ at s
 split at s
 ·rename_i nd
  obtain ⟨L9,μ,ok,hμ,hl,hi⟩:=ini_ok q
  obtain ⟨Pp,p1,p2,p3,p4⟩:=lend ok hl hi nd hμ
  refine ⟨q.len,⟨F.f,Pp⟩,D2 fs (rs.map CQ),p2,?_⟩
  split at s
  ·rename_i t τ e
   rw [e]
   split at s
   ·rename_i fs' eb
    intro F' H' u σ' l k
    obtain ⟨Li,L',o1,⟨_,r⟩,_⟩:=k
    obtain ⟨le,L,o2,_⟩:=p4 F' H' τ σ' Li fs' l o1 eb
    exact s ⟨F'.f,F.p⟩ H' u le (RR.of ⟨L,o2⟩ (AG.wp r))
   ·exact s.elim
  ·rename_i o τ e
   rw [e]
   split at s
   ·rename_i fs' eb
    intro F' H' u σ' l k
    obtain ⟨Li,L',o1,r,nd,nf⟩:=k
    obtain ⟨le,L,o2,sub⟩:=p4 F' H' τ σ' Li fs' l o1 eb
    refine s ⟨F'.f,F.p⟩ H' u le ⟨L,L',o2,A5.wp r,?_,fun a m=>⟨(nf a m).1,fun p=>(nf a m).2 (l.p a (p1 a p)).1⟩⟩
    rw [List.nodup_append] at nd ⊢
    refine ⟨o2.nd,nd.2.1,fun a ha b hb e=>?_⟩
    rcases sub a ha with z | z
    ·exact nd.2.2 a z b hb e
    ·exact (nf b hb).2 (l.p b (e▸z)).1
   ·exact s.elim
  ·rename_i c τ e
   rw [e]
   split at s
   ·rename_i fs' eb
    intro C hC F' H' σ' l k
    obtain ⟨Li,o1⟩:=k
    obtain ⟨le,L,o2,_⟩:=p4 F' H' τ σ' Li fs' l o1 eb
    exact ⟨⟨F'.f,F.p⟩,B,fs',c,C,hC,rfl,⟨L,o2⟩,Z.mono s le⟩
   ·exact s.elim
  ·exact s.elim
 ·exact s.elim
end
section
variable {X:Cx} {Z:Xp} {x:Str} {k p:Nat} {ps:List Str} {Fn:FS->Out Rv} {e:Expr} {es:List Expr} {fa:FS->Out (List Rv)} {pp pos np cpos:Pos} {C:Addr}
theorem AV (G:FnAt X.prog X.w X.K X.mg X.base (CX1 X.prog X.w) x k ps (spX X.K p Fn)) (hr:Ff k X.A) (lk:Lks X Z) (ha:FAn X Z (e :: es) fa) (hg:Gl X x:=by rfl) (hdb:(x == ("__debug__":Str))=false:=by decide)
  (he:starEach (e :: es) X.env=(false,eval e X.env) :: starEach es X.env:=by rfl) (hpl:(backTo pos (starEach es X.env)).any (·.1)=false:=by rfl):FE X Z (.Call (.Name x pp) (e :: es) [] pos) (Ak (Am p Fn) fa):=by
 refine Bn (pe_fnX G hr lk ha hg hdb he hpl) fun σ H Q ⟨F,B,fs,ok,s⟩=>⟨F,B,fs,ok,AM s fun rs fs1 F1 H1 us l q s1=>?_⟩
 unfold Am at s1
 split at s1
 ·rename_i hp
  rw [<- hp]
  exact callRX_ok q s1
 ·exact s1.elim
structure ExT1 (K:PySem.W.Frag) (mg:Str->Option Value) (x:Str):Prop where
 ex:∃ C,mg x=some (.ref C)/\CN K x=some C/\PySem.W.excIn K C bmVE "ValueError.__new__"=true
def raiseS (c:Str) (fa:FS->Out (List Rv)):FS->SO:=fun fs=>SO.of (fa fs) fun rs fs=>if rs.length<=1000 then .exc c fs else .bad
theorem gs_raise (c:ExT1 X.K X.mg x) (l:LkD X Z) (hc:X.calm=true) (ha:FA X Z (e :: es) fa) (hg:Gl X x:=by rfl) (hdb:(x == ("__debug__":Str))=false:=by decide)
  (he:starEach (e :: es) X.env=(false,eval e X.env) :: starEach es X.env:=by rfl) (hpl:(backTo cpos (starEach es X.env)).any (·.1)=false:=by rfl) :
  GS X Z (.Raise (some (.Call (.Name x np) (e :: es) [] cpos)) none pos) (raiseS x fa):=by
 obtain ⟨C,h1,h2,h3⟩:=c.ex
 refine DN (ps_raise (C:=C) (Z:=EZ X.K Z) ⟨h1,h3⟩ l.d.ex hc l.k ha hg hdb he hpl) fun D σ H ⟨F,B,fs,ok,s⟩=>⟨F,B,fs,ok,C7 s fun rs fs1 F1 H1 us l q s1=>?_⟩
 split at s1
 ·rename_i hl
  exact ⟨by rw [q.2.len];exact hl,F1,B,fs1,x,C,h2,rfl,q.1,s1⟩
 ·exact s1.elim
end
def tryH (i:Nat) (okc:Str->Bool) (h:FS->SO) (c:Str) (fs:FS):SO:=if okc c=true then (match HL i (.t (.exn c)) fs with
 | some fs=>(match h fs with
  | .nx fs=>(match fs[i]? with
   | some (some (.val _))=>.nx (fs.set i none)
   | _=>.bad)
  | .ret (.t t) fs=>.ret (.t t) fs
  | _=>.bad)
 | none=>.bad) else .bad
def tryS (i:Nat) (okc:Str->Bool) (g h:FS->SO):FS->SO:=fun fs=>match g fs with
 | .exc c fs=>tryH i okc h c fs
 | o=>o
section
variable {X:Cx} {Z:Xp} {K:PySem.W.Frag} {B:Nat->Option V} {F:Wd} {H:Hp} {σ:St} {fs:FS}
theorem Okk.forget {i:Nat} {t:T} (h:Okk K F B H fs σ) (e:fs[i]?=some (some (.val t))):Okk K F B H (fs.set i none) (σ.set i none):=by
 obtain ⟨L,ok⟩:=h
 obtain ⟨v,L1,L2,L3,e1,rfl,h1,h2⟩:=ok.sl.pick e
 have e2:L2=[]:=by obtain ⟨u,rfl,q,z⟩:=h1;exact z
 subst e2
 exact ⟨L1++([]++L3),h2 F H none none [] Le.refl (fun _ _=>rfl) rfl,ok.nd,ok.nf,ok.fd,Fm.put ok.bo (fun o eo=>by cases eo) ok.sl.len,ok.pd,ok.pf,ok.pl⟩
def Ztry (K:PySem.W.Frag) (Z:Xp) (i:Nat) (okc:Str->Bool) (h:FS->SO) (D:Ends):Xp:=⟨fun F B H c fs=>Fy K Z B F H (tryH i okc h c fs) D,fun q l=>Fy.le q l⟩
theorem gs0_try {x n:Str} {C:Addr} {i:Nat} {np pos hpos:Pos} {body suite:List Stmt} {b₀:Stmt} {g h:FS->SO} (okc:Str->Bool) (i:Nat) (l:LkD X Z) (hC:X.mg x=some (.ref C)) (hN:X.N.Nodup) (hk:∀ c C',okc c=true->CN X.K c=some C'->PySem.W.exmOne X.K (.ref C') (.ref C)=some true)
  (hb:∀ E' Z',LkD (X.EH E') Z'->GSs (X.EH E') Z' body g) (hs:∀ a,GSs (X.hand a) Xp.no (b₀ :: suite) h) (hi:X.N[i]?=some n:=by rfl) (hl:X.env.scope.names.lookup n=some .local:=by rfl) (hg:Gl X x:=by rfl) (hdb:(x == ("__debug__":Str))=false:=by decide) :
  GS0 X Z (.Try body [.ExceptHandler (some (.Name x np)) (some n) (b₀ :: suite) hpos] [] [] pos) (tryS i okc g h):=by
 have key:=ps0_try (X:=X) (C:=C) (x:=x) (n:=n) (i:=i) (np:=np) (pos:=pos) (hpos:=hpos) (body:=body) (b₀:=b₀) (suite:=suite) (th:=tSt X.K Xp.no h) (tb:=fun D=>tSt X.K (Ztry X.K Z i okc h D) g) l.d hC hN (fun D=>?_) hs hi hl hg hdb
 ·intro s0 σ H D I q
  refine key s0 σ H D I ?_
  obtain ⟨F,B,fs,ok,s⟩:=q
  refine ⟨F,B,fs,ok,?_⟩
  unfold tryS at s
  cases e:g fs with
  | nx fs1=>rw [e] at s;exact s
  | ret r fs1=>rw [e] at s;exact s
  | brk fs1=>rw [e] at s;exact s
  | cnt fs1=>rw [e] at s;exact s
  | exc c fs1=>rw [e] at s;exact s
  | bad=>rw [e] at s;exact s
 ·refine hb _ _ ⟨⟨l.d.pn,l.d.ex,l.d.st,l.d.fr⟩,fun e s q=>XW.imp (XW.EH q) fun cv σ H z=>?_,XW.own l.d⟩
  obtain ⟨F,B,fs,c,C',hC',rfl,ok,z⟩:=z
  have z:Fy X.K Z B F H (tryH i okc h c fs) D:=z
  unfold tryH at z
  split at z
  ·rename_i hoc
   refine ⟨hk c C' hoc hC',fun a ha=>?_⟩
   split at z
   ·rename_i fs2 e2
    have ok2:Okk X.K (addF F a) B (upd H a (exO (.ref C') a)) fs2 (σ.set i (some (.ref a))):=HU (RR.of (r:=.t (.exn c)) (u:=.ref a) (Okk.alloc ok ha) (by
     simp only [BV,AG]
     exact ⟨a,C',rfl,.inr rfl,AH,hC'⟩)) e2
    have le2:Le F H (addF F a) (upd H a (exO (.ref C') a)):=Bw ok ha
    refine ⟨addF F a,B,fs2,ok2,?_⟩
    cases eh:h fs2 with
    | nx fs3 =>
     rw [eh] at z
     dsimp only at z
     split at z
     ·rename_i t et
      exact fun F' H' σ' l k=>z F' H' _ (le2.trans l) (k.forget et)
     ·exact z.elim
    | ret r fs3 =>
     rw [eh] at z
     cases r with
     | t t =>
      intro F' H' σ' u l k
      exact z F' H' σ' u (le2.trans l) k
     | nw o=>exact z.elim
     | rf j=>exact z.elim
    | brk fs3=>rw [eh] at z;exact z.elim
    | cnt fs3=>rw [eh] at z;exact z.elim
    | exc c fs3=>rw [eh] at z;exact z.elim
    | bad=>rw [eh] at z;exact z.elim
   ·exact z.elim
  ·exact z.elim
end
end FL
namespace FL
open PySem PySem.Spec L2
def exOne (K:PySem.W.Frag) (ds:List Str) (tab:Str->Str->Bool) (c:Str):Bool:=match CN K c with
 | some C=>PySem.W.excIn K C bmVE "ValueError.__new__" && (PySem.W.findIn K (.ref C) "__getattribute__" == some (some (.builtin "BaseException.__getattribute__"))) && (PySem.W.findIn K (.ref C) "__getattr__" == some none) &&
  (PySem.W.findIn K (.ref C) "__class__" == some (some (.builtin "object.__class__"))) && (PySem.W.specialIn K (.builtin "object.__class__") "__get__" == some (some (.builtin "getset_descriptor.__get__"))) && (PySem.W.takesIn K (.builtin "object.__class__") == some true) &&
  (PySem.W.mroIn K C (.type "object") == some true) && (PySem.W.mroIn K C (.type "BaseException") == some true) && (PySem.W.clsIn K C).isSome && (PySem.W.kitOne K (.ref C) (.type "ValueError") == some true) &&
  ds.all fun d=>match CN K d with
   | some D=>(PySem.W.kitOne K (.ref C) (.ref D) == some (tab c d)) && (!tab c d || PySem.W.exmOne K (.ref C) (.ref D) == some true)
   | none=>false
 | none=>false
def exAll (K:PySem.W.Frag) (rs ds:List Str) (tab:Str->Str->Bool):Bool:=rs.all (exOne K ds tab) && ds.all fun d=>(CN K d).isSome
structure GK (K:PySem.W.Frag) (mg:Str->Option Value) (rs ds:List Str) (tab:Str->Str->Bool):Prop where
 k:∀ c∈rs,∀ C,CN K c=some C->PySem.W.ExK K C/\(PySem.W.clsIn K C).isSome=true
 own:∀ c∈rs,∀ d∈ds,∀ C D,CN K c=some C->CN K d=some D->PySem.W.kitOne K (.ref C) (.ref D)=some (tab c d)/\(tab c d=true->PySem.W.exmOne K (.ref C) (.ref D)=some true)
 ve:∀ c∈rs,∀ C,CN K c=some C->PySem.W.kitOne K (.ref C) (.type "ValueError")=some true
 at_:∀ c∈rs,∃ C,mg c=some (.ref C)/\CN K c=some C/\PySem.W.excIn K C bmVE "ValueError.__new__"=true
 atd:∀ d∈ds,∃ D,mg d=some (.ref D)/\CN K d=some D
theorem cls_mg {K:PySem.W.Frag} {h:Heap} {mg:Str->Option Value} {c:Str} {C:Addr} (X:K.In h) (G:h.Ns mainGlobals mg) (e:CN K c=some C):mg c=some (.ref C):=by
 unfold CN at e
 split at e
 ·rename_i D q
  cases e
  exact PySem.W.mg_of X G q
 ·cases e
theorem GK.of {K:PySem.W.Frag} {h:Heap} {mg:Str->Option Value} {rs ds:List Str} {tab:Str->Str->Bool} (X:K.In h) (G:h.Ns mainGlobals mg) (e:exAll K rs ds tab=true):GK K mg rs ds tab:=by
 unfold exAll at e
 rw [Bool.and_eq_true] at e
 obtain ⟨e1,e2⟩:=e
 have one:∀ c∈rs,∀ C,CN K c=some C->PySem.W.excIn K C bmVE "ValueError.__new__"=true/\PySem.W.ExK K C/\(PySem.W.clsIn K C).isSome=true/\PySem.W.kitOne K (.ref C) (.type "ValueError")=some true /\
   ∀ d∈ds,∀ D,CN K d=some D->PySem.W.kitOne K (.ref C) (.ref D)=some (tab c d)/\(tab c d=true->PySem.W.exmOne K (.ref C) (.ref D)=some true):=fun c hc C hC=>by
  have q:=List.all_eq_true.mp e1 c hc
  unfold exOne at q
  rw [hC] at q
  simp only [Bool.and_eq_true,beq_iff_eq] at q
  obtain ⟨⟨⟨⟨⟨⟨⟨⟨⟨⟨q1,q2⟩,q3⟩,q4⟩,q5⟩,q6⟩,q7⟩,q8⟩,q9⟩,q10⟩,q11⟩:=q
  refine ⟨q1,⟨q2,q3,q4,q5,q6,q7,q8⟩,q9,q10,fun d hd D hD=>?_⟩
  have z:=List.all_eq_true.mp q11 d hd
  rw [hD] at z
  simp only [Bool.and_eq_true,beq_iff_eq] at z
  refine ⟨z.1,fun ht=>?_⟩
  have z2:=z.2
  rw [ht] at z2
  simpa using z2
 refine ⟨fun c hc C hC=>⟨(one c hc C hC).2.1,(one c hc C hC).2.2.1⟩,fun c hc d hd C D hC hD=>(one c hc C hC).2.2.2.2 d hd D hD,fun c hc C hC=>(one c hc C hC).2.2.2.1,fun c hc=>?_,fun d hd=>?_⟩
 ·have q:=List.all_eq_true.mp e1 c hc
  unfold exOne at q
  cases hC:CN K c with
  | none=>rw [hC] at q;cases q
  | some C=>exact ⟨C,cls_mg X G hC,rfl,(one c hc C hC).1⟩
 ·obtain ⟨D,hD⟩:=Option.isSome_iff_exists.mp (List.all_eq_true.mp e2 d hd)
  exact ⟨D,cls_mg X G hD,hD⟩
theorem GK.t1 {K:PySem.W.Frag} {mg:Str->Option Value} {rs ds:List Str} {tab:Str->Str->Bool} (t:GK K mg rs ds tab) {c:Str} (h:c∈rs):ExT1 K mg c:=⟨t.at_ c h⟩
def isX (cs:List Str) (tab:Str->Str->Bool) (d:Str) (f:FS->Out Rv):FS->Out Rv:=fun fs=>(f fs).bnd fun r fs=>match r with
 | .t (.exn c)=>if cs.contains c=true then okT (.bl (tab c d)) fs else .bad
 | _=>.bad
section
variable {X:Cx} {Z:Xp} {a:Expr} {f:FS->Out Rv} {p p2 pos:Pos} {x:Str} {cs ds:List Str} {tab:Str->Str->Bool}
theorem Cq (t:GK X.K X.mg cs ds tab) (hm:X.mg "isinstance"=none) (hx:x∈ds) (ha:FE X Z a f) (hg:Gl X "isinstance":=by rfl) (hg2:Gl X x:=by rfl) (hdb:(x == ("__debug__":Str))=false:=by decide)
  (hs:starEach [a,.Name x p2] X.env=(false,eval a X.env) :: starEach [.Name x p2] X.env:=by rfl) (hs2:starEach [.Name x p2] X.env=[(false,eval (.Name x p2) X.env)]:=by rfl) (hpl:(backTo pos (starEach [.Name x p2] X.env)).any (·.1)=false:=by rfl) :
  FE X Z (.Call (.Name "isinstance" p) [a,.Name x p2] [] pos) (isX cs tab x f):=by
 obtain ⟨D,h1,h2⟩:=t.atd x hx
 have hD:PE X (.Name x p2) (tC (.ref D)):=fun pins s σ H Q I h=>Gi I hg2 h1 ⟨.ref D,H,I,rfl,h⟩ hdb
 refine Bn (Ey FN hg hm PyProof.Rows.boot_isinstance (Cv ha (Cv hD FD hs2) hs) (by decide) (by decide) hs hpl) fun σ H Q ⟨F,B,fs,ok,s⟩=>?_
 refine ⟨F,B,fs,ok,AQ s fun r fs1 F1 H1 u l1 ok1 rx s1=>?_⟩
 split at s1
 ·rename_i c
  split at s1
  ·rename_i hc
   have hc:c∈cs:=by simpa using hc
   simp only [BV,AG] at rx
   obtain ⟨b,C,rfl,fb,hb,hC⟩:=rx
   exact ⟨b,C,.ref D,.ref D,_,rfl,(fun u z=>z),hb,(t.k c hc C hC).1,(t.k c hc C hC).2,(t.own c hc x hx C D hC h2).1,s1 F1 H1 _ Le.refl (RR.of ok1 rfl)⟩
  ·exact s1.elim
 ·exact s1.elim
def isV (cs:List Str) (f:FS->Out Rv):FS->Out Rv:=fun fs=>(f fs).bnd fun r fs=>match r with
 | .t (.exn c)=>if cs.contains c=true then okT (.bl true) fs else .bad
 | _=>.bad
theorem fe_isV (t:GK X.K X.mg cs ds tab) (hm:X.mg "isinstance"=none) (hm2:X.mg "ValueError"=none) (ha:FE X Z a f) (hg:Gl X "isinstance":=by rfl) (hg2:Gl X "ValueError":=by rfl)
  (hs:starEach [a,.Name "ValueError" p2] X.env=(false,eval a X.env) :: starEach [.Name "ValueError" p2] X.env:=by rfl) (hs2:starEach [.Name "ValueError" p2] X.env=[(false,eval (.Name "ValueError" p2) X.env)]:=by rfl) (hpl:(backTo pos (starEach [.Name "ValueError" p2] X.env)).any (·.1)=false:=by rfl) :
  FE X Z (.Call (.Name "isinstance" p) [a,.Name "ValueError" p2] [] pos) (isV cs f):=by
 refine Bn (Ey FN hg hm PyProof.Rows.boot_isinstance (Cv ha (Cv (pe_bltn (v:=.ty "ValueError") hg2 hm2 PyProof.Rows.Boot.«ValueError» rfl) FD hs2) hs) (by decide) (by decide) hs hpl) fun σ H Q ⟨F,B,fs,ok,s⟩=>?_
 refine ⟨F,B,fs,ok,AQ s fun r fs1 F1 H1 u l1 ok1 rx s1=>?_⟩
 split at s1
 ·rename_i c
  split at s1
  ·rename_i hc
   have hc:c∈cs:=by simpa using hc
   simp only [BV,AG] at rx
   obtain ⟨b,C,rfl,fb,hb,hC⟩:=rx
   exact ⟨b,C,.ty "ValueError",.type "ValueError",_,rfl,(fun u z=>z),hb,(t.k c hc C hC).1,(t.k c hc C hC).2,t.ve c hc C hC,s1 F1 H1 _ Le.refl (RR.of ok1 rfl)⟩
  ·exact s1.elim
 ·exact s1.elim
end
theorem gs0_tryT {X:Cx} {Z:Xp} {x n:Str} {np pos hpos:Pos} {body suite:List Stmt} {b₀:Stmt} {g h:FS->SO} {rs ds:List Str} {tab:Str->Str->Bool} (t:GK X.K X.mg rs ds tab) (hx:x∈ds) (i:Nat) (l:LkD X Z) (hN:X.N.Nodup)
  (hb:∀ E' Z',LkD (X.EH E') Z'->GSs (X.EH E') Z' body g) (hs:∀ a,GSs (X.hand a) Xp.no (b₀ :: suite) h) (hi:X.N[i]?=some n:=by rfl) (hl:X.env.scope.names.lookup n=some .local:=by rfl) (hg:Gl X x:=by rfl) (hdb:(x == ("__debug__":Str))=false:=by decide) :
  GS0 X Z (.Try body [.ExceptHandler (some (.Name x np)) (some n) (b₀ :: suite) hpos] [] [] pos) (tryS i (fun c=>rs.contains c && tab c x) g h):=by
 obtain ⟨C,h1,h2⟩:=t.atd x hx
 refine gs0_try (i:=i) _ i l h1 hN (fun c C' ho hc=>?_) hb hs hi hl hg hdb
 rw [Bool.and_eq_true] at ho
 exact (t.own c (by simpa using ho.1) x hx C' C hc h2).2 ho.2
def gCnt:Rv->List Rv->FS->Out Rv
 | x,[.t (.bl true)],fs=>match (CZ fs x).bind DJ with
  | some bs=>okT (.int ((bs.countP id:Nat):Int)) fs
  | none=>.bad
 | _,_,_=>.bad
def gIdx:Rv->List Rv->FS->Out Rv
 | x,[.t (.bl true)],fs=>match (CZ fs x).bind DJ with
  | some bs=>match bs.findIdx? id with
   | some j=>okT (.int ((j:Nat):Int)) fs
   | none=>.bad
  | none=>.bad
 | _,_,_=>.bad
section
variable {K:PySem.W.Frag} {Z:Xp}
theorem mf_count:MtF K Z (fun x vs H Q=>∃ (l:Addr) (bs:List Bool),x=.ref l/\vs=[.bl true]/\SqL K H l (bs.map V.bl)/\Q (.int ((bs.countP id:Nat):Int)) H) gCnt:=by
 intro F B H σ fs x rs u vs Q ok rx q s
 unfold gCnt at s
 split at s
 ·obtain ⟨v,rfl,qq⟩:=BQ q
  have q':v=V.bl true:=by simpa only [BV,AG] using qq
  subst q'
  split at s
  ·rename_i bs e
   rw [Option.bind_eq_some_iff] at e
   obtain ⟨ts,e1,e2⟩:=e
   obtain ⟨a,us,rfl,hs,r⟩:=Br ok rx e1
   rw [GH e2] at r
   rw [Af.bls r] at hs
   exact ⟨a,bs,rfl,rfl,hs,s F H _ Le.refl (RR.of ok rfl)⟩
  ·exact s.elim
 ·exact s.elim
theorem mf_index:MtF K Z (fun x vs H Q=>∃ (l:Addr) (bs:List Bool) (j:Nat),x=.ref l/\vs=[.bl true]/\SqL K H l (bs.map V.bl)/\bs[j]?=some true/\(∀ m,m < j->bs[m]?=some false)/\Q (.int ((j:Nat):Int)) H) gIdx:=by
 intro F B H σ fs x rs u vs Q ok rx q s
 unfold gIdx at s
 split at s
 ·obtain ⟨v,rfl,qq⟩:=BQ q
  have q':v=V.bl true:=by simpa only [BV,AG] using qq
  subst q'
  split at s
  ·rename_i bs e
   rw [Option.bind_eq_some_iff] at e
   obtain ⟨ts,e1,e2⟩:=e
   obtain ⟨a,us,rfl,hs,r⟩:=Br ok rx e1
   rw [GH e2] at r
   rw [Af.bls r] at hs
   split at s
   ·rename_i j ej
    obtain ⟨hj,h1,h2⟩:=List.findIdx?_eq_some_iff_getElem.mp ej
    refine ⟨a,bs,j,rfl,rfl,hs,by rw [List.getElem?_eq_getElem hj];exact congrArg some h1,fun m hm=>?_,s F H _ Le.refl (RR.of ok rfl)⟩
    have:=h2 m hm
    rw [List.getElem?_eq_getElem (Nat.lt_trans hm hj)]
    simpa using this
   ·exact s.elim
  ·exact s.elim
 ·exact s.elim
end
end FL
namespace L2
open PySem PySem.Spec PyProof.Rows
def Itv (K:PySem.W.Frag) (a:Addr) (n:Nat):It :=
 ⟨fun i H=>i < n/\∃ xs x,SqL K H a xs/\xs[n - 1 - i]?=some x,fun i H x H'=>H'=H/\∀ xs,SqL K H a xs->xs[n - 1 - i]?=some x,fun i _=>n<=i⟩
theorem turn_rev {P:Program} {w:World} {K:PySem.W.Frag} {tg:Expr} (a it:Addr) (n:Nat):Turn P w K tg (Itv K a n) [it] it (fun i h=>i<=n/\h.IsRevIter it a ((n:Int) - 1 - i)) where
 mem:=by simp
 obj:=fun i h st b hb=>by
  have e:b=it:=by simpa using hb
  subst e
  obtain ⟨_,o,e,c,d⟩:=st
  exact ⟨o,e,fun v z=>by rw [d] at z;cases z⟩
 keep:=fun i h h' st k=>⟨st.1,st.2.at fun o e=>k it (by simp) o e⟩
 item:=by
  intro X hP hw hK hc i pins s σ H E I hf st hg
  subst hP hw hK
  obtain ⟨hi,xs,x,hq,hx⟩:=hg
  obtain ⟨its,rv,p,hz⟩:=I.list hq
  obtain ⟨u,hu,ru⟩:=rv.get hx
  obtain ⟨f0,f1,f2,f3,f4,f5⟩:=hf it (by simp)
  have e:(n:Int) - 1 - i=((n - 1 - i:Nat):Int):=by omega
  have st2:=st.2
  rw [e] at st2
  refine wpAny_pyNext_rev_item st2 p.isList (x:=u) (by simpa using hu) fun h' st' sb=>?_
  have I1:Inv X pins σ H { s with heap:=h' }:=I.turned (t':=s.toks) (fun b o hb e=>(sb.2 b hb).trans e) f0 f1 f3 f4 f5
  obtain ⟨o,e,c,d⟩:=id st'
  exact ⟨u,rfl,go_of (s:={ s with heap:=h' }) e c d (by decide) ⟨x,H,I1,ru,⟨rfl,fun ys hy=>by rw [I.list_inj hy hq];exact hx⟩,⟨by omega,by
   have e2:(n:Int) - 1 - ((i+1:Nat):Int)=((n - 1 - i:Nat):Int) - 1:=by omega
   rw [e2];exact st'⟩,fun b hb=>(hf b hb).1⟩⟩
 done:=by
  intro X hP hw hK hc i pins s σ H E I hf st hg
  subst hP hw hK
  have hg:n<=i:=hg
  obtain ⟨f0,f1,f2,f3,f4,f5⟩:=hf it (by simp)
  have e:(n:Int) - 1 - i=-1:=by have:=st.1;omega
  have st2:=st.2
  rw [e] at st2
  exact wpAny_pyNext_rev_end (I.ok.hd hc) st2 fun h' eb=>⟨rfl,I.turned (t':=s.toks) (fun b o hb e=>eb b o hb e) f0 f1 f3 f4 f5⟩
 self:=fun _ _ _ _ _ st h=>wpAny_pyIter_revIter st.2 h
def iRev (K:PySem.W.Frag) (ta:TE):TI:=fun σ H R=>ta σ H fun x H1=>∃ a xs,x=.ref a/\SqL K H1 a xs/\R (Itv K a xs.length) H1
theorem pi_rev {X:Cx} {tg a:Expr} {ta:TE} {p2 pos2:Pos} (hm2:X.mg "reversed"=none) (ha:PE X a ta) (hg2:Gl X "reversed":=by rfl) (he2:starEach [a] X.env=[(false,eval a X.env)]:=by rfl) :
  PI X tg (.Call (.Name "reversed" p2) [a] [] pos2) (iRev X.K ta):=by
 intro pins s σ H R I h
 refine wpAny_Call_Name_kw (DB I hg2 hm2 boot_reversed ?_)
 refine PyProof.Rows.callWith_type1 ?_ he2 rfl
 rw [he2]
 refine Calls.spliced_cons (thn (ha pins s σ H _ I h) fun u s1 ⟨x,H1,I1,r1,l,ys,ex,hq,q⟩=>?_)
 subst ex
 cases r1
 obtain ⟨its,rv,pl,hz⟩:=I1.list hq
 have hlen:=rv.length
 refine Calls.spliced_nil (call_reversed_list pl.isList ?_)
 have I2:Inv X pins σ H1 { s1 with heap:=s1.heap.push (revObj l ((its.toArray.size:Int) - 1)) }:=I1.kept (t':=s1.toks) fun b o e=>Heap.get?_push_of_some _ e
 have hf:HM X pins H1 s1.heap.objs.size:=I1.fpOk (Nat.le_refl _) (I1.hok.fresh (Nat.le_refl _))
 have hit:({ s1 with heap:=s1.heap.push (revObj l ((its.toArray.size:Int) - 1)) }:Shared).heap.IsRevIter s1.heap.objs.size l ((its.toArray.size:Int) - 1):=⟨_,Heap.get?_push_size _ rfl,rfl,rfl⟩
 refine wpAny_pyIter_revIter hit ?_
 refine ⟨s1.heap.objs.size,[s1.heap.objs.size],_,_,H1,rfl,I2,turn_rev l _ ys.length,⟨Nat.zero_le _,?_⟩,fun b hb=>?_,q⟩
 ·have e:(ys.length:Int) - 1 - ((0:Nat):Int)=(its.toArray.size:Int) - 1:=by rw [List.size_toArray,hlen];omega
  rw [e];exact hit
 ·rw [show b=s1.heap.objs.size by simpa using hb]
  exact hf
end L2
namespace FL
open PySem PySem.Spec L2
def itV (f:FS->Out Rv):FS->Out (List T):=fun fs=>(f fs).bnd fun r fs=>match r with
 | .t (.lst ts)=>.ok ts.reverse fs
 | _=>.bad
theorem fi_rev {X:Cx} {Z:Xp} {tg l:Expr} {f:FS->Out Rv} {p2 pos2:Pos} (hm2:X.mg "reversed"=none) (hl:FE X Z l f) (hg2:Gl X "reversed":=by rfl) (he2:starEach [l] X.env=[(false,eval l X.env)]:=by rfl) :
  FI X Z tg (.Call (.Name "reversed" p2) [l] [] pos2) (itV f):=by
 refine pi_imp (pi_rev hm2 hl hg2 he2) fun σ H Q ⟨F,B,fs,ok,s⟩=>⟨F,B,fs,ok,AQ s fun r fs1 F1 H1 u l ok1 rx s1=>?_⟩
 split at s1
 ·rename_i ts
  simp only [BV,AG] at rx
  obtain ⟨a,vs,rfl,ff,hs,r⟩:=rx
  refine ⟨a,vs,rfl,SqL.of hs,s1 F1 H1 _ Le.refl ⟨ok1,fun F' H' l _ i=>?_⟩⟩
  have r':=Af.lf l r
  have hs':SqL X.K H' a vs:=SqL.of ((l a ff).2.trans hs)
  have hl:=r.len
  refine ⟨fun t et=>?_,fun hl2=>by show vs.length<=i;rw [hl,<- List.length_reverse];exact hl2⟩
  have hi:i < ts.length:=by
   have:=(List.getElem?_eq_some_iff.mp et).1
   simpa using this
  rw [List.getElem?_reverse hi] at et
  obtain ⟨v,ev,rv⟩:=r'.at et
  rw [<- hl] at ev
  refine ⟨⟨by omega,vs,v,hs',ev⟩,fun x H'' hy=>stays hy.1 ?_⟩
  have:=hy.2 vs hs'
  rw [ev] at this
  cases this
  exact rv
 ·exact s1.elim
end FL
namespace Sy
open PySem PySem.Spec L2 FL
abbrev xrs:List Str:=["NoPlace"]
abbrev xds:List Str:=["BadCount","BadKind","BadName","BadText","Groundless","NoFunction","NoKind","NoMaker","NoName","NoPlace","NoSaying","NotLess","NotShown","SayError","TooLong","Twice"]
def CC (c d:Str):Bool:=c == d || d == "SayError"
def top (i:Nat):Stmt:=PySem.Challenge.pw_stairsay_k31_places.main.body.getD i (.Pass ⟨0,0,0,0⟩)
structure Tx (K:PySem.W.Frag) (mg:Str->Option Value):Prop where
 b_ValueError:mg "ValueError"=none
 b_isinstance:mg "isinstance"=none
 b_len:mg "len"=none
 b_list:mg "list"=none
 b_min:mg "min"=none
 b_range:mg "range"=none
 b_reversed:mg "reversed"=none
 b_str:mg "str"=none
 b_sum:mg "sum"=none
 b_tuple:mg "tuple"=none
 b_zip:mg "zip"=none
 xt:GK K mg xrs xds CC
def DW:FS->SO :=
  (AW (AK 2 (gc (.str ("abcdefghijklmnopqrstuvwxyz":Str))))
  (AW (AK 3 (Ad Bb (Ad Ar (Ad Ar (Ad Bb (Aa 0) (Aa 0)) (Aa 0)) (gc (.int 1))) (gc (.int 982451653))))
  (AW (AK 4 (Ad Ar (gc (.int 1)) (Ad Bd (Aa 3) (gc (.int 12)))))
  (AW (AK 5 (Ad Bd (Ad BZ (Aa 3) (gc (.int 12))) (Aa 4)))
  (AW (AK 6 (CA false [none,some 2,some 3] (itR1 (Ac (Aa 4) Ao)) (tgN 0) HK (Ad AN (Aa 1) (Ad Bd (Ad Ar (Ad BZ (Aa 2) (Ad Ar (Aa 0) (gc (.int 5)))) (Ad Bb (Aa 0) (Aa 0))) (gc (.int 26))))))
  (AW (AK 7 (Ad AN (AD Bs (Ac (gc (.int 1)) (Ac (gc (.int 3)) (Ac (gc (.int 5)) (Ac (gc (.int 7)) (Ac (gc (.int 9)) (Ac (gc (.int 11)) Ao))))))) (Ad Bd (Ad BZ (Aa 3) (gc (.int 144))) (gc (.int 6)))))
  (AW (AK 8 (AD En Ao))
  (AW (Gu (itR1 (Ac (Aa 1) Ao)) (tgN 9) (AW (AK 10 (Ad AN (Aa 2) (Ad Bd (Ad Ar (Ad BZ (Aa 3) (gc (.int 864))) (Ad Bb (Aa 9) (Aa 7))) (gc (.int 26)))))
  (ifS (asB (Ad (BD false) (Ad Bd (Ad BZ (Aa 3) (gc (.int 900))) (gc (.int 3))) (gc (.int 1)))) (BE (Bk D6 (Aa 8) (Ac (Ad Bb (Ad AN (Aa 6) (gc (.int 0))) (Ad Ar (Ad Bd (Ad Ar (Aa 9) (Ad BZ (Aa 3) (gc (.int 7)))) (gc (.int 12))) (gc (.int 1)))) Ao))) (BE (Bk D6 (Aa 8) (Ac (Ad Ar (Ad Ar (fz (El E1 (gc (.str ("":Str))) (Ac (slF (Aa 6) noP (AU (Aa 5))) Ao))) (Aa 10)) (fz (El E1 (gc (.str ("":Str))) (Ac (slF (Aa 6) (AU (Ad Ar (Aa 5) (gc (.int 1)))) noP) Ao)))) Ao))))))
  (retS (Aa 8))))))))))
def CT:FS->Out Rv:=Dt 9 (DW)
def DH (rec:FS->Out Rv):FS->SO :=
  (AW (AK 3 (fz (Bk gPop (Aa 1) Ao)))
  (AW (ifS (orT (asB (Ad (BD false) (Aa 2) (gc (.int 0)))) (asB (Ad (BD false) (Ad Bd (Aa 3) (gc (.int 5))) (gc (.int 0))))) (retS (AD Bg (Ac (gc (.str ("name":Str))) (Ac (Ad AN (Aa 0) (Ad Bd (Ad BZ (Aa 3) (gc (.int 5))) (Ak Be (Ac (Aa 0) Ao)))) Ao)))) nxS)
  (AW (AK 4 (AD En Ao))
  (AW (Gu (itR1 (Ac (Ad AN (AD Bs (Ac (gc (.int 0)) (Ac (gc (.int 1)) (Ac (gc (.int 2)) (Ac (gc (.int 3)) (Ac (gc (.int 1)) (Ac (gc (.int 2)) Ao))))))) (Ad Bd (Ad BZ (Aa 3) (gc (.int 5))) (gc (.int 6)))) Ao)) (tgN 5) (BE (Bk D6 (Aa 4) (Ac (fz (Ak (Am 3 rec) (Ai (fz (Aa 0)) (Ai (Aa 1) (Ai (Ad Em (Aa 2) (gc (.int 1))) Ao))))) Ao))))
  (retS (AD Bg (Ac (Ad AN (AD Bs (Ac (gc (.str ("make":Str))) (Ac (gc (.str ("call":Str))) Ao))) (Ad Bd (Ad BZ (Aa 3) (gc (.int 30))) (gc (.int 2)))) (Ac (Ad AN (Aa 0) (Ad Bd (Ad BZ (Aa 3) (gc (.int 60))) (Ak Be (Ac (Aa 0) Ao)))) (Ac (Ak EY (Ac (Aa 4) Ao)) Ao)))))))))
def BA:Nat->FS->Out Rv
 | 0=>fun _=>.bad
 | n+1=>Dt 3 (DH (BA n))
def EE (rec:FS->Out Rv):FS->SO :=
  (AW (AK 1 (AD Bs (Ac (AD Bg Ao) Ao)))
  (AW (ifS (asB (Ad (BD true) (Ad AN (Aa 0) (gc (.int 0))) (gc (.str ("name":Str))))) (Gu (itR1 (Ac (Ak Be (Ac (Ad AN (Aa 0) (gc (.int 2))) Ao)) Ao)) (tgN 2) (AK 1 (fz (Ad Ar (Aa 1) (CA false [none,some 2] (itU (fz (Ak (Am 1 rec) (Ai (Ad AN (Ad AN (Aa 0) (gc (.int 2))) (fz (Aa 2))) Ao)))) (tgN 0) HK (Ad Ar (AD Bg (Ac (fz (Aa 1)) Ao)) (Aa 0))))))) nxS)
  (retS (Aa 1))))
def By:Nat->FS->Out Rv
 | 0=>fun _=>.bad
 | n+1=>Dt 2 (EE (By n))
def CO:FS->SO :=
  (AW (ifS (asB (Ad gLt (Aa 1) (Ak Be (Ac (Aa 0) Ao)))) (retS (Ad AN (Aa 0) (fz (Aa 1)))) nxS)
  (retS (gc (.int 0))))
def Ba:FS->Out Rv:=Dt 0 (CO)
def Dg:FS->SO :=
  (AW (AK 3 (Ak gSum (Ac (CA false [none,some 0] (itR3 (Ac (Aa 1) (Ac (Ak D5 (Ac (Ak Be (Ac (Aa 0) Ao)) (Ac (gc (.int 63)) Ao))) (Ac (Aa 2) Ao)))) (tgN 0) HK (Ad AN (Aa 1) (fz (Aa 0)))) Ao)))
  (AW (AK 4 (AD En Ao))
  (AW (AK 5 (Ad Bd (Aa 3) (gc (.int 2147483629))))
  (AW (AK 6 (Ad BZ (Aa 3) (gc (.int 2))))
  (AW (Gu (itR1 (Ac (gc (.int 150)) Ao)) (tgN 7) (AW (AK 5 (Ad Bd (Ad Ar (Ad Ar (Ad Bb (Aa 5) (Aa 5)) (Aa 3)) (Aa 7)) (gc (.int 2147483629))))
  (AW (BE (Bk D6 (Aa 4) (Ac (Ad Bd (Ad AN (AD Bs (Ac (fz (Aa 6)) (Ac (Ad Bd (Ad Bb (Aa 5) (Aa 5)) (gc (.int 2147483587))) Ao))) (Ad Bd (Aa 3) (gc (.int 2)))) (gc (.int 1000003))) Ao)))
  (AK 6 (Ad BZ (Aa 6) (gc (.int 1000003)))))))
  (retS (revF (Aa 4))))))))
def BW:FS->Out Rv:=Dt 5 (Dg)
def BU:FS->SO :=
  (retS (ifV (asB (Ad (BD false) (Ad AN (Aa 0) (gc (.int 0))) (gc (.str ("name":Str))))) (AD Bg Ao) (Ad AN (Aa 0) (gc (.int 2)))))
def A8:FS->Out Rv:=Dt 0 (BU)
def EC:FS->SO :=
  (AW (AK 2 (AD En (Ac (fz (Aa 0)) Ao)))
  (AW (Gu (itU (fz (Aa 1))) (tgN 3) (AW (AK 4 (fz (Ak (Am 1 A8) (Ai (Ad AN (Aa 2) (negF (gc (.int 1)))) Ao))))
  (AW (ifS (C8 (asB (chain gLe gLt (gc (.int 0)) (Aa 3) (Ak Be (Ac (Aa 4) Ao))))) (raiseS "NoPlace" (Ac (gc (.str ("there is no such argument":Str))) Ao)) nxS)
  (BE (Bk D6 (Aa 2) (Ac (Ad AN (Aa 4) (fz (Aa 3))) Ao))))))
  (retS (Aa 2))))
def BH:FS->Out Rv:=Dt 3 (EC)
def DV:FS->SO :=
  (retS (Ad AN (fz (Ak (Am 2 BH) (Ai (fz (Aa 0)) (Ai (fz (Aa 1)) Ao)))) (negF (gc (.int 1)))))
def AX:FS->Out Rv:=Dt 0 (DV)
def ED:FS->SO :=
  (AW (AK 3 (slF (fz (Ak (Am 2 BH) (Ai (fz (Aa 0)) (Ai (fz (Aa 1)) Ao)))) noP (AU (negF (gc (.int 1))))))
  (AW (AK 4 (fz (Aa 2)))
  (AW (Gu (itV (fz (zipF (Aa 3) (Aa 1)))) (EK 2 (AS (tgN 5) (AS (tgN 6) DL))) (AW (asgS (fz (Aa 5)) (EK 3 (AS (tgN 7) (AS (tgN 8) (AS (tgN 9) DL)))))
  (AK 4 (AD Bg (Ac (fz (Aa 7)) (Ac (fz (Aa 8)) (Ac (Ad Ar (Ad Ar (slF (Aa 9) noP (AU (Aa 6))) (AD Bg (Ac (fz (Aa 4)) Ao))) (slF (Aa 9) (AU (Ad Ar (Aa 6) (gc (.int 1)))) noP)) Ao)))))))
  (retS (Aa 4)))))
def BI:FS->Out Rv:=Dt 7 (ED)
def GG:FS->SO :=
  (AW (Gu (itU (fz (Aa 1))) (tgN 2) (AK 0 (Ad AN (Ad AN (Aa 0) (gc (.int 2))) (fz (Aa 2)))))
  (retS (Aa 0)))
def BJ:FS->Out Rv:=Dt 1 (GG)
def DI:FS->SO :=
  (AW (AK 3 (Ad Bd (Aa 2) (Ad Ar (Ak Be (Ac (Aa 1) Ao)) (gc (.int 1)))))
  (AW (AK 4 (fz (Ak (Am 2 BJ) (Ai (fz (Aa 0)) (Ai (slF (Aa 1) noP (AU (Aa 3))) Ao)))))
  (AW (AK 5 (gc (.int 0)))
  (AW (ifS (asB (Ad (BD true) (Ad AN (Aa 4) (gc (.int 0))) (gc (.str ("name":Str))))) (AK 5 (Ak Be (Ac (Ad AN (Aa 4) (gc (.int 2))) Ao))) nxS)
  (AW (AK 6 (Ad AN (AD Bs (Ac (fz (Aa 5)) (Ac (Ad Ar (Ad Ar (Aa 5) (gc (.int 1))) (Ad Bd (Ad BZ (Aa 2) (gc (.int 7))) (Ad gPow (gc (.int 10)) (gc (.int 40))))) (Ac (Ad Em (negF (gc (.int 1))) (Ad Bd (Ad BZ (Aa 2) (gc (.int 7))) (gc (.int 3)))) (Ac (Ad Em (negF (gc (.int 1))) (Ad Bd (Ad BZ (Aa 2) (gc (.int 7))) (Ad gPow (gc (.int 10)) (gc (.int 40))))) Ao))))) (Ad Bd (Ad BZ (Aa 2) (gc (.int 50))) (gc (.int 4)))))
  (retS (Ad Ar (Ad Ar (slF (Aa 1) noP (AU (Aa 3))) (AD Bg (Ac (fz (Aa 6)) Ao))) (slF (Aa 1) (AU (Ad Ar (Aa 3) (gc (.int 1)))) noP))))))))
def BB:FS->Out Rv:=Dt 4 (DI)
def EF (rec:FS->Out Rv):FS->SO :=
  (AW (ifS (orT (C8 (DK (isF "tuple" (Aa 0)))) (orT (asB (Ad gLt (Ak Be (Ac (Aa 0) Ao)) (gc (.int 2)))) (asB (Ad (BD true) (CA false [none] (itU (slF (Aa 0) noP (AU (gc (.int 2))))) (tgN 0) (C8 (DK (isF "str" (Aa 0)))) (fz (Aa 0))) (AD Bs Ao))))) (retS (gc (.bl false))) nxS)
  (AW (ifS (asB (Ad (BD false) (Ad AN (Aa 0) (gc (.int 0))) (gc (.str ("name":Str))))) (retS (Ad (BD false) (Ak Be (Ac (Aa 0) Ao)) (gc (.int 2)))) nxS)
  (AW (ifS (orT (asB (Ad (BD true) (Ak Be (Ac (Aa 0) Ao)) (gc (.int 3)))) (C8 (DK (isF "tuple" (Ad AN (Aa 0) (gc (.int 2))))))) (retS (gc (.bl false))) nxS)
  (retS (Ad (BD false) (CA false [none] (itU (Ad AN (Aa 0) (gc (.int 2)))) (tgN 0) (C8 (DK (fz (Ak (Am 1 rec) (Ai (fz (Aa 0)) Ao))))) (fz (Aa 0))) (AD Bs Ao))))))
def A4:Nat->FS->Out Rv
 | 0=>fun _=>.bad
 | n+1=>Dt 0 (EF (A4 n))
def HH (rec:FS->Out Rv):FS->SO :=
  (AW (ifS (asB (Ad (BD false) (Aa 1) (AD Bg Ao))) (retS (Aa 2)) nxS)
  (AW (AK 3 (Ak gListU (Ac (Ad AN (Aa 0) (gc (.int 2))) Ao)))
  (AW (setItS (fz (Ak (Am 3 rec) (Ai (Ad AN (Aa 3) (Ad AN (Aa 1) (gc (.int 0)))) (Ai (slF (Aa 1) (AU (gc (.int 1))) noP) (Ai (fz (Aa 2)) Ao))))) (Aa 3) (Ad AN (Aa 1) (gc (.int 0))))
  (retS (AD Bg (Ac (Ad AN (Aa 0) (gc (.int 0))) (Ac (Ad AN (Aa 0) (gc (.int 1))) (Ac (Ak EY (Ac (Aa 3) Ao)) Ao))))))))
def CM:Nat->FS->Out Rv
 | 0=>fun _=>.bad
 | n+1=>Dt 1 (HH (CM n))
def DX:FS->SO :=
  (AW (AK 3 (Ak gSum (Ac (CA false [none,some 0] (itR3 (Ac (Aa 1) (Ac (Ak D5 (Ac (Ak Be (Ac (Aa 0) Ao)) (Ac (gc (.int 63)) Ao))) (Ac (Aa 2) Ao)))) (tgN 0) HK (Ad AN (Aa 1) (fz (Aa 0)))) Ao)))
  (AW (ifS (asB (Ad (BD false) (Ad Bd (Aa 3) (gc (.int 2))) (gc (.int 0)))) (retS (Ad Bd (Ad BZ (Aa 3) (gc (.int 2))) (Ad gPow (gc (.int 10)) (gc (.int 60))))) nxS)
  (AW (AK 4 (Ad Bb (Ad Ar (Ad Ar (Ad Ar (Ad Bb (Aa 3) (Aa 3)) (Aa 3)) (Aa 1)) (gc (.int 1))) (gc (.int 982451653))))
  (retS (Ad Bb (Ad Bd (Ad Bb (Aa 4) (Aa 4)) (Ad Ar (Ad gPow (gc (.int 10)) (gc (.int 18))) (gc (.int 9)))) (Ad Ar (Ad Bd (Aa 4) (gc (.int 2147483629))) (gc (.int 7))))))))
def Ce:FS->Out Rv:=Dt 2 (DX)
def Ed:FS->SO :=
  (AW (AK 1 (AD Bs (Ac (isX xrs CC "BadName" (Aa 0)) (Ac (isX xrs CC "Twice" (Aa 0)) (Ac (isX xrs CC "BadCount" (Aa 0)) Ao)))))
  (AW (AK 1 (fz (Ad Ar (Aa 1) (AD Bs (Ac (isX xrs CC "NoKind" (Aa 0)) (Ac (isX xrs CC "Groundless" (Aa 0)) (Ac (isX xrs CC "NoMaker" (Aa 0)) Ao)))))))
  (AW (AK 1 (fz (Ad Ar (Aa 1) (AD Bs (Ac (isX xrs CC "NoName" (Aa 0)) (Ac (isX xrs CC "NoFunction" (Aa 0)) (Ac (isX xrs CC "NotLess" (Aa 0)) Ao)))))))
  (AW (AK 1 (fz (Ad Ar (Aa 1) (AD Bs (Ac (isX xrs CC "BadKind" (Aa 0)) (Ac (isX xrs CC "TooLong" (Aa 0)) (Ac (isX xrs CC "NoPlace" (Aa 0)) Ao)))))))
  (retS (Ad Ar (Aa 1) (AD Bs (Ac (isX xrs CC "NotShown" (Aa 0)) (Ac (isX xrs CC "NoSaying" (Aa 0)) (Ac (isX xrs CC "BadText" (Aa 0)) Ao))))))))))
def Bq:FS->Out Rv:=Dt 1 (Ed)
def GF:FS->SO :=
  (AW (ifS (orT (C8 (DK (isV xrs (Aa 0)))) (asB (Ad (BD true) (fz (Bk gCnt (fz (Ak (Am 1 Bq) (Ai (fz (Aa 0)) Ao))) (Ac (gc (.bl true)) Ao))) (gc (.int 1))))) (retS (negF (gc (.int 1)))) nxS)
  (retS (Bk gIdx (fz (Ak (Am 1 Bq) (Ai (fz (Aa 0)) Ao))) (Ac (gc (.bl true)) Ao))))
def DR:FS->Out Rv:=Dt 0 (GF)
def Ec:FS->SO :=
  (AW (AK 4 (gc .non))
  (AW (tryS 5 (fun c=>xrs.contains c && CC c "SayError") (ifS (asB (Ad (BD false) (Aa 0) (gc (.int 0)))) (BE (Ak (Am 2 AX) (Ai (fz (Aa 1)) (Ai (fz (Aa 2)) Ao)))) (BE (Ak (Am 3 BI) (Ai (fz (Aa 1)) (Ai (fz (Aa 2)) (Ai (fz (Aa 3)) Ao)))))) (AK 4 (fz (Aa 5))))
  (retS (Ad (BD false) (fz (Ak (Am 1 DR) (Ai (fz (Aa 4)) Ao))) (gc (.int 11))))))
def Bp:FS->Out Rv:=Dt 2 (Ec)
def b_law:FS->SO :=
  (AW (AK 1 (fz (Ak (Am 2 CT) (Ai (fz (Ak (Am 2 Ba) (Ai (fz (Aa 0)) (Ai (gc (.int 0)) Ao)))) (Ai (gc (.int 5)) Ao)))))
  (AW (AK 2 (fz (Ak (Am 3 (BA 60)) (Ai (fz (Aa 1)) (Ai (Ak (Am 3 BW) (Ai (fz (Aa 0)) (Ai (gc (.int 1)) (Ai (gc (.int 3)) Ao)))) (Ai (gc (.int 4)) Ao))))))
  (AW (AK 3 (fz (Ak (Am 3 (BA 60)) (Ai (fz (Aa 1)) (Ai (Ak (Am 3 BW) (Ai (fz (Aa 0)) (Ai (gc (.int 2)) (Ai (gc (.int 3)) Ao)))) (Ai (gc (.int 2)) Ao))))))
  (AW (AK 4 (fz (Ak (Am 1 (By 60)) (Ai (fz (Aa 2)) Ao))))
  (AW (AK 5 (Ad Bd (fz (Ak (Am 2 Ba) (Ai (fz (Aa 0)) (Ai (gc (.int 1)) Ao)))) (Ak Be (Ac (Aa 4) Ao))))
  (AW (Gu (itR1 (Ac (Ak D5 (Ac (gc (.int 20)) (Ac (Ak Be (Ac (Aa 4) Ao)) Ao))) Ao)) (tgN 6) (AW (AK 7 (Ad AN (Aa 4) (Ad Bd (Ad Ar (Aa 5) (Aa 6)) (Ak Be (Ac (Aa 4) Ao)))))
  (AW (AK 8 (fz (Ak (Am 2 AX) (Ai (fz (Aa 2)) (Ai (fz (Aa 7)) Ao)))))
  (AW (ifS (orT (C8 (DK (fz (Ak (Am 1 (A4 60)) (Ai (fz (Aa 8)) Ao))))) (asB (Ad (BD true) (Aa 8) (fz (Ak (Am 2 BJ) (Ai (fz (Aa 2)) (Ai (fz (Aa 7)) Ao))))))) (retS (gc (.bl false))) nxS)
  (AW (AK 9 (fz (Ak (Am 3 BI) (Ai (fz (Aa 2)) (Ai (fz (Aa 7)) (Ai (fz (Aa 3)) Ao))))))
  (AW (ifS (orT (C8 (DK (fz (Ak (Am 1 (A4 60)) (Ai (fz (Aa 9)) Ao))))) (orT (asB (Ad (BD true) (Aa 9) (fz (Ak (Am 3 (CM 60)) (Ai (fz (Aa 2)) (Ai (fz (Aa 7)) (Ai (fz (Aa 3)) Ao))))))) (asB (Ad (BD true) (fz (Ak (Am 2 AX) (Ai (fz (Aa 9)) (Ai (fz (Aa 7)) Ao)))) (Aa 3))))) (retS (gc (.bl false))) nxS)
  (AW (AK 10 (fz (Ak (Am 3 BB) (Ai (fz (Aa 2)) (Ai (fz (Aa 7)) (Ai (Ad BZ (fz (Ak (Am 3 Ce) (Ai (fz (Aa 0)) (Ai (Ad Bd (Aa 6) (gc (.int 4))) (Ai (gc (.int 4)) Ao))))) (Ad Ar (Aa 6) (gc (.int 3)))) Ao))))))
  (ifS (orT (C8 (DK (fz (Ak (Am 4 Bp) (Ai (gc (.int 0)) (Ai (fz (Aa 2)) (Ai (fz (Aa 10)) (Ai (fz (Aa 3)) Ao)))))))) (C8 (DK (fz (Ak (Am 4 Bp) (Ai (gc (.int 1)) (Ai (fz (Aa 2)) (Ai (fz (Aa 10)) (Ai (fz (Aa 3)) Ao))))))))) (retS (gc (.bl false))) nxS))))))))
  (retS (gc (.bl true)))))))))
def f_law:FS->Out Rv:=Dt 10 (b_law)
section
variable {P:Program} {w:World} {K:PySem.W.Frag} {mg:Str->Option Value} {base:Heap}
abbrev BP:Stmt:=top 36
theorem Ef:A1 ["_law_expression","_law_place","_law_cell","_law_at","_law_one","_law_many","_law_odd"] ["_law_expression","_law_place","_law_cell"] (Ap BP):=⟨rfl,rfl,rfl,by decide +kernel,rfl,by decide +kernel,by decide +kernel⟩
theorem Hi {f:Addr} {fd:FuncData} (Fu:Fun K "_law_bad_spot" "_law_bad_spot" BP f fd) (T:Tx K mg) (G_Lthere:FnAt P w K mg base (CX1 P w) "_law_there" 1 ["_law_expression","_law_place"] (spX K 2 BJ)):Dh P w K mg base (CX1 P w) 2 f fd ["_law_expression","_law_place","_law_cell"] (spX K 3 (BB)) :=
 BN (k:=1) (g:=DI) Fu Ef 3 4 rfl rfl (fun cdv A outer s H E _ _ hr lk=>by
  have nd:=Ef.nd
  have hu:=C3 hr
  exact (GSs.zero (Al (AB 3 nd (Or.inl rfl) (A3 (Aq 2) (AO (Cp T.b_len (Ag (Aq 1) Au)) Ah)))
   (Al (AB 4 nd (Or.inl rfl) (As (AV G_Lthere (hr.mono (by first | decide | omega)) lk.lk (Aj (As (Aq 0)) (Aj (Fi (Aq 1) Cz (Cy (Aq 3))) AF)))))
   (Al (AB 5 nd (Or.inl rfl) Ah)
   (Al (Dy (Ei (Gn hr) (Bo hu (Aq 4) Ah (fun _ _=>rfl)) De) (Av (AB 5 nd (Or.inl rfl) (Cp T.b_len (Ag (Bo hu (Aq 4) Ah (fun _ _=>rfl)) Au)))) BG)
   (Al (AB 6 nd (Or.inl rfl) (Bo hu (CL (Ag (As (Aq 5)) (Ag (AO (AO (Aq 5) Ah) (A3 (BO (Aq 2) Ah) (fe_pow Ah Ah))) (Ag (fe_sub (FH Ah) (A3 (BO (Aq 2) Ah) Ah)) (Ag (fe_sub (FH Ah) (A3 (BO (Aq 2) Ah) (fe_pow Ah Ah))) Au))))) (A3 (BO (Aq 2) Ah) Ah) (fun _ _=>rfl)))
   (Av (A2 (AO (AO (Fi (Aq 1) Cz (Cy (Aq 3))) (DD (Ag (As (Aq 6)) Au))) (Fi (Aq 1) (Cy (AO (Aq 3) Ah)) Cz)))))))))))
end
section
variable {P:Program} {w:World} {K:PySem.W.Frag} {mg:Str->Option Value} {base:Heap}
abbrev Cj:Stmt:=top 23
theorem ER:A1 ["_law_script","_law_k"] ["_law_script","_law_k"] (Ap Cj):=⟨rfl,rfl,rfl,by decide +kernel,rfl,by decide +kernel,by decide +kernel⟩
theorem ok_Lcell_at {f:Addr} {fd:FuncData} (Fu:Fun K "_law_cell_at" "_law_cell_at" Cj f fd) (T:Tx K mg) :Dh P w K mg base (CX1 P w) 1 f fd ["_law_script","_law_k"] (spX K 2 (Ba)) :=
 BN (k:=0) (g:=CO) Fu ER 2 0 rfl rfl (fun cdv A outer s H E _ _ hr lk=>by
  have nd:=ER.nd
  have hu:=C3 hr
  exact (GSs.zero (Al (Dy (ft_lt (Aq 1) (Cp T.b_len (Ag (Aq 0) Au))) (Av (A2 (Bo hu (Aq 0) (As (Aq 1)) (fun _ _=>rfl)))) BG)
   (Av (A2 Ah)))))
end
section
variable {P:Program} {w:World} {K:PySem.W.Frag} {mg:Str->Option Value} {base:Heap}
abbrev Ci:Stmt:=top 31
theorem EO:A1 ["_law_kept","_law_got"] ["_law_kept"] (Ap Ci):=⟨rfl,rfl,rfl,by decide +kernel,rfl,by decide +kernel,by decide +kernel⟩
theorem ok_Lclasses {f:Addr} {fd:FuncData} (Fu:Fun K "_law_classes" "_law_classes" Ci f fd) (T:Tx K mg) :Dh P w K mg base (CX1 P w) 1 f fd ["_law_kept"] (spX K 1 (Bq)) :=
 BN (k:=0) (g:=Ed) Fu EO 1 1 rfl rfl (fun cdv A outer s H E _ _ hr lk=>by
  have nd:=EO.nd
  have hu:=C3 hr
  exact (GSs.zero (Al (AB 1 nd (Or.inl rfl) (CL (Ag (Cq T.xt T.b_isinstance (by decide +kernel) (Aq 0)) (Ag (Cq T.xt T.b_isinstance (by decide +kernel) (Aq 0)) (Ag (Cq T.xt T.b_isinstance (by decide +kernel) (Aq 0)) Au)))))
   (Al (AB 1 nd (Or.inl rfl) (As (AO (Aq 1) (CL (Ag (Cq T.xt T.b_isinstance (by decide +kernel) (Aq 0)) (Ag (Cq T.xt T.b_isinstance (by decide +kernel) (Aq 0)) (Ag (Cq T.xt T.b_isinstance (by decide +kernel) (Aq 0)) Au)))))))
   (Al (AB 1 nd (Or.inl rfl) (As (AO (Aq 1) (CL (Ag (Cq T.xt T.b_isinstance (by decide +kernel) (Aq 0)) (Ag (Cq T.xt T.b_isinstance (by decide +kernel) (Aq 0)) (Ag (Cq T.xt T.b_isinstance (by decide +kernel) (Aq 0)) Au)))))))
   (Al (AB 1 nd (Or.inl rfl) (As (AO (Aq 1) (CL (Ag (Cq T.xt T.b_isinstance (by decide +kernel) (Aq 0)) (Ag (Cq T.xt T.b_isinstance (by decide +kernel) (Aq 0)) (Ag (Cq T.xt T.b_isinstance (by decide +kernel) (Aq 0)) Au)))))))
   (Av (A2 (AO (Aq 1) (CL (Ag (Cq T.xt T.b_isinstance (by decide +kernel) (Aq 0)) (Ag (Cq T.xt T.b_isinstance (by decide +kernel) (Aq 0)) (Ag (Cq T.xt T.b_isinstance (by decide +kernel) (Aq 0)) Au)))))))))))))
end
section
variable {P:Program} {w:World} {K:PySem.W.Frag} {mg:Str->Option Value} {base:Heap}
abbrev CG:Stmt:=top 26
theorem Fx:A1 ["_law_script","_law_at","_law_parts","_law_drawn","_law_got","_law_first","_law_rest","_law_k"] ["_law_script","_law_at","_law_parts"] (Ap CG):=⟨rfl,rfl,rfl,by decide +kernel,rfl,by decide +kernel,by decide +kernel⟩
theorem ok_Ldigits {f:Addr} {fd:FuncData} (Fu:Fun K "_law_digits" "_law_digits" CG f fd) (T:Tx K mg) :Dh P w K mg base (CX1 P w) 1 f fd ["_law_script","_law_at","_law_parts"] (spX K 3 (BW)) :=
 BN (k:=0) (g:=Dg) Fu Fx 3 5 rfl rfl (fun cdv A outer s H E _ _ hr lk=>by
  have nd:=Fx.nd
  have hu:=C3 hr
  exact (GSs.zero (Al (AB 3 nd (Or.inl rfl) (fe_sum T.b_sum (Ag (E4 false ["_law_k","_law_script"] [none,some 0] rfl (Hr (Ag (Aq 1) (Ag (fe_min2 T.b_min (Ag (Cp T.b_len (Ag (Aq 0) Au)) (Ag Ah Au))) (Ag (Aq 2) Au))) (fun ha=>He rfl T.b_range ha)) (fun _ _ _ _ _=>(Bl 0 (by show List.Nodup (["_law_k","_law_script"]:List Str);decide +kernel) (Or.inl rfl) (hf:=.inr rfl))) (fun _ _ _ _ _=>Gv) (fun _ _ _ _ _=>(Bo hu (Aq 1) (As (Aq 0)) (fun _ _=>rfl)))) Au)))
   (Al (AB 4 nd (Or.inl rfl) (Gw Au))
   (Al (AB 5 nd (Or.inl rfl) (A3 (Aq 3) Ah))
   (Al (AB 6 nd (Or.inl rfl) (BO (Aq 3) Ah))
   (Al (Eh lk.own rfl (CK T.b_range (Ag Ah Au)) (Bl 7 nd (Or.inl rfl)) (Al (AB 5 nd (Or.inl rfl) (A3 (AO (AO (Df (Aq 5) (Aq 5)) (Aq 3)) (Aq 7)) Ah))
   (Al (DF (fe_bm Hj PySem.F.slot_list_append PySem.F.type_list_append CH (Aq 4) (Ag (A3 (Bo hu (CL (Ag (As (Aq 6)) (Ag (A3 (Df (Aq 5) (Aq 5)) Ah) Au))) (A3 (Aq 3) Ah) (fun _ _=>rfl)) Ah) Au)))
   (Av (AB 6 nd (Or.inl rfl) (BO (Aq 6) Ah))))))
   (Av (A2 (fe_listRev rfl T.b_list T.b_reversed (Aq 4)))))))))))
end
section
variable {P:Program} {w:World} {K:PySem.W.Frag} {mg:Str->Option Value} {base:Heap}
abbrev Ds:Stmt:=top 25
theorem Hb:A1 ["_law_script","_law_at","_law_many","_law_cell","_law_first"] ["_law_script","_law_at","_law_many"] (Ap Ds):=⟨rfl,rfl,rfl,by decide +kernel,rfl,by decide +kernel,by decide +kernel⟩
theorem ok_Lmixed {f:Addr} {fd:FuncData} (Fu:Fun K "_law_mixed" "_law_mixed" Ds f fd) (T:Tx K mg) :Dh P w K mg base (CX1 P w) 1 f fd ["_law_script","_law_at","_law_many"] (spX K 3 (Ce)) :=
 BN (k:=0) (g:=DX) Fu Hb 3 2 rfl rfl (fun cdv A outer s H E _ _ hr lk=>by
  have nd:=Hb.nd
  have hu:=C3 hr
  exact (GSs.zero (Al (AB 3 nd (Or.inl rfl) (fe_sum T.b_sum (Ag (E4 false ["_law_k","_law_script"] [none,some 0] rfl (Hr (Ag (Aq 1) (Ag (fe_min2 T.b_min (Ag (Cp T.b_len (Ag (Aq 0) Au)) (Ag Ah Au))) (Ag (Aq 2) Au))) (fun ha=>He rfl T.b_range ha)) (fun _ _ _ _ _=>(Bl 0 (by show List.Nodup (["_law_k","_law_script"]:List Str);decide +kernel) (Or.inl rfl) (hf:=.inr rfl))) (fun _ _ _ _ _=>Gv) (fun _ _ _ _ _=>(Bo hu (Aq 1) (As (Aq 0)) (fun _ _=>rfl)))) Au)))
   (Al (Dy (Ej (Gn hr) (A3 (Aq 3) Ah) Ah) (Av (A2 (A3 (BO (Aq 3) Ah) (fe_pow Ah Ah)))) BG)
   (Al (AB 4 nd (Or.inl rfl) (Df (AO (AO (AO (Df (Aq 3) (Aq 3)) (Aq 3)) (Aq 1)) Ah) Ah))
   (Av (A2 (Df (A3 (Df (Aq 4) (Aq 4)) (AO (fe_pow Ah Ah) Ah)) (AO (A3 (Aq 4) Ah) Ah)))))))))
end
section
variable {P:Program} {w:World} {K:PySem.W.Frag} {mg:Str->Option Value} {base:Heap}
abbrev Dr:Stmt:=top 27
theorem Ha:A1 ["_law_cell","_law_count","_law_letters","_law_mixed_here","_law_wide","_law_at","_law_base","_law_step","_law_got","_law_k","_law_turned_on"] ["_law_cell","_law_count"] (Ap Dr):=⟨rfl,rfl,rfl,by decide +kernel,rfl,by decide +kernel,by decide +kernel⟩
theorem ok_Lnames {f:Addr} {fd:FuncData} (Fu:Fun K "_law_names" "_law_names" Dr f fd) (T:Tx K mg) :Dh P w K mg base (CX1 P w) 1 f fd ["_law_cell","_law_count"] (spX K 2 (CT)) :=
 BN (k:=0) (g:=DW) Fu Ha 2 9 rfl rfl (fun cdv A outer s H E _ _ hr lk=>by
  have nd:=Ha.nd
  have hu:=C3 hr
  exact (GSs.zero (Al (AB 2 nd (Or.inr rfl) De)
   (Al (AB 3 nd (Or.inr rfl) (Df (AO (AO (Df (Aq 0) (Aq 0)) (Aq 0)) Ah) Ah))
   (Al (AB 4 nd (Or.inl rfl) (AO Ah (A3 (Aq 3) Ah)))
   (Al (AB 5 nd (Or.inl rfl) (A3 (BO (Aq 3) Ah) (Aq 4)))
   (Al (gs_setComp false 6 ["_law_k","_law_letters","_law_mixed_here"] [none,some 2,some 3] rfl nd (Or.inl rfl) (CK T.b_range (Ag (Aq 4) Au)) (fun _ _ _ _ _=>(Bl 0 (by show List.Nodup (["_law_k","_law_letters","_law_mixed_here"]:List Str);decide +kernel) (Or.inl rfl) (hf:=.inr rfl))) (fun _ _ _ _ _=>Gv) (fun _ _ _ _ _=>(Bo hu (Aq 1) (A3 (AO (BO (Aq 2) (AO (Aq 0) Ah)) (Df (Aq 0) (Aq 0))) Ah) (fun _ _=>rfl))))
   (Al (AB 7 nd (Or.inl rfl) (Bo hu (CL (Ag Ah (Ag Ah (Ag Ah (Ag Ah (Ag Ah (Ag Ah Au))))))) (A3 (BO (Aq 3) Ah) Ah) (fun _ _=>rfl)))
   (Al (AB 8 nd (Or.inl rfl) (Gw Au))
   (Al (Eh lk.own rfl (CK T.b_range (Ag (Aq 1) Au)) (Bl 9 nd (Or.inl rfl)) (Al (AB 10 nd (Or.inl rfl) (Bo hu (Aq 2) (A3 (AO (BO (Aq 3) Ah) (Df (Aq 9) (Aq 7))) Ah) (fun _ _=>rfl)))
   (Av (Dy (Ej (Gn hr) (A3 (BO (Aq 3) Ah) Ah) Ah) (Av (DF (fe_bm Hj PySem.F.slot_list_append PySem.F.type_list_append CH (Aq 8) (Ag (Df (Bo hu (Aq 6) Ah (fun _ _=>rfl)) (AO (A3 (AO (Aq 9) (BO (Aq 3) Ah)) Ah) Ah)) Au)))) (Av (DF (fe_bm Hj PySem.F.slot_list_append PySem.F.type_list_append CH (Aq 8) (Ag (AO (AO (As (fe_bmS mf_join PySem.F.slot_str_join PySem.F.type_str_join mt_join De (Ag (Fi (Aq 6) Cz (Cy (Aq 5))) Au))) (Aq 10)) (As (fe_bmS mf_join PySem.F.slot_str_join PySem.F.type_str_join mt_join De (Ag (Fi (Aq 6) (Cy (AO (Aq 5) Ah)) Cz) Au)))) Au))))))))
   (Av (A2 (Aq 8)))))))))))))
end
section
variable {P:Program} {w:World} {K:PySem.W.Frag} {mg:Str->Option Value} {base:Heap}
abbrev Fz:Stmt:=top 34
theorem sc_Lput:A1 ["_law_expression","_law_place","_law_other","_law_parts"] ["_law_expression","_law_place","_law_other"] (Ap Fz):=⟨rfl,rfl,rfl,by decide +kernel,rfl,by decide +kernel,by decide +kernel⟩
theorem ok_Lput {f:Addr} {fd:FuncData} (Fu:Fun K "_law_put" "_law_put" Fz f fd) (T:Tx K mg)  (hat:∀ k sp,Dh P w K mg base (CX1 P w) k f fd ["_law_expression","_law_place","_law_other"] sp->FnAt P w K mg base (CX1 P w) "_law_put" k ["_law_expression","_law_place","_law_other"] sp):∀ n,Dh P w K mg base (CX1 P w) (1+n) f fd ["_law_expression","_law_place","_law_other"] (spX K 3 (CM n))
 | 0=>⟨fun vs H Q E h=>by rw [h.1];rfl,fun A outer s H args us vs Q E hr he hb hv h=>by obtain ⟨_,F,fs0,ok,h⟩:=h;exact h.elim⟩
 | n+1=>by
  have Grec:=hat _ _ (ok_Lput Fu T  hat n)
  have hb:=BN (P:=P) (w:=w) (mg:=mg) (base:=base) (k:=1+n) (g:=HH (CM n)) Fu sc_Lput 3 1 rfl rfl (fun cdv A outer s H E _ _ hr lk=>by
  have nd:=sc_Lput.nd
  have hu:=C3 hr
  exact (GSs.zero (Al (Dy (Ej (Gn hr) (Aq 1) (DD Au)) (Av (A2 (Aq 2))) BG)
   (Al (AB 3 nd (Or.inl rfl) (fe_list T.b_list (Ag (Bo hu (Aq 0) Ah (fun _ _=>rfl)) Au)))
   (Al (gs_setIt hu (As (AV Grec (hr.mono (by first | decide | omega)) lk.lk (Aj (Bo hu (Aq 3) (Bo hu (Aq 1) Ah (fun _ _=>rfl)) (fun _ _=>rfl)) (Aj (Fi (Aq 1) (Cy Ah) Cz) (Aj (As (Aq 2)) AF))))) (Aq 3) (Bo hu (Aq 1) Ah (fun _ _=>rfl)) (fun he ho hi hs=>ps_asg he (pg_sub ho hi hs)))
   (Av (A2 (DD (Ag (Bo hu (Aq 0) Ah (fun _ _=>rfl)) (Ag (Bo hu (Aq 0) Ah (fun _ _=>rfl)) (Ag (fe_tuple T.b_tuple (Ag (Aq 3) Au)) Au)))))))))))
  exact hb
end
section
variable {P:Program} {w:World} {K:PySem.W.Frag} {mg:Str->Option Value} {base:Heap}
abbrev Cg:Stmt:=top 35
theorem EN:A1 ["_law_way","_law_expression","_law_place","_law_other","_law_kept","e"] ["_law_way","_law_expression","_law_place","_law_other"] (Ap Cg):=⟨rfl,rfl,rfl,by decide +kernel,rfl,by decide +kernel,by decide +kernel⟩
theorem ok_Lrefused {f:Addr} {fd:FuncData} (Fu:Fun K "_law_refused" "_law_refused" Cg f fd) (T:Tx K mg) (G_part_at:FnAt P w K mg base (CX1 P w) "part_at" 3 ["expression","place"] (spX K 2 AX)) (G_put_at:FnAt P w K mg base (CX1 P w) "put_at" 3 ["expression","place","other"] (spX K 3 BI)) (G_Lwhich:FnAt P w K mg base (CX1 P w) "_law_which" 2 ["_law_kept"] (spX K 1 DR)):Dh P w K mg base (CX1 P w) 4 f fd ["_law_way","_law_expression","_law_place","_law_other"] (spX K 4 (Bp)) :=
 BN (k:=3) (g:=Ec) Fu EN 4 2 rfl rfl (fun cdv A outer s H E _ _ hr lk=>by
  have nd:=EN.nd
  have hu:=C3 hr
  exact (Hm (GS.zero (AB 4 nd (Or.inl rfl) fe_non))
   (Hm (gs0_tryT T.xt (by decide +kernel) 5 lk nd (fun _ _ lk=>(Av (Dy (Ej (Gn hr) (Aq 0) Ah) (Av (DF (AV G_part_at (hr.mono (by first | decide | omega)) lk.lk (Aj (As (Aq 1)) (Aj (As (Aq 2)) AF))))) (Av (DF (AV G_put_at (hr.mono (by first | decide | omega)) lk.lk (Aj (As (Aq 1)) (Aj (As (Aq 2)) (Aj (As (Aq 3)) AF))))))))) (fun _=>(Av (AB 4 nd (Or.inl rfl) (As (Aq 5))))))
   (GSs.zero (Av (A2 (fe_eqV (Gn hr) (As (AV G_Lwhich (hr.mono (by first | decide | omega)) lk.lk (Aj (As (Aq 4)) AF))) Ah)))))))
end
section
variable {P:Program} {w:World} {K:PySem.W.Frag} {mg:Str->Option Value} {base:Heap}
abbrev Dq:Stmt:=top 30
theorem GZ:A1 ["_law_got"] ["_law_got"] (Ap Dq):=⟨rfl,rfl,rfl,by decide +kernel,rfl,by decide +kernel,by decide +kernel⟩
theorem Hh {f:Addr} {fd:FuncData} (Fu:Fun K "_law_shape" "_law_shape" Dq f fd) (T:Tx K mg)  (hat:∀ k sp,Dh P w K mg base (CX1 P w) k f fd ["_law_got"] sp->FnAt P w K mg base (CX1 P w) "_law_shape" k ["_law_got"] sp):∀ n,Dh P w K mg base (CX1 P w) (1+n) f fd ["_law_got"] (spX K 1 (A4 n))
 | 0=>⟨fun vs H Q E h=>by rw [h.1];rfl,fun A outer s H args us vs Q E hr he hb hv h=>by obtain ⟨_,F,fs0,ok,h⟩:=h;exact h.elim⟩
 | n+1=>by
  have Grec:=hat _ _ (Hh Fu T  hat n)
  have hb:=BN (P:=P) (w:=w) (mg:=mg) (base:=base) (k:=1+n) (g:=EF (A4 n)) Fu GZ 1 0 rfl rfl (fun cdv A outer s H E _ _ hr lk=>by
  have nd:=GZ.nd
  have hu:=C3 hr
  exact (GSs.zero (Al (Dy (FW.ft (Gr (DC (Cd (E3 kit_tuple PyProof.Rows.boot_tuple T.b_isinstance T.b_tuple (Aq 0)) (fun _=>rfl))) (Gr (ft_lt (Cp T.b_len (Ag (Aq 0) Au)) Ah) (E2 (Ei (Gn hr) (E4 false ["_law_one"] [none] rfl (Hq (Fi (Aq 0) Cz (Cy Ah))) (fun _ _ _ _ _=>(Bl 0 (by show List.Nodup (["_law_one"]:List Str);decide +kernel) (Or.inl rfl) (hf:=.inr rfl))) (fun _ _ _ _ _=>(fif_one (DC (Cd (E3 kit_str PyProof.Rows.boot_str T.b_isinstance T.b_str (Aq 0)) (fun _=>rfl))))) (fun _ _ _ _ _=>(As (Aq 0)))) (CL Au)))))) (Av (A2 Ht)) BG)
   (Al (Dy (Ej (Gn hr) (Bo hu (Aq 0) Ah (fun _ _=>rfl)) De) (Av (A2 (fe_eqV (Gn hr) (Cp T.b_len (Ag (Aq 0) Au)) Ah))) BG)
   (Al (Dy (FW.ft (Gr (Ei (Gn hr) (Cp T.b_len (Ag (Aq 0) Au)) Ah) (E2 (DC (Cd (E3 kit_tuple PyProof.Rows.boot_tuple T.b_isinstance T.b_tuple (Bo hu (Aq 0) Ah (fun _ _=>rfl))) (fun _=>rfl)))))) (Av (A2 Ht)) BG)
   (Av (A2 (fe_eqV (Gn hr) (E4 false ["_law_one"] [none] rfl (Hq (Bo hu (Aq 0) Ah (fun _ _=>rfl))) (fun _ _ _ _ _=>(Bl 0 (by show List.Nodup (["_law_one"]:List Str);decide +kernel) (Or.inl rfl) (hf:=.inr rfl))) (fun _ _ _ _ _=>(fif_one (DC (Cd (As (AV Grec (hr.mono (by first | decide | omega)) Lks.no (Aj (As (Aq 0)) AF))) (fun _=>rfl))))) (fun _ _ _ _ _=>(As (Aq 0)))) (CL Au)))))))))
  exact hb
end
section
variable {P:Program} {w:World} {K:PySem.W.Frag} {mg:Str->Option Value} {base:Heap}
abbrev Dp:Stmt:=top 29
theorem GY:A1 ["_law_expression","_law_got","_law_k"] ["_law_expression"] (Ap Dp):=⟨rfl,rfl,rfl,by decide +kernel,rfl,by decide +kernel,by decide +kernel⟩
theorem Hg {f:Addr} {fd:FuncData} (Fu:Fun K "_law_spots" "_law_spots" Dp f fd) (T:Tx K mg)  (hat:∀ k sp,Dh P w K mg base (CX1 P w) k f fd ["_law_expression"] sp->FnAt P w K mg base (CX1 P w) "_law_spots" k ["_law_expression"] sp):∀ n,Dh P w K mg base (CX1 P w) (1+n) f fd ["_law_expression"] (spX K 1 (By n))
 | 0=>⟨fun vs H Q E h=>by rw [h.1];rfl,fun A outer s H args us vs Q E hr he hb hv h=>by obtain ⟨_,F,fs0,ok,h⟩:=h;exact h.elim⟩
 | n+1=>by
  have Grec:=hat _ _ (Hg Fu T  hat n)
  have hb:=BN (P:=P) (w:=w) (mg:=mg) (base:=base) (k:=1+n) (g:=EE (By n)) Fu GY 1 2 rfl rfl (fun cdv A outer s H E _ _ hr lk=>by
  have nd:=GY.nd
  have hu:=C3 hr
  exact (GSs.zero (Al (AB 1 nd (Or.inl rfl) (CL (Ag (DD Au) Au)))
   (Al (Dy (Ei (Gn hr) (Bo hu (Aq 0) Ah (fun _ _=>rfl)) De) (Av (Eh lk.own rfl (CK T.b_range (Ag (Cp T.b_len (Ag (Bo hu (Aq 0) Ah (fun _ _=>rfl)) Au)) Au)) (Bl 2 nd (Or.inr rfl)) (Av (AB 1 nd (Or.inl rfl) (As (AO (Aq 1) (E4 false ["_law_one","_law_k"] [none,some 2] rfl (Hq (As (AV Grec (hr.mono (by first | decide | omega)) lk.lk (Aj (Bo hu (Bo hu (Aq 0) Ah (fun _ _=>rfl)) (As (Aq 2)) (fun _ _=>rfl)) AF)))) (fun _ _ _ _ _=>(Bl 0 (by show List.Nodup (["_law_one","_law_k"]:List Str);decide +kernel) (Or.inl rfl) (hf:=.inr rfl))) (fun _ _ _ _ _=>Gv) (fun _ _ _ _ _=>(AO (DD (Ag (As (Aq 1)) Au)) (Aq 0)))))))))) BG)
   (Av (A2 (Aq 1)))))))
  exact hb
end
section
variable {P:Program} {w:World} {K:PySem.W.Frag} {mg:Str->Option Value} {base:Heap}
abbrev Dn:Stmt:=top 33
theorem GX:A1 ["_law_expression","_law_place","_law_at"] ["_law_expression","_law_place"] (Ap Dn):=⟨rfl,rfl,rfl,by decide +kernel,rfl,by decide +kernel,by decide +kernel⟩
theorem ok_Lthere {f:Addr} {fd:FuncData} (Fu:Fun K "_law_there" "_law_there" Dn f fd) (T:Tx K mg) :Dh P w K mg base (CX1 P w) 1 f fd ["_law_expression","_law_place"] (spX K 2 (BJ)) :=
 BN (k:=0) (g:=GG) Fu GX 2 1 rfl rfl (fun cdv A outer s H E _ _ hr lk=>by
  have nd:=GX.nd
  have hu:=C3 hr
  exact (GSs.zero (Al (Eh lk.own rfl (Hq (As (Aq 1))) (Bl 2 nd (Or.inl rfl)) (Av (AB 0 nd (Or.inl rfl) (Bo hu (Bo hu (Aq 0) Ah (fun _ _=>rfl)) (As (Aq 2)) (fun _ _=>rfl)))))
   (Av (A2 (Aq 0))))))
end
section
variable {P:Program} {w:World} {K:PySem.W.Frag} {mg:Str->Option Value} {base:Heap}
abbrev Dm:Stmt:=top 32
theorem GW:A1 ["_law_kept"] ["_law_kept"] (Ap Dm):=⟨rfl,rfl,rfl,by decide +kernel,rfl,by decide +kernel,by decide +kernel⟩
theorem ok_Lwhich {f:Addr} {fd:FuncData} (Fu:Fun K "_law_which" "_law_which" Dm f fd) (T:Tx K mg) (G_Lclasses:FnAt P w K mg base (CX1 P w) "_law_classes" 1 ["_law_kept"] (spX K 1 Bq)):Dh P w K mg base (CX1 P w) 2 f fd ["_law_kept"] (spX K 1 (DR)) :=
 BN (k:=1) (g:=GF) Fu GW 1 0 rfl rfl (fun cdv A outer s H E _ _ hr lk=>by
  have nd:=GW.nd
  have hu:=C3 hr
  exact (GSs.zero (Al (Dy (FW.ft (Gr (DC (Cd (fe_isV T.xt T.b_isinstance T.b_ValueError (Aq 0)) (fun _=>rfl))) (E2 (Ei (Gn hr) (As (fe_bm mf_count PySem.F.slot_list_count PySem.F.type_list_count mt_count (As (AV G_Lclasses (hr.mono (by first | decide | omega)) lk.lk (Aj (As (Aq 0)) AF))) (Ag Ht Au))) Ah)))) (Av (A2 (FH Ah))) BG)
   (Av (A2 (fe_bm mf_index PySem.F.slot_list_index PySem.F.type_list_index mt_index (As (AV G_Lclasses (hr.mono (by first | decide | omega)) lk.lk (Aj (As (Aq 0)) AF))) (Ag Ht Au)))))))
end
section
variable {P:Program} {w:World} {K:PySem.W.Frag} {mg:Str->Option Value} {base:Heap}
abbrev DZ:Stmt:=top 28
theorem sc_Lwild:A1 ["_law_names_here","_law_purse","_law_down","_law_digit","_law_parts","_law_k"] ["_law_names_here","_law_purse","_law_down"] (Ap DZ):=⟨rfl,rfl,rfl,by decide +kernel,rfl,by decide +kernel,by decide +kernel⟩
theorem ok_Lwild {f:Addr} {fd:FuncData} (Fu:Fun K "_law_wild" "_law_wild" DZ f fd) (T:Tx K mg)  (hat:∀ k sp,Dh P w K mg base (CX1 P w) k f fd ["_law_names_here","_law_purse","_law_down"] sp->FnAt P w K mg base (CX1 P w) "_law_wild" k ["_law_names_here","_law_purse","_law_down"] sp):∀ n,Dh P w K mg base (CX1 P w) (1+n) f fd ["_law_names_here","_law_purse","_law_down"] (spX K 3 (BA n))
 | 0=>⟨fun vs H Q E h=>by rw [h.1];rfl,fun A outer s H args us vs Q E hr he hb hv h=>by obtain ⟨_,F,fs0,ok,h⟩:=h;exact h.elim⟩
 | n+1=>by
  have Grec:=hat _ _ (ok_Lwild Fu T  hat n)
  have hb:=BN (P:=P) (w:=w) (mg:=mg) (base:=base) (k:=1+n) (g:=DH (BA n)) Fu sc_Lwild 3 3 rfl rfl (fun cdv A outer s H E _ _ hr lk=>by
  have nd:=sc_Lwild.nd
  have hu:=C3 hr
  exact (GSs.zero (Al (AB 3 nd (Or.inl rfl) (As (fe_bm0 mf_pop PySem.F.slot_list_pop PySem.F.type_list_pop mt_popS (Aq 1))))
   (Al (Dy (FW.ft (Gr (Ej (Gn hr) (Aq 2) Ah) (E2 (Ej (Gn hr) (A3 (Aq 3) Ah) Ah)))) (Av (A2 (DD (Ag De (Ag (Bo hu (Aq 0) (A3 (BO (Aq 3) Ah) (Cp T.b_len (Ag (Aq 0) Au))) (fun _ _=>rfl)) Au))))) BG)
   (Al (AB 4 nd (Or.inl rfl) (Gw Au))
   (Al (Eh lk.own rfl (CK T.b_range (Ag (Bo hu (CL (Ag Ah (Ag Ah (Ag Ah (Ag Ah (Ag Ah (Ag Ah Au))))))) (A3 (BO (Aq 3) Ah) Ah) (fun _ _=>rfl)) Au)) (Bl 5 nd (Or.inl rfl)) (Av (DF (fe_bm Hj PySem.F.slot_list_append PySem.F.type_list_append CH (Aq 4) (Ag (As (AV Grec (hr.mono (by first | decide | omega)) lk.lk (Aj (As (Aq 0)) (Aj (Aq 1) (Aj (fe_sub (Aq 2) Ah) AF))))) Au)))))
   (Av (A2 (DD (Ag (Bo hu (CL (Ag De (Ag De Au))) (A3 (BO (Aq 3) Ah) Ah) (fun _ _=>rfl)) (Ag (Bo hu (Aq 0) (A3 (BO (Aq 3) Ah) (Cp T.b_len (Ag (Aq 0) Au))) (fun _ _=>rfl)) (Ag (fe_tuple T.b_tuple (Ag (Aq 4) Au)) Au))))))))))))
  exact hb
end
section
variable {P:Program} {w:World} {K:PySem.W.Frag} {mg:Str->Option Value} {base:Heap}
abbrev Bi:Stmt:=top 18
theorem C6:A1 ["expression"] ["expression"] (Ap Bi):=⟨rfl,rfl,rfl,by decide +kernel,rfl,by decide +kernel,by decide +kernel⟩
theorem ET {f:Addr} {fd:FuncData} (Fu:Fun K "arguments_of" "arguments_of" Bi f fd) (T:Tx K mg) :Dh P w K mg base (CX1 P w) 1 f fd ["expression"] (spX K 1 (A8)) :=
 BN (k:=0) (g:=BU) Fu C6 1 0 rfl rfl (fun cdv A outer s H E _ _ hr lk=>by
  have nd:=C6.nd
  have hu:=C3 hr
  exact (GSs.zero (Av (A2 (fe_if (Ej (Gn hr) (Bo hu (Aq 0) Ah (fun _ _=>rfl)) De) (DD Au) (Bo hu (Aq 0) Ah (fun _ _=>rfl)))))))
end
section
variable {P:Program} {w:World} {K:PySem.W.Frag} {mg:Str->Option Value} {base:Heap}
abbrev Ge:Stmt:=top 37
theorem sc_law:A1 ["_law_script","_law_names_here","_law_expression","_law_other","_law_spots_here","_law_start","_law_k","_law_place","_law_got","_law_made","_law_bad"] ["_law_script"] (Ap Ge):=⟨rfl,rfl,rfl,by decide +kernel,rfl,by decide +kernel,by decide +kernel⟩
theorem ok_law {f:Addr} {fd:FuncData} (Fu:Fun K "law" "law" Ge f fd) (T:Tx K mg) (G_Lrefused:FnAt P w K mg base (CX1 P w) "_law_refused" 4 ["_law_way","_law_expression","_law_place","_law_other"] (spX K 4 Bp)) (G_Lmixed:FnAt P w K mg base (CX1 P w) "_law_mixed" 1 ["_law_script","_law_at","_law_many"] (spX K 3 Ce)) (G_Lbad_spot:FnAt P w K mg base (CX1 P w) "_law_bad_spot" 2 ["_law_expression","_law_place","_law_cell"] (spX K 3 BB)) (G_part_at:FnAt P w K mg base (CX1 P w) "part_at" 3 ["expression","place"] (spX K 2 AX)) (G_Lput:FnAt P w K mg base (CX1 P w) "_law_put" 61 ["_law_expression","_law_place","_law_other"] (spX K 3 (CM 60))) (G_Lshape:FnAt P w K mg base (CX1 P w) "_law_shape" 61 ["_law_got"] (spX K 1 (A4 60))) (G_put_at:FnAt P w K mg base (CX1 P w) "put_at" 3 ["expression","place","other"] (spX K 3 BI)) (G_Lthere:FnAt P w K mg base (CX1 P w) "_law_there" 1 ["_law_expression","_law_place"] (spX K 2 BJ)) (G_Lcell_at:FnAt P w K mg base (CX1 P w) "_law_cell_at" 1 ["_law_script","_law_k"] (spX K 2 Ba)) (G_Lspots:FnAt P w K mg base (CX1 P w) "_law_spots" 61 ["_law_expression"] (spX K 1 (By 60))) (G_Ldigits:FnAt P w K mg base (CX1 P w) "_law_digits" 1 ["_law_script","_law_at","_law_parts"] (spX K 3 BW)) (G_Lwild:FnAt P w K mg base (CX1 P w) "_law_wild" 61 ["_law_names_here","_law_purse","_law_down"] (spX K 3 (BA 60))) (G_Lnames:FnAt P w K mg base (CX1 P w) "_law_names" 1 ["_law_cell","_law_count"] (spX K 2 CT)):Dh P w K mg base (CX1 P w) 62 f fd ["_law_script"] (spX K 1 (f_law)) :=
 BN (k:=61) (g:=b_law) Fu sc_law 1 10 rfl rfl (fun cdv A outer s H E _ _ hr lk=>by
  have nd:=sc_law.nd
  have hu:=C3 hr
  exact (GSs.zero (Al (AB 1 nd (Or.inl rfl) (As (AV G_Lnames (hr.mono (by first | decide | omega)) lk.lk (Aj (As (AV G_Lcell_at (hr.mono (by first | decide | omega)) lk.lk (Aj (As (Aq 0)) (Aj Ah AF)))) (Aj Ah AF)))))
   (Al (AB 2 nd (Or.inl rfl) (As (AV G_Lwild (hr.mono (by first | decide | omega)) lk.lk (Aj (As (Aq 1)) (Aj (AV G_Ldigits (hr.mono (by first | decide | omega)) lk.lk (Aj (As (Aq 0)) (Aj Ah (Aj Ah AF)))) (Aj Ah AF))))))
   (Al (AB 3 nd (Or.inl rfl) (As (AV G_Lwild (hr.mono (by first | decide | omega)) lk.lk (Aj (As (Aq 1)) (Aj (AV G_Ldigits (hr.mono (by first | decide | omega)) lk.lk (Aj (As (Aq 0)) (Aj Ah (Aj Ah AF)))) (Aj Ah AF))))))
   (Al (AB 4 nd (Or.inl rfl) (As (AV G_Lspots (hr.mono (by first | decide | omega)) lk.lk (Aj (As (Aq 2)) AF))))
   (Al (AB 5 nd (Or.inl rfl) (A3 (As (AV G_Lcell_at (hr.mono (by first | decide | omega)) lk.lk (Aj (As (Aq 0)) (Aj Ah AF)))) (Cp T.b_len (Ag (Aq 4) Au))))
   (Al (Eh lk.own rfl (CK T.b_range (Ag (fe_min2 T.b_min (Ag Ah (Ag (Cp T.b_len (Ag (Aq 4) Au)) Au))) Au)) (Bl 6 nd (Or.inl rfl)) (Al (AB 7 nd (Or.inl rfl) (Bo hu (Aq 4) (A3 (AO (Aq 5) (Aq 6)) (Cp T.b_len (Ag (Aq 4) Au))) (fun _ _=>rfl)))
   (Al (AB 8 nd (Or.inl rfl) (As (AV G_part_at (hr.mono (by first | decide | omega)) lk.lk (Aj (As (Aq 2)) (Aj (As (Aq 7)) AF)))))
   (Al (Dy (FW.ft (Gr (DC (Cd (As (AV G_Lshape (hr.mono (by first | decide | omega)) lk.lk (Aj (As (Aq 8)) AF))) (fun _=>rfl))) (E2 (Ei (Gn hr) (Aq 8) (As (AV G_Lthere (hr.mono (by first | decide | omega)) lk.lk (Aj (As (Aq 2)) (Aj (As (Aq 7)) AF)))))))) (Av (A2 Ht)) BG)
   (Al (AB 9 nd (Or.inl rfl) (As (AV G_put_at (hr.mono (by first | decide | omega)) lk.lk (Aj (As (Aq 2)) (Aj (As (Aq 7)) (Aj (As (Aq 3)) AF))))))
   (Al (Dy (FW.ft (Gr (DC (Cd (As (AV G_Lshape (hr.mono (by first | decide | omega)) lk.lk (Aj (As (Aq 9)) AF))) (fun _=>rfl))) (Gr (Ei (Gn hr) (Aq 9) (As (AV G_Lput (hr.mono (by first | decide | omega)) lk.lk (Aj (As (Aq 2)) (Aj (As (Aq 7)) (Aj (As (Aq 3)) AF)))))) (E2 (Ei (Gn hr) (As (AV G_part_at (hr.mono (by first | decide | omega)) lk.lk (Aj (As (Aq 9)) (Aj (As (Aq 7)) AF)))) (Aq 3)))))) (Av (A2 Ht)) BG)
   (Al (AB 10 nd (Or.inl rfl) (As (AV G_Lbad_spot (hr.mono (by first | decide | omega)) lk.lk (Aj (As (Aq 2)) (Aj (As (Aq 7)) (Aj (BO (As (AV G_Lmixed (hr.mono (by first | decide | omega)) lk.lk (Aj (As (Aq 0)) (Aj (A3 (Aq 6) Ah) (Aj Ah AF))))) (AO (Aq 6) Ah)) AF))))))
   (Av (Dy (FW.ft (Gr (DC (Cd (As (AV G_Lrefused (hr.mono (by first | decide | omega)) lk.lk (Aj Ah (Aj (As (Aq 2)) (Aj (As (Aq 10)) (Aj (As (Aq 3)) AF)))))) (fun _=>rfl))) (E2 (DC (Cd (As (AV G_Lrefused (hr.mono (by first | decide | omega)) lk.lk (Aj Ah (Aj (As (Aq 2)) (Aj (As (Aq 10)) (Aj (As (Aq 3)) AF)))))) (fun _=>rfl)))))) (Av (A2 Ht)) BG)))))))))
   (Av (A2 Ht))))))))))
end
section
variable {P:Program} {w:World} {K:PySem.W.Frag} {mg:Str->Option Value} {base:Heap}
abbrev CF:Stmt:=top 20
theorem Fw:A1 ["expression","place"] ["expression","place"] (Ap CF):=⟨rfl,rfl,rfl,by decide +kernel,rfl,by decide +kernel,by decide +kernel⟩
theorem ok_part_at {f:Addr} {fd:FuncData} (Fu:Fun K "part_at" "part_at" CF f fd) (T:Tx K mg) (G_way_to:FnAt P w K mg base (CX1 P w) "way_to" 2 ["expression","place"] (spX K 2 BH)):Dh P w K mg base (CX1 P w) 3 f fd ["expression","place"] (spX K 2 (AX)) :=
 BN (k:=2) (g:=DV) Fu Fw 2 0 rfl rfl (fun cdv A outer s H E _ _ hr lk=>by
  have nd:=Fw.nd
  have hu:=C3 hr
  exact (GSs.zero (Av (A2 (Bo hu (As (AV G_way_to (hr.mono (by first | decide | omega)) lk.lk (Aj (As (Aq 0)) (Aj (As (Aq 1)) AF)))) (FH Ah) (fun _ _=>rfl))))))
end
section
variable {P:Program} {w:World} {K:PySem.W.Frag} {mg:Str->Option Value} {base:Heap}
abbrev Dl:Stmt:=top 21
theorem GV:A1 ["expression","place","other","above","made","whole","number","form","head","arguments"] ["expression","place","other"] (Ap Dl):=⟨rfl,rfl,rfl,by decide +kernel,rfl,by decide +kernel,by decide +kernel⟩
theorem ok_put_at {f:Addr} {fd:FuncData} (Fu:Fun K "put_at" "put_at" Dl f fd) (T:Tx K mg) (G_way_to:FnAt P w K mg base (CX1 P w) "way_to" 2 ["expression","place"] (spX K 2 BH)):Dh P w K mg base (CX1 P w) 3 f fd ["expression","place","other"] (spX K 3 (BI)) :=
 BN (k:=2) (g:=ED) Fu GV 3 7 rfl rfl (fun cdv A outer s H E _ _ hr lk=>by
  have nd:=GV.nd
  have hu:=C3 hr
  exact (GSs.zero (Al (AB 3 nd (Or.inl rfl) (Fi (As (AV G_way_to (hr.mono (by first | decide | omega)) lk.lk (Aj (As (Aq 0)) (Aj (As (Aq 1)) AF)))) Cz (Cy (FH Ah))))
   (Al (AB 4 nd (Or.inl rfl) (As (Aq 2)))
   (Al (Eh lk.own rfl (fi_rev T.b_reversed (As (fe_listZip rfl T.b_list T.b_zip (Aq 3) (Aq 1)))) (gt_tup rfl (DP (Bl 5 nd (Or.inl rfl)) (DP (Bl 6 nd (Or.inl rfl)) gts_nil (fun h1 h2=>DO h1 h2)) (fun h1 h2=>DO h1 h2))) (Al (gs_asg (As (Aq 5)) (gt_tup rfl (DP (Bl 7 nd (Or.inl rfl)) (DP (Bl 8 nd (Or.inl rfl)) (DP (Bl 9 nd (Or.inl rfl)) gts_nil (fun h1 h2=>DO h1 h2)) (fun h1 h2=>DO h1 h2)) (fun h1 h2=>DO h1 h2))))
   (Av (AB 4 nd (Or.inl rfl) (DD (Ag (As (Aq 7)) (Ag (As (Aq 8)) (Ag (AO (AO (Fi (Aq 9) Cz (Cy (Aq 6))) (DD (Ag (As (Aq 4)) Au))) (Fi (Aq 9) (Cy (AO (Aq 6) Ah)) Cz)) Au))))))))
   (Av (A2 (Aq 4))))))))
end
section
variable {P:Program} {w:World} {K:PySem.W.Frag} {mg:Str->Option Value} {base:Heap}
abbrev Dk:Stmt:=top 19
theorem GU:A1 ["expression","place","way","number","arguments"] ["expression","place"] (Ap Dk):=⟨rfl,rfl,rfl,by decide +kernel,rfl,by decide +kernel,by decide +kernel⟩
theorem ok_way_to {f:Addr} {fd:FuncData} (Fu:Fun K "way_to" "way_to" Dk f fd) (T:Tx K mg) (G_arguments_of:FnAt P w K mg base (CX1 P w) "arguments_of" 1 ["expression"] (spX K 1 A8)):Dh P w K mg base (CX1 P w) 2 f fd ["expression","place"] (spX K 2 (BH)) :=
 BN (k:=1) (g:=EC) Fu GU 2 3 rfl rfl (fun cdv A outer s H E _ _ hr lk=>by
  have nd:=GU.nd
  have hu:=C3 hr
  exact (GSs.zero (Al (AB 2 nd (Or.inl rfl) (Gw (Ag (As (Aq 0)) Au)))
   (Al (Eh lk.own rfl (Hq (As (Aq 1))) (Bl 3 nd (Or.inl rfl)) (Al (AB 4 nd (Or.inl rfl) (As (AV G_arguments_of (hr.mono (by first | decide | omega)) lk.lk (Aj (Bo hu (Aq 2) (FH Ah) (fun _ _=>rfl)) AF))))
   (Al (Dy (DC (ft_chain of_le of_lt Ah (Aq 3) (Cp T.b_len (Ag (Aq 4) Au)) (fun ha hb hc=>pt_chain op_le op_lt ha hb hc))) (Av (gs_raise (T.xt.t1 (by decide +kernel)) lk rfl (Ag De Au))) BG)
   (Av (DF (fe_bm Hj PySem.F.slot_list_append PySem.F.type_list_append CH (Aq 2) (Ag (Bo hu (Aq 4) (As (Aq 3)) (fun _ _=>rfl)) Au)))))))
   (Av (A2 (Aq 2)))))))
end
end Sy
namespace Nm
def M (c:Int):Int:=(c * c+c+1) * 982451653
def W (c:Int):Int:=1+M c % 12
def At (c:Int):Int:=M c / 12 % W c
def C9 (i:Int):Nat:=97+(i % 26).toNat
def base (c:Int) (j:Nat):Nat:=C9 (M c / ((j:Int)+5)+(j:Int) * j)
def stepI (c:Int):Nat:=(M c / 144 % 6).toNat
def step (c:Int):Int:=([1,3,5,7,9,11]:List Int).getD (stepI c) 1
def one (c:Int) (k:Nat):Nat:=C9 (M c / 864+(k:Int) * step c)
def codesA (c:Int) (k:Nat):List Nat:=List.replicate (((k:Int)+M c / 7) % 12+1).toNat (base c 0)
def codesB (c:Int) (k:Nat):List Nat:=(List.range (At c).toNat).map (base c)++[one c k]++(List.range ((W c).toNat - ((At c).toNat+1))).map fun j=>base c ((At c).toNat+1+j)
def codes (c:Int) (k:Nat):List Nat:=if M c / 900 % 3=1 then codesA c k else codesB c k
theorem W_lo (c:Int):1<=W c:=by unfold W;omega
theorem W_hi (c:Int):W c<=12:=by unfold W;omega
theorem At_lo (c:Int):0<=At c:=Int.emod_nonneg _ (by have:=W_lo c;omega)
theorem At_hi (c:Int):At c < W c:=Int.emod_lt_of_pos _ (by have:=W_lo c;omega)
theorem step_mem (c:Int):step c=1∨step c=3∨step c=5∨step c=7∨step c=9∨step c=11:=by
 have h:stepI c < 6:=by unfold stepI;omega
 unfold step
 generalize stepI c=i at h
 match i,h with
 | 0,_=>simp
 | 1,_=>simp
 | 2,_=>simp
 | 3,_=>simp
 | 4,_=>simp
 | 5,_=>simp
end Nm
namespace Sy
open PySem PySem.Spec L2 FL
theorem Bj {g h:FS->SO} {fs fs':FS} (e:g fs=.nx fs'):AW g h fs=h fs':=by unfold AW;rw [e]
abbrev vl (t:T):Option Sl:=some (.val t)
abbrev iv (i:Int):Option Sl:=some (.val (.int i))
def Fre:Option Sl->Prop
 | some (.bor _)=>False
 | _=>True
theorem AI:Fre none:=True.intro
theorem Bu {t:T}:Fre (vl t):=True.intro
theorem Bt {fs:FS} {i:Nat} {t:T} {x:Option Sl} (e:fs[i]?=some x) (h:Fre x):HL i (.t t) fs=some (fs.set i (vl t)):=by
 unfold HL
 rw [e]
 cases x with
 | none=>rfl
 | some s=>cases s with
  | val t=>rfl
  | own o=>rfl
  | bor o=>exact h.elim
theorem E8 {fe:FS->Out Rv} {f:T->T} {rest:FS}:∀ (ts:List T) (x:Option Sl) (acc:List T),Fre x->(∀ t∈ts,fe (vl t :: rest)=.ok (.t (f t)) (vl t :: rest))->acc.length+ts.length<=big ->
  ∃ y,Fre y/\CU (tgN 0) HK fe ts (x :: rest) acc=some (acc++ts.map f,y :: rest)
 | [],x,acc,hx,_,_=>⟨x,hx,by simp [CU]⟩
 | t :: ts,x,acc,hx,h,hl=>by
  obtain ⟨y,hy,e⟩:=E8 ts (vl t) (acc++[f t]) Bu (fun t' m=>h t' (List.mem_cons_of_mem _ m)) (by simp at hl ⊢;omega)
  refine ⟨y,hy,?_⟩
  have h1:tgN 0 t (x :: rest)=some (vl t :: rest):=by
   unfold tgN
   rw [Bt (x:=x) rfl hx]
   rfl
  have h2:=h t List.mem_cons_self
  have h3:acc.length < big:=by simp at hl;omega
  simp only [CU,h1,HK,h2,if_pos h3,e]
  simp
theorem Gs {gt:T->FS->Option FS} {body:FS->SO} (P:List T->FS->Prop) (step:∀ t ts fs,P (t :: ts) fs->∃ fs1 fs2,gt t fs=some fs1/\body fs1=.nx fs2/\P ts fs2):∀ (ts:List T) (fs:FS),P ts fs->∃ fs',Eo gt body ts fs=.nx fs'/\P [] fs'
 | [],fs,h=>⟨fs,rfl,h⟩
 | t :: ts,fs,h=>by
  obtain ⟨fs1,fs2,e1,e2,h2⟩:=step t ts fs h
  obtain ⟨fs',e,hp⟩:=Gs P step ts fs2 h2
  exact ⟨fs',by simp only [Eo,e1,e2,e],hp⟩
theorem FV:∀ ns:List Int,Cc (ns.map T.int)=some ns
 | []=>rfl
 | n :: ns=>by simp [Cc,FV ns]
def IsI (t:T) (ns:List Int):Prop:=t=.scr (ns.map T.int)∨t=.lst (ns.map T.int)
theorem IsI.seq {t:T} {ns:List Int} (h:IsI t ns) (fs:FS):CZ fs (.t t)=some (ns.map T.int):=by rcases h with rfl | rfl <;> rfl
theorem range_in {a j c:Int} {i:Nat} (hc:0 < c) (h:i < (Builtin.Range.rangeSize a j c).toNat):a+i * c < j:=by
 unfold Builtin.Range.rangeSize at h
 rw [if_pos hc] at h
 by_cases haj:a < j
 ·rw [if_pos haj] at h
  have h2:(i:Int)<=(j - a - 1) / c:=by omega
  have h3:=(Int.le_ediv_iff_mul_le hc).mp h2
  omega
 ·rw [if_neg haj] at h
  simp at h
theorem range_nn {a j c:Int} (hc:0 < c):0<=Builtin.Range.rangeSize a j c:=by
 unfold Builtin.Range.rangeSize
 rw [if_pos hc]
 by_cases haj:a < j
 ·rw [if_pos haj]
  have:0<=(j - a - 1) / c:=Int.ediv_nonneg (by omega) (by omega)
  omega
 ·rw [if_neg haj]
  exact Int.le_refl 0
theorem ES {a j c:Int} (hc:0 < c) (h0:0<=a) (h:j<=63):(Builtin.Range.rangeSize a j c).toNat<=63:=by
 unfold Builtin.Range.rangeSize
 rw [if_pos hc]
 by_cases haj:a < j
 ·rw [if_pos haj]
  have:(j - a - 1) / c<=j - a - 1:=Int.ediv_le_self _ (by omega)
  omega
 ·rw [if_neg haj]
  simp
theorem small_few {a b c:Int} (a0:0<=a) (a1:a<=1000) (b0:0<=b) (b1:b<=63) (c0:1<=c) (c1:c<=1000):Builtin.Range.small a b c=true:=by
 have h1:=range_nn (a:=a) (j:=b) (c:=c) (by omega)
 have h2:=ES (a:=a) (j:=b) (c:=c) (by omega) a0 b1
 unfold Builtin.Range.small
 simp only [Builtin.Range.rangeFitsLong,Bool.and_eq_true,Bool.or_eq_true,decide_eq_true_eq,beq_iff_eq,show c > 0 by omega,if_true]
 omega
section
variable {i j:Int} {fs:FS}
theorem A0:Ar (.t (.int i)) (.t (.int j)) fs=.ok (.t (.int (i+j))) fs:=rfl
theorem gSub_i:Em (.t (.int i)) (.t (.int j)) fs=.ok (.t (.int (i - j))) fs:=rfl
theorem Bf (h:0 < j):Bd (.t (.int i)) (.t (.int j)) fs=.ok (.t (.int (i % j))) fs:=if_pos h
theorem CJ (h:0 < j/\j < 1073741824):BZ (.t (.int i)) (.t (.int j)) fs=.ok (.t (.int (i / j))) fs:=if_pos h
theorem E0 (h:-(2 ^ 64) < i/\i < 2 ^ 64):Bb (.t (.int i)) (.t (.int j)) fs=.ok (.t (.int (i * j))) fs:=by
 have e:gMul (.t (.int i)) (.t (.int j)) fs=.ok (.t (.int (i * j))) fs:=if_pos (by rw [decide_eq_true h];rfl)
 unfold Bb orG
 rw [e]
theorem gMulU_b (h:Builtin.Int.intBits i<=2 ^ 26/\Builtin.Int.intBits j<=2 ^ 26):Bb (.t (.int i)) (.t (.int j)) fs=.ok (.t (.int (i * j))) fs:=by
 have e:gMul (.t (.int i)) (.t (.int j)) fs=.ok (.t (.int (i * j))) fs:=if_pos (by rw [decide_eq_true h.1,decide_eq_true h.2];simp)
 unfold Bb orG
 rw [e]
end
theorem Bx {x:Rv} {ts:List T} {i:Int} {t:T} {fs:FS} (h:CZ fs x=some ts) (e:atI ts i=some t):AN x (.t (.int i)) fs=.ok (.t t) fs:=by
 have e':gIx x (.t (.int i)) fs=.ok (.t t) fs:=by
  simp only [gIx,h,e,okT]
 unfold AN orG
 rw [e']
theorem gIxU_I {t:T} {ns:List Int} {i:Int} {fs:FS} (h:IsI t ns) (h0:0<=i) (h1:i < ns.length):AN (.t t) (.t (.int i)) fs=.ok (.t (.int (ns.getD i.toNat 0))) fs:=by
 refine Bx (h.seq fs) ?_
 have e:(ns.map T.int)[i.toNat]?=some (T.int (ns.getD i.toNat 0)):=by
  have:i.toNat < ns.length:=by omega
  simp [this]
 have:=Bm e
 rwa [Int.toNat_of_nonneg h0] at this
theorem FC {fs:FS} {j:Nat}:∀ {is:List Ini} {k:Nat},(∀ i∈is,Cs fs i=none)->FL.placeOf fs j is k=none
 | [],_,_=>rfl
 | i :: is,k,h=>by
  simp only [FL.placeOf]
  rw [h i List.mem_cons_self,if_neg (by simp)]
  exact FC fun i' m=>h i' (List.mem_cons_of_mem _ m)
theorem FR {fs:FS} {is:List Ini} {τ:FS} (h:∀ i∈is,Cs fs i=none):∀ (gs:FS) (j:Nat),backL fs is τ j gs=some gs
 | [],_=>rfl
 | g :: gs,j=>by
  simp only [backL,back1,FC h,FR h gs (j+1)]
theorem BX {fs:FS} {is:List Ini} {τ:FS} (h:Dc fs is=[]):Fl is τ fs=some fs:=FR (List.filterMap_eq_nil_iff.mp h) fs 0
theorem E7 {src:List (Option Nat)} {fi:FS->Out (List T)} {gt:T->FS->Option FS} {ft:FS->Out Bool} {fe:FS->Out Rv} {fs fs':FS} {ts vs:List T} {τ:FS} (h1:fi fs=.ok ts fs) (h2:(Dc fs (src.map fun o=>o.elim Ini.no Ini.slot)).Nodup/\(src.all fun o=>o.elim true fun j=>decide (j < fs.length))=true)
  (h3:CU gt ft fe ts (D2 fs (src.map fun o=>o.elim Ini.no Ini.slot)) []=some (vs,τ)) (h4:Fl (src.map fun o=>o.elim Ini.no Ini.slot) τ fs=some fs'):CA false src fi gt ft fe fs=.ok (.t (.lst vs)) fs':=by
 unfold CA
 rw [h1]
 simp only [Out.bind]
 rw [if_pos h2,h3]
 dsimp only
 rw [h4]
 rfl
theorem range3_ok {a j c:Int} {fs:FS} {fa:FS->Out (List Rv)} (e:fa fs=.ok [.t (.int a),.t (.int j),.t (.int c)] fs) (a0:0<=a) (a1:a<=1000) (b0:0<=j) (b1:j<=63) (c0:1<=c) (c1:c<=1000):itR3 fa fs=.ok (upBy a c (Builtin.Range.rangeSize a j c).toNat) fs:=by
 unfold itR3
 rw [e]
 simp only [Out.bind]
 exact if_pos ⟨by omega,by omega,small_few a0 a1 b0 b1 c0 c1,range_nn (by omega)⟩
theorem drawn {t:T} {ns:List Int} (ht:IsI t ns) {a b:Int} (a0:0<=a) (a1:a<=1000) (b0:1<=b) (b1:b<=1000) (more:FS) :
  ∃ zs:List Int,(zs.length<=63/\∀ z∈zs,∃ i,z=ns.getD i 0)/\Ak gSum (Ac (CA false [none,some 0] (itR3 (Ac (Aa 1) (Ac (Ak D5 (Ac (Ak Be (Ac (Aa 0) Ao)) (Ac (gc (.int 63)) Ao))) (Ac (Aa 2) Ao)))) (tgN 0) HK (Ad AN (Aa 1) (fz (Aa 0)))) Ao) (vl t :: iv a :: iv b :: more)=.ok (.t (.int zs.sum)) (vl t :: iv a :: iv b :: more):=by
 have hj:∃ j:Int,0<=j/\j<=63/\j<=ns.length/\(Ac (Aa 1) (Ac (Ak D5 (Ac (Ak Be (Ac (Aa 0) Ao)) (Ac (gc (.int 63)) Ao))) (Ac (Aa 2) Ao))) (vl t :: iv a :: iv b :: more)=.ok [.t (.int a),.t (.int j),.t (.int b)] (vl t :: iv a :: iv b :: more):=by
  refine ⟨if (63:Int) < ((ns.map T.int).length:Int) then 63 else ((ns.map T.int).length:Int),?_,?_,?_,?_⟩
  ·split <;> omega
  ·split <;> omega
  ·rw [List.length_map];split <;> omega
  ·rcases ht with rfl | rfl <;> rfl
 obtain ⟨j,j0,j1,j2,ej⟩:=hj
 have e1:=range3_ok ej a0 a1 j0 j1 b0 b1
 obtain ⟨y,hy,e2⟩:=E8 (fe:=Ad AN (Aa 1) (fz (Aa 0))) (f:=fun t'=>match t' with | .int i=>.int (ns.getD i.toNat 0) | _=>.non) (rest:=[vl t]) (upBy a b (Builtin.Range.rangeSize a j b).toNat) none [] AI (fun t' m=>by
   unfold upBy at m
   rw [List.mem_map] at m
   obtain ⟨k,mk,rfl⟩:=m
   have hk:=range_in (a:=a) (j:=j) (c:=b) (i:=k) (by omega) (List.mem_range.mp mk)
   have hp:0<=(k:Int) * b:=Int.mul_nonneg (by omega) (by omega)
   simp only [AW,AK,BE,retS,nxS,ifS,SO.of,Ad,Aa,gc,fz,Ac,Ai,Ao,Ak,AD,allT,Bg,Bs,En,Bk,El,Out.bnd,Out.bind,HL,putSl,okT,asB,C8,andT,orT,DK,Option.map_some,Option.bind_some,Option.isSome_some,List.getElem?_cons_zero,List.getElem?_cons_succ,List.set_cons_zero,List.set_cons_succ,List.length_cons,List.length_nil,List.length_map,if_true,if_false,Bool.false_eq_true,FL.A9,FL.putAt,FL.Sl.put,gIxU_I ht (i:=a+(k:Int) * b) (by omega) (by omega)]) (by
   have:=ES (a:=a) (j:=j) (c:=b) (by omega) a0 j1
   unfold upBy
   rw [List.length_map,List.length_range]
   show 0+_<=1000000
   omega)
 have e3:CA false [none,some 0] (itR3 (Ac (Aa 1) (Ac (Ak D5 (Ac (Ak Be (Ac (Aa 0) Ao)) (Ac (gc (.int 63)) Ao))) (Ac (Aa 2) Ao)))) (tgN 0) HK (Ad AN (Aa 1) (fz (Aa 0))) (vl t :: iv a :: iv b :: more)=.ok (.t (.lst _)) (vl t :: iv a :: iv b :: more) :=
  E7 e1 ⟨by rw [show Dc (vl t :: iv a :: iv b :: more) _=[] from rfl];exact List.nodup_nil,by simp⟩ e2 (BX rfl)
 refine ⟨(List.range (Builtin.Range.rangeSize a j b).toNat).map fun (k:Nat)=>ns.getD (a+(k:Int) * b).toNat 0,⟨by
  rw [List.length_map,List.length_range]
  exact ES (a:=a) (j:=j) (c:=b) (by omega) a0 j1,fun z m=>by
  rw [List.mem_map] at m
  obtain ⟨k,_,rfl⟩:=m
  exact ⟨_,rfl⟩⟩,?_⟩
 have e4:(upBy a b (Builtin.Range.rangeSize a j b).toNat).map (fun t'=>match t' with | .int i=>T.int (ns.getD i.toNat 0) | _=>.non)=((List.range (Builtin.Range.rangeSize a j b).toNat).map fun (k:Nat)=>ns.getD (a+(k:Int) * b).toNat 0).map T.int:=by
  unfold upBy
  rw [List.map_map,List.map_map]
  rfl
 rw [List.nil_append,e4] at e3
 simp only [Ak,Ac,e3,Out.bnd,Out.bind,Ao,gSum,CZ,Option.bind_some,FV,okT]
theorem upTo_cons {n:Nat}:∀ t∈FL.upTo 0 n,∃ i:Int,t=.int i:=fun t m=>by
 unfold FL.upTo at m
 rw [List.mem_map] at m
 obtain ⟨k,_,rfl⟩:=m
 exact ⟨_,rfl⟩
theorem digits {t:T} {ns:List Int} (ht:IsI t ns) {a b:Int} (a0:0<=a) (a1:a<=1000) (b0:1<=b) (b1:b<=1000) :
  ∃ ds:List Int,ds.length=150/\BW [vl t,iv a,iv b]=.ok (.nw (.lst (ds.map T.int))) [vl t,iv a,iv b]:=by
 obtain ⟨zs,_,e1⟩:=drawn ht a0 a1 b0 b1 [none,none,none,none,none]
 generalize zs.sum=D at e1
 have hloop:=Gs (gt:=tgN 7) (body:=(AW (AK 5 (Ad Bd (Ad Ar (Ad Ar (Ad Bb (Aa 5) (Aa 5)) (Aa 3)) (Aa 7)) (gc (.int 2147483629))))
  (AW (BE (Bk D6 (Aa 4) (Ac (Ad Bd (Ad AN (AD Bs (Ac (fz (Aa 6)) (Ac (Ad Bd (Ad Bb (Aa 5) (Aa 5)) (gc (.int 2147483587))) Ao))) (Ad Bd (Aa 3) (gc (.int 2)))) (gc (.int 1000003))) Ao)))
  (AK 6 (Ad BZ (Aa 6) (gc (.int 1000003)))))))
  (fun ts fs=>∃ (ds:List Int) (f r:Int) (x:Option Sl),fs=[vl t,iv a,iv b,iv D,some (.own (.lst (ds.map T.int))),iv f,iv r,x]/\0<=f/\f < 2147483629/\ds.length+ts.length=150/\Fre x/\∀ t∈ts,∃ i:Int,t=.int i) (fun t' ts fs h=>?_) (FL.upTo 0 150) [vl t,iv a,iv b,iv D,some (.own (.lst [])),iv (D % 2147483629),iv (D / 2),none]
  ⟨[],_,_,_,rfl,Int.emod_nonneg _ (by decide),Int.emod_lt_of_pos _ (by decide),by simp [FL.upTo],AI,upTo_cons⟩
 ·obtain ⟨fs',ef,ds,f,r,x,rfl,_,_,hl,_,_⟩:=hloop
  refine ⟨ds.reverse,by rw [List.length_reverse];simpa using hl,?_⟩
  have s1:AK 3 (Ak gSum (Ac (CA false [none,some 0] (itR3 (Ac (Aa 1) (Ac (Ak D5 (Ac (Ak Be (Ac (Aa 0) Ao)) (Ac (gc (.int 63)) Ao))) (Ac (Aa 2) Ao)))) (tgN 0) HK (Ad AN (Aa 1) (fz (Aa 0)))) Ao)) [vl t,iv a,iv b,none,none,none,none,none]=.nx [vl t,iv a,iv b,iv D,none,none,none,none]:=by
   unfold AK
   rw [e1]
   rfl
  have s5:Gu (itR1 (Ac (gc (.int 150)) Ao)) (tgN 7) (AW (AK 5 (Ad Bd (Ad Ar (Ad Ar (Ad Bb (Aa 5) (Aa 5)) (Aa 3)) (Aa 7)) (gc (.int 2147483629))))
  (AW (BE (Bk D6 (Aa 4) (Ac (Ad Bd (Ad AN (AD Bs (Ac (fz (Aa 6)) (Ac (Ad Bd (Ad Bb (Aa 5) (Aa 5)) (gc (.int 2147483587))) Ao))) (Ad Bd (Aa 3) (gc (.int 2)))) (gc (.int 1000003))) Ao)))
  (AK 6 (Ad BZ (Aa 6) (gc (.int 1000003)))))) [vl t,iv a,iv b,iv D,some (.own (.lst [])),iv (D % 2147483629),iv (D / 2),none]=.nx [vl t,iv a,iv b,iv D,some (.own (.lst (ds.map T.int))),iv f,iv r,x]:=ef
  have all:Dg [vl t,iv a,iv b,none,none,none,none,none]=.ret (.nw (.lst (ds.reverse.map T.int))) [vl t,iv a,iv b,iv D,some (.own (.lst (ds.map T.int))),iv f,iv r,x]:=by
   unfold Dg
   rw [Bj s1,Bj (show AK 4 (AD En Ao) [vl t,iv a,iv b,iv D,none,none,none,none]=.nx [vl t,iv a,iv b,iv D,some (.own (.lst [])),none,none,none] from rfl),
    Bj (show AK 5 (Ad Bd (Aa 3) (gc (.int 2147483629))) [vl t,iv a,iv b,iv D,some (.own (.lst [])),none,none,none]=.nx [vl t,iv a,iv b,iv D,some (.own (.lst [])),iv (D % 2147483629),none,none] from rfl),
    Bj (show AK 6 (Ad BZ (Aa 3) (gc (.int 2))) [vl t,iv a,iv b,iv D,some (.own (.lst [])),iv (D % 2147483629),none,none]=.nx [vl t,iv a,iv b,iv D,some (.own (.lst [])),iv (D % 2147483629),iv (D / 2),none] from rfl),Bj s5]
   rw [List.map_reverse]
   rfl
  unfold BW Dt
  show (match Dg [vl t,iv a,iv b,none,none,none,none,none] with | .nx τ=>_ | .ret (.t t) τ=>_ | .ret (.nw o) τ=>_ | .ret (.rf i) τ=>_ | .exc c τ=>_ | _=>_)=_
  rw [all]
  rfl
 ·obtain ⟨ds,f,r,x,rfl,f0,f1,hl,hx,hi⟩:=h
  obtain ⟨k,rfl⟩:=hi t' List.mem_cons_self
  have hg:tgN 7 (.int k) [vl t,iv a,iv b,iv D,some (.own (.lst (ds.map T.int))),iv f,iv r,x]=some [vl t,iv a,iv b,iv D,some (.own (.lst (ds.map T.int))),iv f,iv r,iv k]:=by
   unfold tgN
   rw [Bt (x:=x) rfl hx]
   rfl
  have eA:AK 5 (Ad Bd (Ad Ar (Ad Ar (Ad Bb (Aa 5) (Aa 5)) (Aa 3)) (Aa 7)) (gc (.int 2147483629))) [vl t,iv a,iv b,iv D,some (.own (.lst (ds.map T.int))),iv f,iv r,iv k]=.nx [vl t,iv a,iv b,iv D,some (.own (.lst (ds.map T.int))),iv ((f * f+D+k) % 2147483629),iv r,iv k]:=by
   simp only [AW,AK,BE,retS,nxS,ifS,SO.of,Ad,Aa,gc,fz,Ac,Ai,Ao,Ak,AD,allT,Bg,Bs,En,Bk,El,Out.bnd,Out.bind,HL,putSl,okT,asB,C8,andT,orT,DK,Option.map_some,Option.bind_some,Option.isSome_some,List.getElem?_cons_zero,List.getElem?_cons_succ,List.set_cons_zero,List.set_cons_succ,List.length_cons,List.length_nil,List.length_map,if_true,if_false,Bool.false_eq_true,FL.A9,FL.putAt,FL.Sl.put,E0 (i:=f) (j:=f) ⟨by omega,by omega⟩,A0,Bf (show (0:Int) < 2147483629 by decide)]
  have f0':0<=(f * f+D+k) % 2147483629:=Int.emod_nonneg _ (by decide)
  have f1':(f * f+D+k) % 2147483629 < 2147483629:=Int.emod_lt_of_pos _ (by decide)
  generalize (f * f+D+k) % 2147483629=f' at eA f0' f1'
  have hz:∃ z,atI [T.int r,T.int (f' * f' % 2147483587)] (D % 2)=some (T.int z):=by
   have h:D % 2=((0:Nat):Int)∨D % 2=((1:Nat):Int):=by omega
   rcases h with h | h
   ·rw [h];exact ⟨r,Bm rfl⟩
   ·rw [h];exact ⟨_,Bm rfl⟩
  obtain ⟨z,ez⟩:=hz
  have hlen:ds.length < big:=by
   simp at hl
   show ds.length < 1000000
   omega
  have eB:BE (Bk D6 (Aa 4) (Ac (Ad Bd (Ad AN (AD Bs (Ac (fz (Aa 6)) (Ac (Ad Bd (Ad Bb (Aa 5) (Aa 5)) (gc (.int 2147483587))) Ao))) (Ad Bd (Aa 3) (gc (.int 2)))) (gc (.int 1000003))) Ao)) [vl t,iv a,iv b,iv D,some (.own (.lst (ds.map T.int))),iv f',iv r,iv k]=.nx [vl t,iv a,iv b,iv D,some (.own (.lst ((ds++[z % 1000003]).map T.int))),iv f',iv r,iv k]:=by
   simp only [AW,AK,BE,retS,nxS,ifS,SO.of,Ad,Aa,gc,fz,Ac,Ai,Ao,Ak,AD,allT,Bg,Bs,En,Bk,El,Out.bnd,Out.bind,HL,putSl,okT,asB,C8,andT,orT,DK,Option.map_some,Option.bind_some,Option.isSome_some,List.getElem?_cons_zero,List.getElem?_cons_succ,List.set_cons_zero,List.set_cons_succ,List.length_cons,List.length_nil,List.length_map,if_true,if_false,Bool.false_eq_true,FL.A9,FL.putAt,FL.Sl.put,E0 (i:=f') (j:=f') ⟨by omega,by omega⟩,Bf (show (0:Int) < 2147483587 by decide),Bf (show (0:Int) < 2 by decide),Bx (x:=.t (.lst [T.int r,T.int (f' * f' % 2147483587)])) rfl ez,Bf (show (0:Int) < 1000003 by decide),CZ,D6,hlen,show (0+1+1<=big) from by decide]
   simp
  have eC:AK 6 (Ad BZ (Aa 6) (gc (.int 1000003))) [vl t,iv a,iv b,iv D,some (.own (.lst ((ds++[z % 1000003]).map T.int))),iv f',iv r,iv k]=.nx [vl t,iv a,iv b,iv D,some (.own (.lst ((ds++[z % 1000003]).map T.int))),iv f',iv (r / 1000003),iv k]:=rfl
  refine ⟨_,_,hg,?_,ds++[z % 1000003],f',r / 1000003,iv k,rfl,f0',f1',by simp at hl ⊢;omega,Bu,fun t' m=>hi t' (List.mem_cons_of_mem _ m)⟩
  rw [Bj eA,Bj eB]
  exact eC
def nmS (c:Int) (k:Nat):Str:=⟨(Nm.codes c k).toArray⟩
def nms (c:Int) (n:Nat):List Str:=(List.range n).map (nmS c)
def ABC:Str:="abcdefghijklmnopqrstuvwxyz"
theorem abc_at:∀ j,j < 26->ABC.cps.toList[j]?=some (97+j):=by decide +kernel
theorem at_letter (x:Int):atI ABC.cps.toList (x % 26)=some (Nm.C9 x):=by
 have h:(x % 26).toNat < 26:=by omega
 have e:=Bm (abc_at _ h)
 rw [Int.toNat_of_nonneg (by omega)] at e
 exact e
theorem FF:∀ ys:List Str,(Str.join (⟨#[]⟩:Str) ys).cps.toList=(ys.map fun y=>y.cps.toList).flatten
 | []=>rfl
 | [x]=>by simp [Str.join]
 | x :: y :: r=>by
  have ih:=FF (y :: r)
  show (x++(⟨#[]⟩:Str)++Str.join ⟨#[]⟩ (y :: r)).cps.toList=_
  show (x.cps++#[]++(Str.join ⟨#[]⟩ (y :: r)).cps).toList=_
  rw [List.map_cons,List.flatten_cons,<- ih]
  simp
theorem join_ones (f:Nat->Nat) (js:List Nat):(Txt.join (⟨#[]⟩:Str) (js.map fun j=>(⟨#[f j]⟩:Str))).cps.toList=js.map f:=by
 show (Builtin.Str.glued _ _).cps.toList=_
 rw [StrLaws.glued_eq_join,FF]
 induction js with
 | nil=>rfl
 | cons j r ih =>
  rw [List.map_cons,List.map_cons,List.flatten_cons,ih,List.map_cons]
  rfl
theorem str_ext {x y:Str} (h:x.cps.toList=y.cps.toList):x=y:=by
 obtain ⟨a⟩:=x
 obtain ⟨b⟩:=y
 have:a=b:=by simpa using h
 rw [this]
theorem mul_codes (c:Nat) (n:Int) (h0:1<=n):(Txt.mul (⟨#[c]⟩:Str) n).cps.toList=List.replicate n.toNat c:=by
 unfold Txt.mul
 rw [if_neg (by omega)]
 by_cases h1:n=1
 ·subst h1
  rfl
 ·rw [if_neg (by simp [h1,Str.length])]
  have key:∀ (m:Nat) (acc:Array Nat),((List.replicate m #[c]).foldl (·++·) acc).toList=acc.toList++List.replicate m c:=by
   intro m
   induction m with
   | zero=>intro acc;simp
   | succ m ih =>
    intro acc
    rw [List.replicate_succ,List.foldl_cons,ih,List.replicate_succ]
    simp
  have:=key n.toNat #[]
  simpa using this
theorem empty_str:Str.ofString ""=(⟨#[]⟩:Str):=by decide +kernel
theorem ones_len (f:Nat->Nat) (js:List Nat):((js.map fun j=>(⟨#[f j]⟩:Str)).map (·.length)).sum=js.length:=by
 induction js with
 | nil=>rfl
 | cons j r ih =>
  rw [List.map_cons,List.map_cons,List.sum_cons,ih,List.length_cons]
  show 1+r.length=_
  omega
theorem join_len (f:Nat->Nat) (js:List Nat):(Txt.join (⟨#[]⟩:Str) (js.map fun j=>(⟨#[f j]⟩:Str))).length=js.length:=by
 have e:=congrArg List.length (join_ones f js)
 rw [List.length_map] at e
 rw [<- e]
 simp [Str.length]
def BK (c:Int) (n:Nat):List Str:=(List.range n).map fun j=>(⟨#[Nm.base c j]⟩:Str)
theorem baseL_take (c:Int) (n k:Nat) (h:k<=n):(BK c n).take k=BK c k:=by
 unfold BK
 rw [<- List.map_take,List.take_range,Nat.min_eq_left h]
theorem baseL_drop (c:Int) (n k:Nat):(BK c n).drop k=(List.range (n - k)).map fun j=>(⟨#[Nm.base c (k+j)]⟩:Str):=by
 unfold BK
 rw [<- List.map_drop]
 apply List.ext_getElem?
 intro i
 rw [List.getElem?_map,List.getElem?_map,List.getElem?_drop]
 by_cases hi:k+i < n
 ·rw [List.getElem?_range hi,List.getElem?_range (by omega)]
  rfl
 ·rw [List.getElem?_eq_none (by simp;omega),List.getElem?_eq_none (by simp;omega)]
  rfl
theorem gMulU_r {i j:Int} {fs:FS} (h:-(2 ^ 64) < j/\j < 2 ^ 64):Bb (.t (.int i)) (.t (.int j)) fs=.ok (.t (.int (i * j))) fs:=by
 have e:gMul (.t (.int i)) (.t (.int j)) fs=.ok (.t (.int (i * j))) fs:=if_pos (by rw [decide_eq_true h];simp)
 unfold Bb orG
 rw [e]
theorem gMulU_s {z:Str} {n:Int} {fs:FS} (h:z.length=1/\1<=n/\n<=1000):Bb (.t (.str z)) (.t (.int n)) fs=.ok (.t (.str (Txt.mul z n))) fs:=by
 have e:gMulS (.t (.str z)) (.t (.int n)) fs=.ok (.t (.str (Txt.mul z n))) fs:=if_pos h
 have e2:gMul (.t (.str z)) (.t (.int n)) fs=.bad:=rfl
 unfold Bb orG
 rw [e2]
 exact e
theorem gAddU_s {x y:Str} {fs:FS} (h:x.length+y.length<=big):Ar (.t (.str x)) (.t (.str y)) fs=.ok (.t (.str (x++y))) fs:=by
 have e:gAddS (.t (.str x)) (.t (.str y)) fs=.ok (.t (.str (x++y))) fs:=if_pos h
 have e2:gAdd (.t (.str x)) (.t (.str y)) fs=.bad:=rfl
 unfold Ar orG
 rw [e2]
 dsimp only
 rw [e]
theorem gIxU_str {z:Str} {i:Int} {c:Nat} {fs:FS} (hz:z.length<=big) (e:atI z.cps.toList i=some c):AN (.t (.str z)) (.t (.int i)) fs=.ok (.t (.str ⟨#[c]⟩)) fs:=by
 have e':gIx (.t (.str z)) (.t (.int i)) fs=.ok (.t (.str ⟨#[c]⟩)) fs:=by
  simp only [gIx,CZ,hz,if_true,e,okT]
 unfold AN orG
 rw [e']
theorem FU:∀ xs:List Str,Cb (xs.map T.str)=some xs
 | []=>rfl
 | n :: ns=>by simp [Cb,FU ns]
theorem E6 {xs:List T} {v:Int} (h0:0<=v) (h1:v.toNat<=xs.length):FJ xs none (some v)=xs.take v.toNat:=by
 show (xs.drop 0).take ((if v < 0 then (v+(xs.length:Int)).toNat else min v.toNat xs.length) - 0)=_
 rw [if_neg (by omega),Nat.min_eq_left h1]
 simp
theorem DS {xs:List T} {v:Int} (h0:0<=v) (h1:v.toNat<=xs.length):FJ xs (some v) none=xs.drop v.toNat:=by
 show (xs.drop (if v < 0 then (v+(xs.length:Int)).toNat else min v.toNat xs.length)).take (xs.length - (if v < 0 then (v+(xs.length:Int)).toNat else min v.toNat xs.length))=_
 rw [if_neg (by omega),Nat.min_eq_left h1]
 exact List.take_of_length_le (by rw [List.length_drop];omega)
theorem at_stepT (c:Int):atI [T.int 1,T.int 3,T.int 5,T.int 7,T.int 9,T.int 11] (Nm.M c / 144 % 6)=some (T.int (Nm.step c)):=by
 have h:Nm.stepI c < 6:=by unfold Nm.stepI;omega
 have e:([T.int 1,T.int 3,T.int 5,T.int 7,T.int 9,T.int 11]:List T)[Nm.stepI c]?=some (T.int (Nm.step c)):=by
  unfold Nm.step
  generalize Nm.stepI c=i at h
  match i,h with
  | 0,_=>rfl
  | 1,_=>rfl
  | 2,_=>rfl
  | 3,_=>rfl
  | 4,_=>rfl
  | 5,_=>rfl
 have e2:=Bm e
 unfold Nm.stepI at e2
 rwa [Int.toNat_of_nonneg (by omega)] at e2
theorem abc_big:ABC.length<=big:=by decide +kernel
theorem join_ok {f:Nat->Nat} {js:List Nat} {fs:FS} (h:js.length<=1000):E1 (.t (.str ("":Str))) [.t (.lst ((js.map fun j=>(⟨#[f j]⟩:Str)).map T.str))] fs=.ok (.t (.str (Txt.join (⟨#[]⟩:Str) (js.map fun j=>(⟨#[f j]⟩:Str))))) fs:=by
 have e0:("":Str).length=0:=by decide +kernel
 simp only [E1,CZ,Option.bind_some,FU,ones_len,e0,Nat.mul_zero,Nat.add_zero]
 rw [if_pos (show js.length<=big from Nat.le_trans h (by decide)),show ("":Str)=(⟨#[]⟩:Str) from empty_str]
 simp only [okT]
theorem DM {j:Int} {fs:FS} {fa:FS->Out (List Rv)} (e:fa fs=.ok [.t (.int j)] fs) (h:-(2 ^ 62)<=j/\j < 2 ^ 62):itR1 fa fs=.ok (FL.upTo 0 j.toNat) fs:=by
 unfold itR1
 rw [e]
 simp only [Out.bind]
 exact if_pos h
theorem Ae {g:Rv->Rv->FS->Out Rv} {fa fb:FS->Out Rv} {fs:FS} {x y:T} {r:Out Rv} (h1:fa fs=.ok (.t x) fs) (h2:fb fs=.ok (.t y) fs) (h3:g (.t x) (.t y) fs=r):Ad g fa fb fs=r:=by
 unfold Ad
 rw [h1]
 show (fb fs).bnd _=r
 rw [h2]
 exact h3
theorem Ab {i:Nat} {fs:FS} {t:T} (h:fs[i]?=some (vl t)):Aa i fs=.ok (.t t) fs:=by unfold Aa;rw [h]
theorem Aw {t:T} {fs:FS}:gc t fs=.ok (.t t) fs:=rfl
theorem nm_el {L:Str} (hL2:L.length<=big) (hL:∀ x:Int,atI L.cps.toList (x % 26)=some (Nm.C9 x)) (m:Int) (k:Nat) (hk:k < 12) :
  Ad AN (Aa 1) (Ad Bd (Ad Ar (Ad BZ (Aa 2) (Ad Ar (Aa 0) (gc (.int 5)))) (Ad Bb (Aa 0) (Aa 0))) (gc (.int 26))) [iv (k:Int),vl (.str L),iv m]=.ok (.t (.str ⟨#[Nm.C9 (m / ((k:Int)+5)+(k:Int) * (k:Int))]⟩)) [iv (k:Int),vl (.str L),iv m] :=
 Ae (Ab rfl) (Ae (Ae (Ae (Ab rfl) (Ae (Ab rfl) Aw A0) (CJ ⟨by omega,by omega⟩)) (Ae (Ab rfl) (Ab rfl) (E0 ⟨by omega,by omega⟩)) A0) Aw (Bf (by decide))) (gIxU_str hL2 (hL _))
theorem AE {i:Nat} {f:FS->Out Rv} {fs fs':FS} {t:T} (h:f fs=.ok (.t t) fs) (hs:HL i (.t t) fs=some fs'):AK i f fs=.nx fs':=by
 unfold AK
 rw [h]
 show (match HL i (.t t) fs with | some fs=>SO.nx fs | none=>.bad)=_
 rw [hs]
theorem Az {f:FS->Out Rv} {g:FS->Out (List Rv)} {fs:FS} {t:T} {rs:List Rv} (h1:f fs=.ok (.t t) fs) (h2:g fs=.ok rs fs):Ac f g fs=.ok (.t t :: rs) fs:=by
 unfold Ac
 rw [h1]
 show (g fs).bind _=_
 rw [h2]
 rfl
theorem AJ {f:FS->Out Rv} {fs:FS} {t:T} (h:f fs=.ok (.t t) fs):fz f fs=.ok (.t t) fs:=by
 unfold fz
 rw [h]
 rfl
theorem callB_ok {g:List Rv->FS->Out Rv} {fa:FS->Out (List Rv)} {fs:FS} {rs:List Rv} {r:Out Rv} (h:fa fs=.ok rs fs) (h2:g rs fs=r):Ak g fa fs=r:=by
 unfold Ak
 rw [h]
 exact h2
theorem app_ok {i:Nat} {f:FS->Out Rv} {fs fs':FS} {t:T} {ts:List T} (h0:fs[i]?=some (some (.own (.lst ts)))) (h:f fs=.ok (.t t) fs) (hl:ts.length < big) (e:fs.set i (some (.own (.lst (ts++[t]))))=fs'):BE (Bk D6 (Aa i) (Ac f Ao)) fs=.nx fs':=by
 have h1:Aa i fs=.ok (.rf i) fs:=by unfold Aa;rw [h0]
 have h2:FL.A9 fs i=some (.lst ts):=by unfold FL.A9;rw [h0]
 have h3:CZ fs (.rf i)=some ts:=by simp only [CZ,h2]
 have h4:Ac f Ao fs=.ok [.t t] fs:=Az h rfl
 have h5:D6 (.rf i) [.t t] fs=.ok (.t .non) fs':=by
  simp only [D6,h2]
  rw [if_pos hl]
  have:FL.putAt fs i (.lst (ts++[t]))=fs':=by
   unfold FL.putAt
   rw [h0]
   exact e
  rw [this]
 have h6:Bk D6 (Aa i) (Ac f Ao) fs=.ok (.t .non) fs':=by
  unfold Bk
  rw [h1]
  show (if (CZ fs (.rf i)).isSome=true then _ else _)=_
  rw [h3,if_pos (show (some ts).isSome=true from rfl),h4]
  exact h5
 unfold BE
 rw [h6]
 rfl
theorem Fh {c:FS->Out Bool} {g h:FS->SO} {fs:FS} {r:SO} (hc:c fs=.ok true fs) (e:g fs=r):ifS c g h fs=r:=by
 unfold ifS
 rw [hc]
 exact e
theorem Dd {c:FS->Out Bool} {g h:FS->SO} {fs:FS} {r:SO} (hc:c fs=.ok false fs) (e:h fs=r):ifS c g h fs=r:=by
 unfold ifS
 rw [hc]
 exact e
theorem eqI_ok {fa fb:FS->Out Rv} {fs:FS} {i j:Int} (h1:fa fs=.ok (.t (.int i)) fs) (h2:fb fs=.ok (.t (.int j)) fs):asB (Ad (BD false) fa fb) fs=.ok (decide (i=j)) fs:=by
 have e:gEq false (.t (.int i)) (.t (.int j)) fs=.ok (.t (.bl (decide (i=j)))) fs:=by
  have q:decide (V.int i=V.int j)=decide (i=j):=by
   by_cases h:i=j
   ·subst h;simp
   ·rw [decide_eq_false h,decide_eq_false (by intro z;cases z;exact h rfl)]
  show (if scal (V.int i) (V.int j)=true then okT (.bl (if false=true then _ else decide (V.int i=V.int j))) fs else .bad)=_
  rw [if_pos (show scal (V.int i) (V.int j)=true from rfl),q]
  rfl
 have e':BD false (.t (.int i)) (.t (.int j)) fs=.ok (.t (.bl (decide (i=j)))) fs:=by
  unfold BD orG
  rw [e]
 unfold asB
 rw [Ae h1 h2 e']
 rfl
theorem Cf {fa:FS->Out (List Rv)} {fs:FS} {rs:List Rv} {ts:List T} (h:fa fs=.ok rs fs) (h2:allT rs=some ts) (h3:ts.length<=big):AD Bs fa fs=.ok (.t (.lst ts)) fs:=by
 unfold AD
 rw [h]
 show (match allT rs with | some ts=>_ | none=>_)=_
 rw [h2]
 exact if_pos h3
theorem slf_take {f g:FS->Out Rv} {fs:FS} {ts:List T} {v:Int} (h1:f fs=.ok (.t (.lst ts)) fs) (h2:g fs=.ok (.t (.int v)) fs) (h0:0<=v) (hl:v.toNat<=ts.length):slF f noP (AU g) fs=.ok (.t (.lst (ts.take v.toNat))) fs:=by
 unfold slF
 rw [h1]
 show ((AU g) fs).bind _=_
 unfold AU
 rw [h2]
 simp only [Out.bnd,Out.bind]
 simp only [gSlU,CZ,okT]
 rw [E6 h0 hl]
theorem slf_drop {f g:FS->Out Rv} {fs:FS} {ts:List T} {v:Int} (h1:f fs=.ok (.t (.lst ts)) fs) (h2:g fs=.ok (.t (.int v)) fs) (h0:0<=v) (hl:v.toNat<=ts.length):slF f (AU g) noP fs=.ok (.t (.lst (ts.drop v.toNat))) fs:=by
 unfold slF
 rw [h1]
 show ((AU g) fs).bind _=_
 unfold AU
 rw [h2]
 simp only [Out.bnd,Out.bind,noP]
 simp only [gSlU,CZ,okT]
 rw [DS h0 hl]
theorem joinM_ok {f:FS->Out Rv} {fs:FS} {g:Nat->Nat} {js:List Nat} (h:f fs=.ok (.t (.lst ((js.map fun j=>(⟨#[g j]⟩:Str)).map T.str))) fs) (hl:js.length<=1000):fz (El E1 (gc (.str ("":Str))) (Ac f Ao)) fs=.ok (.t (.str (Txt.join (⟨#[]⟩:Str) (js.map fun j=>(⟨#[g j]⟩:Str))))) fs:=by
 refine AJ ?_
 have h2:=Az h (show Ao fs=.ok [] fs from rfl)
 unfold El gc
 show ((Ac f Ao fs).bind _)=_
 rw [h2]
 exact join_ok hl
theorem nm_base {L:Str} (hL2:L.length<=big) (hL:∀ x:Int,atI L.cps.toList (x % 26)=some (Nm.C9 x)) {c w:Int} (hw0:0<=w) (hw:w<=12) (m a:Int) (hm:m=Nm.M c) (x0 x1 x6 x7 x8 x9 x10:Option Sl) :
  CA false [none,some 2,some 3] (itR1 (Ac (Aa 4) Ao)) (tgN 0) HK (Ad AN (Aa 1) (Ad Bd (Ad Ar (Ad BZ (Aa 2) (Ad Ar (Aa 0) (gc (.int 5)))) (Ad Bb (Aa 0) (Aa 0))) (gc (.int 26)))) [x0,x1,vl (.str L),iv m,iv w,iv a,x6,x7,x8,x9,x10]=.ok (.t (.lst ((BK c w.toNat).map T.str))) [x0,x1,vl (.str L),iv m,iv w,iv a,x6,x7,x8,x9,x10]:=by
 have e1:=DM (fa:=Ac (Aa 4) Ao) (fs:=[x0,x1,vl (.str L),iv m,iv w,iv a,x6,x7,x8,x9,x10]) (j:=w) (Az (Ab rfl) rfl) ⟨by omega,by omega⟩
 obtain ⟨y,hy,e2⟩:=E8 (fe:=Ad AN (Aa 1) (Ad Bd (Ad Ar (Ad BZ (Aa 2) (Ad Ar (Aa 0) (gc (.int 5)))) (Ad Bb (Aa 0) (Aa 0))) (gc (.int 26)))) (f:=fun t'=>match t' with | .int i=>.str ⟨#[Nm.C9 (m / (i+5)+i * i)]⟩ | _=>.non) (rest:=[vl (.str L),iv m]) (FL.upTo 0 w.toNat) none [] AI (fun t' mt=>by
   unfold FL.upTo at mt
   rw [List.mem_map] at mt
   obtain ⟨k,mk,rfl⟩:=mt
   have hk:=List.mem_range.mp mk
   rw [Int.zero_add]
   exact nm_el hL2 hL m k (by omega)) (by
   unfold FL.upTo
   rw [List.length_map,List.length_range]
   show 0+_<=1000000
   omega)
 have e3:=E7 (src:=[none,some 2,some 3]) e1 ⟨by rw [show Dc [x0,x1,vl (.str L),iv m,iv w,iv a,x6,x7,x8,x9,x10] _=[] from rfl];exact List.nodup_nil,by rfl⟩ e2 (BX rfl)
 rw [e3,List.nil_append]
 have e4:(FL.upTo 0 w.toNat).map (fun t'=>match t' with | .int i=>T.str ⟨#[Nm.C9 (m / (i+5)+i * i)]⟩ | _=>.non)=(BK c w.toNat).map T.str:=by
  subst hm
  unfold FL.upTo BK
  rw [List.map_map,List.map_map]
  refine List.map_congr_left fun k _=>?_
  simp only [Function.comp_apply,Int.zero_add,Nm.base]
 rw [e4]
theorem nm_turn {L:Str} (hL2:L.length<=big) (hL:∀ x:Int,atI L.cps.toList (x % 26)=some (Nm.C9 x)) {c m w a st n:Int} {i:Nat} (hm:m=Nm.M c) (hw:w=Nm.W c) (ha:a=Nm.At c) (hst:st=Nm.step c) (hi:i < 12) (x10:Option Sl) (hx:Fre x10) :
  ∃ y10,Fre y10/\(AW (AK 10 (Ad AN (Aa 2) (Ad Bd (Ad Ar (Ad BZ (Aa 3) (gc (.int 864))) (Ad Bb (Aa 9) (Aa 7))) (gc (.int 26)))))
  (ifS (asB (Ad (BD false) (Ad Bd (Ad BZ (Aa 3) (gc (.int 900))) (gc (.int 3))) (gc (.int 1)))) (BE (Bk D6 (Aa 8) (Ac (Ad Bb (Ad AN (Aa 6) (gc (.int 0))) (Ad Ar (Ad Bd (Ad Ar (Aa 9) (Ad BZ (Aa 3) (gc (.int 7)))) (gc (.int 12))) (gc (.int 1)))) Ao))) (BE (Bk D6 (Aa 8) (Ac (Ad Ar (Ad Ar (fz (El E1 (gc (.str ("":Str))) (Ac (slF (Aa 6) noP (AU (Aa 5))) Ao))) (Aa 10)) (fz (El E1 (gc (.str ("":Str))) (Ac (slF (Aa 6) (AU (Ad Ar (Aa 5) (gc (.int 1)))) noP) Ao)))) Ao)))))
   [iv c,iv n,vl (.str L),iv m,iv w,iv a,vl (.lst ((BK c w.toNat).map T.str)),iv st,some (.own (.lst ((nms c i).map T.str))),iv (i:Int),x10] =
   .nx [iv c,iv n,vl (.str L),iv m,iv w,iv a,vl (.lst ((BK c w.toNat).map T.str)),iv st,some (.own (.lst ((nms c (i+1)).map T.str))),iv (i:Int),y10]:=by
 have w0:=Nm.W_lo c
 have w1:=Nm.W_hi c
 have a0:=Nm.At_lo c
 have a1:=Nm.At_hi c
 rw [<- hw] at w0 w1 a1
 rw [<- ha] at a0 a1
 have hs:-20 < st/\st < 20:=by rw [hst];rcases Nm.step_mem c with e | e | e | e | e | e <;> omega
 have e10:Nm.one c i=Nm.C9 (m / 864+(i:Int) * st):=by rw [hm,hst];rfl
 have elen:((nms c i).map T.str).length < big:=by
  unfold nms
  rw [List.length_map,List.length_map,List.length_range]
  show i < 1000000
  omega
 have enm:∀ z:Str,z.cps.toList=Nm.codes c i->(nms c i).map T.str++[T.str z]=(nms c (i+1)).map T.str:=fun z ez=>by
  unfold nms
  rw [List.range_succ,List.map_append,List.map_append]
  have:z=nmS c i:=str_ext (by rw [ez];simp [nmS])
  rw [this]
  rfl
 refine ⟨vl (.str ⟨#[Nm.one c i]⟩),Bu,?_⟩
 have s1:AK 10 (Ad AN (Aa 2) (Ad Bd (Ad Ar (Ad BZ (Aa 3) (gc (.int 864))) (Ad Bb (Aa 9) (Aa 7))) (gc (.int 26)))) [iv c,iv n,vl (.str L),iv m,iv w,iv a,vl (.lst ((BK c w.toNat).map T.str)),iv st,some (.own (.lst ((nms c i).map T.str))),iv (i:Int),x10] =
   .nx [iv c,iv n,vl (.str L),iv m,iv w,iv a,vl (.lst ((BK c w.toNat).map T.str)),iv st,some (.own (.lst ((nms c i).map T.str))),iv (i:Int),vl (.str ⟨#[Nm.one c i]⟩)]:=by
  rw [e10]
  exact AE (Ae (Ab rfl) (Ae (Ae (Ae (Ab rfl) Aw (CJ ⟨by decide,by decide⟩)) (Ae (Ab rfl) (Ab rfl) (E0 ⟨by omega,by omega⟩)) A0) Aw (Bf (by decide))) (gIxU_str hL2 (hL _))) (Bt rfl hx)
 rw [Bj s1]
 have hc:=eqI_ok (fa:=Ad Bd (Ad BZ (Aa 3) (gc (.int 900))) (gc (.int 3))) (fb:=gc (.int 1)) (fs:=[iv c,iv n,vl (.str L),iv m,iv w,iv a,vl (.lst ((BK c w.toNat).map T.str)),iv st,some (.own (.lst ((nms c i).map T.str))),iv (i:Int),vl (.str ⟨#[Nm.one c i]⟩)])
  (Ae (Ae (Ab (t:=.int m) rfl) Aw (CJ ⟨by decide,by decide⟩)) Aw (Bf (by decide))) Aw
 by_cases h1:m / 900 % 3=1
 ·rw [decide_eq_true h1] at hc
  have hwn:0 < w.toNat:=by omega
  have eb:((BK c w.toNat).map T.str)[0]?=some (T.str ⟨#[Nm.base c 0]⟩):=by
   unfold BK
   rw [List.map_map,List.getElem?_map,List.getElem?_range hwn]
   rfl
  refine Fh hc (app_ok (t:=.str (Txt.mul ⟨#[Nm.base c 0]⟩ (((i:Int)+m / 7) % 12+1))) rfl (Ae (Ae (Ab rfl) Aw (Bx (i:=0) rfl (Bm eb))) (Ae (Ae (Ae (Ab rfl) (Ae (Ab rfl) Aw (CJ ⟨by decide,by decide⟩)) A0) Aw (Bf (by decide))) Aw A0) (gMulU_s ⟨rfl,by omega,by omega⟩)) elen ?_)
  rw [enm _ (by rw [mul_codes _ _ (by omega),Nm.codes,<- hm,if_pos h1,Nm.codesA,<- hm])]
  rfl
 ·rw [decide_eq_false h1] at hc
  have el:((BK c w.toNat).map T.str).length=w.toNat:=by unfold BK;rw [List.length_map,List.length_map,List.length_range]
  have et:((BK c w.toNat).map T.str).take a.toNat=((List.range a.toNat).map fun j=>(⟨#[Nm.base c j]⟩:Str)).map T.str:=by
   rw [<- List.map_take,baseL_take c _ _ (by omega)]
   rfl
  have ed:((BK c w.toNat).map T.str).drop (a+1).toNat=((List.range (w.toNat - (a+1).toNat)).map fun j=>(⟨#[Nm.base c ((a+1).toNat+j)]⟩:Str)).map T.str:=by
   rw [<- List.map_drop,baseL_drop]
  have j1:=slf_take (f:=Aa 6) (g:=Aa 5) (fs:=[iv c,iv n,vl (.str L),iv m,iv w,iv a,vl (.lst ((BK c w.toNat).map T.str)),iv st,some (.own (.lst ((nms c i).map T.str))),iv (i:Int),vl (.str ⟨#[Nm.one c i]⟩)]) (Ab rfl) (Ab (t:=.int a) rfl) a0 (by rw [el];omega)
  have j2:=slf_drop (f:=Aa 6) (g:=Ad Ar (Aa 5) (gc (.int 1))) (fs:=[iv c,iv n,vl (.str L),iv m,iv w,iv a,vl (.lst ((BK c w.toNat).map T.str)),iv st,some (.own (.lst ((nms c i).map T.str))),iv (i:Int),vl (.str ⟨#[Nm.one c i]⟩)]) (v:=a+1) (Ab rfl) (Ae (Ab (t:=.int a) rfl) Aw A0) (by omega) (by rw [el];omega)
  rw [et] at j1
  rw [ed] at j2
  have l1:(Txt.join (⟨#[]⟩:Str) ((List.range a.toNat).map fun j=>(⟨#[Nm.base c j]⟩:Str))).length=a.toNat:=by rw [join_len,List.length_range]
  have l2:(Txt.join (⟨#[]⟩:Str) ((List.range (w.toNat - (a+1).toNat)).map fun j=>(⟨#[Nm.base c ((a+1).toNat+j)]⟩:Str))).length=w.toNat - (a+1).toNat:=by
   rw [join_len (fun j=>Nm.base c ((a+1).toNat+j)),List.length_range]
  refine Dd hc (app_ok (t:=.str ((Txt.join (⟨#[]⟩:Str) ((List.range a.toNat).map fun j=>(⟨#[Nm.base c j]⟩:Str))++(⟨#[Nm.one c i]⟩:Str))++Txt.join (⟨#[]⟩:Str) ((List.range (w.toNat - (a+1).toNat)).map fun j=>(⟨#[Nm.base c ((a+1).toNat+j)]⟩:Str)))) rfl (Ae (Ae (joinM_ok j1 (by rw [List.length_range];omega)) (Ab rfl) (gAddU_s ?_)) (joinM_ok (g:=fun j=>Nm.base c ((a+1).toNat+j)) j2 (by rw [List.length_range];omega)) (gAddU_s ?_)) elen ?_)
  ·rw [l1]
   show a.toNat+1<=1000000
   omega
  ·rw [strLen_append,l1,l2]
   show a.toNat+1+_<=1000000
   omega
  ·rw [enm _ ?_]
   ·rfl
   ·have q1:=join_ones (Nm.base c) (List.range a.toNat)
    have q2:=join_ones (fun j=>Nm.base c ((a+1).toNat+j)) (List.range (w.toNat - (a+1).toNat))
    have ea:(a+1).toNat=a.toNat+1:=by omega
    show (((Txt.join (⟨#[]⟩:Str) _).cps++#[Nm.one c i])++(Txt.join (⟨#[]⟩:Str) _).cps).toList=_
    rw [Array.toList_append,Array.toList_append,q1,q2,Nm.codes,<- hm,if_neg h1,Nm.codesB,<- ha,<- hw,ea]
theorem for1_ok {n:Nat} {fa:FS->Out (List Rv)} {gt:T->FS->Option FS} {body:FS->SO} {fs:FS} {r:SO} (e:fa fs=.ok [.t (.int (n:Int))] fs) (h:n < 2 ^ 62) (ef:Eo gt body (FL.upTo 0 n) fs=r):Gu (itR1 fa) gt body fs=r:=by
 unfold Gu
 rw [DM e ⟨by omega,by omega⟩,Int.toNat_natCast]
 exact ef
theorem names_body {c:Int} {n:Nat} (hn:n<=12) (hb:Builtin.Int.intBits c<=2 ^ 20):∃ x2 x3 x4 x5 x6 x7 x9 x10,DW [iv c,iv n,none,none,none,none,none,none,none,none,none]=.ret (.rf 8) [iv c,iv n,x2,x3,x4,x5,x6,x7,some (.own (.lst ((nms c n).map T.str))),x9,x10]:=by
 have hb':Builtin.Int.intBits c<=2 ^ 26:=Nat.le_trans hb (by decide)
 have w0:=Nm.W_lo c
 have w1:=Nm.W_hi c
 have hL:∀ x:Int,atI ("abcdefghijklmnopqrstuvwxyz":Str).cps.toList (x % 26)=some (Nm.C9 x):=at_letter
 have hL2:("abcdefghijklmnopqrstuvwxyz":Str).length<=big:=abc_big
 unfold DW
 generalize ("abcdefghijklmnopqrstuvwxyz":Str)=L at hL hL2
 have s2:AK 2 (gc (.str L)) [iv c,iv n,none,none,none,none,none,none,none,none,none]=.nx [iv c,iv n,vl (.str L),none,none,none,none,none,none,none,none]:=AE Aw rfl
 have s3:AK 3 (Ad Bb (Ad Ar (Ad Ar (Ad Bb (Aa 0) (Aa 0)) (Aa 0)) (gc (.int 1))) (gc (.int 982451653))) [iv c,iv n,vl (.str L),none,none,none,none,none,none,none,none]=.nx [iv c,iv n,vl (.str L),iv (Nm.M c),none,none,none,none,none,none,none]:=by
  unfold Nm.M
  exact AE (Ae (Ae (Ae (Ae (Ab rfl) (Ab rfl) (gMulU_b ⟨hb',hb'⟩)) (Ab rfl) A0) Aw A0) Aw (gMulU_r ⟨by decide,by decide⟩)) rfl
 generalize hm:Nm.M c=m at s3
 have s4:AK 4 (Ad Ar (gc (.int 1)) (Ad Bd (Aa 3) (gc (.int 12)))) [iv c,iv n,vl (.str L),iv m,none,none,none,none,none,none,none]=.nx [iv c,iv n,vl (.str L),iv m,iv (Nm.W c),none,none,none,none,none,none]:=by
  unfold Nm.W
  rw [hm]
  exact AE (Ae Aw (Ae (Ab rfl) Aw (Bf (by decide))) A0) rfl
 generalize hw:Nm.W c=w at s4 w0 w1
 have s5:AK 5 (Ad Bd (Ad BZ (Aa 3) (gc (.int 12))) (Aa 4)) [iv c,iv n,vl (.str L),iv m,iv w,none,none,none,none,none,none]=.nx [iv c,iv n,vl (.str L),iv m,iv w,iv (Nm.At c),none,none,none,none,none]:=by
  unfold Nm.At
  rw [hm,hw]
  exact AE (Ae (Ae (Ab rfl) Aw (CJ ⟨by decide,by decide⟩)) (Ab rfl) (Bf (by omega))) rfl
 generalize ha:Nm.At c=a at s5
 have s6:=AE (i:=6) (fs':=[iv c,iv n,vl (.str L),iv m,iv w,iv a,vl (.lst ((BK c w.toNat).map T.str)),none,none,none,none]) (nm_base hL2 hL (c:=c) (w:=w) (by omega) w1 m a hm.symm (iv c) (iv n) none none none none none) rfl
 have s7:AK 7 (Ad AN (AD Bs (Ac (gc (.int 1)) (Ac (gc (.int 3)) (Ac (gc (.int 5)) (Ac (gc (.int 7)) (Ac (gc (.int 9)) (Ac (gc (.int 11)) Ao))))))) (Ad Bd (Ad BZ (Aa 3) (gc (.int 144))) (gc (.int 6)))) [iv c,iv n,vl (.str L),iv m,iv w,iv a,vl (.lst ((BK c w.toNat).map T.str)),none,none,none,none]=.nx [iv c,iv n,vl (.str L),iv m,iv w,iv a,vl (.lst ((BK c w.toNat).map T.str)),iv (Nm.step c),none,none,none]:=by
  have e:=at_stepT c
  rw [hm] at e
  exact AE (Ae (Cf rfl rfl (by decide)) (Ae (Ae (Ab rfl) Aw (CJ ⟨by decide,by decide⟩)) Aw (Bf (by decide))) (Bx rfl e)) rfl
 generalize hst:Nm.step c=st at s7
 have s8:AK 8 (AD En Ao) [iv c,iv n,vl (.str L),iv m,iv w,iv a,vl (.lst ((BK c w.toNat).map T.str)),iv st,none,none,none]=.nx [iv c,iv n,vl (.str L),iv m,iv w,iv a,vl (.lst ((BK c w.toNat).map T.str)),iv st,some (.own (.lst [])),none,none]:=rfl
 have hloop:=Gs (gt:=tgN 9) (body:=(AW (AK 10 (Ad AN (Aa 2) (Ad Bd (Ad Ar (Ad BZ (Aa 3) (gc (.int 864))) (Ad Bb (Aa 9) (Aa 7))) (gc (.int 26)))))
  (ifS (asB (Ad (BD false) (Ad Bd (Ad BZ (Aa 3) (gc (.int 900))) (gc (.int 3))) (gc (.int 1)))) (BE (Bk D6 (Aa 8) (Ac (Ad Bb (Ad AN (Aa 6) (gc (.int 0))) (Ad Ar (Ad Bd (Ad Ar (Aa 9) (Ad BZ (Aa 3) (gc (.int 7)))) (gc (.int 12))) (gc (.int 1)))) Ao))) (BE (Bk D6 (Aa 8) (Ac (Ad Ar (Ad Ar (fz (El E1 (gc (.str ("":Str))) (Ac (slF (Aa 6) noP (AU (Aa 5))) Ao))) (Aa 10)) (fz (El E1 (gc (.str ("":Str))) (Ac (slF (Aa 6) (AU (Ad Ar (Aa 5) (gc (.int 1)))) noP) Ao)))) Ao))))))
  (fun ts fs=>∃ (i:Nat) (x9 x10:Option Sl),fs=[iv c,iv n,vl (.str L),iv m,iv w,iv a,vl (.lst ((BK c w.toNat).map T.str)),iv st,some (.own (.lst ((nms c i).map T.str))),x9,x10]/\Fre x9/\Fre x10/\i<=n/\ts=(FL.upTo 0 n).drop i) (fun t' ts fs h=>?_) (FL.upTo 0 n) [iv c,iv n,vl (.str L),iv m,iv w,iv a,vl (.lst ((BK c w.toNat).map T.str)),iv st,some (.own (.lst [])),none,none]
  ⟨0,none,none,rfl,AI,AI,Nat.zero_le _,rfl⟩
 ·obtain ⟨fs',ef,i,x9,x10,rfl,_,_,hi,hd⟩:=hloop
  have hi2:i=n:=by
   have:=congrArg List.length hd
   simp [FL.upTo] at this
   omega
  subst hi2
  refine ⟨vl (.str L),iv m,iv w,iv a,vl (.lst ((BK c w.toNat).map T.str)),iv st,x9,x10,?_⟩
  rw [Bj s2,Bj s3,Bj s4,Bj s5,Bj s6,Bj s7,Bj s8]
  rw [Bj (for1_ok (n:=i) (fa:=Ac (Aa 1) Ao) (Az (Ab rfl) rfl) (by omega) ef)]
  rfl
 ·obtain ⟨i,x9,x10,rfl,f9,f10,hi,hd⟩:=h
  have hlt:i < n:=by
   have:=congrArg List.length hd
   simp [FL.upTo] at this
   omega
  have hc:=List.drop_eq_getElem_cons (l:=FL.upTo 0 n) (i:=i) (by simp [FL.upTo];exact hlt)
  rw [hc] at hd
  obtain ⟨e1,e2⟩:=List.cons.inj hd
  have e3:t'=T.int (i:Int):=by
   rw [e1]
   simp [FL.upTo]
  subst e3
  obtain ⟨y10,fy,e⟩:=nm_turn hL2 hL (c:=c) (m:=m) (w:=w) (a:=a) (st:=st) (n:=n) (i:=i) hm.symm hw.symm ha.symm hst.symm (by omega) x10 f10
  exact ⟨_,_,(by unfold tgN;exact Bt rfl f9),e,i+1,_,_,rfl,Bu,fy,hlt,e2⟩
theorem names {c:Int} {n:Nat} (hn:n<=12) (hb:Builtin.Int.intBits c<=2 ^ 20):CT [iv c,iv n]=.ok (.nw (.lst ((nms c n).map T.str))) [iv c,iv n]:=by
 obtain ⟨x2,x3,x4,x5,x6,x7,x9,x10,e⟩:=names_body hn hb
 unfold CT Dt
 show (match DW [iv c,iv n,none,none,none,none,none,none,none,none,none] with | .nx τ=>_ | .ret (.t t) τ=>_ | .ret (.nw o) τ=>_ | .ret (.rf i) τ=>_ | .exc c τ=>_ | _=>_)=_
 rw [e]
 rfl
theorem cell_at (ns:List Int) (k:Nat):Ba [vl (.scr (ns.map T.int)),iv k]=.ok (.t (.int (ns.getD k 0))) [vl (.scr (ns.map T.int)),iv k]:=by
 have hl:asB (Ad gLt (Aa 1) (Ak Be (Ac (Aa 0) Ao))) [vl (.scr (ns.map T.int)),iv k]=.ok (decide ((k:Int) < ((ns.map T.int).length:Int))) [vl (.scr (ns.map T.int)),iv k]:=rfl
 unfold Ba Dt
 show (match CO [vl (.scr (ns.map T.int)),iv k] with | .nx τ=>_ | .ret (.t t) τ=>_ | .ret (.nw o) τ=>_ | .ret (.rf i) τ=>_ | .exc c τ=>_ | _=>_)=_
 have e:CO [vl (.scr (ns.map T.int)),iv k]=.ret (.t (.int (ns.getD k 0))) [vl (.scr (ns.map T.int)),iv k]:=by
  unfold CO
  by_cases h:(k:Int) < ((ns.map T.int).length:Int)
  ·rw [decide_eq_true h] at hl
   have h':k < ns.length:=by rw [List.length_map] at h;omega
   have e2:retS (Ad AN (Aa 0) (fz (Aa 1))) [vl (.scr (ns.map T.int)),iv k]=.ret (.t (.int (ns.getD k 0))) [vl (.scr (ns.map T.int)),iv k]:=by
    have:=Ae (g:=AN) (fa:=Aa 0) (fb:=fz (Aa 1)) (fs:=[vl (.scr (ns.map T.int)),iv k]) (Ab rfl) (AJ (Ab rfl)) (gIxU_I (ns:=ns) (i:=(k:Int)) (.inl rfl) (by omega) (by omega))
    unfold retS
    rw [this,Int.toNat_natCast]
    rfl
   unfold AW
   rw [Fh hl e2]
  ·rw [decide_eq_false h] at hl
   have h':ns.length<=k:=by rw [List.length_map] at h;omega
   rw [Bj (Dd (h:=nxS) (fs:=[vl (.scr (ns.map T.int)),iv k]) (r:=.nx [vl (.scr (ns.map T.int)),iv k]) hl rfl)]
   have:ns.getD k 0=0:=by simp [List.getD,h']
   rw [this]
   rfl
 rw [e]
 rfl
open PySem PySem.Spec L2 FL
theorem bin2_st {g:Rv->Rv->FS->Out Rv} {fa fb:FS->Out Rv} {fs fs1 fs2:FS} {x y:T} {r:Out Rv} (h1:fa fs=.ok (.t x) fs1) (h2:fb fs1=.ok (.t y) fs2) (h3:g (.t x) (.t y) fs2=r):Ad g fa fb fs=r:=by
 unfold Ad
 rw [h1]
 show (fb fs1).bnd _=r
 rw [h2]
 exact h3
theorem HV {i:Nat} {f:FS->Out Rv} {fs fs1 fs':FS} {t:T} (h:f fs=.ok (.t t) fs1) (hs:HL i (.t t) fs1=some fs'):AK i f fs=.nx fs':=by
 unfold AK
 rw [h]
 show (match HL i (.t t) fs1 with | some fs=>SO.nx fs | none=>.bad)=_
 rw [hs]
theorem Bz {f:FS->Out Rv} {g:FS->Out (List Rv)} {fs fs1 fs2:FS} {t:T} {rs:List Rv} (h1:f fs=.ok (.t t) fs1) (h2:g fs1=.ok rs fs2):Ac f g fs=.ok (.t t :: rs) fs2:=by
 unfold Ac
 rw [h1]
 show (g fs1).bind _=_
 rw [h2]
 rfl
theorem BR {g:List T->FS->Out Rv} {fa:FS->Out (List Rv)} {fs fs1:FS} {rs:List Rv} {ts:List T} {r:Out Rv} (h:fa fs=.ok rs fs1) (h2:allT rs=some ts) (h3:ts.length<=big) (e:g ts fs1=r):AD g fa fs=r:=by
 unfold AD
 rw [h]
 show (match allT rs with | some ts=>_ | none=>_)=_
 rw [h2]
 exact (if_pos h3).trans e
theorem CS {f:FS->Out Rv} {fs fs1:FS} {t:T} (h:f fs=.ok (.t t) fs1):fz f fs=.ok (.t t) fs1:=by
 unfold fz
 rw [h]
 rfl
theorem popB_ok {i:Nat} {fs fs':FS} {t:T} {ts:List T} (h0:fs[i]?=some (some (.bor (.lst (ts++[t]))))) (e:fs.set i (some (.bor (.lst ts)))=fs'):fz (Bk gPop (Aa i) Ao) fs=.ok (.t t) fs':=by
 have h1:Aa i fs=.ok (.rf i) fs:=by unfold Aa;rw [h0]
 have h2:FL.A9 fs i=some (.lst (ts++[t])):=by unfold FL.A9;rw [h0]
 have h3:CZ fs (.rf i)=some (ts++[t]):=by simp only [CZ,h2]
 have h5:gPop (.rf i) [] fs=.ok (.t t) fs':=by
  have:FL.putAt fs i (.lst ts)=fs':=by
   unfold FL.putAt
   rw [h0]
   exact e
  simp only [gPop,h2,List.getLast?_concat,List.dropLast_concat,this,okT]
 refine CS ?_
 unfold Bk
 rw [h1]
 show (if (CZ fs (.rf i)).isSome=true then _ else _)=_
 rw [h3,if_pos (show (some (ts++[t])).isSome=true from rfl)]
 exact h5
open PySem PySem.Spec L2 FL
theorem A6 {f:FS->Out Rv} {fs fs1:FS} {r:Rv} (h:f fs=.ok r fs1):retS f fs=.ret r fs1:=by
 unfold retS
 rw [h]
 rfl
theorem Gb {g h:FS->SO} {fs fs':FS} {r:Rv} (e:g fs=.ret r fs'):AW g h fs=.ret r fs':=by unfold AW;rw [e]
open PySem PySem.Spec L2 FL
open PySem PySem.Spec L2 FL
theorem An {f:FS->Out Rv} {g:FS->Out (List Rv)} {fs fs1 fs2:FS} {r:Rv} {rs:List Rv} (h1:f fs=.ok r fs1) (h2:g fs1=.ok rs fs2):Ai f g fs=.ok (r :: rs) fs2:=by
 unfold Ai
 rw [h1]
 show (g fs1).bind _=_
 rw [h2]
 rfl
theorem GC {p:Nat} {Fn:FS->Out Rv} {fa:FS->Out (List Rv)} {fs fs1 fs' τ:FS} {rs:List Rv} {t:T} (ha:fa fs=.ok rs fs1) (hp:rs.length=p) (hn:(Dc fs1 (rs.map CQ)).Nodup) (hf:Fn (D2 fs1 (rs.map CQ))=.ok (.t t) τ) (hb:Fl (rs.map CQ) τ fs1=some fs') :
  Ak (Am p Fn) fa fs=.ok (.t t) fs':=by
 unfold Ak
 rw [ha]
 show Am p Fn rs fs1=_
 unfold Am
 rw [if_pos hp]
 unfold FQ
 rw [if_pos hn,hf]
 dsimp only
 rw [hb]
theorem EA {p:Nat} {Fn:FS->Out Rv} {fa:FS->Out (List Rv)} {fs fs1 fs' τ:FS} {rs:List Rv} {o:FO} (ha:fa fs=.ok rs fs1) (hp:rs.length=p) (hn:(Dc fs1 (rs.map CQ)).Nodup) (hf:Fn (D2 fs1 (rs.map CQ))=.ok (.nw o) τ) (hb:Fl (rs.map CQ) τ fs1=some fs') :
  Ak (Am p Fn) fa fs=.ok (.nw o) fs':=by
 unfold Ak
 rw [ha]
 show Am p Fn rs fs1=_
 unfold Am
 rw [if_pos hp]
 unfold FQ
 rw [if_pos hn,hf]
 dsimp only
 rw [hb]
theorem app_st {i:Nat} {f:FS->Out Rv} {fs fs1 fs':FS} {t:T} {us ts:List T} (h0:fs[i]?=some (some (.own (.lst us)))) (h:f fs=.ok (.t t) fs1) (h0':fs1[i]?=some (some (.own (.lst ts)))) (hl:ts.length < big) (e:fs1.set i (some (.own (.lst (ts++[t]))))=fs'):BE (Bk D6 (Aa i) (Ac f Ao)) fs=.nx fs':=by
 have h1:Aa i fs=.ok (.rf i) fs:=by unfold Aa;rw [h0]
 have h2:FL.A9 fs i=some (.lst us):=by unfold FL.A9;rw [h0]
 have h2':FL.A9 fs1 i=some (.lst ts):=by unfold FL.A9;rw [h0']
 have h3:CZ fs (.rf i)=some us:=by simp only [CZ,h2]
 have h4:Ac f Ao fs=.ok [.t t] fs1:=Bz h rfl
 have h5:D6 (.rf i) [.t t] fs1=.ok (.t .non) fs':=by
  simp only [D6,h2']
  rw [if_pos hl]
  have:FL.putAt fs1 i (.lst (ts++[t]))=fs':=by
   unfold FL.putAt
   rw [h0']
   exact e
  rw [this]
 have h6:Bk D6 (Aa i) (Ac f Ao) fs=.ok (.t .non) fs':=by
  unfold Bk
  rw [h1]
  show (if (CZ fs (.rf i)).isSome=true then _ else _)=_
  rw [h3,if_pos (show (some us).isSome=true from rfl),h4]
  exact h5
 unfold BE
 rw [h6]
 rfl
open PySem PySem.Spec L2 FL
theorem last1 {α:Type} {xs:List α} (h:1<=xs.length):∃ e z,xs=e++[z]/\e.length+1=xs.length:=by
 have hne:xs≠[]:=by intro q;rw [q] at h;simp at h
 exact ⟨xs.dropLast,xs.getLast hne,(List.dropLast_concat_getLast hne).symm,by rw [List.length_dropLast];omega⟩
open PySem PySem.Spec L2 FL
open PySem PySem.Spec L2 FL
theorem HW {i:Nat} {f:FS->Out Rv} {fs fs1 fs':FS} {o:FO} (h:f fs=.ok (.nw o) fs1) (hs:HL i (.nw o) fs1=some fs'):AK i f fs=.nx fs':=by
 unfold AK
 rw [h]
 show (match HL i (.nw o) fs1 with | some fs=>SO.nx fs | none=>.bad)=_
 rw [hs]
theorem fz_nw {f:FS->Out Rv} {fs fs1:FS} {o:FO} (h:f fs=.ok (.nw o) fs1):fz f fs=.ok (.t (toT o)) fs1:=by
 unfold fz
 rw [h]
 rfl
open PySem PySem.Spec L2 FL
theorem nms_len (c:Int) (n:Nat):(nms c n).length=n:=by unfold nms;simp
open PySem PySem.Spec L2 FL
open PySem PySem.Spec L2 FL
theorem sq {g h:FS->SO} {fs fs':FS} {r:SO} (e:g fs=.nx fs') (e2:h fs'=r):AW g h fs=r:=(Bj e).trans e2
theorem Fe {f:FS->Out Rv} {fs fs1:FS} {b:Bool} (h:f fs=.ok (.t (.bl b)) fs1):asB f fs=.ok b fs1:=by
 unfold asB;rw [h];rfl
theorem EU {f:FS->Out Bool} {fs fs1:FS} {b:Bool} (h:f fs=.ok b fs1):C8 f fs=.ok (!b) fs1:=by
 unfold C8;rw [h];rfl
theorem EJ {f:FS->Out Rv} {fs fs1:FS} {b:Bool} (h:f fs=.ok (.t (.bl b)) fs1):DK f fs=.ok b fs1:=by
 unfold DK;rw [h];rfl
theorem Ez {i:Nat} {fs:FS} {o:FO} (h:fs[i]?=some (some (.own o))):Aa i fs=.ok (.rf i) fs:=by unfold Aa;rw [h]
theorem gvar_rfB {i:Nat} {fs:FS} {o:FO} (h:fs[i]?=some (some (.bor o))):Aa i fs=.ok (.rf i) fs:=by unfold Aa;rw [h]
theorem objO {i:Nat} {fs:FS} {o:FO} (h:fs[i]?=some (some (.own o))):FL.A9 fs i=some o:=by unfold FL.A9;rw [h]
theorem Cw {x:T} {ts:List T} {f:FS->Out Rv} {fs fs1:FS} (h:f fs=.ok (.t x) fs1) (hs:x=.lst ts∨x=.tup ts):Ak Be (Ac f Ao) fs=.ok (.t (.int ts.length)) fs1:=by
 unfold Ak
 rw [Bz h (show Ao fs1=.ok [] fs1 from rfl)]
 rcases hs with rfl | rfl <;> rfl
theorem Dz {p:Nat} {Fn:FS->Out Rv} {fa:FS->Out (List Rv)} {fs fs1 τ:FS} {rs:List Rv} {t:T} (ha:fa fs=.ok rs fs1) (hp:rs.length=p) (hn:Dc fs1 (rs.map CQ)=[]) (hf:Fn (D2 fs1 (rs.map CQ))=.ok (.t t) τ):Ak (Am p Fn) fa fs=.ok (.t t) fs1 :=
 GC ha hp (by rw [hn];exact List.nodup_nil) hf (BX hn)
theorem AA {fs:FS}:Ao fs=.ok [] fs:=rfl
open PySem PySem.Spec L2 FL
open PySem PySem.Spec L2 FL
open PySem PySem.Spec L2 FL
open PySem PySem.Spec L2 FL
theorem gEq_n {x y:Nat} {fs:FS}:gEq false (.t (.int (x:Int))) (.t (.int (y:Int))) fs=.ok (.t (.bl (decide (x=y)))) fs:=by
 have q:decide (V.int (x:Int)=V.int (y:Int))=decide (x=y):=by
  by_cases h:x=y
  ·subst h;simp
  ·rw [decide_eq_false h,decide_eq_false (by intro z;cases z;exact h (by omega))]
 show (if scal (V.int (x:Int)) (V.int (y:Int))=true then okT (.bl (if false=true then _ else decide (V.int (x:Int)=V.int (y:Int)))) fs else .bad)=_
 rw [if_pos (show scal (V.int (x:Int)) (V.int (y:Int))=true from rfl),q]
 rfl
open PySem PySem.Spec L2 FL
open PySem PySem.Spec L2 FL
theorem Ho {gt:T->FS->Option FS} {body:FS->SO} {t:T} {ts:List T} {fs fs1 fs2:FS} (h1:gt t fs=some fs1) (h2:body fs1=.nx fs2):Eo gt body (t :: ts) fs=Eo gt body ts fs2:=by
 simp only [Eo,h1,h2]
open PySem PySem.Spec L2 FL
theorem GD {g:List Rv->FS->Out Rv} {fa:FS->Out (List Rv)} {fs fs1:FS} {rs:List Rv} {r:Out Rv} (h:fa fs=.ok rs fs1) (h2:g rs fs1=r):Ak g fa fs=r:=by
 unfold Ak
 rw [h]
 exact h2
open PySem PySem.Spec L2 FL
theorem bin2_rf1 {g:Rv->Rv->FS->Out Rv} {fa fb:FS->Out Rv} {fs:FS} {y:T} {i:Nat} {r:Out Rv} (h1:fa fs=.ok (.rf i) fs) (h2:fb fs=.ok (.t y) fs) (h3:g (.rf i) (.t y) fs=r):Ad g fa fb fs=r:=by
 unfold Ad
 rw [h1]
 show (fb fs).bnd _=r
 rw [h2]
 exact h3
theorem setL_ok {fv fi:FS->Out Rv} {o:Nat} {fs fs':FS} {v:T} {k:Int} {j:Nat} {ts:List T} (hv:fv fs=.ok (.t v) fs) (h0:fs[o]?=some (some (.own (.lst ts)))) (hi:fi fs=.ok (.t (.int k)) fs) (hj:ixN ts.length k=some j) (e:fs.set o (some (.own (.lst (ts.set j v))))=fs'):setItS fv (Aa o) fi fs=.nx fs':=by
 have h1:Aa o fs=.ok (.rf o) fs:=Ez h0
 have h2:FL.A9 fs o=some (.lst ts):=objO h0
 have h4:FL.putAt fs o (.lst (ts.set j v))=fs':=by
  unfold FL.putAt
  rw [h0]
  exact e
 have h5:gSetL (.rf o) (.t (.int k)) (.t v) fs=.nx fs':=by
  simp only [gSetL,h2,hj,h4]
 unfold setItS
 rw [hv]
 simp only [Out.bnd,Out.bind]
 rw [h1]
 simp only
 rw [hi]
 simp only [SO.of]
 unfold gSetU
 rw [h5]
theorem seq_rf {fs:FS} {i:Nat} {ts:List T} (h:fs[i]?=some (some (.own (.lst ts)))):CZ fs (.rf i)=some ts:=by simp only [CZ,objO h]
theorem Hy {ps us:List T} {fs:FS} (h:ps.length+us.length<=big):Ar (.t (.tup ps)) (.t (.tup us)) fs=.ok (.t (.tup (ps++us))) fs:=by
 cases ps with
 | nil=>rfl
 | cons p ps =>
  have:gCatT (.t (.tup (p :: ps))) (.t (.tup us)) fs=.ok (.t (.tup (p :: ps++us))) fs:=if_pos ⟨by simp,h⟩
  show (match gCatT (.t (.tup (p :: ps))) (.t (.tup us)) fs with | .bad=>_ | o=>o)=_
  rw [this]
def exN (s:Str):T:=.tup [.str "name",.str s]
def exP (h s:Str) (ts:List T):T:=.tup [.str h,.str s,.tup ts]
def Ex:Nat->T->Prop
 | 0,t=>∃ s,t=exN s
 | d+1,t=>(∃ s,t=exN s)∨∃ h s ts,(h=("make":Str)∨h=("call":Str))/\t=exP h s ts/\ts.length<=3/\∀ x∈ts,Ex d x
theorem Ex.up1:∀ {d:Nat} {t:T},Ex d t->Ex (d+1) t
 | 0,_,h=>.inl h
 | d+1,_,h=>by
  rcases h with h | ⟨a,s,ts,ha,e,hl,hx⟩
  ·exact .inl h
  ·exact .inr ⟨a,s,ts,ha,e,hl,fun x m=>(hx x m).up1⟩
theorem Ex.up {d e:Nat} {t:T} (h:Ex d t) (l:d<=e):Ex e t:=by
 induction e with
 | zero =>
  have:d=0:=by omega
  subst this
  exact h
 | succ e ih =>
  by_cases q:d=e+1
  ·subst q;exact h
  ·exact (ih (by omega)).up1
theorem eqV_i {fa fb:FS->Out Rv} {fs:FS} {i j:Int} (h1:fa fs=.ok (.t (.int i)) fs) (h2:fb fs=.ok (.t (.int j)) fs):asB (Ad (BD false) fa fb) fs=.ok (decide (i=j)) fs:=eqI_ok h1 h2
theorem orT_t {f g:FS->Out Bool} {fs:FS} (h:f fs=.ok true fs):orT f g fs=.ok true fs:=by
 unfold orT
 rw [h]
 rfl
theorem Fg {f g:FS->Out Bool} {fs:FS} {r:Out Bool} (h:f fs=.ok false fs) (h2:g fs=r):orT f g fs=r:=by
 unfold orT
 rw [h]
 exact h2
def nd:Nat->Nat
 | 0=>1
 | d+1=>1+3 * nd d
theorem ix_mod {L:List Str} (hL:L≠[]) (x:Int):∃ s,s∈L/\atI (L.map T.str) (x % (L.length:Int))=some (.str s):=by
 have h0:0 < L.length:=List.length_pos_iff.mpr hL
 have h1:=Int.emod_lt_of_pos x (show (0:Int) < L.length by omega)
 have h2:=Int.emod_nonneg x (show (L.length:Int)≠0 by omega)
 obtain ⟨i,hi⟩:∃ i:Nat,x % (L.length:Int)=i:=⟨(x % (L.length:Int)).toNat,by omega⟩
 have hlt:i < L.length:=by omega
 refine ⟨L[i],List.getElem_mem hlt,?_⟩
 rw [hi]
 exact Bm (by rw [List.getElem?_map,List.getElem?_eq_getElem hlt];rfl)
theorem at_cnt (x:Int):∃ k:Nat,k<=3/\atI [T.int 0,T.int 1,T.int 2,T.int 3,T.int 1,T.int 2] (x % 6)=some (.int k):=by
 have h1:=Int.emod_lt_of_pos x (show (0:Int) < 6 by omega)
 have h2:=Int.emod_nonneg x (show (6:Int)≠0 by omega)
 obtain ⟨i,hi⟩:∃ i:Nat,x % 6=i:=⟨(x % 6).toNat,by omega⟩
 have hlt:i < 6:=by omega
 rw [hi]
 have:∃ k:Nat,k<=3/\([T.int 0,T.int 1,T.int 2,T.int 3,T.int 1,T.int 2]:List T)[i]?=some (.int k):=by
  rcases i with _ | _ | _ | _ | _ | _ | i
  ·exact ⟨0,by omega,rfl⟩
  ·exact ⟨1,by omega,rfl⟩
  ·exact ⟨2,by omega,rfl⟩
  ·exact ⟨3,by omega,rfl⟩
  ·exact ⟨1,by omega,rfl⟩
  ·exact ⟨2,by omega,rfl⟩
  ·omega
 obtain ⟨k,hk,e⟩:=this
 exact ⟨k,hk,Bm e⟩
theorem at_head (x:Int):∃ h:Str,(h="make"∨h="call")/\atI [T.str "make",T.str "call"] (x % 2)=some (.str h):=by
 rcases (show x % 2=0∨x % 2=1 by omega) with h | h
 ·rw [h];exact ⟨"make",.inl rfl,Bm (j:=0) rfl⟩
 ·rw [h];exact ⟨"call",.inr rfl,Bm (j:=1) rfl⟩
section
variable {L:List Str} {rec:FS->Out Rv} {d c:Nat} {down z:Int}
abbrev wS (L:List Str) (ds:List Int) (down z:Int) (ts:List T) (x:Option Sl):FS:=[vl (.lst (L.map T.str)),some (.bor (.lst (ds.map T.int))),iv down,iv z,some (.own (.lst ts)),x]
theorem Fo (hr:∀ ds:List Int,c<=ds.length->∃ (t:T) (es:List Int),Ex d t/\ds.length<=es.length+c/\rec [vl (.lst (L.map T.str)),some (.bor (.lst (ds.map T.int))),iv (down - 1)]=.ok (.t t) [vl (.lst (L.map T.str)),some (.bor (.lst (es.map T.int))),iv (down - 1)]) :
  ∀ (us:List T) (ds:List Int) (x:Option Sl) (acc:List T),Fre x->c * us.length<=ds.length->acc.length+us.length<=1000 ->
  ∃ (ts:List T) (es:List Int) (y:Option Sl),(∀ t∈ts,Ex d t)/\ts.length=us.length/\ds.length<=es.length+c * us.length /\
   Eo (tgN 5) (BE (Bk D6 (Aa 4) (Ac (fz (Ak (Am 3 rec) (Ai (fz (Aa 0)) (Ai (Aa 1) (Ai (Ad Em (Aa 2) (gc (.int 1))) Ao))))) Ao))) us (wS L ds down z acc x)=.nx (wS L es down z (acc++ts) y)
 | [],ds,x,acc,_,_,_=>⟨[],ds,x,(fun _ m=>nomatch m),rfl,by omega,by simp [Eo]⟩
 | u :: us,ds,x,acc,fx,hd,ha=>by
  have hd':c+c * us.length<=ds.length:=by rw [List.length_cons,Nat.mul_add,Nat.mul_one] at hd;omega
  obtain ⟨t,es,h1,h2,h3⟩:=hr ds (by omega)
  obtain ⟨ts,es',y,g1,gl,g2,g3⟩:=Fo hr us es (vl u) (acc++[t]) Bu (by omega) (by simp at ha ⊢;omega)
  refine ⟨t :: ts,es',y,fun a m=>?_,by simp [gl],by rw [List.length_cons,Nat.mul_add,Nat.mul_one];omega,?_⟩
  ·rcases List.mem_cons.mp m with q | q
   ·rw [q];exact h1
   ·exact g1 a q
  ·have e1:tgN 5 u (wS L ds down z acc x)=some (wS L ds down z acc (vl u)):=by unfold tgN;exact Bt rfl fx
   have e2:fz (Ak (Am 3 rec) (Ai (fz (Aa 0)) (Ai (Aa 1) (Ai (Ad Em (Aa 2) (gc (.int 1))) Ao)))) (wS L ds down z acc (vl u))=.ok (.t t) (wS L es down z acc (vl u)) :=
    CS (GC (An (AJ (Ab (t:=.lst (L.map T.str)) rfl)) (An (gvar_rfB (i:=1) rfl) (An (Ae (Ab rfl) Aw gSub_i) AA))) rfl (by rw [show Dc _ _=[1] from rfl];simp) h3 rfl)
   have e3:=app_st (i:=4) (us:=acc) (ts:=acc) (t:=t) (fs':=wS L es down z (acc++[t]) (vl u)) (f:=fz (Ak (Am 3 rec) (Ai (fz (Aa 0)) (Ai (Aa 1) (Ai (Ad Em (Aa 2) (gc (.int 1))) Ao))))) rfl e2 rfl (by show _ < 1000000;simp at ha;omega) rfl
   rw [Ho e1 e3,g3]
   simp
end
theorem nd_pos:∀ d,1<=nd d
 | 0=>by simp [nd]
 | d+1=>by simp [nd]
theorem wild {L:List Str} (hL:L≠[]) (hl:L.length<=1000):∀ (n d:Nat) (down:Int) (ds:List Int),0<=down->down.toNat=d->d < n->nd d<=ds.length ->
  ∃ (t:T) (es:List Int),Ex d t/\ds.length<=es.length+nd d/\BA n [vl (.lst (L.map T.str)),some (.bor (.lst (ds.map T.int))),iv down]=.ok (.t t) [vl (.lst (L.map T.str)),some (.bor (.lst (es.map T.int))),iv down]
 | 0,d,down,ds,_,_,hn,_=>by omega
 | n+1,d,down,ds,h0,hdn,hn,hd=>by
  have hp:=nd_pos d
  obtain ⟨d1,z,rfl,hd1⟩:=last1 (xs:=ds) (by omega)
  have s3:AK 3 (fz (Bk gPop (Aa 1) Ao)) [vl (.lst (L.map T.str)),some (.bor (.lst ((d1++[z]).map T.int))),iv down,none,none,none]=.nx [vl (.lst (L.map T.str)),some (.bor (.lst (d1.map T.int))),iv down,iv z,none,none]:=by
   rw [List.map_append]
   exact HV (popB_ok (ts:=d1.map T.int) (t:=.int z) rfl rfl) rfl
  have len:∀ (ds:List Int) (x4 x5:Option Sl),Ak Be (Ac (Aa 0) Ao) [vl (.lst (L.map T.str)),some (.bor (.lst (ds.map T.int))),iv down,iv z,x4,x5]=.ok (.t (.int (L.length:Int))) [vl (.lst (L.map T.str)),some (.bor (.lst (ds.map T.int))),iv down,iv z,x4,x5]:=fun ds x4 x5=>by
   have:=Cw (f:=Aa 0) (fs:=[vl (.lst (L.map T.str)),some (.bor (.lst (ds.map T.int))),iv down,iv z,x4,x5]) (ts:=L.map T.str) (Ab rfl) (.inl rfl)
   rwa [List.length_map] at this
  have h0L:(0:Int) < L.length:=by have:=List.length_pos_iff.mpr hL;omega
  have ixn:∀ (ds:List Int) (x4 x5:Option Sl) (q:Int),0 < q->q < 1073741824->∃ s,Ad AN (Aa 0) (Ad Bd (Ad BZ (Aa 3) (gc (.int q))) (Ak Be (Ac (Aa 0) Ao))) [vl (.lst (L.map T.str)),some (.bor (.lst (ds.map T.int))),iv down,iv z,x4,x5]=.ok (.t (.str s)) [vl (.lst (L.map T.str)),some (.bor (.lst (ds.map T.int))),iv down,iv z,x4,x5]:=fun ds x4 x5 q hq hq2=>by
   obtain ⟨s,_,e⟩:=ix_mod hL (z / q)
   exact ⟨s,Ae (Ab rfl) (Ae (Ae (Ab rfl) Aw (CJ ⟨hq,hq2⟩)) (len ds x4 x5) (Bf h0L)) (Bx rfl e)⟩
  have c1:=eqV_i (fa:=Aa 2) (fb:=gc (.int 0)) (fs:=[vl (.lst (L.map T.str)),some (.bor (.lst (d1.map T.int))),iv down,iv z,none,none]) (Ab rfl) Aw
  have c2:=eqV_i (fa:=Ad Bd (Aa 3) (gc (.int 5))) (fb:=gc (.int 0)) (fs:=[vl (.lst (L.map T.str)),some (.bor (.lst (d1.map T.int))),iv down,iv z,none,none]) (Ae (Ab rfl) Aw (Bf (by omega))) Aw
  have run:∀ {t:T} {es:List Int} {y3 y4 y5:Option Sl},DH (BA n) [vl (.lst (L.map T.str)),some (.bor (.lst ((d1++[z]).map T.int))),iv down,none,none,none]=.ret (.t t) [vl (.lst (L.map T.str)),some (.bor (.lst (es.map T.int))),iv down,y3,y4,y5] ->
    BA (n+1) [vl (.lst (L.map T.str)),some (.bor (.lst ((d1++[z]).map T.int))),iv down]=.ok (.t t) [vl (.lst (L.map T.str)),some (.bor (.lst (es.map T.int))),iv down]:=fun {t es y3 y4 y5} k=>by
   show Dt 3 (DH (BA n)) _=_
   unfold Dt
   show (match DH (BA n) [vl (.lst (L.map T.str)),some (.bor (.lst ((d1++[z]).map T.int))),iv down,none,none,none] with | .nx τ=>_ | .ret (.t t) τ=>_ | .ret (.nw o) τ=>_ | .ret (.rf i) τ=>_ | .exc c τ=>_ | _=>_)=_
   rw [k]
   rfl
  by_cases hc:down=0∨z % 5=0
  ·obtain ⟨s,es⟩:=ixn d1 none none 5 (by omega) (by omega)
   have ct:orT (asB (Ad (BD false) (Aa 2) (gc (.int 0)))) (asB (Ad (BD false) (Ad Bd (Aa 3) (gc (.int 5))) (gc (.int 0)))) [vl (.lst (L.map T.str)),some (.bor (.lst (d1.map T.int))),iv down,iv z,none,none]=.ok true [vl (.lst (L.map T.str)),some (.bor (.lst (d1.map T.int))),iv down,iv z,none,none]:=by
    by_cases h:down=0
    ·rw [decide_eq_true h] at c1
     exact orT_t c1
    ·rw [decide_eq_false h] at c1
     rw [decide_eq_true (hc.resolve_left h)] at c2
     exact Fg c1 c2
   refine ⟨exN s,d1,?_,by simp;omega,run (y3:=iv z) (y4:=none) (y5:=none) ?_⟩
   ·exact (show Ex 0 (exN s) from ⟨s,rfl⟩).up (Nat.zero_le _)
   ·unfold DH
    refine sq s3 ?_
    unfold AW
    rw [Fh ct (A6 (BR (g:=Bg) (ts:=[.str "name",.str s]) (Bz Aw (Bz es AA)) rfl (show 2<=big by decide) rfl))]
    rfl
  ·have h1:¬ down=0:=fun h=>hc (.inl h)
   have h2:¬ z % 5=0:=fun h=>hc (.inr h)
   rw [decide_eq_false h1] at c1
   rw [decide_eq_false h2] at c2
   obtain ⟨e,rfl⟩:∃ e,d=e+1:=⟨d - 1,by omega⟩
   have hd2:1+3 * nd e<=d1.length+1:=by simpa [nd] using hd
   obtain ⟨k,hk,ek⟩:=at_cnt (z / 5)
   have hlen:(FL.upTo 0 k).length=k:=by simp [FL.upTo]
   have hck:nd e * k<=nd e * 3:=Nat.mul_le_mul_left _ hk
   obtain ⟨ts,es,y,g1,gl,g2,g3⟩:=Fo (L:=L) (rec:=BA n) (d:=e) (c:=nd e) (down:=down) (z:=z) (fun ds hds=>wild hL hl n e (down - 1) ds (by omega) (by omega) (by omega) hds) (FL.upTo 0 k) d1 none [] AI (by rw [hlen];omega) (by rw [hlen];simp;omega)
   rw [hlen] at gl g2
   rw [List.nil_append] at g3
   obtain ⟨s,e60⟩:=ixn es (some (.own (.lst ts))) y 60 (by omega) (by omega)
   obtain ⟨h,hh,eh⟩:=at_head (z / 30)
   have e30:Ad AN (AD Bs (Ac (gc (.str ("make":Str))) (Ac (gc (.str ("call":Str))) Ao))) (Ad Bd (Ad BZ (Aa 3) (gc (.int 30))) (gc (.int 2))) (wS L es down z ts y)=.ok (.t (.str h)) (wS L es down z ts y) :=
    Ae (Cf (ts:=[.str "make",.str "call"]) (Az Aw (Az Aw AA)) rfl (show 2<=big by decide)) (Ae (Ae (Ab rfl) Aw (CJ (by omega))) Aw (Bf (by omega))) (Bx rfl eh)
   have e5:Ad AN (AD Bs (Ac (gc (.int 0)) (Ac (gc (.int 1)) (Ac (gc (.int 2)) (Ac (gc (.int 3)) (Ac (gc (.int 1)) (Ac (gc (.int 2)) Ao))))))) (Ad Bd (Ad BZ (Aa 3) (gc (.int 5))) (gc (.int 6))) (wS L d1 down z [] none)=.ok (.t (.int k)) (wS L d1 down z [] none) :=
    Ae (Cf (ts:=[.int 0,.int 1,.int 2,.int 3,.int 1,.int 2]) (Az Aw (Az Aw (Az Aw (Az Aw (Az Aw (Az Aw AA)))))) rfl (show 6<=big by decide)) (Ae (Ae (Ab rfl) Aw (CJ (by omega))) Aw (Bf (by omega))) (Bx rfl ek)
   have s5:Gu (itR1 (Ac (Ad AN (AD Bs (Ac (gc (.int 0)) (Ac (gc (.int 1)) (Ac (gc (.int 2)) (Ac (gc (.int 3)) (Ac (gc (.int 1)) (Ac (gc (.int 2)) Ao))))))) (Ad Bd (Ad BZ (Aa 3) (gc (.int 5))) (gc (.int 6)))) Ao)) (tgN 5) (BE (Bk D6 (Aa 4) (Ac (fz (Ak (Am 3 (BA n)) (Ai (fz (Aa 0)) (Ai (Aa 1) (Ai (Ad Em (Aa 2) (gc (.int 1))) Ao))))) Ao))) (wS L d1 down z [] none)=.nx (wS L es down z ts y):=by
    have:=DM (fs:=wS L d1 down z [] none) (Az e5 AA) ⟨by omega,by omega⟩
    unfold Gu
    rw [this]
    rw [Int.toNat_natCast]
    exact g3
   refine ⟨exP h s ts,es,.inr ⟨h,s,ts,hh,rfl,by omega,g1⟩,?_,run (y3:=iv z) (y4:=some (.own (.lst ts))) (y5:=y) ?_⟩
   ·simp [nd]
    omega
   ·unfold DH
    refine sq s3 (sq (Dd (Fg c1 c2) rfl) (sq (fs':=wS L d1 down z [] none) (HW (o:=.lst []) rfl rfl) (sq s5 ?_)))
    exact A6 (BR (g:=Bg) (ts:=[.str h,.str s,.tup ts]) (Bz e30 (Bz e60 (Bz (GD (g:=EY) (rs:=[.rf 4]) rfl (r:=.ok (.t (.tup ts)) _) rfl) AA))) rfl (show 3<=big by decide) rfl)
inductive E where
 | nm (s:Str)
 | pt (h:Bool) (s:Str) (es:List E)
def hd (b:Bool):Str:=if b then "make" else "call"
mutual
def E.t:E->T
 | .nm s=>exN s
 | .pt h s es=>exP (hd h) s (E.ts es)
def E.ts:List E->List T
 | []=>[]
 | e :: es=>e.t :: E.ts es
end
mutual
def E.ok:Nat->E->Prop
 | _,.nm _=>True
 | 0,.pt _ _ _=>False
 | d+1,.pt _ _ es=>es.length<=3/\E.oks d es
def E.oks:Nat->List E->Prop
 | _,[]=>True
 | d,e :: es=>E.ok d e/\E.oks d es
end
theorem E.CW:∀ es:List E,E.ts es=es.map E.t
 | []=>by simp [E.ts]
 | e :: es=>by simp [E.ts,E.CW es]
theorem E.Co:∀ {d:Nat} {es:List E},E.oks d es->∀ e∈es,E.ok d e
 | _,[],_,e,m=>nomatch m
 | d,x :: es,h,e,m=>by
  simp only [E.oks] at h
  rcases List.mem_cons.mp m with rfl | m
  ·exact h.1
  ·exact E.Co h.2 e m
theorem E.Hf:∀ {d:Nat} {es:List E},(∀ e∈es,E.ok d e)->E.oks d es
 | _,[],_=>by simp [E.oks]
 | d,x :: es,h=>by
  simp only [E.oks]
  exact ⟨h x (by simp),E.Hf fun e m=>h e (List.mem_cons_of_mem _ m)⟩
theorem Ex.e:∀ {d:Nat} {t:T},Ex d t->∃ e:E,t=e.t/\E.ok d e
 | 0,t,⟨s,h⟩=>⟨.nm s,by simp [E.t,h],by simp [E.ok]⟩
 | d+1,t,h=>by
  rcases h with ⟨s,h⟩ | ⟨h,s,ts,hh,e,hl,hx⟩
  ·exact ⟨.nm s,by simp [E.t,h],by simp [E.ok]⟩
  ·have key:∀ ts:List T,(∀ x∈ts,Ex d x)->∃ es:List E,ts=es.map E.t/\∀ e∈es,E.ok d e:=by
    intro ts
    induction ts with
    | nil=>exact fun _=>⟨[],rfl,fun _ m=>nomatch m⟩
    | cons t ts ih =>
     intro hx
     obtain ⟨e,h1,h2⟩:=(hx t (by simp)).e
     obtain ⟨es,h3,h4⟩:=ih fun x m=>hx x (List.mem_cons_of_mem _ m)
     refine ⟨e :: es,by rw [h1,h3];rfl,fun x m=>?_⟩
     rcases List.mem_cons.mp m with rfl | m
     ·exact h2
     ·exact h4 x m
   obtain ⟨es,h3,h4⟩:=key ts hx
   have hb:∃ b,hd b=h:=by
    rcases hh with rfl | rfl
    ·exact ⟨true,rfl⟩
    ·exact ⟨false,rfl⟩
   obtain ⟨b,hb⟩:=hb
   refine ⟨.pt b s es,?_,?_⟩
   ·simp only [E.t,E.CW,hb]
    rw [e,h3]
   ·simp only [E.ok]
    refine ⟨by rw [h3,List.length_map] at hl;exact hl,E.Hf h4⟩
theorem hd_ne (b:Bool):hd b≠("name":Str):=by cases b <;> decide
theorem eqV_s {fa fb:FS->Out Rv} {fs:FS} {i j:Str} (h1:fa fs=.ok (.t (.str i)) fs) (h2:fb fs=.ok (.t (.str j)) fs):asB (Ad (BD false) fa fb) fs=.ok (decide (i=j)) fs:=by
 have e:gEq false (.t (.str i)) (.t (.str j)) fs=.ok (.t (.bl (decide (i=j)))) fs:=by
  have q:decide (V.str i=V.str j)=decide (i=j):=by
   by_cases h:i=j
   ·subst h;simp
   ·rw [decide_eq_false h,decide_eq_false (by intro z;cases z;exact h rfl)]
  show (if scal (V.str i) (V.str j)=true then okT (.bl (if false=true then _ else decide (V.str i=V.str j))) fs else .bad)=_
  rw [if_pos (show scal (V.str i) (V.str j)=true from rfl),q]
  rfl
 have e':BD false (.t (.str i)) (.t (.str j)) fs=.ok (.t (.bl (decide (i=j)))) fs:=by
  unfold BD orG
  rw [e]
 unfold asB
 rw [Ae h1 h2 e']
 rfl
theorem Hx {α:Type} {fe:FS->Out Rv} {p q:α->T} {rest:FS}:∀ (xs:List α) (x:Option Sl) (acc:List T),Fre x->(∀ a∈xs,fe (vl (p a) :: rest)=.ok (.t (q a)) (vl (p a) :: rest))->acc.length+xs.length<=big ->
  ∃ y,Fre y/\CU (tgN 0) HK fe (xs.map p) (x :: rest) acc=some (acc++xs.map q,y :: rest)
 | [],x,acc,hx,_,_=>⟨x,hx,by simp [CU]⟩
 | a :: xs,x,acc,hx,h,hl=>by
  obtain ⟨y,hy,e⟩:=Hx xs (vl (p a)) (acc++[q a]) Bu (fun b m=>h b (List.mem_cons_of_mem _ m)) (by simp at hl ⊢;omega)
  refine ⟨y,hy,?_⟩
  have h1:tgN 0 (p a) (x :: rest)=some (vl (p a) :: rest):=by
   unfold tgN
   rw [Bt (x:=x) rfl hx]
   rfl
  have h2:=h a List.mem_cons_self
  have h3:acc.length < big:=by simp at hl;omega
  simp only [List.map_cons,CU,h1,HK,h2,if_pos h3,e]
  simp
theorem C0 {f:FS->Out Rv} {fs:FS} {ts:List T} {i:Nat} {t:T} (h:f fs=.ok (.t (.tup ts)) fs) (e:ts[i]?=some t):Ad AN f (gc (.int i)) fs=.ok (.t t) fs:=by
 refine Ae h Aw ?_
 have q:=Bm (j:=i) e
 unfold AN orG gIx
 show (match (match atI ts (i:Int) with | some t=>okT t fs | none=>.bad) with | .bad=>_ | r=>r)=_
 rw [q]
 rfl
theorem Ck {n:Nat} {g:FS->SO} {args τ:FS} {t:T} (h:g (args++List.replicate n none)=.ret (.t t) τ):Dt n g args=.ok (.t t) (τ.take args.length):=by
 unfold Dt
 rw [h]
theorem Gm {f:FS->Out Rv} {fs:FS} {ts:List T} (h:f fs=.ok (.t (.tup ts)) fs):itU f fs=.ok ts fs:=by
 unfold itU
 rw [h]
 rfl
mutual
def E.sp:E->List (List Nat)
 | .nm _=>[[]]
 | .pt _ _ es=>[] :: E.sps 0 es
def E.sps (k:Nat):List E->List (List Nat)
 | []=>[]
 | e :: es=>e.sp.map (k :: ·)++E.sps (k+1) es
end
def plT (p:List Nat):T:=.tup (p.map fun (k:Nat)=>T.int (k:Int))
theorem sp_len:∀ {d:Nat} {e:E},E.ok d e->e.sp.length<=4 ^ (d+1)/\∀ p∈e.sp,p.length<=d
 | d,.nm s,_=>by
  simp only [E.sp]
  exact ⟨by have:=Nat.one_le_two_pow (n:=d+1);have:1<=4 ^ (d+1):=Nat.one_le_pow _ _ (by omega);simpa using this,by simp⟩
 | 0,.pt h s es,hok=>by simp [E.ok] at hok
 | d+1,.pt h s es,hok=>by
  simp only [E.ok] at hok
  have key:∀ (es:List E) (k:Nat),(∀ e∈es,e.sp.length<=4 ^ (d+1)/\∀ p∈e.sp,p.length<=d)->(E.sps k es).length<=es.length * 4 ^ (d+1)/\∀ p∈E.sps k es,p.length<=d+1:=by
   intro es
   induction es with
   | nil=>intro k _;simp [E.sps]
   | cons e es ih =>
    intro k h
    obtain ⟨h1,h2⟩:=ih (k+1) fun x m=>h x (List.mem_cons_of_mem _ m)
    obtain ⟨h3,h4⟩:=h e (by simp)
    simp only [E.sps]
    refine ⟨?_,fun p m=>?_⟩
    ·rw [List.length_append,List.length_map,List.length_cons,Nat.add_mul,Nat.one_mul]
     omega
    ·rcases List.mem_append.mp m with m | m
     ·obtain ⟨q,hq,rfl⟩:=List.mem_map.mp m
      have:=h4 q hq
      simp only [List.length_cons]
      omega
     ·exact h2 p m
  obtain ⟨h1,h2⟩:=key es 0 fun e m=>sp_len (E.Co hok.2 e m)
  simp only [E.sp]
  refine ⟨?_,fun p m=>?_⟩
  ·have h3:es.length * 4 ^ (d+1)<=3 * 4 ^ (d+1):=Nat.mul_le_mul_right _ hok.1
   have h4:1<=4 ^ (d+1):=Nat.one_le_pow _ _ (by omega)
   rw [List.length_cons,Nat.pow_succ 4 (d+1)]
   omega
  ·rcases List.mem_cons.mp m with rfl | m
   ·simp
   ·exact h2 p m
theorem neV_s {fa fb:FS->Out Rv} {fs:FS} {i j:Str} (h1:fa fs=.ok (.t (.str i)) fs) (h2:fb fs=.ok (.t (.str j)) fs):asB (Ad (BD true) fa fb) fs=.ok (!decide (i=j)) fs:=by
 have e:gEq true (.t (.str i)) (.t (.str j)) fs=.ok (.t (.bl (!decide (i=j)))) fs:=by
  have q:decide (V.str i=V.str j)=decide (i=j):=by
   by_cases h:i=j
   ·subst h;simp
   ·rw [decide_eq_false h,decide_eq_false (by intro z;cases z;exact h rfl)]
  show (if scal (V.str i) (V.str j)=true then okT (.bl (if true=true then !decide (V.str i=V.str j) else _)) fs else .bad)=_
  rw [if_pos (show scal (V.str i) (V.str j)=true from rfl),q]
  rfl
 have e':BD true (.t (.str i)) (.t (.str j)) fs=.ok (.t (.bl (!decide (i=j)))) fs:=by
  unfold BD orG
  rw [e]
 unfold asB
 rw [Ae h1 h2 e']
 rfl
theorem itU_lst {f:FS->Out Rv} {fs:FS} {ts:List T} (h:f fs=.ok (.t (.lst ts)) fs):itU f fs=.ok ts fs:=by
 unfold itU
 rw [h]
 rfl
theorem catL_ok {fa fb:FS->Out Rv} {fs:FS} {ts us:List T} (h1:fa fs=.ok (.t (.lst ts)) fs) (h2:fb fs=.ok (.t (.lst us)) fs) (h:ts.length+us.length<=big):fz (Ad Ar fa fb) fs=.ok (.t (.lst (ts++us))) fs:=by
 have e:Ar (.t (.lst ts)) (.t (.lst us)) fs=.ok (.nw (.lst (ts++us))) fs:=by
  have:gCatL (.t (.lst ts)) (.t (.lst us)) fs=.ok (.nw (.lst (ts++us))) fs:=if_pos h
  unfold Ar orG
  show (match gCatL (.t (.lst ts)) (.t (.lst us)) fs with | .bad=>_ | o=>o)=_
  rw [this]
 unfold fz
 rw [Ae h1 h2 e]
 rfl
abbrev spBody (rec:FS->Out Rv):FS->SO:=AK 1 (fz (Ad Ar (Aa 1) (CA false [none,some 2] (itU (fz (Ak (Am 1 rec) (Ai (Ad AN (Ad AN (Aa 0) (gc (.int 2))) (fz (Aa 2))) Ao)))) (tgN 0) HK (Ad Ar (AD Bg (Ac (fz (Aa 1)) Ao)) (Aa 0)))))
theorem ix_var {f g:FS->Out Rv} {fs:FS} {ts:List T} {i:Nat} {t:T} (h:f fs=.ok (.t (.tup ts)) fs) (h2:g fs=.ok (.t (.int i)) fs) (e:ts[i]?=some t):Ad AN f g fs=.ok (.t t) fs:=by
 refine Ae h h2 ?_
 have q:=Bm (j:=i) e
 unfold AN orG gIx
 show (match (match atI ts (i:Int) with | some t=>okT t fs | none=>.bad) with | .bad=>_ | r=>r)=_
 rw [q]
 rfl
theorem Ft {rec:FS->Out Rv} {h s:Str} {es:List E} {d:Nat} (hd:d<=7) (hr:∀ e∈es,E.ok d e/\rec [vl e.t]=.ok (.t (.lst (e.sp.map plT))) [vl e.t]):∀ (r:List E) (k:Nat) (acc:List T) (x:Option Sl),es.drop k=r->Fre x->acc.length+r.length * 4 ^ (d+1)<=1000000 ->
  ∃ y,Eo (tgN 2) (spBody rec) ((List.range' k r.length).map fun (i:Nat)=>T.int (0+(i:Int))) [vl (exP h s (es.map E.t)),vl (.lst acc),x]=.nx [vl (exP h s (es.map E.t)),vl (.lst (acc++(E.sps k r).map plT)),y]
 | [],k,acc,x,_,_,_=>⟨x,by simp [Eo,E.sps]⟩
 | e :: r,k,acc,x,hk,fx,hl=>by
  have hkl:k < es.length:=by
   rcases Nat.lt_or_ge k es.length with q | q
   ·exact q
   ·rw [List.drop_of_length_le q] at hk;cases hk
  rw [List.drop_eq_getElem_cons hkl] at hk
  injection hk with hk1 hk2
  have hm:e∈es:=hk1▸List.getElem_mem hkl
  obtain ⟨hok,er⟩:=hr e hm
  obtain ⟨hsl,hsd⟩:=sp_len hok
  have h4:(e :: r).length * 4 ^ (d+1)=r.length * 4 ^ (d+1)+4 ^ (d+1):=by rw [List.length_cons,Nat.add_mul,Nat.one_mul]
  have e1:tgN 2 (.int (0+(k:Int))) [vl (exP h s (es.map E.t)),vl (.lst acc),x]=some [vl (exP h s (es.map E.t)),vl (.lst acc),iv (k:Int)]:=by
   rw [Int.zero_add]
   unfold tgN
   exact Bt rfl fx
  have ec:fz (Ak (Am 1 rec) (Ai (Ad AN (Ad AN (Aa 0) (gc (.int 2))) (fz (Aa 2))) Ao)) [vl (exP h s (es.map E.t)),vl (.lst acc),iv (k:Int)]=.ok (.t (.lst (e.sp.map plT))) [vl (exP h s (es.map E.t)),vl (.lst acc),iv (k:Int)]:=by
   have hi:Ad AN (Ad AN (Aa 0) (gc (.int 2))) (fz (Aa 2)) [vl (exP h s (es.map E.t)),vl (.lst acc),iv (k:Int)]=.ok (.t e.t) [vl (exP h s (es.map E.t)),vl (.lst acc),iv (k:Int)] :=
    ix_var (ts:=es.map E.t) (i:=k) (C0 (i:=2) (Ab rfl) rfl) (AJ (Ab rfl)) (by rw [List.getElem?_map,List.getElem?_eq_getElem hkl,hk1];rfl)
   exact CS (GC (An hi AA) rfl (by rw [show Dc _ _=[] from rfl];simp) er rfl)
  obtain ⟨y,_,hc⟩:=Hx (fe:=Ad Ar (AD Bg (Ac (fz (Aa 1)) Ao)) (Aa 0)) (p:=plT) (q:=fun p=>plT (k :: p)) (rest:=[iv (k:Int)]) e.sp none [] AI (fun p m=>by
   have:=hsd p m
   exact Ae (BR (g:=Bg) (ts:=[.int (k:Int)]) (Bz (AJ (Ab (t:=.int (k:Int)) rfl)) AA) rfl (show 1<=big by decide) rfl) (Ab (t:=plT p) rfl) (Hy (by show 1+(p.map _).length<=1000000;rw [List.length_map];omega))) (by show 0+e.sp.length<=1000000;omega)
  rw [List.nil_append] at hc
  have ecomp:CA false [none,some 2] (itU (fz (Ak (Am 1 rec) (Ai (Ad AN (Ad AN (Aa 0) (gc (.int 2))) (fz (Aa 2))) Ao)))) (tgN 0) HK (Ad Ar (AD Bg (Ac (fz (Aa 1)) Ao)) (Aa 0)) [vl (exP h s (es.map E.t)),vl (.lst acc),iv (k:Int)]=.ok (.t (.lst (e.sp.map fun p=>plT (k :: p)))) [vl (exP h s (es.map E.t)),vl (.lst acc),iv (k:Int)] :=
   E7 (src:=[none,some 2]) (itU_lst ec) ⟨by rw [show Dc _ _=[] from rfl];simp,by rfl⟩ hc rfl
  have e2:spBody rec [vl (exP h s (es.map E.t)),vl (.lst acc),iv (k:Int)]=.nx [vl (exP h s (es.map E.t)),vl (.lst (acc++e.sp.map fun p=>plT (k :: p))),iv (k:Int)] :=
   AE (catL_ok (Ab rfl) ecomp (by show _+(e.sp.map _).length<=1000000;rw [List.length_map];omega)) rfl
  obtain ⟨y',g⟩:=Ft (h:=h) (s:=s) hd hr r (k+1) (acc++e.sp.map fun p=>plT (k :: p)) (iv (k:Int)) hk2 Bu (by rw [List.length_append,List.length_map];omega)
  refine ⟨y',?_⟩
  rw [List.length_cons,List.range'_succ,List.map_cons,Ho e1 e2,g]
  simp [E.sps,List.map_map,Function.comp_def]
theorem spots:∀ (n d:Nat) (e:E),E.ok d e->d < n->d<=8->By n [vl e.t]=.ok (.t (.lst (e.sp.map plT))) [vl e.t]
 | 0,d,e,_,hn,_=>by omega
 | n+1,d,.nm s,_,_,_=>by
  have e:(E.nm s).t=.tup [.str "name",.str s]:=by simp [E.t,exN]
  rw [e]
  have c:=neV_s (fa:=Ad AN (Aa 0) (gc (.int 0))) (fb:=gc (.str "name")) (fs:=[vl (.tup [.str "name",.str s]),vl (.lst [.tup []]),none]) (C0 (i:=0) (Ab rfl) rfl) Aw
  rw [decide_eq_true rfl] at c
  refine (Ck (n:=2) (g:=EE (By n)) (t:=.lst [.tup []]) (τ:=[vl (.tup [.str "name",.str s]),vl (.lst [.tup []]),none]) ?_).trans (by simp [E.sp,plT])
  exact sq (AE (Cf (ts:=[.tup []]) (Az (BR (g:=Bg) (ts:=[]) AA rfl (show 0<=big by decide) rfl) AA) rfl (show 1<=big by decide)) rfl) (sq (Dd c rfl) (A6 (Ab rfl)))
 | n+1,0,.pt h s es,hok,_,_=>by simp [E.ok] at hok
 | n+1,d+1,.pt h s es,hok,hn,h8=>by
  simp only [E.ok] at hok
  have e:(E.pt h s es).t=exP (hd h) s (es.map E.t):=by simp [E.t,E.CW]
  rw [e]
  have c:=neV_s (fa:=Ad AN (Aa 0) (gc (.int 0))) (fb:=gc (.str "name")) (fs:=[vl (exP (hd h) s (es.map E.t)),vl (.lst [.tup []]),none]) (C0 (i:=0) (Ab (t:=.tup [.str (hd h),.str s,.tup (es.map E.t)]) rfl) rfl) Aw
  rw [decide_eq_false (hd_ne h)] at c
  have hp:4 ^ (d+1)<=4 ^ 8:=Nat.pow_le_pow_right (by omega) (by omega)
  have hmul:es.length * 4 ^ (d+1)<=3 * 4 ^ 8:=Nat.mul_le_mul hok.1 hp
  obtain ⟨y,g⟩:=Ft (rec:=By n) (h:=hd h) (s:=s) (es:=es) (d:=d) (by omega) (fun x m=>⟨E.Co hok.2 x m,spots n d x (E.Co hok.2 x m) (by omega) (by omega)⟩) es 0 [.tup []] none rfl AI (by simp;omega)
  have el:Ak Be (Ac (Ad AN (Aa 0) (gc (.int 2))) Ao) [vl (exP (hd h) s (es.map E.t)),vl (.lst [.tup []]),none]=.ok (.t (.int (es.length:Int))) [vl (exP (hd h) s (es.map E.t)),vl (.lst [.tup []]),none]:=by
   have:=Cw (f:=Ad AN (Aa 0) (gc (.int 2))) (fs:=[vl (exP (hd h) s (es.map E.t)),vl (.lst [.tup []]),none]) (ts:=es.map E.t) (C0 (i:=2) (Ab (t:=.tup [.str (hd h),.str s,.tup (es.map E.t)]) rfl) rfl) (.inr rfl)
   rwa [List.length_map] at this
  have sf:Gu (itR1 (Ac (Ak Be (Ac (Ad AN (Aa 0) (gc (.int 2))) Ao)) Ao)) (tgN 2) (spBody (By n)) [vl (exP (hd h) s (es.map E.t)),vl (.lst [.tup []]),none]=.nx [vl (exP (hd h) s (es.map E.t)),vl (.lst ([.tup []]++(E.sps 0 es).map plT)),y]:=by
   have:=DM (fs:=[vl (exP (hd h) s (es.map E.t)),vl (.lst [.tup []]),none]) (Az el AA) ⟨by omega,by omega⟩
   unfold Gu
   rw [this,Int.toNat_natCast]
   have eu:FL.upTo 0 es.length=(List.range' 0 es.length).map fun (i:Nat)=>T.int (0+(i:Int)):=by rw [FL.upTo,List.range_eq_range']
   rw [eu]
   exact g
  refine (Ck (n:=2) (g:=EE (By n)) (t:=.lst ([.tup []]++(E.sps 0 es).map plT)) (τ:=[vl (exP (hd h) s (es.map E.t)),vl (.lst ([.tup []]++(E.sps 0 es).map plT)),y]) ?_).trans (by simp [E.sp,plT])
  exact sq (AE (Cf (ts:=[.tup []]) (Az (BR (g:=Bg) (ts:=[]) AA rfl (show 0<=big by decide) rfl) AA) rfl (show 1<=big by decide)) rfl) (sq (Fh c sf) (A6 (Ab rfl)))
def E.at:E->List Nat->Option E
 | e,[]=>some e
 | .nm _,_ :: _=>none
 | .pt _ _ es,k :: p=>match es[k]? with
  | some e=>e.at p
  | none=>none
theorem Gy (m:Nat) (a b:Str):eqT m (.str a) (.str b)=some (a == b):=by cases m <;> rfl
theorem D7 (m:Nat) (xs ys:List T):eqT (m+1) (.tup xs) (.tup ys)=(Fj (eqT m) xs ys).map (· && xs.length == ys.length):=rfl
theorem hd_inj {a b:Bool} (h:hd a=hd b):a=b:=by
 cases a <;> cases b <;> first | rfl | exact absurd h (by decide)
mutual
theorem eqT_E:∀ (d n:Nat) (e e':E),E.ok d e->2 * d+2<=n->∃ b,eqT n e.t e'.t=some b/\(b=true↔e=e')
 | d,0,e,e',_,hn=>by omega
 | d,n+1,.nm s,.nm s',_,_=>by
  refine ⟨(("name":Str) == "name" && (s == s' && true)) && (2 == 2),?_,?_⟩
  ·simp only [E.t,exN,D7,Fj,Gy]
   rfl
  ·simp
 | d,n+1,.nm s,.pt h s' es,_,_=>by
  refine ⟨false,?_,by simp⟩
  simp only [E.t,exN,exP,D7,Fj,Gy]
  simp
 | d,n+1,.pt h s es,.nm s',_,_=>by
  refine ⟨false,?_,by simp⟩
  simp only [E.t,exN,exP,D7,Fj,Gy]
  simp
 | 0,n+1,.pt h s es,.pt h' s' es',hok,_=>by simp [E.ok] at hok
 | d+1,n+1,.pt h s es,.pt h' s' es',hok,hn=>by
  simp only [E.ok] at hok
  obtain ⟨m,rfl⟩:∃ m,n=m+1:=⟨n - 1,by omega⟩
  obtain ⟨b,h1,h2⟩:=eqTs_E d m es es' hok.2 (by omega)
  refine ⟨((hd h == hd h') && ((s == s') && ((b && es.length == es'.length) && true))) && (3 == 3),?_,?_⟩
  ·simp only [E.t,exP,D7 (m+1),Fj,Gy,D7 m,E.CW]
   rw [h1]
   simp
  ·rw [show ((hd h == hd h') && ((s == s') && ((b && es.length == es'.length) && true)) && (3 == 3))=((hd h == hd h') && ((s == s') && (b && es.length == es'.length))) by simp]
   rw [Bool.and_eq_true,Bool.and_eq_true,h2]
   constructor
   ·rintro ⟨a1,a2,a3⟩
    rw [hd_inj (eq_of_beq a1),eq_of_beq a2,a3]
   ·intro q
    injection q with q1 q2 q3
    subst q1 q2 q3
    exact ⟨by simp,by simp,rfl⟩
theorem eqTs_E:∀ (d n:Nat) (es es':List E),E.oks d es->2 * d+2<=n->∃ b,Fj (eqT n) (es.map E.t) (es'.map E.t)=some b/\((b && es.length == es'.length)=true↔es=es')
 | d,n,[],[],_,_=>⟨true,rfl,by simp⟩
 | d,n,[],e' :: es',_,_=>⟨true,rfl,by simp⟩
 | d,n,e :: es,[],_,_=>⟨true,rfl,by simp⟩
 | d,n,e :: es,e' :: es',hok,hn=>by
  simp only [E.oks] at hok
  obtain ⟨b,h1,h2⟩:=eqT_E d n e e' hok.1 hn
  obtain ⟨c,h3,h4⟩:=eqTs_E d n es es' hok.2 hn
  refine ⟨b && c,?_,?_⟩
  ·simp only [List.map_cons,Fj,h1,h3]
   rfl
  ·rw [List.length_cons,List.length_cons,show ((b && c) && (es.length+1 == es'.length+1))=(b && (c && (es.length == es'.length))) by simp [Bool.and_assoc],Bool.and_eq_true,h2,h4]
   constructor
   ·rintro ⟨rfl,rfl⟩;rfl
   ·intro q
    injection q with q1 q2
    exact ⟨q1,q2⟩
end
mutual
theorem sp_at:∀ (e:E) (p:List Nat),p∈e.sp->∃ x,e.at p=some x
 | .nm s,p,m=>by
  simp only [E.sp,List.mem_singleton] at m
  subst m
  exact ⟨.nm s,by simp [E.at]⟩
 | .pt h s es,p,m=>by
  simp only [E.sp] at m
  rcases List.mem_cons.mp m with rfl | m
  ·exact ⟨.pt h s es,by simp [E.at]⟩
  ·obtain ⟨k,q,e,rfl,h2,x,h3⟩:=sps_at es 0 p m
   refine ⟨x,?_⟩
   rw [Nat.zero_add]
   simp only [E.at,h2,h3]
theorem sps_at:∀ (es:List E) (j:Nat) (p:List Nat),p∈E.sps j es->∃ k q e,p=(j+k) :: q/\es[k]?=some e/\∃ x,e.at q=some x
 | [],j,p,m=>by simp [E.sps] at m
 | e :: es,j,p,m=>by
  simp only [E.sps] at m
  rcases List.mem_append.mp m with m | m
  ·obtain ⟨q,h1,rfl⟩:=List.mem_map.mp m
   exact ⟨0,q,e,rfl,rfl,sp_at e q h1⟩
  ·obtain ⟨k,q,x,h1,h2,h3⟩:=sps_at es (j+1) p m
   exact ⟨k+1,q,x,by rw [h1];congr 1;omega,h2,h3⟩
end
theorem at_pt {h:Bool} {s:Str} {es:List E} {k:Nat} {p:List Nat} {x:E} (e:(E.pt h s es).at (k :: p)=some x):∃ y,es[k]?=some y/\y.at p=some x:=by
 simp only [E.at] at e
 cases q:es[k]? with
 | none=>rw [q] at e;cases e
 | some y=>rw [q] at e;exact ⟨y,rfl,e⟩
theorem ok_up:∀ {d c:Nat} {e:E},E.ok d e->d<=c->E.ok c e
 | d,c,.nm s,_,_=>by simp [E.ok]
 | 0,c,.pt h s es,k,_=>by simp [E.ok] at k
 | d+1,0,.pt h s es,k,l=>by omega
 | d+1,c+1,.pt h s es,k,l=>by
  simp only [E.ok] at k ⊢
  exact ⟨k.1,E.Hf fun e m=>ok_up (E.Co k.2 e m) (by omega)⟩
theorem ok_at:∀ (p:List Nat) {d:Nat} {e x:E},E.ok d e->e.at p=some x->E.ok d x
 | [],d,e,x,h,k=>by
  have:e=x:=by simpa [E.at] using k
  exact this▸h
 | i :: p,d,.nm s,x,h,k=>by simp [E.at] at k
 | i :: p,0,.pt a s es,x,h,k=>by simp [E.ok] at h
 | i :: p,d+1,.pt a s es,x,h,k=>by
  simp only [E.ok] at h
  obtain ⟨y,h1,h2⟩:=at_pt k
  exact ok_up (ok_at p (E.Co h.2 y (List.mem_of_getElem? h1)) h2) (by omega)
def E.put:E->List Nat->E->E
 | _,[],o=>o
 | .nm s,_ :: _,_=>.nm s
 | .pt h s es,k :: p,o=>.pt h s (match es[k]? with
  | some e=>es.set k (e.put p o)
  | none=>es)
theorem put_okE {c:Nat} {o:E} (ho:E.ok c o):∀ (p:List Nat) {d:Nat} {e:E},E.ok d e->E.ok (d+c) (e.put p o)
 | [],d,e,_=>by simp only [E.put];exact ok_up ho (by omega)
 | k :: p,d,.nm s,_=>by simp [E.put,E.ok]
 | k :: p,0,.pt h s es,q=>by simp [E.ok] at q
 | k :: p,d+1,.pt h s es,q=>by
  simp only [E.ok] at q
  simp only [E.put]
  rw [show d+1+c=(d+c)+1 by omega]
  cases hk:es[k]? with
  | none =>
   simp only [E.ok]
   exact ⟨q.1,E.Hf fun e m=>ok_up (E.Co q.2 e m) (by omega)⟩
  | some y =>
   simp only [E.ok]
   refine ⟨by rw [List.length_set];exact q.1,E.Hf fun e m=>?_⟩
   rcases List.mem_or_eq_of_mem_set m with m | rfl
   ·exact ok_up (E.Co q.2 e m) (by omega)
   ·exact put_okE ho p (E.Co q.2 y (List.mem_of_getElem? hk))
theorem Gq {neg c:Bool} {xs ys:List T} {fs:FS} (h:Fj (eqT 60) xs ys=some c):BD neg (.t (.tup xs)) (.t (.tup ys)) fs=.ok (.t (.bl (if neg then !(c && xs.length == ys.length) else (c && xs.length == ys.length)))) fs:=by
 have e1:gEqT neg (.t (.tup xs)) (.t (.tup ys)) fs=.ok (.t (.bl (if neg then !(c && xs.length == ys.length) else (c && xs.length == ys.length)))) fs:=by
  show eqB neg xs ys fs=_
  unfold eqB
  rw [h]
  rfl
 unfold BD orG
 show (match gEqT neg (.t (.tup xs)) (.t (.tup ys)) fs with | .bad=>_ | r=>r)=_
 rw [e1]
theorem gEqV_lst {neg c:Bool} {xs ys:List T} {fs:FS} (h:Fj (eqT 60) xs ys=some c):BD neg (.t (.lst xs)) (.t (.lst ys)) fs=.ok (.t (.bl (if neg then !(c && xs.length == ys.length) else (c && xs.length == ys.length)))) fs:=by
 have e1:gEqT neg (.t (.lst xs)) (.t (.lst ys)) fs=.ok (.t (.bl (if neg then !(c && xs.length == ys.length) else (c && xs.length == ys.length)))) fs:=by
  show eqB neg xs ys fs=_
  unfold eqB
  rw [h]
  rfl
 unfold BD orG
 show (match gEqT neg (.t (.lst xs)) (.t (.lst ys)) fs with | .bad=>_ | r=>r)=_
 rw [e1]
theorem E.t_tup (e:E):∃ xs,e.t=.tup xs:=by
 cases e with
 | nm s=>exact ⟨_,by simp only [E.t,exN];rfl⟩
 | pt h s es=>exact ⟨_,by simp only [E.t,exP];rfl⟩
theorem gEqV_E {neg:Bool} {d:Nat} {e e':E} (h:E.ok d e) (hd:d<=28):∃ b:Bool,(b=true↔e=e')/\∀ fs:FS,BD neg (.t e.t) (.t e'.t) fs=.ok (.t (.bl (if neg then !b else b))) fs:=by
 obtain ⟨xs,hx⟩:=e.t_tup
 obtain ⟨ys,hy⟩:=e'.t_tup
 obtain ⟨b,h1,h2⟩:=eqT_E d 61 e e' h (by omega)
 rw [hx,hy,D7 60] at h1
 obtain ⟨c,h3,h4⟩:=Option.map_eq_some_iff.mp h1
 refine ⟨b,h2,fun fs=>?_⟩
 rw [hx,hy,Gq h3,h4]
theorem slf_two {f:FS->Out Rv} {fs:FS} {a b:T} {ts:List T} (h1:f fs=.ok (.t (.tup (a :: b :: ts))) fs):slF f noP (AU (gc (.int 2))) fs=.ok (.t (.tup [a,b])) fs:=by
 have:FJ (a :: b :: ts) none (some 2)=[a,b]:=by
  rw [E6 (by omega) (by simp)]
  rfl
 unfold slF
 rw [h1]
 show okT (.tup (FJ (a :: b :: ts) none (some 2))) fs=_
 rw [this]
 rfl
theorem gEqV_n {x y:Nat} {fs:FS}:BD false (.t (.int (x:Int))) (.t (.int (y:Int))) fs=.ok (.t (.bl (decide (x=y)))) fs:=by
 unfold BD orG
 rw [gEq_n]
theorem slf_tl {f:FS->Out Rv} {fs:FS} {a:T} {ts:List T} (h1:f fs=.ok (.t (.tup (a :: ts))) fs):slF f (AU (gc (.int 1))) noP fs=.ok (.t (.tup ts)) fs:=by
 have:FJ (a :: ts) (some 1) none=ts:=by
  rw [DS (by omega) (by simp)]
  rfl
 unfold slF
 rw [h1]
 show okT (.tup (FJ (a :: ts) (some 1) none)) fs=_
 rw [this]
 rfl
theorem putE:∀ (n:Nat) (p:List Nat) (e o:E),(∃ x,e.at p=some x)->p.length < n->CM n [vl e.t,vl (plT p),vl o.t]=.ok (.t (e.put p o).t) [vl e.t,vl (plT p),vl o.t]
 | 0,p,e,o,_,h=>by omega
 | n+1,[],e,o,_,_=>by
  have c:asB (Ad (BD false) (Aa 1) (AD Bg Ao)) [vl e.t,vl (.tup []),vl o.t,none]=.ok true [vl e.t,vl (.tup []),vl o.t,none] :=
   Fe (Ae (Ab rfl) (BR (g:=Bg) (ts:=[]) AA rfl (show 0<=big by decide) rfl) (Gq (c:=true) rfl))
  refine (Ck (n:=1) (g:=HH (CM n)) (args:=[vl e.t,vl (.tup []),vl o.t]) (t:=o.t) (τ:=[vl e.t,vl (.tup []),vl o.t,none]) (Gb (Fh c (A6 (Ab rfl))))).trans ?_
  simp [E.put,plT]
 | n+1,k :: p,.nm s,o,hx,_=>by
  obtain ⟨x,hx⟩:=hx
  simp [E.at] at hx
 | n+1,k :: p,.pt h s es,o,hx,hl=>by
  obtain ⟨x,hx⟩:=hx
  obtain ⟨y,hy,hyx⟩:=at_pt hx
  have hk:k < es.length:=(List.getElem?_eq_some_iff.mp hy).1
  have et:(E.pt h s es).t=.tup [.str (hd h),.str s,.tup (es.map E.t)]:=by simp [E.t,exP,E.CW]
  have ep:plT (k :: p)=.tup (.int (k:Int) :: p.map fun (k:Nat)=>T.int (k:Int)):=rfl
  have er:((E.pt h s es).put (k :: p) o).t=.tup [.str (hd h),.str s,.tup ((es.map E.t).set k (y.put p o).t)]:=by
   simp only [E.put,hy,E.t,exP,E.CW,List.map_set]
  rw [er,et,ep]
  have c:asB (Ad (BD false) (Aa 1) (AD Bg Ao)) [vl (.tup [.str (hd h),.str s,.tup (es.map E.t)]),vl (.tup (.int (k:Int) :: p.map fun (k:Nat)=>T.int (k:Int))),vl o.t,none]=.ok false [vl (.tup [.str (hd h),.str s,.tup (es.map E.t)]),vl (.tup (.int (k:Int) :: p.map fun (k:Nat)=>T.int (k:Int))),vl o.t,none] :=
   Fe (Ae (Ab rfl) (BR (g:=Bg) (ts:=[]) AA rfl (show 0<=big by decide) rfl) (Gq (c:=true) rfl))
  have s3:AK 3 (Ak gListU (Ac (Ad AN (Aa 0) (gc (.int 2))) Ao)) [vl (.tup [.str (hd h),.str s,.tup (es.map E.t)]),vl (.tup (.int (k:Int) :: p.map fun (k:Nat)=>T.int (k:Int))),vl o.t,none]=.nx [vl (.tup [.str (hd h),.str s,.tup (es.map E.t)]),vl (.tup (.int (k:Int) :: p.map fun (k:Nat)=>T.int (k:Int))),vl o.t,some (.own (.lst (es.map E.t)))] :=
   HW (o:=.lst (es.map E.t)) (GD (Bz (C0 (i:=2) (Ab rfl) rfl) AA) rfl) rfl
  generalize hfs:[vl (.tup [.str (hd h),.str s,.tup (es.map E.t)]),vl (.tup (.int (k:Int) :: p.map fun (k:Nat)=>T.int (k:Int))),vl o.t,some (Sl.own (.lst (es.map E.t)))]=fs at s3
  have g1:Aa 1 fs=.ok (.t (.tup (.int (k:Int) :: p.map fun (k:Nat)=>T.int (k:Int)))) fs:=by subst hfs;exact Ab rfl
  have g2:Aa 2 fs=.ok (.t o.t) fs:=by subst hfs;exact Ab rfl
  have i3:fs[3]?=some (some (.own (.lst (es.map E.t)))):=by subst hfs;rfl
  have ki:Ad AN (Aa 1) (gc (.int 0)) fs=.ok (.t (.int (k:Int))) fs:=C0 (i:=0) g1 rfl
  have a1:Ad AN (Aa 3) (Ad AN (Aa 1) (gc (.int 0))) fs=.ok (.t y.t) fs :=
   bin2_rf1 (Ez i3) ki (Bx (seq_rf i3) (Bm (j:=k) (by rw [List.getElem?_map,hy];rfl)))
  have ih:=putE n p y o ⟨x,hyx⟩ (by simp at hl;omega)
  have cl:fz (Ak (Am 3 (CM n)) (Ai (Ad AN (Aa 3) (Ad AN (Aa 1) (gc (.int 0)))) (Ai (slF (Aa 1) (AU (gc (.int 1))) noP) (Ai (fz (Aa 2)) Ao)))) fs=.ok (.t (y.put p o).t) fs :=
   CS (Dz (rs:=[.t y.t,.t (plT p),.t o.t]) (An a1 (An (slf_tl g1) (An (AJ g2) AA))) rfl rfl ih)
  have st:=setL_ok (o:=3) (k:=(k:Int)) (j:=k) (fs':=[vl (.tup [.str (hd h),.str s,.tup (es.map E.t)]),vl (.tup (.int (k:Int) :: p.map fun (k:Nat)=>T.int (k:Int))),vl o.t,some (.own (.lst ((es.map E.t).set k (y.put p o).t)))]) cl i3 ki (by
   unfold ixN
   rw [List.length_map,if_pos (by omega),if_pos (by omega),Int.toNat_natCast]) (by subst hfs;rfl)
  have r:HH (CM n) [vl (.tup [.str (hd h),.str s,.tup (es.map E.t)]),vl (.tup (.int (k:Int) :: p.map fun (k:Nat)=>T.int (k:Int))),vl o.t,none]=.ret (.t (.tup [.str (hd h),.str s,.tup ((es.map E.t).set k (y.put p o).t)])) [vl (.tup [.str (hd h),.str s,.tup (es.map E.t)]),vl (.tup (.int (k:Int) :: p.map fun (k:Nat)=>T.int (k:Int))),vl o.t,some (.own (.lst ((es.map E.t).set k (y.put p o).t)))] :=
   sq (Dd c rfl) (sq s3 (sq st (A6 (BR (g:=Bg) (ts:=[.str (hd h),.str s,.tup ((es.map E.t).set k (y.put p o).t)]) (Bz (C0 (i:=0) (Ab rfl) rfl) (Bz (C0 (i:=1) (Ab rfl) rfl) (Bz (GD (g:=EY) (rs:=[.rf 3]) rfl (r:=.ok (.t (.tup ((es.map E.t).set k (y.put p o).t))) _) rfl) AA))) rfl (show 3<=big by decide) rfl))))
  exact Ck (n:=1) (g:=HH (CM n)) (args:=[vl (.tup [.str (hd h),.str s,.tup (es.map E.t)]),vl (.tup (.int (k:Int) :: p.map fun (k:Nat)=>T.int (k:Int))),vl o.t]) r
theorem Gz {α:Type} {ft:FS->Out Bool} {fe:FS->Out Rv} {p:α->T} {rest:FS}:∀ (xs:List α) (x:Option Sl) (acc:List T),Fre x->(∀ a∈xs,ft (vl (p a) :: rest)=.ok false (vl (p a) :: rest)) ->
  ∃ y,Fre y/\CU (tgN 0) ft fe (xs.map p) (x :: rest) acc=some (acc,y :: rest)
 | [],x,acc,hx,_=>⟨x,hx,by simp [CU]⟩
 | a :: xs,x,acc,hx,h=>by
  obtain ⟨y,hy,e⟩:=Gz (fe:=fe) xs (vl (p a)) acc Bu (fun b m=>h b (List.mem_cons_of_mem _ m))
  refine ⟨y,hy,?_⟩
  have h1:tgN 0 (p a) (x :: rest)=some (vl (p a) :: rest):=by
   unfold tgN
   rw [Bt (x:=x) rfl hx]
   rfl
  have h2:=h a List.mem_cons_self
  simp only [List.map_cons,CU,h1,h2,e]
theorem is_ok {T':String} {n:String} {f:FS->Out Rv} {fs:FS} {t:T} (h:f fs=.ok (.t t) fs) (e:tyT t=some n) (hs:subTy n T'=true):C8 (DK (isF T' f)) fs=.ok false fs:=by
 have:isF T' f fs=.ok (.t (.bl true)) fs:=by
  unfold isF
  rw [h]
  simp only [Out.bnd,Out.bind,e,hs]
 exact EU (EJ this)
theorem nil_eq {f:FS->Out Rv} {fs fs1:FS} (h:f fs=.ok (.t (.lst [])) fs1):Ad (BD false) f (AD Bs Ao) fs=.ok (.t (.bl true)) fs1 :=
 bin2_st h (Cf (ts:=[]) AA rfl (show 0<=big by decide)) (gEqV_lst (c:=true) rfl)
theorem nil_ne {f:FS->Out Rv} {fs fs1:FS} (h:f fs=.ok (.t (.lst [])) fs1):asB (Ad (BD true) f (AD Bs Ao)) fs=.ok false fs1 :=
 Fe (bin2_st h (Cf (ts:=[]) AA rfl (show 0<=big by decide)) (gEqV_lst (c:=true) rfl))
theorem lt_ok {fa fb:FS->Out Rv} {fs:FS} {a b:Int} (h1:fa fs=.ok (.t (.int a)) fs) (h2:fb fs=.ok (.t (.int b)) fs):asB (Ad gLt fa fb) fs=.ok (decide (a < b)) fs:=Fe (Ae h1 h2 rfl)
theorem shape_1 {a b:Str} {ts:List T}:orT (C8 (DK (isF "tuple" (Aa 0)))) (orT (asB (Ad gLt (Ak Be (Ac (Aa 0) Ao)) (gc (.int 2)))) (asB (Ad (BD true) (CA false [none] (itU (slF (Aa 0) noP (AU (gc (.int 2))))) (tgN 0) (C8 (DK (isF "str" (Aa 0)))) (fz (Aa 0))) (AD Bs Ao)))) [vl (.tup (.str a :: .str b :: ts))]=.ok false [vl (.tup (.str a :: .str b :: ts))]:=by
 have g0:Aa 0 [vl (.tup (.str a :: .str b :: ts))]=.ok (.t (.tup (.str a :: .str b :: ts))) [vl (.tup (.str a :: .str b :: ts))]:=Ab rfl
 have l0:=lt_ok (Cw (f:=Aa 0) g0 (.inr rfl)) (Aw (t:=.int 2))
 rw [decide_eq_false (by simp;omega)] at l0
 obtain ⟨y,_,hc⟩:=Gz (ft:=C8 (DK (isF "str" (Aa 0)))) (fe:=fz (Aa 0)) (p:=T.str) (rest:=[]) [a,b] none [] AI (fun x _=>is_ok (n:="str") (Ab rfl) rfl (by decide))
 have ec:CA false [none] (itU (slF (Aa 0) noP (AU (gc (.int 2))))) (tgN 0) (C8 (DK (isF "str" (Aa 0)))) (fz (Aa 0)) [vl (.tup (.str a :: .str b :: ts))]=.ok (.t (.lst [])) [vl (.tup (.str a :: .str b :: ts))] :=
  E7 (src:=[none]) (Gm (slf_two g0)) ⟨by rw [show Dc _ _=[] from rfl];simp,by rfl⟩ hc rfl
 exact Fg (is_ok (n:="tuple") g0 rfl (by decide)) (Fg l0 (nil_ne ec))
theorem shape:∀ (n d:Nat) (e:E),E.ok d e->d < n->A4 n [vl e.t]=.ok (.t (.bl true)) [vl e.t]
 | 0,d,e,_,hn=>by omega
 | n+1,d,.nm s,_,_=>by
  have e:(E.nm s).t=.tup [.str "name",.str s]:=by simp [E.t,exN]
  rw [e]
  have g0:Aa 0 [vl (.tup [.str "name",.str s])]=.ok (.t (.tup [.str "name",.str s])) [vl (.tup [.str "name",.str s])]:=Ab rfl
  have c:=eqV_s (fa:=Ad AN (Aa 0) (gc (.int 0))) (fb:=gc (.str "name")) (C0 (i:=0) g0 rfl) Aw
  rw [decide_eq_true rfl] at c
  have l0:=Ae (g:=BD false) (Cw (f:=Aa 0) g0 (.inr rfl)) (Aw (t:=.int ((2:Nat):Int))) gEqV_n
  exact Ck (n:=0) (g:=EF (A4 n)) (args:=[vl (.tup [.str "name",.str s])]) (sq (Dd shape_1 rfl) (Gb (Fh c (A6 l0))))
 | n+1,0,.pt h s es,hok,_=>by simp [E.ok] at hok
 | n+1,d+1,.pt h s es,hok,hn=>by
  simp only [E.ok] at hok
  have e:(E.pt h s es).t=.tup [.str (hd h),.str s,.tup (es.map E.t)]:=by simp [E.t,exP,E.CW]
  rw [e]
  have g0:Aa 0 [vl (.tup [.str (hd h),.str s,.tup (es.map E.t)])]=.ok (.t (.tup [.str (hd h),.str s,.tup (es.map E.t)])) [vl (.tup [.str (hd h),.str s,.tup (es.map E.t)])]:=Ab rfl
  have c:=eqV_s (fa:=Ad AN (Aa 0) (gc (.int 0))) (fb:=gc (.str "name")) (C0 (i:=0) g0 rfl) Aw
  rw [decide_eq_false (hd_ne h)] at c
  have hne:BD true (.t (.int ((3:Nat):Int))) (.t (.int 3)) [vl (.tup [.str (hd h),.str s,.tup (es.map E.t)])]=.ok (.t (.bl false)) [vl (.tup [.str (hd h),.str s,.tup (es.map E.t)])]:=rfl
  have l0:=Fe (Ae (g:=BD true) (Cw (f:=Aa 0) g0 (.inr rfl)) (Aw (t:=.int 3)) hne)
  have i2:Ad AN (Aa 0) (gc (.int 2)) [vl (.tup [.str (hd h),.str s,.tup (es.map E.t)])]=.ok (.t (.tup (es.map E.t))) [vl (.tup [.str (hd h),.str s,.tup (es.map E.t)])]:=C0 (i:=2) g0 rfl
  obtain ⟨y,_,hc⟩:=Gz (ft:=C8 (DK (fz (Ak (Am 1 (A4 n)) (Ai (fz (Aa 0)) Ao))))) (fe:=fz (Aa 0)) (p:=E.t) (rest:=[]) es none [] AI (fun x m =>
   EU (EJ (CS (Dz (An (AJ (Ab (t:=x.t) rfl)) AA) rfl rfl (shape n d x (E.Co hok.2 x m) (by omega))))))
  have ec:CA false [none] (itU (Ad AN (Aa 0) (gc (.int 2)))) (tgN 0) (C8 (DK (fz (Ak (Am 1 (A4 n)) (Ai (fz (Aa 0)) Ao))))) (fz (Aa 0)) [vl (.tup [.str (hd h),.str s,.tup (es.map E.t)])]=.ok (.t (.lst [])) [vl (.tup [.str (hd h),.str s,.tup (es.map E.t)])] :=
   E7 (src:=[none]) (Gm i2) ⟨by rw [show Dc _ _=[] from rfl];simp,by rfl⟩ hc rfl
  exact Ck (n:=0) (g:=EF (A4 n)) (args:=[vl (.tup [.str (hd h),.str s,.tup (es.map E.t)])]) (sq (Dd shape_1 rfl) (sq (Dd c rfl) (sq (Dd (Fg l0 (is_ok (n:="tuple") i2 rfl (by decide))) rfl) (A6 (nil_eq ec)))))
theorem dig_ok {fa fb:FS->Out Rv} {fs:FS} {ns:List Int} {a b:Int} (g0:Aa 0 fs=.ok (.t (.scr (ns.map T.int))) fs) (ha:fa fs=.ok (.t (.int a)) fs) (hb:fb fs=.ok (.t (.int b)) fs) (a0:0<=a) (a1:a<=1000) (b0:1<=b) (b1:b<=1000) :
  ∃ ds:List Int,ds.length=150/\Ak (Am 3 BW) (Ai (fz (Aa 0)) (Ai fa (Ai fb Ao))) fs=.ok (.nw (.lst (ds.map T.int))) fs:=by
 obtain ⟨ds,hd,ed⟩:=digits (t:=.scr (ns.map T.int)) (ns:=ns) (.inl rfl) a0 a1 b0 b1
 exact ⟨ds,hd,EA (An (AJ g0) (An ha (An hb AA))) rfl (by rw [show Dc _ _=[] from rfl];exact List.nodup_nil) ed (BX rfl)⟩
theorem wild_new {L:List Str} (hL:L≠[]) (hl:L.length<=1000) {f1 f2 f3:FS->Out Rv} {fs:FS} {ds:List Int} {down:Int} {d:Nat} (h1:f1 fs=.ok (.t (.lst (L.map T.str))) fs) (h2:f2 fs=.ok (.nw (.lst (ds.map T.int))) fs) (h3:f3 fs=.ok (.t (.int down)) fs) (h0:0<=down) (hd:down.toNat<=d) (h60:d < 60) (hn:nd down.toNat<=ds.length) :
  ∃ e:E,E.ok d e/\fz (Ak (Am 3 (BA 60)) (Ai f1 (Ai f2 (Ai f3 Ao)))) fs=.ok (.t e.t) fs:=by
 obtain ⟨t,es,g1,_,g3⟩:=wild hL hl 60 down.toNat down ds h0 rfl (by omega) hn
 obtain ⟨e,rfl,he⟩:=g1.e
 exact ⟨e,ok_up he hd,CS (Dz (rs:=[.t (.lst (L.map T.str)),.nw (.lst (ds.map T.int)),.t (.int down)]) (An h1 (An h2 (An h3 AA))) rfl rfl g3)⟩
theorem asg3 {f:FS->Out Rv} {i j k:Nat} {fs fs1 fs2 fs3 fs':FS} {x y z:T} (h:f fs=.ok (.t (.tup [x,y,z])) fs1) (h1:tgN i x fs1=some fs2) (h2:tgN j y fs2=some fs3) (h3:tgN k z fs3=some fs'):asgS f (EK 3 (AS (tgN i) (AS (tgN j) (AS (tgN k) DL)))) fs=.nx fs':=by
 have e:EK 3 (AS (tgN i) (AS (tgN j) (AS (tgN k) DL))) (.tup [x,y,z]) fs1=some fs':=by
  have e:EK 3 (AS (tgN i) (AS (tgN j) (AS (tgN k) DL))) (.tup [x,y,z]) fs1=AS (tgN i) (AS (tgN j) (AS (tgN k) DL)) [x,y,z] fs1:=rfl
  rw [e]
  simp only [AS,h1,h2,h3,Option.bind_some,DL]
 unfold asgS
 rw [h]
 show (match EK 3 (AS (tgN i) (AS (tgN j) (AS (tgN k) DL))) (.tup [x,y,z]) fs1 with | some fs=>SO.nx fs | none=>.bad)=_
 rw [e]
def E.args:E->List E
 | .nm _=>[]
 | .pt _ _ es=>es
theorem ifV_t {c:FS->Out Bool} {f g:FS->Out Rv} {fs:FS} {r:Out Rv} (h:c fs=.ok true fs) (e:f fs=r):ifV c f g fs=r:=by
 unfold ifV
 rw [h]
 exact e
theorem ifV_f {c:FS->Out Bool} {f g:FS->Out Rv} {fs:FS} {r:Out Rv} (h:c fs=.ok false fs) (e:g fs=r):ifV c f g fs=r:=by
 unfold ifV
 rw [h]
 exact e
theorem args_of (e:E):A8 [vl e.t]=.ok (.t (.tup (e.args.map E.t))) [vl e.t]:=by
 cases e with
 | nm s =>
  have et:(E.nm s).t=.tup [.str "name",.str s]:=by simp [E.t,exN]
  rw [et]
  have c:=eqV_s (fa:=Ad AN (Aa 0) (gc (.int 0))) (fb:=gc (.str "name")) (fs:=[vl (.tup [.str "name",.str s])]) (C0 (i:=0) (Ab rfl) rfl) Aw
  rw [decide_eq_true rfl] at c
  exact Ck (n:=0) (g:=BU) (args:=[vl (.tup [.str "name",.str s])]) (A6 (ifV_t c (BR (g:=Bg) (ts:=[]) AA rfl (show 0<=big by decide) rfl)))
 | pt h s es =>
  have et:(E.pt h s es).t=.tup [.str (hd h),.str s,.tup (es.map E.t)]:=by simp [E.t,exP,E.CW]
  rw [et]
  have c:=eqV_s (fa:=Ad AN (Aa 0) (gc (.int 0))) (fb:=gc (.str "name")) (fs:=[vl (.tup [.str (hd h),.str s,.tup (es.map E.t)])]) (C0 (i:=0) (Ab rfl) rfl) Aw
  rw [decide_eq_false (hd_ne h)] at c
  exact Ck (n:=0) (g:=BU) (args:=[vl (.tup [.str (hd h),.str s,.tup (es.map E.t)])]) (A6 (ifV_f c (C0 (i:=2) (Ab rfl) rfl)))
theorem runF_nw {n:Nat} {g:FS->SO} {args τ:FS} {o:FO} (h:g (args++List.replicate n none)=.ret (.nw o) τ):Dt n g args=.ok (.nw o) (τ.take args.length):=by
 unfold Dt
 rw [h]
theorem runF_own {n:Nat} {g:FS->SO} {args τ:FS} {i:Nat} {o:FO} (h:g (args++List.replicate n none)=.ret (.rf i) τ) (hi:τ[i]?=some (some (.own o))):Dt n g args=.ok (.nw o) ((τ.set i none).take args.length):=by
 unfold Dt
 rw [h]
 simp only [hi]
theorem sp_mod {e:E} (z:Int):∃ p,p∈e.sp/\atI (e.sp.map plT) (z % (e.sp.length:Int))=some (plT p):=by
 have h0:0 < e.sp.length:=by cases e <;> simp [E.sp]
 have h1:=Int.emod_lt_of_pos z (show (0:Int) < e.sp.length by omega)
 have h2:=Int.emod_nonneg z (show (e.sp.length:Int)≠0 by omega)
 obtain ⟨i,hi⟩:∃ i:Nat,z % (e.sp.length:Int)=i:=⟨(z % (e.sp.length:Int)).toNat,by omega⟩
 have hlt:i < e.sp.length:=by omega
 refine ⟨e.sp[i],List.getElem_mem hlt,?_⟩
 rw [hi]
 exact Bm (by rw [List.getElem?_map,List.getElem?_eq_getElem hlt];rfl)
theorem hL5:nms c 5≠[]:=fun z=>by have:=nms_len c 5;rw [z] at this;cases this
open PySem.Builtin.Int (intBits)
theorem Ea {x:Int} {n:Nat}:intBits x<=n↔x.natAbs < 2 ^ n:=by
 unfold intBits
 by_cases h:x=0
 ·subst h
  simp [Nat.two_pow_pos]
 ·have h':(x == 0)=false:=by simpa using h
  rw [h']
  have hn:x.natAbs≠0:=by omega
  have:=Nat.log2_lt hn (k:=n)
  simp only [Bool.false_eq_true,if_false]
  omega
theorem bits_add {x y:Int} {n:Nat} (h1:intBits x<=n) (h2:intBits y<=n):intBits (x+y)<=n+1:=by
 rw [Ea] at h1 h2 ⊢
 rw [Nat.pow_succ]
 generalize 2 ^ n=m at *
 omega
theorem bits_mul {x y:Int} {n m:Nat} (h1:intBits x<=n) (h2:intBits y<=m):intBits (x * y)<=n+m:=by
 rw [Ea] at h1 h2 ⊢
 rw [Int.natAbs_mul,Nat.pow_add]
 have hp:0 < 2 ^ n:=Nat.two_pow_pos n
 calc x.natAbs * y.natAbs<=2 ^ n * y.natAbs:=Nat.mul_le_mul_right _ (by omega)
  _ < 2 ^ n * 2 ^ m:=Nat.mul_lt_mul_of_pos_left h2 hp
theorem bits_sum {n:Nat}:∀ zs:List Int,(∀ z∈zs,intBits z<=n)->zs.sum.natAbs<=zs.length * 2 ^ n
 | [],_=>by simp
 | z :: zs,h=>by
  have h1:=bits_sum zs fun z m=>h z (List.mem_cons_of_mem _ m)
  have h2:=h z List.mem_cons_self
  rw [Ea] at h2
  rw [List.sum_cons,List.length_cons,Nat.add_mul,Nat.one_mul]
  generalize zs.length * 2 ^ n=q at *
  generalize 2 ^ n=m at *
  omega
theorem bits_all:∀ {ns:List Int} {z:Int},z∈ns->intBits z<=BC ns
 | n :: ns,z,h=>by
  simp only [BC]
  rcases List.mem_cons.mp h with rfl | h
  ·omega
  ·have:=bits_all h
   omega
theorem bits_get {ns:List Int} {N:Nat} (hb:BC ns<=N) (i:Nat):intBits (ns.getD i 0)<=N:=by
 by_cases h:i < ns.length
 ·have:ns.getD i 0∈ns:=by
   simp [List.getD,h]
  have:=bits_all this
  omega
 ·have:ns.getD i 0=0:=by simp [List.getD,List.getElem?_eq_none (by omega:ns.length<=i)]
  rw [this,Ea]
  exact Nat.two_pow_pos N
theorem Eb {x:Int} {n:Nat} (h:x.natAbs < 2 ^ n):intBits x<=n:=Ea.mpr h
theorem mixed {ns:List Int} {N:Nat} (hN:N<=2 ^ 20) (hb:BC ns<=N) {a4 bb:Int} (ha0:0<=a4) (ha1:a4<=4) (hb0:1<=bb) (hb1:bb<=10):∃ v τ,Ce [vl (.scr (ns.map T.int)),iv a4,iv bb]=.ok (.t (.int v)) τ:=by
 have all:∃ v τ,DX [vl (.scr (ns.map T.int)),iv a4,iv bb,none,none]=.ret (.t (.int v)) τ:=by
  unfold DX
  obtain ⟨zs,⟨hl,hz⟩,e1⟩:=drawn (t:=.scr (ns.map T.int)) (ns:=ns) (.inl rfl) (a:=a4) (b:=bb) ha0 (by omega) hb0 (by omega) [none,none]
  have hs:intBits zs.sum<=N+6:=by
   have:=bits_sum (n:=N) zs fun z m=>by
    obtain ⟨i,rfl⟩:=hz z m
    exact bits_get hb i
   rw [Ea,Nat.pow_add]
   have hp:=Nat.two_pow_pos N
   have h2:zs.length * 2 ^ N<=63 * 2 ^ N:=Nat.mul_le_mul_right _ hl
   generalize 2 ^ N=m at *
   omega
  generalize zs.sum=c at e1 hs
  generalize T.scr (ns.map T.int)=sc at e1 ⊢
  have s3:AK 3 (Ak gSum (Ac (CA false [none,some 0] (itR3 (Ac (Aa 1) (Ac (Ak D5 (Ac (Ak Be (Ac (Aa 0) Ao)) (Ac (gc (.int 63)) Ao))) (Ac (Aa 2) Ao)))) (tgN 0) HK (Ad AN (Aa 1) (fz (Aa 0)))) Ao)) [vl sc,iv a4,iv bb,none,none]=.nx [vl sc,iv a4,iv bb,iv c,none]:=AE e1 rfl
  have ce:=eqI_ok (fa:=Ad Bd (Aa 3) (gc (.int 2))) (fb:=gc (.int 0)) (fs:=[vl sc,iv a4,iv bb,iv c,none]) (i:=c % 2) (Ae (Ab rfl) Aw (Bf (by decide))) Aw
  by_cases h0:c % 2=0
  ·rw [decide_eq_true h0] at ce
   have hp:gPow (.t (.int 10)) (.t (.int 60)) [vl sc,iv a4,iv bb,iv c,none]=.ok (.t (.int (10 ^ 60))) [vl sc,iv a4,iv bb,iv c,none]:=by
    show (if (0:Int)<=60/\(60:Int)<=1000000/\(10:Int).natAbs < 2 ^ 64 then okT (.int (10 ^ (60:Int).toNat)) _ else .bad)=_
    rw [if_pos ⟨by decide,by decide,by decide⟩]
    rfl
   have hq:(0:Int) < 10 ^ 60:=by decide
   generalize (10:Int) ^ 60=P at hp hq
   exact ⟨_,_,sq s3 (Gb (Fh ce (A6 (Ae (Ae (Ab rfl) Aw (CJ ⟨by decide,by decide⟩)) (Ae Aw Aw hp) (Bf hq)))))⟩
  ·rw [decide_eq_false h0] at ce
   have hN6:N+6<=2 ^ 26:=by
                   have:(2:Nat) ^ 20=1048576:=by decide
                   have:(2:Nat) ^ 26=67108864:=by decide
                   omega
   have b1:intBits (c * c)<=(N+6)+(N+6):=bits_mul hs hs
   have b2:intBits (c * c+c)<=(N+6)+(N+6)+1:=bits_add b1 (by omega)
   have b3:intBits (c * c+c+a4)<=(N+6)+(N+6)+1+1:=bits_add b2 (Nat.le_trans (Eb (n:=3) (by omega)) (by omega))
   have b4:intBits (c * c+c+a4+1)<=(N+6)+(N+6)+1+1+1:=bits_add b3 (Nat.le_trans (Eb (n:=3) (by decide)) (by omega))
   have b5:intBits ((c * c+c+a4+1) * 982451653)<=(N+6)+(N+6)+1+1+1+30:=bits_mul b4 (Eb (by decide))
   have m1:Ad Bb (Aa 3) (Aa 3) [vl sc,iv a4,iv bb,iv c,none]=.ok (.t (.int (c * c))) [vl sc,iv a4,iv bb,iv c,none]:=Ae (Ab rfl) (Ab rfl) (gMulU_b ⟨by omega,by omega⟩)
   have m2:Ad Bb (Ad Ar (Ad Ar (Ad Ar (Ad Bb (Aa 3) (Aa 3)) (Aa 3)) (Aa 1)) (gc (.int 1))) (gc (.int 982451653)) [vl sc,iv a4,iv bb,iv c,none]=.ok (.t (.int ((c * c+c+a4+1) * 982451653))) [vl sc,iv a4,iv bb,iv c,none] :=
    Ae (Ae (Ae (Ae m1 (Ab rfl) A0) (Ab rfl) A0) Aw A0) Aw (gMulU_r ⟨by decide,by decide⟩)
   generalize (c * c+c+a4+1) * 982451653=f at m2 b5
   have s4:=AE (i:=4) m2 (fs':=[vl sc,iv a4,iv bb,iv c,iv f]) rfl
   have hff:intBits f<=2 ^ 26:=by
    have:(2:Nat) ^ 20=1048576:=by decide
    have:(2:Nat) ^ 26=67108864:=by decide
    omega
   have hp:gPow (.t (.int 10)) (.t (.int 18)) [vl sc,iv a4,iv bb,iv c,iv f]=.ok (.t (.int 1000000000000000000)) [vl sc,iv a4,iv bb,iv c,iv f]:=by
    show (if (0:Int)<=18/\(18:Int)<=1000000/\(10:Int).natAbs < 2 ^ 64 then okT (.int (10 ^ (18:Int).toNat)) _ else .bad)=_
    rw [if_pos ⟨by decide,by decide,by decide⟩]
    rfl
   have m3:Ad Bd (Ad Bb (Aa 4) (Aa 4)) (Ad Ar (Ad gPow (gc (.int 10)) (gc (.int 18))) (gc (.int 9))) [vl sc,iv a4,iv bb,iv c,iv f]=.ok (.t (.int (f * f % (1000000000000000000+9)))) [vl sc,iv a4,iv bb,iv c,iv f] :=
    Ae (Ae (Ab rfl) (Ab rfl) (gMulU_b ⟨hff,hff⟩)) (Ae (Ae Aw Aw hp) Aw A0) (Bf (by decide))
   have hg:-(2 ^ 64) < f * f % (1000000000000000000+9)/\f * f % (1000000000000000000+9) < 2 ^ 64:=by
    have h1:=Int.emod_nonneg (f * f) (show (1000000000000000000+9:Int)≠0 by decide)
    have h2:=Int.emod_lt_of_pos (f * f) (show (0:Int) < 1000000000000000000+9 by decide)
    generalize f * f % (1000000000000000000+9)=g at h1 h2 ⊢
    omega
   generalize f * f % (1000000000000000000+9)=g at m3 hg
   have m4:Ad Ar (Ad Bd (Aa 4) (gc (.int 2147483629))) (gc (.int 7)) [vl sc,iv a4,iv bb,iv c,iv f]=.ok (.t (.int (f % 2147483629+7))) [vl sc,iv a4,iv bb,iv c,iv f]:=Ae (Ae (Ab rfl) Aw (Bf (by decide))) Aw A0
   exact ⟨_,_,sq s3 (sq (Dd ce rfl) (sq s4 (A6 (Ae m3 m4 (E0 hg)))))⟩
 obtain ⟨v,τ,all⟩:=all
 refine ⟨v,τ.take 3,?_⟩
 unfold Ce Dt
 show (match DX [vl (.scr (ns.map T.int)),iv a4,iv bb,none,none] with | .nx τ=>_ | .ret (.t t) τ=>_ | .ret (.nw o) τ=>_ | .ret (.rf i) τ=>_ | .exc c τ=>_ | _=>_)=_
 rw [all]
 rfl
theorem Gd {g h:FS->SO} {fs fs':FS} {c:Str} (e:g fs=.exc c fs'):AW g h fs=.exc c fs':=by unfold AW;rw [e]
theorem for_exc {gt:T->FS->Option FS} {body:FS->SO} {t:T} {ts:List T} {fs fs1 fs2:FS} {c:Str} (h1:gt t fs=some fs1) (h2:body fs1=.exc c fs2):Eo gt body (t :: ts) fs=.exc c fs2:=by
 simp only [Eo,h1,h2]
theorem Gf {n:Nat} {g:FS->SO} {args τ:FS} {c:Str} (h:g (args++List.replicate n none)=.exc c τ):Dt n g args=.exc c (τ.take args.length):=by
 unfold Dt
 rw [h]
theorem Fc {p:Nat} {Fn:FS->Out Rv} {fa:FS->Out (List Rv)} {fs fs1 τ:FS} {rs:List Rv} {c:Str} (ha:fa fs=.ok rs fs1) (hp:rs.length=p) (hn:Dc fs1 (rs.map CQ)=[]) (hf:Fn (D2 fs1 (rs.map CQ))=.exc c τ):Ak (Am p Fn) fa fs=.exc c fs1:=by
 have hb:Fl (rs.map CQ) τ fs1=some fs1:=BX hn
 unfold Ak
 rw [ha]
 show Am p Fn rs fs1=_
 unfold Am
 rw [if_pos hp]
 unfold FQ
 rw [if_pos (by rw [hn];exact List.nodup_nil),hf]
 simp only [hb]
theorem fz_exc {f:FS->Out Rv} {fs fs1:FS} {c:Str} (h:f fs=.exc c fs1):fz f fs=.exc c fs1:=by unfold fz;rw [h];rfl
theorem bin2_exc {g:Rv->Rv->FS->Out Rv} {fa fb:FS->Out Rv} {fs fs1:FS} {c:Str} (h:fa fs=.exc c fs1):Ad g fa fb fs=.exc c fs1:=by unfold Ad;rw [h];rfl
theorem retS_exc {f:FS->Out Rv} {fs fs1:FS} {c:Str} (h:f fs=.exc c fs1):retS f fs=.exc c fs1:=by unfold retS;rw [h];rfl
theorem Hu {f:FS->Out Rv} {fs fs1:FS} {c:Str} (h:f fs=.exc c fs1):BE f fs=.exc c fs1:=by unfold BE;rw [h];rfl
theorem setS_exc {i:Nat} {f:FS->Out Rv} {fs fs1:FS} {c:Str} (h:f fs=.exc c fs1):AK i f fs=.exc c fs1:=by unfold AK;rw [h];rfl
theorem slF_exc {f:FS->Out Rv} {l u:FS->Out (Option Int)} {fs fs1:FS} {c:Str} (h:f fs=.exc c fs1):slF f l u fs=.exc c fs1:=by unfold slF;rw [h];rfl
def plI (q:List Int):T:=.tup (q.map T.int)
def inI (p:List Nat):List Int:=p.map fun (k:Nat)=>(k:Int)
theorem pl_in (p:List Nat):plT p=plI (inI p):=by simp [plI,plT,inI]
def E.way:List Int->E->Option (List E)
 | [],e=>some [e]
 | z :: q,e=>if 0<=z then (match e.args[z.toNat]? with
  | some y=>(E.way q y).map (e :: ·)
  | none=>none) else none
theorem chain_lt {fa fb fc:FS->Out Rv} {fs:FS} {a b c:Int} (ha:fa fs=.ok (.t (.int a)) fs) (hb:fb fs=.ok (.t (.int b)) fs) (hc:fc fs=.ok (.t (.int c)) fs):C8 (asB (chain gLe gLt fa fb fc)) fs=.ok (!(decide (a<=b/\b < c))) fs:=by
 have e1:gLe (.t (.int a)) (.t (.int b)) fs=.ok (.t (.bl (decide (a<=b)))) fs:=rfl
 have e2:gLt (.t (.int b)) (.t (.int c)) fs=.ok (.t (.bl (decide (b < c)))) fs:=rfl
 by_cases h:a<=b
 ·rw [decide_eq_true h] at e1
  simp only [C8,asB,chain,Out.bnd,Out.bind,ha,hb,hc,e1,e2,h,true_and]
 ·rw [decide_eq_false h] at e1
  simp only [C8,asB,chain,Out.bnd,Out.bind,ha,hb,hc,e1,e2,h,false_and,decide_false]
abbrev wayB:FS->SO:=(AW (AK 4 (fz (Ak (Am 1 A8) (Ai (Ad AN (Aa 2) (negF (gc (.int 1)))) Ao))))
  (AW (ifS (C8 (asB (chain gLe gLt (gc (.int 0)) (Aa 3) (Ak Be (Ac (Aa 4) Ao))))) (raiseS "NoPlace" (Ac (gc (.str ("there is no such argument":Str))) Ao)) nxS)
  (BE (Bk D6 (Aa 2) (Ac (Ad AN (Aa 4) (fz (Aa 3))) Ao)))))
theorem way_loop {P Q:T}:∀ (q:List Int) (e:E) (acc:List T) (x3 x4:Option Sl),Fre x3->Fre x4->acc.length+q.length<=1000 ->
  ∃ y2 y3 y4,(E.way q e=none/\Eo (tgN 3) wayB (q.map T.int) [vl P,vl Q,some (.own (.lst (acc++[e.t]))),x3,x4]=.exc "NoPlace" [vl P,vl Q,y2,y3,y4]) ∨
   ∃ w,E.way q e=some w/\Eo (tgN 3) wayB (q.map T.int) [vl P,vl Q,some (.own (.lst (acc++[e.t]))),x3,x4]=.nx [vl P,vl Q,some (.own (.lst (acc++w.map E.t))),y3,y4]
 | [],e,acc,x3,x4,_,_,_=>⟨none,x3,x4,.inr ⟨[e],rfl,by simp [Eo]⟩⟩
 | z :: q,e,acc,x3,x4,f3,f4,hl=>by
  rw [List.length_cons] at hl
  have e1:tgN 3 (.int z) [vl P,vl Q,some (.own (.lst (acc++[e.t]))),x3,x4]=some [vl P,vl Q,some (.own (.lst (acc++[e.t]))),iv z,x4]:=by unfold tgN;exact Bt rfl f3
  have a1:Ad AN (Aa 2) (negF (gc (.int 1))) [vl P,vl Q,some (.own (.lst (acc++[e.t]))),iv z,x4]=.ok (.t e.t) [vl P,vl Q,some (.own (.lst (acc++[e.t]))),iv z,x4] :=
   bin2_rf1 (Ez (i:=2) rfl) (y:=.int (-1)) rfl (Bx (seq_rf (i:=2) rfl) (atI_last acc e.t))
  have s4:AK 4 (fz (Ak (Am 1 A8) (Ai (Ad AN (Aa 2) (negF (gc (.int 1)))) Ao))) [vl P,vl Q,some (.own (.lst (acc++[e.t]))),iv z,x4]=.nx [vl P,vl Q,some (.own (.lst (acc++[e.t]))),iv z,vl (.tup (e.args.map E.t))] :=
   HV (CS (Dz (rs:=[.t e.t]) (An a1 AA) rfl rfl (args_of e))) (Bt rfl f4)
  have cl:Ak Be (Ac (Aa 4) Ao) [vl P,vl Q,some (.own (.lst (acc++[e.t]))),iv z,vl (.tup (e.args.map E.t))]=.ok (.t (.int (e.args.length:Int))) [vl P,vl Q,some (.own (.lst (acc++[e.t]))),iv z,vl (.tup (e.args.map E.t))]:=by
   have:=Cw (f:=Aa 4) (fs:=[vl P,vl Q,some (.own (.lst (acc++[e.t]))),iv z,vl (.tup (e.args.map E.t))]) (ts:=e.args.map E.t) (Ab rfl) (.inr rfl)
   rwa [List.length_map] at this
  have cc:=chain_lt (fa:=gc (.int 0)) (fb:=Aa 3) (fs:=[vl P,vl Q,some (.own (.lst (acc++[e.t]))),iv z,vl (.tup (e.args.map E.t))]) (a:=0) Aw (Ab rfl) cl
  by_cases h:0<=z/\z < (e.args.length:Int)
  ·rw [decide_eq_true h] at cc
   obtain ⟨k,rfl⟩:∃ k:Nat,z=(k:Int):=⟨z.toNat,by omega⟩
   have hk:k < e.args.length:=by omega
   have ek:e.args[k]?=some e.args[k]:=List.getElem?_eq_getElem hk
   have ap:BE (Bk D6 (Aa 2) (Ac (Ad AN (Aa 4) (fz (Aa 3))) Ao)) [vl P,vl Q,some (.own (.lst (acc++[e.t]))),iv (k:Int),vl (.tup (e.args.map E.t))]=.nx [vl P,vl Q,some (.own (.lst ((acc++[e.t])++[(e.args[k]).t]))),iv (k:Int),vl (.tup (e.args.map E.t))] :=
    app_ok (i:=2) (ts:=acc++[e.t]) (t:=(e.args[k]).t) rfl (ix_var (ts:=e.args.map E.t) (i:=k) (Ab rfl) (AJ (Ab rfl)) (by rw [List.getElem?_map,ek];rfl)) (by show _ < 1000000;rw [List.length_append];simp;omega) rfl
   have b:wayB [vl P,vl Q,some (.own (.lst (acc++[e.t]))),iv (k:Int),x4]=.nx [vl P,vl Q,some (.own (.lst ((acc++[e.t])++[(e.args[k]).t]))),iv (k:Int),vl (.tup (e.args.map E.t))] :=
    sq s4 (sq (Dd cc rfl) ap)
   have ew:E.way ((k:Int) :: q) e=(E.way q e.args[k]).map (e :: ·):=by
    simp only [E.way]
    rw [if_pos (by omega),Int.toNat_natCast,ek]
   obtain ⟨y2,y3,y4,ih⟩:=way_loop (P:=P) (Q:=Q) q e.args[k] (acc++[e.t]) (iv (k:Int)) (vl (.tup (e.args.map E.t))) Bu Bu (by rw [List.length_append];simp;omega)
   refine ⟨y2,y3,y4,?_⟩
   rw [List.map_cons,Ho e1 b,ew]
   rcases ih with ⟨h1,h2⟩ | ⟨w,h1,h2⟩
   ·exact .inl ⟨by rw [h1];rfl,h2⟩
   ·exact .inr ⟨e :: w,by rw [h1];rfl,by rw [h2];simp⟩
  ·rw [decide_eq_false h] at cc
   refine ⟨some (.own (.lst (acc++[e.t]))),iv z,vl (.tup (e.args.map E.t)),.inl ⟨?_,?_⟩⟩
   ·simp only [E.way]
    by_cases h0:0<=z
    ·rw [if_pos h0,List.getElem?_eq_none (by omega)]
    ·rw [if_neg h0]
   ·rw [List.map_cons]
    exact for_exc e1 (sq s4 (Gd (Fh cc rfl)))
theorem C4 (e:E) (q:List Int) (hq:q.length<=900):(E.way q e=none/\BH [vl e.t,vl (plI q)]=.exc "NoPlace" [vl e.t,vl (plI q)]) ∨
  ∃ w,E.way q e=some w/\BH [vl e.t,vl (plI q)]=.ok (.nw (.lst (w.map E.t))) [vl e.t,vl (plI q)]:=by
 obtain ⟨y2,y3,y4,h⟩:=way_loop (P:=e.t) (Q:=plI q) q e [] none none AI AI (by simp;omega)
 have s2:AK 2 (AD En (Ac (fz (Aa 0)) Ao)) [vl e.t,vl (plI q),none,none,none]=.nx [vl e.t,vl (plI q),some (.own (.lst [e.t])),none,none] :=
  HW (o:=.lst [e.t]) (BR (g:=En) (ts:=[e.t]) (Az (AJ (Ab rfl)) AA) rfl (show 1<=big by decide) rfl) rfl
 have hi:itU (fz (Aa 1)) [vl e.t,vl (plI q),some (.own (.lst [e.t])),none,none]=.ok (q.map T.int) [vl e.t,vl (plI q),some (.own (.lst [e.t])),none,none]:=Gm (AJ (Ab rfl))
 rcases h with ⟨h1,h2⟩ | ⟨w,h1,h2⟩
 ·refine .inl ⟨h1,?_⟩
  refine (Gf (n:=3) (g:=EC) (args:=[vl e.t,vl (plI q)]) (τ:=[vl e.t,vl (plI q),y2,y3,y4]) (sq s2 (Gd ?_))).trans rfl
  unfold Gu
  rw [hi]
  exact h2
 ·refine .inr ⟨w,h1,?_⟩
  refine (runF_own (n:=3) (g:=EC) (args:=[vl e.t,vl (plI q)]) (τ:=[vl e.t,vl (plI q),some (.own (.lst (w.map E.t))),y3,y4]) (i:=2) (o:=.lst (w.map E.t)) (sq s2 (sq (fs':=[vl e.t,vl (plI q),some (.own (.lst (w.map E.t))),y3,y4]) ?_ (A6 (Ez rfl)))) rfl).trans rfl
  unfold Gu
  rw [hi]
  exact h2
theorem way_call {e:E} {q:List Int} {w:List E} {fs:FS} (hq:q.length<=900) (h:E.way q e=some w) (g0:Aa 0 fs=.ok (.t e.t) fs) (g1:Aa 1 fs=.ok (.t (plI q)) fs):fz (Ak (Am 2 BH) (Ai (fz (Aa 0)) (Ai (fz (Aa 1)) Ao))) fs=.ok (.t (.lst (w.map E.t))) fs:=by
 rcases C4 e q hq with ⟨h1,_⟩ | ⟨w',h1,h2⟩
 ·rw [h] at h1;cases h1
 ·rw [h] at h1
  cases h1
  exact fz_nw (o:=.lst (w.map E.t)) (EA (rs:=[.t e.t,.t (plI q)]) (An (AJ g0) (An (AJ g1) AA)) rfl (by rw [show Dc _ _=[] from rfl];exact List.nodup_nil) h2 (BX rfl))
theorem way_no {e:E} {q:List Int} {fs:FS} (hq:q.length<=900) (h:E.way q e=none) (g0:Aa 0 fs=.ok (.t e.t) fs) (g1:Aa 1 fs=.ok (.t (plI q)) fs):fz (Ak (Am 2 BH) (Ai (fz (Aa 0)) (Ai (fz (Aa 1)) Ao))) fs=.exc "NoPlace" fs:=by
 rcases C4 e q hq with ⟨_,h2⟩ | ⟨w',h1,_⟩
 ·exact fz_exc (Fc (rs:=[.t e.t,.t (plI q)]) (An (AJ g0) (An (AJ g1) AA)) rfl rfl h2)
 ·rw [h] at h1;cases h1
theorem part_no {e:E} {q:List Int} (hq:q.length<=900) (h:E.way q e=none):AX [vl e.t,vl (plI q)]=.exc "NoPlace" [vl e.t,vl (plI q)] :=
 (Gf (n:=0) (g:=DV) (args:=[vl e.t,vl (plI q)]) (τ:=[vl e.t,vl (plI q)]) (retS_exc (bin2_exc (way_no hq h (Ab rfl) (Ab rfl))))).trans rfl
theorem part_ok {e x:E} {q:List Int} {w:List E} (hq:q.length<=900) (h:E.way q e=some (w++[x])):AX [vl e.t,vl (plI q)]=.ok (.t x.t) [vl e.t,vl (plI q)]:=by
 have c:=way_call (fs:=[vl e.t,vl (plI q)]) hq h (Ab rfl) (Ab rfl)
 rw [List.map_append] at c
 exact (Ck (n:=0) (g:=DV) (args:=[vl e.t,vl (plI q)]) (τ:=[vl e.t,vl (plI q)]) (A6 (Ae c (y:=.int (-1)) rfl (Bx rfl (atI_last (w.map E.t) x.t))))).trans rfl
theorem put_no {e o:E} {q:List Int} (hq:q.length<=900) (h:E.way q e=none):BI [vl e.t,vl (plI q),vl o.t]=.exc "NoPlace" [vl e.t,vl (plI q),vl o.t] :=
 (Gf (n:=7) (g:=ED) (args:=[vl e.t,vl (plI q),vl o.t]) (τ:=[vl e.t,vl (plI q),vl o.t,none,none,none,none,none,none,none]) (Gd (setS_exc (slF_exc (way_no hq h (Ab rfl) (Ab rfl)))))).trans rfl
abbrev thB:FS->SO:=AK 0 (Ad AN (Ad AN (Aa 0) (gc (.int 2))) (fz (Aa 2)))
theorem Fq {x1:Option Sl}:∀ (p:List Nat) (e x:E) (x2:Option Sl),Fre x2->e.at p=some x->∃ y2,Eo (tgN 2) thB (p.map fun (k:Nat)=>T.int (k:Int)) [vl e.t,x1,x2]=.nx [vl x.t,x1,y2]
 | [],e,x,x2,f2,h=>by
  have:e=x:=by simpa [E.at] using h
  subst this
  exact ⟨x2,by simp [Eo]⟩
 | k :: p,.nm s,x,x2,_,h=>by simp [E.at] at h
 | k :: p,.pt a s es,x,x2,f2,h=>by
  obtain ⟨y,h1,h2⟩:=at_pt h
  have et:(E.pt a s es).t=.tup [.str (hd a),.str s,.tup (es.map E.t)]:=by simp [E.t,exP,E.CW]
  have e1:tgN 2 (.int (k:Int)) [vl (E.pt a s es).t,x1,x2]=some [vl (E.pt a s es).t,x1,iv (k:Int)]:=by unfold tgN;exact Bt rfl f2
  have g0:Aa 0 [vl (E.pt a s es).t,x1,iv (k:Int)]=.ok (.t (.tup [.str (hd a),.str s,.tup (es.map E.t)])) [vl (E.pt a s es).t,x1,iv (k:Int)]:=by rw [<- et];exact Ab rfl
  have b:thB [vl (E.pt a s es).t,x1,iv (k:Int)]=.nx [vl y.t,x1,iv (k:Int)] :=
   AE (ix_var (ts:=es.map E.t) (i:=k) (C0 (i:=2) g0 rfl) (AJ (Ab rfl)) (by rw [List.getElem?_map,h1];rfl)) rfl
  obtain ⟨y2,g⟩:=Fq (x1:=x1) p y x (iv (k:Int)) Bu h2
  refine ⟨y2,?_⟩
  rw [List.map_cons,Ho e1 b,g]
theorem there {e x:E} {p:List Nat} (h:e.at p=some x):BJ [vl e.t,vl (plT p)]=.ok (.t x.t) [vl x.t,vl (plT p)]:=by
 obtain ⟨y2,lp⟩:=Fq (x1:=vl (plT p)) p e x none AI h
 have hi:itU (fz (Aa 1)) [vl e.t,vl (plT p),none]=.ok (p.map fun (k:Nat)=>T.int (k:Int)) [vl e.t,vl (plT p),none]:=Gm (AJ (Ab rfl))
 refine (Ck (n:=1) (g:=GG) (args:=[vl e.t,vl (plT p)]) (t:=x.t) (τ:=[vl x.t,vl (plT p),y2]) (sq (fs':=[vl x.t,vl (plT p),y2]) ?_ (A6 (Ab rfl)))).trans rfl
 show SO.of (itU (fz (Aa 1)) [vl e.t,vl (plT p),none]) _=_
 rw [hi]
 exact lp
theorem Fs {e x:E} {p:List Nat} {f g:FS->Out Rv} {fs:FS} (h:e.at p=some x) (h1:f fs=.ok (.t e.t) fs) (h2:g fs=.ok (.t (plT p)) fs):fz (Ak (Am 2 BJ) (Ai f (Ai g Ao))) fs=.ok (.t x.t) fs :=
 CS (Dz (rs:=[.t e.t,.t (plT p)]) (An h1 (An h2 AA)) rfl rfl (there h))
def set1 (o:E) (a:E×Nat):E:=match a.1 with
 | .pt h s es=>.pt h s (es.set a.2 o)
 | e=>e
def Fit1 (a:E×Nat):Prop:=∃ h s es,a.1=.pt h s es/\a.2 < es.length/\es.length<=1000
def prT (a:E×Nat):T:=.tup [a.1.t,.int (a.2:Int)]
theorem way_at:∀ (p:List Nat) (e x:E) (d:Nat),E.ok d e->e.at p=some x->∃ w,E.way (inI p) e=some (w++[x])/\w.length=p.length/\(∀ a∈w.zip p,Fit1 a)/\∀ o,e.put p o=(w.zip p).reverse.foldl set1 o
 | [],e,x,d,_,h=>by
  have:e=x:=by simpa [E.at] using h
  subst this
  exact ⟨[],rfl,rfl,fun _ m=>(nomatch m),fun o=>by simp [E.put]⟩
 | k :: p,.nm s,x,d,_,h=>by simp [E.at] at h
 | k :: p,.pt a s es,x,0,ok,h=>by simp [E.ok] at ok
 | k :: p,.pt a s es,x,d+1,ok,h=>by
  obtain ⟨y,h1,h2⟩:=at_pt h
  simp only [E.ok] at ok
  have hk:k < es.length:=(List.getElem?_eq_some_iff.mp h1).1
  obtain ⟨w,g1,g2,g3,g4⟩:=way_at p y x d (E.Co ok.2 y (List.mem_of_getElem? h1)) h2
  refine ⟨.pt a s es :: w,?_,by simp [g2],fun b m=>?_,fun o=>?_⟩
  ·simp only [inI,List.map_cons,E.way]
   rw [if_pos (by omega),Int.toNat_natCast]
   show (match es[k]? with | some y=>(E.way _ y).map (E.pt a s es :: ·) | none=>none)=_
   rw [h1]
   show (E.way (inI p) y).map _=_
   rw [g1]
   rfl
  ·rw [List.zip_cons_cons] at m
   rcases List.mem_cons.mp m with rfl | m
   ·exact ⟨a,s,es,rfl,hk,by omega⟩
   ·exact g3 b m
  ·rw [List.zip_cons_cons,List.reverse_cons,List.foldl_append,<- g4 o]
   simp only [List.foldl_cons,List.foldl_nil,E.put,h1,set1]
theorem put_same:∀ (p:List Nat) (e x o:E),e.at p=some x->(e.put p o).at p=some o
 | [],e,x,o,_=>by simp [E.put,E.at]
 | k :: p,.nm s,x,o,h=>by simp [E.at] at h
 | k :: p,.pt a s es,x,o,h=>by
  obtain ⟨y,h1,h2⟩:=at_pt h
  have hk:k < es.length:=(List.getElem?_eq_some_iff.mp h1).1
  simp only [E.put,h1,E.at,List.getElem?_set_self hk]
  exact put_same p y x o h2
theorem slt_take {f g:FS->Out Rv} {fs:FS} {ts:List T} {v:Int} (h1:f fs=.ok (.t (.tup ts)) fs) (h2:g fs=.ok (.t (.int v)) fs) (h0:0<=v) (hl:v.toNat<=ts.length):slF f noP (AU g) fs=.ok (.t (.tup (ts.take v.toNat))) fs:=by
 have e:AU g fs=.ok (some v) fs:=by unfold AU;rw [h2];rfl
 unfold slF
 rw [h1]
 show (AU g fs).bind (fun hi fs=>gSlU (.t (.tup ts)) none hi fs)=_
 rw [e]
 show okT (.tup (FJ ts none (some v))) fs=_
 rw [E6 h0 hl]
 rfl
theorem slt_drop {f g:FS->Out Rv} {fs:FS} {ts:List T} {v:Int} (h1:f fs=.ok (.t (.tup ts)) fs) (h2:g fs=.ok (.t (.int v)) fs) (h0:0<=v) (hl:v.toNat<=ts.length):slF f (AU g) noP fs=.ok (.t (.tup (ts.drop v.toNat))) fs:=by
 have e:AU g fs=.ok (some v) fs:=by unfold AU;rw [h2];rfl
 unfold slF
 rw [h1]
 show (AU g fs).bind (fun lo fs=>(noP fs).bind fun hi fs=>gSlU (.t (.tup ts)) lo hi fs)=_
 rw [e]
 show okT (.tup (FJ ts (some v) none)) fs=_
 rw [DS h0 hl]
 rfl
theorem cut_init (ts:List T) (t:T):FJ (ts++[t]) none (some (-1))=ts:=by
 have e:HT.sIx (ts++[t]).length (ts++[t]).length (some (-1))=ts.length:=by
  show (if (-1:Int) < 0 then (-1+(((ts++[t]).length:Nat):Int)).toNat else min (-1:Int).toNat (ts++[t]).length)=_
  rw [if_pos (by decide),List.length_append]
  simp
  omega
 unfold FJ
 rw [e]
 show List.take (ts.length - 0) (List.drop 0 (ts++[t]))=ts
 simp
theorem sll_init {f:FS->Out Rv} {fs:FS} {ts:List T} {t:T} (h1:f fs=.ok (.t (.lst (ts++[t]))) fs):slF f noP (AU (negF (gc (.int 1)))) fs=.ok (.t (.lst ts)) fs:=by
 unfold slF
 rw [h1]
 show okT (.lst (FJ (ts++[t]) none (some (-1)))) fs=_
 rw [cut_init]
 rfl
theorem zip_lt {f g:FS->Out Rv} {fs:FS} {xs ys:List T} (h1:f fs=.ok (.t (.lst xs)) fs) (h2:g fs=.ok (.t (.tup ys)) fs):itV (fz (zipF f g)) fs=.ok (FL.pairs xs ys).reverse fs:=by
 have:fz (zipF f g) fs=.ok (.t (.lst (FL.pairs xs ys))) fs:=by
  refine fz_nw (o:=.lst (FL.pairs xs ys)) ?_
  simp only [zipF,h1,Out.bnd,Out.bind,h2,seqB]
 unfold itV
 rw [this]
 rfl
theorem pairs_E:∀ (w:List E) (p:List Nat),FL.pairs (w.map E.t) (p.map fun (k:Nat)=>T.int (k:Int))=(w.zip p).map prT
 | [],_=>by simp [FL.pairs]
 | _ :: _,[]=>by simp [FL.pairs]
 | e :: w,k :: p=>by
  rw [List.map_cons,List.map_cons,FL.pairs,pairs_E w p,List.zip_cons_cons,List.map_cons]
  rfl
abbrev puB:FS->SO:=(AW (asgS (fz (Aa 5)) (EK 3 (AS (tgN 7) (AS (tgN 8) (AS (tgN 9) DL)))))
  (AK 4 (AD Bg (Ac (fz (Aa 7)) (Ac (fz (Aa 8)) (Ac (Ad Ar (Ad Ar (slF (Aa 9) noP (AU (Aa 6))) (AD Bg (Ac (fz (Aa 4)) Ao))) (slF (Aa 9) (AU (Ad Ar (Aa 6) (gc (.int 1)))) noP)) Ao))))))
theorem put_loop {x0 x1 x2 x3:Option Sl}:∀ (M:List (E×Nat)) (o:E) (x5 x6 x7 x8 x9:Option Sl),Fre x5->Fre x6->Fre x7->Fre x8->Fre x9->(∀ a∈M,Fit1 a) ->
  ∃ y5 y6 y7 y8 y9,Eo (EK 2 (AS (tgN 5) (AS (tgN 6) DL))) puB (M.map prT) [x0,x1,x2,x3,vl o.t,x5,x6,x7,x8,x9]=.nx [x0,x1,x2,x3,vl (M.foldl set1 o).t,y5,y6,y7,y8,y9]
 | [],o,x5,x6,x7,x8,x9,_,_,_,_,_,_=>⟨x5,x6,x7,x8,x9,by simp [Eo]⟩
 | (a,k) :: M,o,x5,x6,x7,x8,x9,f5,f6,f7,f8,f9,hM=>by
  obtain ⟨h,s,es,ha,hk,hl⟩:=hM (a,k) (by simp)
  have ha:a=.pt h s es:=ha
  have hk:k < es.length:=hk
  subst ha
  have et:(E.pt h s es).t=.tup [.str (hd h),.str s,.tup (es.map E.t)]:=by simp [E.t,exP,E.CW]
  have t5:tgN 5 (E.pt h s es).t [x0,x1,x2,x3,vl o.t,x5,x6,x7,x8,x9]=some [x0,x1,x2,x3,vl o.t,vl (E.pt h s es).t,x6,x7,x8,x9]:=by unfold tgN;exact Bt rfl f5
  have t6:tgN 6 (.int (k:Int)) [x0,x1,x2,x3,vl o.t,vl (E.pt h s es).t,x6,x7,x8,x9]=some [x0,x1,x2,x3,vl o.t,vl (E.pt h s es).t,iv (k:Int),x7,x8,x9]:=by unfold tgN;exact Bt rfl f6
  have e1:EK 2 (AS (tgN 5) (AS (tgN 6) DL)) (prT (E.pt h s es,k)) [x0,x1,x2,x3,vl o.t,x5,x6,x7,x8,x9]=some [x0,x1,x2,x3,vl o.t,vl (E.pt h s es).t,iv (k:Int),x7,x8,x9]:=by
   show AS (tgN 5) (AS (tgN 6) DL) [(E.pt h s es).t,.int (k:Int)] _=_
   simp only [AS,t5,t6,Option.bind_some,DL]
  have t7:tgN 7 (.str (hd h)) [x0,x1,x2,x3,vl o.t,vl (E.pt h s es).t,iv (k:Int),x7,x8,x9]=some [x0,x1,x2,x3,vl o.t,vl (E.pt h s es).t,iv (k:Int),vl (.str (hd h)),x8,x9]:=by unfold tgN;exact Bt rfl f7
  have t8:tgN 8 (.str s) [x0,x1,x2,x3,vl o.t,vl (E.pt h s es).t,iv (k:Int),vl (.str (hd h)),x8,x9]=some [x0,x1,x2,x3,vl o.t,vl (E.pt h s es).t,iv (k:Int),vl (.str (hd h)),vl (.str s),x9]:=by unfold tgN;exact Bt rfl f8
  have t9:tgN 9 (.tup (es.map E.t)) [x0,x1,x2,x3,vl o.t,vl (E.pt h s es).t,iv (k:Int),vl (.str (hd h)),vl (.str s),x9]=some [x0,x1,x2,x3,vl o.t,vl (E.pt h s es).t,iv (k:Int),vl (.str (hd h)),vl (.str s),vl (.tup (es.map E.t))]:=by unfold tgN;exact Bt rfl f9
  have g5:fz (Aa 5) [x0,x1,x2,x3,vl o.t,vl (E.pt h s es).t,iv (k:Int),x7,x8,x9]=.ok (.t (.tup [.str (hd h),.str s,.tup (es.map E.t)])) [x0,x1,x2,x3,vl o.t,vl (E.pt h s es).t,iv (k:Int),x7,x8,x9]:=by rw [<- et];exact AJ (Ab rfl)
  have a1:=asg3 (i:=7) (j:=8) (k:=9) g5 t7 t8 t9
  generalize hfs:[x0,x1,x2,x3,vl o.t,vl (E.pt h s es).t,iv (k:Int),vl (.str (hd h)),vl (.str s),vl (.tup (es.map E.t))]=fs at a1
  have g4:Aa 4 fs=.ok (.t o.t) fs:=by subst hfs;exact Ab rfl
  have g6:Aa 6 fs=.ok (.t (.int (k:Int))) fs:=by subst hfs;exact Ab rfl
  have g7:Aa 7 fs=.ok (.t (.str (hd h))) fs:=by subst hfs;exact Ab rfl
  have g8:Aa 8 fs=.ok (.t (.str s)) fs:=by subst hfs;exact Ab rfl
  have g9:Aa 9 fs=.ok (.t (.tup (es.map E.t))) fs:=by subst hfs;exact Ab rfl
  have c1:=slt_take g9 g6 (by omega) (by rw [List.length_map];omega)
  have c2:AD Bg (Ac (fz (Aa 4)) Ao) fs=.ok (.t (.tup [o.t])) fs:=BR (g:=Bg) (ts:=[o.t]) (Az (AJ g4) AA) rfl (show 1<=big by decide) rfl
  have c3:=slt_drop (g:=Ad Ar (Aa 6) (gc (.int 1))) g9 (Ae g6 Aw A0) (by omega) (by rw [List.length_map];omega)
  rw [Int.toNat_natCast] at c1
  rw [show ((k:Int)+1).toNat=k+1 by omega] at c3
  have c4:Ad Ar (Ad Ar (slF (Aa 9) noP (AU (Aa 6))) (AD Bg (Ac (fz (Aa 4)) Ao))) (slF (Aa 9) (AU (Ad Ar (Aa 6) (gc (.int 1)))) noP) fs=.ok (.t (.tup ((es.set k o).map E.t))) fs:=by
   rw [List.map_set,List.set_eq_take_append_cons_drop,if_pos (by rw [List.length_map];exact hk)]
   rw [show List.take k (es.map E.t)++o.t :: List.drop (k+1) (es.map E.t)=(List.take k (es.map E.t)++[o.t])++List.drop (k+1) (es.map E.t) by simp]
   exact Ae (Ae c1 c2 (Hy (by show _<=1000000;simp;omega))) c3 (Hy (by show _<=1000000;simp;omega))
  have c5:AD Bg (Ac (fz (Aa 7)) (Ac (fz (Aa 8)) (Ac (Ad Ar (Ad Ar (slF (Aa 9) noP (AU (Aa 6))) (AD Bg (Ac (fz (Aa 4)) Ao))) (slF (Aa 9) (AU (Ad Ar (Aa 6) (gc (.int 1)))) noP)) Ao))) fs=.ok (.t (E.pt h s (es.set k o)).t) fs:=by
   have:(E.pt h s (es.set k o)).t=.tup [.str (hd h),.str s,.tup ((es.set k o).map E.t)]:=by simp [E.t,exP,E.CW]
   rw [this]
   exact BR (g:=Bg) (ts:=[.str (hd h),.str s,.tup ((es.set k o).map E.t)]) (Az (AJ g7) (Az (AJ g8) (Az c4 AA))) rfl (show 3<=big by decide) rfl
  have b:puB [x0,x1,x2,x3,vl o.t,vl (E.pt h s es).t,iv (k:Int),x7,x8,x9]=.nx [x0,x1,x2,x3,vl (E.pt h s (es.set k o)).t,vl (E.pt h s es).t,iv (k:Int),vl (.str (hd h)),vl (.str s),vl (.tup (es.map E.t))] :=
   sq a1 (AE c5 (by subst hfs;rfl))
  obtain ⟨y5,y6,y7,y8,y9,g⟩:=put_loop (x0:=x0) (x1:=x1) (x2:=x2) (x3:=x3) M (.pt h s (es.set k o)) (vl (E.pt h s es).t) (iv (k:Int)) (vl (.str (hd h))) (vl (.str s)) (vl (.tup (es.map E.t))) Bu Bu Bu Bu Bu fun a m=>hM a (List.mem_cons_of_mem _ m)
  refine ⟨y5,y6,y7,y8,y9,?_⟩
  rw [List.map_cons,Ho e1 b,g]
  rfl
theorem putAt_ok {e x o:E} {p:List Nat} {d:Nat} (he:E.ok d e) (hp:p.length<=900) (h:e.at p=some x):BI [vl e.t,vl (plT p),vl o.t]=.ok (.t (e.put p o).t) [vl e.t,vl (plT p),vl o.t]:=by
 obtain ⟨w,h1,h2,h3,h4⟩:=way_at p e x d he h
 have c:=way_call (fs:=[vl e.t,vl (plT p),vl o.t,none,none,none,none,none,none,none]) (e:=e) (q:=inI p) (by simpa [inI] using hp) h1 (Ab rfl) (by rw [<- pl_in];exact Ab rfl)
 rw [List.map_append] at c
 have s3:AK 3 (slF (fz (Ak (Am 2 BH) (Ai (fz (Aa 0)) (Ai (fz (Aa 1)) Ao)))) noP (AU (negF (gc (.int 1))))) [vl e.t,vl (plT p),vl o.t,none,none,none,none,none,none,none]=.nx [vl e.t,vl (plT p),vl o.t,vl (.lst (w.map E.t)),none,none,none,none,none,none]:=AE (sll_init c) rfl
 have s4:AK 4 (fz (Aa 2)) [vl e.t,vl (plT p),vl o.t,vl (.lst (w.map E.t)),none,none,none,none,none,none]=.nx [vl e.t,vl (plT p),vl o.t,vl (.lst (w.map E.t)),vl o.t,none,none,none,none,none]:=AE (AJ (Ab rfl)) rfl
 have z:itV (fz (zipF (Aa 3) (Aa 1))) [vl e.t,vl (plT p),vl o.t,vl (.lst (w.map E.t)),vl o.t,none,none,none,none,none]=.ok (((w.zip p).reverse).map prT) [vl e.t,vl (plT p),vl o.t,vl (.lst (w.map E.t)),vl o.t,none,none,none,none,none]:=by
  rw [List.map_reverse,<- pairs_E]
  exact zip_lt (Ab rfl) (Ab rfl)
 obtain ⟨y5,y6,y7,y8,y9,lp⟩:=put_loop (x0:=vl e.t) (x1:=vl (plT p)) (x2:=vl o.t) (x3:=vl (.lst (w.map E.t))) (w.zip p).reverse o none none none none none AI AI AI AI AI fun a m=>h3 a (List.mem_reverse.mp m)
 rw [<- h4 o] at lp
 refine (Ck (n:=7) (g:=ED) (args:=[vl e.t,vl (plT p),vl o.t]) (t:=(e.put p o).t) (τ:=[vl e.t,vl (plT p),vl o.t,vl (.lst (w.map E.t)),vl (e.put p o).t,y5,y6,y7,y8,y9]) (sq s3 (sq s4 (sq (fs':=[vl e.t,vl (plT p),vl o.t,vl (.lst (w.map E.t)),vl (e.put p o).t,y5,y6,y7,y8,y9]) ?_ (A6 (Ab rfl)))))).trans rfl
 unfold Gu
 rw [z]
 exact lp
theorem Cn {e x:E} {p:List Nat} {d:Nat} (he:E.ok d e) (hp:p.length<=900) (h:e.at p=some x):AX [vl e.t,vl (plT p)]=.ok (.t x.t) [vl e.t,vl (plT p)]:=by
 obtain ⟨w,h1,_⟩:=way_at p e x d he h
 rw [pl_in]
 exact part_ok (by simpa [inI] using hp) h1
theorem at_take:∀ (p:List Nat) (e x:E) (j:Nat),e.at p=some x->∃ y,e.at (p.take j)=some y
 | p,e,x,0,_=>⟨e,by simp [E.at]⟩
 | [],e,x,j+1,_=>⟨e,by simp [E.at]⟩
 | k :: p,.nm s,x,j+1,h=>by simp [E.at] at h
 | k :: p,.pt a s es,x,j+1,h=>by
  obtain ⟨y,h1,h2⟩:=at_pt h
  obtain ⟨z,h3⟩:=at_take p y x j h2
  exact ⟨z,by simp only [List.take_succ_cons,E.at,h1,h3]⟩
theorem way_bad:∀ (p:List Nat) (e y:E) (o:Int) (r:List Int),e.at p=some y->(o < 0∨(y.args.length:Int)<=o)->E.way (inI p++o :: r) e=none
 | [],e,y,o,r,h,ho=>by
  have:e=y:=by simpa [E.at] using h
  subst this
  show E.way (o :: r) e=none
  simp only [E.way]
  by_cases h0:0<=o
  ·rw [if_pos h0,List.getElem?_eq_none (by omega)]
  ·rw [if_neg h0]
 | k :: p,.nm s,y,o,r,h,_=>by simp [E.at] at h
 | k :: p,.pt a s es,y,o,r,h,ho=>by
  obtain ⟨z,h1,h2⟩:=at_pt h
  have ih:=way_bad p z y o r h2 ho
  show E.way ((k:Int) :: (inI p++o :: r)) (.pt a s es)=none
  simp only [E.way]
  rw [if_pos (by omega),Int.toNat_natCast]
  show (match es[k]? with | some y=>(E.way _ y).map (E.pt a s es :: ·) | none=>none)=_
  rw [h1]
  show (E.way _ z).map _=_
  rw [ih]
  rfl
theorem cut_drop {xs:List T} {v:Int} (h0:0<=v):FJ xs (some v) none=xs.drop v.toNat:=by
 by_cases h:v.toNat<=xs.length
 ·exact DS h0 h
 ·have e:HT.sIx xs.length 0 (some v)=xs.length:=by
   show (if v < 0 then (v+(xs.length:Int)).toNat else min v.toNat xs.length)=_
   rw [if_neg (by omega)]
   omega
  unfold FJ
  rw [e,List.drop_eq_nil_of_le (Nat.le_refl _),List.drop_eq_nil_of_le (by omega),List.take_nil]
theorem slt_drop' {f g:FS->Out Rv} {fs:FS} {ts:List T} {v:Int} (h1:f fs=.ok (.t (.tup ts)) fs) (h2:g fs=.ok (.t (.int v)) fs) (h0:0<=v):slF f (AU g) noP fs=.ok (.t (.tup (ts.drop v.toNat))) fs:=by
 have e:AU g fs=.ok (some v) fs:=by unfold AU;rw [h2];rfl
 unfold slF
 rw [h1]
 show (AU g fs).bind (fun lo fs=>(noP fs).bind fun hi fs=>gSlU (.t (.tup ts)) lo hi fs)=_
 rw [e]
 show okT (.tup (FJ ts (some v) none)) fs=_
 rw [cut_drop h0]
 rfl
theorem at4 {a b c d:Int} (x:Int):∃ o,(o=a∨o=b∨o=c∨o=d)/\atI [T.int a,T.int b,T.int c,T.int d] (x % 4)=some (.int o):=by
 have h:x % 4=((0:Nat):Int)∨x % 4=((1:Nat):Int)∨x % 4=((2:Nat):Int)∨x % 4=((3:Nat):Int):=by omega
 rcases h with h | h | h | h <;> rw [h]
 ·exact ⟨a,.inl rfl,Bm rfl⟩
 ·exact ⟨b,.inr (.inl rfl),Bm rfl⟩
 ·exact ⟨c,.inr (.inr (.inl rfl)),Bm rfl⟩
 ·exact ⟨d,.inr (.inr (.inr rfl)),Bm rfl⟩
theorem many_ok {e y:E} {p:List Nat} {v j:Int}:ifS (asB (Ad (BD true) (Ad AN (Aa 4) (gc (.int 0))) (gc (.str ("name":Str))))) (AK 5 (Ak Be (Ac (Ad AN (Aa 4) (gc (.int 2))) Ao))) nxS [vl e.t,vl (plT p),iv v,iv j,vl y.t,iv 0,none]=.nx [vl e.t,vl (plT p),iv v,iv j,vl y.t,iv (y.args.length:Int),none]:=by
 cases y with
 | nm s =>
  have et:(E.nm s).t=.tup [.str "name",.str s]:=by simp [E.t,exN]
  rw [et]
  have c:=neV_s (fa:=Ad AN (Aa 4) (gc (.int 0))) (fb:=gc (.str "name")) (fs:=[vl e.t,vl (plT p),iv v,iv j,vl (.tup [.str "name",.str s]),iv 0,none]) (C0 (i:=0) (Ab rfl) rfl) Aw
  rw [decide_eq_true rfl] at c
  exact Dd c rfl
 | pt h s es =>
  have et:(E.pt h s es).t=.tup [.str (hd h),.str s,.tup (es.map E.t)]:=by simp [E.t,exP,E.CW]
  rw [et]
  have c:=neV_s (fa:=Ad AN (Aa 4) (gc (.int 0))) (fb:=gc (.str "name")) (fs:=[vl e.t,vl (plT p),iv v,iv j,vl (.tup [.str (hd h),.str s,.tup (es.map E.t)]),iv 0,none]) (C0 (i:=0) (Ab rfl) rfl) Aw
  rw [decide_eq_false (hd_ne h)] at c
  have el:=Cw (f:=Ad AN (Aa 4) (gc (.int 2))) (fs:=[vl e.t,vl (plT p),iv v,iv j,vl (.tup [.str (hd h),.str s,.tup (es.map E.t)]),iv 0,none]) (ts:=es.map E.t) (C0 (i:=2) (Ab rfl) rfl) (.inr rfl)
  rw [List.length_map] at el
  exact Fh c (AE el rfl)
theorem bad_spot {e x:E} {p:List Nat} (v:Int) (hp:p.length<=100) (h:e.at p=some x):∃ q:List Int,q.length<=900/\E.way q e=none/\BB [vl e.t,vl (plT p),iv v]=.ok (.t (plI q)) [vl e.t,vl (plT p),iv v]:=by
 have l1:Ak Be (Ac (Aa 1) Ao) [vl e.t,vl (plT p),iv v,none,none,none,none]=.ok (.t (.int (p.length:Int))) [vl e.t,vl (plT p),iv v,none,none,none,none]:=by
  have:=Cw (f:=Aa 1) (fs:=[vl e.t,vl (plT p),iv v,none,none,none,none]) (ts:=p.map fun (k:Nat)=>T.int (k:Int)) (Ab rfl) (.inr rfl)
  rwa [List.length_map] at this
 have s3:AK 3 (Ad Bd (Aa 2) (Ad Ar (Ak Be (Ac (Aa 1) Ao)) (gc (.int 1)))) [vl e.t,vl (plT p),iv v,none,none,none,none]=.nx [vl e.t,vl (plT p),iv v,iv (v % ((p.length:Int)+1)),none,none,none] :=
  AE (Ae (Ab rfl) (Ae l1 Aw A0) (Bf (by omega))) rfl
 obtain ⟨j,hj,hjl⟩:∃ j:Nat,v % ((p.length:Int)+1)=(j:Int)/\j<=p.length:=by
  have h1:=Int.emod_nonneg v (show ((p.length:Int)+1)≠0 by omega)
  have h2:=Int.emod_lt_of_pos v (show (0:Int) < (p.length:Int)+1 by omega)
  exact ⟨(v % ((p.length:Int)+1)).toNat,by omega,by omega⟩
 rw [hj] at s3
 obtain ⟨y,hy⟩:=at_take p e x j h
 have tk:∀ fs:FS,Aa 1 fs=.ok (.t (plT p)) fs->Aa 3 fs=.ok (.t (.int (j:Int))) fs->slF (Aa 1) noP (AU (Aa 3)) fs=.ok (.t (plT (p.take j))) fs:=fun fs g1 g3=>by
  have:=slt_take (ts:=p.map fun (k:Nat)=>T.int (k:Int)) g1 g3 (by omega) (by rw [List.length_map];omega)
  rw [Int.toNat_natCast,<- List.map_take] at this
  exact this
 have s4:AK 4 (fz (Ak (Am 2 BJ) (Ai (fz (Aa 0)) (Ai (slF (Aa 1) noP (AU (Aa 3))) Ao)))) [vl e.t,vl (plT p),iv v,iv (j:Int),none,none,none]=.nx [vl e.t,vl (plT p),iv v,iv (j:Int),vl y.t,none,none] :=
  AE (Fs hy (AJ (Ab rfl)) (tk _ (Ab rfl) (Ab rfl))) rfl
 have s5:AK 5 (gc (.int 0)) [vl e.t,vl (plT p),iv v,iv (j:Int),vl y.t,none,none]=.nx [vl e.t,vl (plT p),iv v,iv (j:Int),vl y.t,iv 0,none]:=AE Aw rfl
 have s6:=many_ok (e:=e) (y:=y) (p:=p) (v:=v) (j:=(j:Int))
 generalize hm:y.args.length=m at s6
 generalize hfs:[vl e.t,vl (plT p),iv v,iv (j:Int),vl y.t,iv (m:Int),none]=fs at s6
 have g2:Aa 2 fs=.ok (.t (.int v)) fs:=by subst hfs;exact Ab rfl
 have g5:Aa 5 fs=.ok (.t (.int (m:Int))) fs:=by subst hfs;exact Ab rfl
 have d7:Ad BZ (Aa 2) (gc (.int 7)) fs=.ok (.t (.int (v / 7))) fs:=Ae g2 Aw (CJ ⟨by decide,by decide⟩)
 have hpw:gPow (.t (.int 10)) (.t (.int 40)) fs=.ok (.t (.int (10 ^ 40))) fs:=by
  show (if (0:Int)<=40/\(40:Int)<=1000000/\(10:Int).natAbs < 2 ^ 64 then okT (.int (10 ^ (40:Int).toNat)) _ else .bad)=_
  rw [if_pos ⟨by decide,by decide,by decide⟩]
  rfl
 have hq:(0:Int) < 10 ^ 40:=by decide
 generalize (10:Int) ^ 40=P at hpw hq
 have mp:Ad Bd (Ad BZ (Aa 2) (gc (.int 7))) (Ad gPow (gc (.int 10)) (gc (.int 40))) fs=.ok (.t (.int (v / 7 % P))) fs:=Ae d7 (Ae Aw Aw hpw) (Bf hq)
 have h1:=Int.emod_nonneg (v / 7) (show P≠0 by omega)
 generalize v / 7 % P=r at mp h1
 have m3:Ad Bd (Ad BZ (Aa 2) (gc (.int 7))) (gc (.int 3)) fs=.ok (.t (.int (v / 7 % 3))) fs:=Ae d7 Aw (Bf (by decide))
 have h2:0<=v / 7 % 3:=by omega
 generalize v / 7 % 3=r3 at m3 h2
 have n1:negF (gc (.int 1)) fs=.ok (.t (.int (-1))) fs:=rfl
 obtain ⟨o,ho,eo⟩:=at4 (a:=(m:Int)) (b:=(m:Int)+1+r) (c:=-1 - r3) (d:=-1 - r) (v / 50)
 have hbad:o < 0∨(y.args.length:Int)<=o:=by rw [hm];omega
 have s7:AK 6 (Ad AN (AD Bs (Ac (fz (Aa 5)) (Ac (Ad Ar (Ad Ar (Aa 5) (gc (.int 1))) (Ad Bd (Ad BZ (Aa 2) (gc (.int 7))) (Ad gPow (gc (.int 10)) (gc (.int 40))))) (Ac (Ad Em (negF (gc (.int 1))) (Ad Bd (Ad BZ (Aa 2) (gc (.int 7))) (gc (.int 3)))) (Ac (Ad Em (negF (gc (.int 1))) (Ad Bd (Ad BZ (Aa 2) (gc (.int 7))) (Ad gPow (gc (.int 10)) (gc (.int 40))))) Ao))))) (Ad Bd (Ad BZ (Aa 2) (gc (.int 50))) (gc (.int 4)))) fs=.nx [vl e.t,vl (plT p),iv v,iv (j:Int),vl y.t,iv (m:Int),iv o] :=
  AE (Ae (Cf (ts:=[.int (m:Int),.int ((m:Int)+1+r),.int (-1 - r3),.int (-1 - r)]) (Az (AJ g5) (Az (Ae (Ae g5 Aw A0) mp A0) (Az (Ae n1 m3 gSub_i) (Az (Ae n1 mp gSub_i) AA)))) rfl (show 4<=big by decide)) (Ae (Ae g2 Aw (CJ ⟨by decide,by decide⟩)) Aw (Bf (by decide))) (Bx rfl eo)) (by subst hfs;rfl)
 generalize hgs:[vl e.t,vl (plT p),iv v,iv (j:Int),vl y.t,iv (m:Int),iv o]=gs at s7
 have k1:Aa 1 gs=.ok (.t (plT p)) gs:=by subst hgs;exact Ab rfl
 have k3:Aa 3 gs=.ok (.t (.int (j:Int))) gs:=by subst hgs;exact Ab rfl
 have k6:Aa 6 gs=.ok (.t (.int o)) gs:=by subst hgs;exact Ab rfl
 have c1:=tk gs k1 k3
 have c2:AD Bg (Ac (fz (Aa 6)) Ao) gs=.ok (.t (.tup [.int o])) gs:=BR (g:=Bg) (ts:=[.int o]) (Az (AJ k6) AA) rfl (show 1<=big by decide) rfl
 have c3:=slt_drop' (f:=Aa 1) (g:=Ad Ar (Aa 3) (gc (.int 1))) (ts:=p.map fun (k:Nat)=>T.int (k:Int)) k1 (Ae k3 Aw A0) (by omega)
 rw [show ((j:Int)+1).toNat=j+1 by omega] at c3
 refine ⟨inI (p.take j)++o :: inI (p.drop (j+1)),by simp [inI];omega,way_bad _ e y o _ hy hbad,?_⟩
 have c4:Ad Ar (Ad Ar (slF (Aa 1) noP (AU (Aa 3))) (AD Bg (Ac (fz (Aa 6)) Ao))) (slF (Aa 1) (AU (Ad Ar (Aa 3) (gc (.int 1)))) noP) gs=.ok (.t (plI (inI (p.take j)++o :: inI (p.drop (j+1))))) gs:=by
  have e1:plI (inI (p.take j)++o :: inI (p.drop (j+1)))=.tup ((((p.take j).map fun (k:Nat)=>T.int (k:Int))++[.int o])++(p.map fun (k:Nat)=>T.int (k:Int)).drop (j+1)):=by
   simp only [plI,inI,List.map_append,List.map_cons,List.map_map,List.map_drop,List.append_assoc,List.singleton_append,Function.comp_def]
  rw [e1]
  exact Ae (Ae c1 c2 (Hy (by show _<=1000000;simp;omega))) c3 (Hy (by show _<=1000000;simp;omega))
 refine (Ck (n:=4) (g:=DI) (args:=[vl e.t,vl (plT p),iv v]) (τ:=gs) (sq s3 (sq s4 (sq s5 (sq s6 (sq s7 (A6 c4))))))).trans ?_
 subst hgs
 rfl
theorem isX_ok {d:Str} {b:Bool} {fs:FS} (g0:Aa 0 fs=.ok (.t (.exn "NoPlace")) fs) (h:CC "NoPlace" d=b):isX xrs CC d (Aa 0) fs=.ok (.t (.bl b)) fs:=by
 unfold isX
 rw [g0]
 show (if xrs.contains "NoPlace"=true then okT (.bl (CC "NoPlace" d)) fs else .bad)=_
 rw [if_pos (by decide +kernel),h]
 rfl
abbrev bF:T:=.bl false
abbrev bT:T:=.bl true
abbrev nP:Option Sl:=vl (.exn "NoPlace")
theorem FY {a b c:Str} {x y z:Bool} {fs:FS} (g0:Aa 0 fs=.ok (.t (.exn "NoPlace")) fs) (h1:CC "NoPlace" a=x) (h2:CC "NoPlace" b=y) (h3:CC "NoPlace" c=z) :
  AD Bs (Ac (isX xrs CC a (Aa 0)) (Ac (isX xrs CC b (Aa 0)) (Ac (isX xrs CC c (Aa 0)) Ao))) fs=.ok (.t (.lst [.bl x,.bl y,.bl z])) fs :=
 Cf (ts:=[.bl x,.bl y,.bl z]) (Az (isX_ok g0 h1) (Az (isX_ok g0 h2) (Az (isX_ok g0 h3) AA))) rfl (show 3<=big by decide)
def cls15:List T:=[bF,bF,bF]++[bF,bF,bF]++[bF,bF,bF]++[bF,bF,bT]++[bF,bF,bF]
theorem classes_ok:Bq [nP]=.ok (.nw (.lst cls15)) [nP]:=by
 have s1:AK 1 (AD Bs (Ac (isX xrs CC "BadName" (Aa 0)) (Ac (isX xrs CC "Twice" (Aa 0)) (Ac (isX xrs CC "BadCount" (Aa 0)) Ao)))) [nP,none]=.nx [nP,vl (.lst [bF,bF,bF])] :=
  AE (FY (Ab rfl) (by decide +kernel) (by decide +kernel) (by decide +kernel)) rfl
 have nx:∀ {a b c:Str} {x y z:Bool} (ts:List T),ts.length<=100->CC "NoPlace" a=x->CC "NoPlace" b=y->CC "NoPlace" c=z->AK 1 (fz (Ad Ar (Aa 1) (AD Bs (Ac (isX xrs CC a (Aa 0)) (Ac (isX xrs CC b (Aa 0)) (Ac (isX xrs CC c (Aa 0)) Ao)))))) [nP,vl (.lst ts)]=.nx [nP,vl (.lst (ts++[.bl x,.bl y,.bl z]))]:=fun ts hl h1 h2 h3 =>
  AE (catL_ok (Ab rfl) (FY (Ab rfl) h1 h2 h3) (by show _<=1000000;simp;omega)) rfl
 have s2:=nx (a:="NoKind") (b:="Groundless") (c:="NoMaker") (x:=false) (y:=false) (z:=false) [bF,bF,bF] (by decide) (by decide +kernel) (by decide +kernel) (by decide +kernel)
 have s3:=nx (a:="NoName") (b:="NoFunction") (c:="NotLess") (x:=false) (y:=false) (z:=false) ([bF,bF,bF]++[bF,bF,bF]) (by decide) (by decide +kernel) (by decide +kernel) (by decide +kernel)
 have s4:=nx (a:="BadKind") (b:="TooLong") (c:="NoPlace") (x:=false) (y:=false) (z:=true) ([bF,bF,bF]++[bF,bF,bF]++[bF,bF,bF]) (by decide) (by decide +kernel) (by decide +kernel) (by decide +kernel)
 have r:Ad Ar (Aa 1) (AD Bs (Ac (isX xrs CC "NotShown" (Aa 0)) (Ac (isX xrs CC "NoSaying" (Aa 0)) (Ac (isX xrs CC "BadText" (Aa 0)) Ao)))) [nP,vl (.lst ([bF,bF,bF]++[bF,bF,bF]++[bF,bF,bF]++[bF,bF,bT]))]=.ok (.nw (.lst cls15)) [nP,vl (.lst ([bF,bF,bF]++[bF,bF,bF]++[bF,bF,bF]++[bF,bF,bT]))] :=
  Ae (Ab rfl) (FY (x:=false) (y:=false) (z:=false) (Ab rfl) (by decide +kernel) (by decide +kernel) (by decide +kernel)) rfl
 exact (runF_nw (n:=1) (g:=Ed) (args:=[nP]) (sq s1 (sq s2 (sq s3 (sq s4 (A6 r)))))).trans rfl
theorem cls_call:fz (Ak (Am 1 Bq) (Ai (fz (Aa 0)) Ao)) [nP]=.ok (.t (.lst cls15)) [nP] :=
 fz_nw (o:=.lst cls15) (EA (rs:=[.t (.exn "NoPlace")]) (An (AJ (Ab rfl)) AA) rfl (by rw [show Dc _ _=[] from rfl];exact List.nodup_nil) classes_ok (BX rfl))
theorem meth_lst {g:Rv->List Rv->FS->Out Rv} {f:FS->Out Rv} {fs:FS} {ts:List T} {r:Out Rv} (h:f fs=.ok (.t (.lst ts)) fs) (e:g (.t (.lst ts)) [.t (.bl true)] fs=r):Bk g f (Ac (gc (.bl true)) Ao) fs=r:=by
 unfold Bk
 rw [h]
 exact e
theorem which_ok:DR [nP]=.ok (.t (.int 11)) [nP]:=by
 have v:isV xrs (Aa 0) [nP]=.ok (.t (.bl true)) [nP]:=by
  unfold isV
  show (if xrs.contains "NoPlace"=true then okT (.bl true) [nP] else .bad)=_
  rw [if_pos (by decide +kernel)]
  rfl
 have c1:Bk gCnt (fz (Ak (Am 1 Bq) (Ai (fz (Aa 0)) Ao))) (Ac (gc (.bl true)) Ao) [nP]=.ok (.t (.int ((1:Nat):Int))) [nP]:=meth_lst cls_call rfl
 have c2:Bk gIdx (fz (Ak (Am 1 Bq) (Ai (fz (Aa 0)) Ao))) (Ac (gc (.bl true)) Ao) [nP]=.ok (.t (.int 11)) [nP]:=meth_lst cls_call rfl
 have ne:BD true (.t (.int ((1:Nat):Int))) (.t (.int 1)) [nP]=.ok (.t (.bl false)) [nP]:=rfl
 exact (Ck (n:=0) (g:=GF) (args:=[nP]) (sq (Dd (Fg (EU (EJ v)) (Fe (Ae (AJ c1) Aw ne))) rfl) (A6 c2))).trans rfl
theorem try_ok {e o:E} {q:List Int} {w:Int} {g:FS->SO} (hg:g [iv w,vl e.t,vl (plI q),vl o.t,vl .non,none]=.exc "NoPlace" [iv w,vl e.t,vl (plI q),vl o.t,vl .non,none]) :
  tryS 5 (fun c=>xrs.contains c && CC c "SayError") g (AK 4 (fz (Aa 5))) [iv w,vl e.t,vl (plI q),vl o.t,vl .non,none]=.nx [iv w,vl e.t,vl (plI q),vl o.t,nP,none]:=by
 have hc:(fun c=>xrs.contains c && CC c "SayError") "NoPlace"=true:=by decide +kernel
 unfold tryS
 rw [hg]
 show tryH 5 (fun c=>xrs.contains c && CC c "SayError") (AK 4 (fz (Aa 5))) "NoPlace" _=_
 unfold tryH
 rw [if_pos hc]
 rfl
theorem refused {e o:E} {q:List Int} {w:Int} (hq:q.length<=900) (h:E.way q e=none):Bp [iv w,vl e.t,vl (plI q),vl o.t]=.ok (.t (.bl true)) [iv w,vl e.t,vl (plI q),vl o.t]:=by
 have s4:AK 4 (gc .non) [iv w,vl e.t,vl (plI q),vl o.t,none,none]=.nx [iv w,vl e.t,vl (plI q),vl o.t,vl .non,none]:=AE Aw rfl
 have hg:ifS (asB (Ad (BD false) (Aa 0) (gc (.int 0)))) (BE (Ak (Am 2 AX) (Ai (fz (Aa 1)) (Ai (fz (Aa 2)) Ao)))) (BE (Ak (Am 3 BI) (Ai (fz (Aa 1)) (Ai (fz (Aa 2)) (Ai (fz (Aa 3)) Ao))))) [iv w,vl e.t,vl (plI q),vl o.t,vl .non,none]=.exc "NoPlace" [iv w,vl e.t,vl (plI q),vl o.t,vl .non,none]:=by
  have c:=eqV_i (fa:=Aa 0) (fb:=gc (.int 0)) (fs:=[iv w,vl e.t,vl (plI q),vl o.t,vl .non,none]) (i:=w) (Ab rfl) Aw
  by_cases hw:w=0
  ·rw [decide_eq_true hw] at c
   exact Fh c (Hu (Fc (rs:=[.t e.t,.t (plI q)]) (An (AJ (Ab rfl)) (An (AJ (Ab rfl)) AA)) rfl rfl (part_no hq h)))
  ·rw [decide_eq_false hw] at c
   exact Dd c (Hu (Fc (rs:=[.t e.t,.t (plI q),.t o.t]) (An (AJ (Ab rfl)) (An (AJ (Ab rfl)) (An (AJ (Ab rfl)) AA))) rfl rfl (put_no hq h)))
 have eqq:BD false (.t (.int 11)) (.t (.int 11)) [iv w,vl e.t,vl (plI q),vl o.t,nP,none]=.ok (.t (.bl true)) [iv w,vl e.t,vl (plI q),vl o.t,nP,none]:=gEqV_n (x:=11) (y:=11)
 exact (Ck (n:=2) (g:=Ec) (args:=[iv w,vl e.t,vl (plI q),vl o.t]) (sq s4 (sq (try_ok hg) (A6 (Ae (CS (Dz (rs:=[.t (.exn "NoPlace")]) (An (AJ (Ab rfl)) AA) rfl rfl which_ok)) Aw eqq))))).trans rfl
abbrev lB:FS->SO:=(AW (AK 7 (Ad AN (Aa 4) (Ad Bd (Ad Ar (Aa 5) (Aa 6)) (Ak Be (Ac (Aa 4) Ao)))))
  (AW (AK 8 (fz (Ak (Am 2 AX) (Ai (fz (Aa 2)) (Ai (fz (Aa 7)) Ao)))))
  (AW (ifS (orT (C8 (DK (fz (Ak (Am 1 (A4 60)) (Ai (fz (Aa 8)) Ao))))) (asB (Ad (BD true) (Aa 8) (fz (Ak (Am 2 BJ) (Ai (fz (Aa 2)) (Ai (fz (Aa 7)) Ao))))))) (retS (gc (.bl false))) nxS)
  (AW (AK 9 (fz (Ak (Am 3 BI) (Ai (fz (Aa 2)) (Ai (fz (Aa 7)) (Ai (fz (Aa 3)) Ao))))))
  (AW (ifS (orT (C8 (DK (fz (Ak (Am 1 (A4 60)) (Ai (fz (Aa 9)) Ao))))) (orT (asB (Ad (BD true) (Aa 9) (fz (Ak (Am 3 (CM 60)) (Ai (fz (Aa 2)) (Ai (fz (Aa 7)) (Ai (fz (Aa 3)) Ao))))))) (asB (Ad (BD true) (fz (Ak (Am 2 AX) (Ai (fz (Aa 9)) (Ai (fz (Aa 7)) Ao)))) (Aa 3))))) (retS (gc (.bl false))) nxS)
  (AW (AK 10 (fz (Ak (Am 3 BB) (Ai (fz (Aa 2)) (Ai (fz (Aa 7)) (Ai (Ad BZ (fz (Ak (Am 3 Ce) (Ai (fz (Aa 0)) (Ai (Ad Bd (Aa 6) (gc (.int 4))) (Ai (gc (.int 4)) Ao))))) (Ad Ar (Aa 6) (gc (.int 3)))) Ao))))))
  (ifS (orT (C8 (DK (fz (Ak (Am 4 Bp) (Ai (gc (.int 0)) (Ai (fz (Aa 2)) (Ai (fz (Aa 10)) (Ai (fz (Aa 3)) Ao)))))))) (C8 (DK (fz (Ak (Am 4 Bp) (Ai (gc (.int 1)) (Ai (fz (Aa 2)) (Ai (fz (Aa 10)) (Ai (fz (Aa 3)) Ao))))))))) (retS (gc (.bl false))) nxS)))))))
abbrev lS (ns:List Int) (c:Int) (e o:E) (st:Int) (x6 x7 x8 x9 x10:Option Sl):FS:=[vl (.scr (ns.map T.int)),vl (.lst ((nms c 5).map T.str)),vl e.t,vl o.t,vl (.lst (e.sp.map plT)),iv st,x6,x7,x8,x9,x10]
theorem ne_E {d:Nat} {x:E} {fa fb:FS->Out Rv} {fs:FS} (hx:E.ok d x) (hd:d<=28) (h1:fa fs=.ok (.t x.t) fs) (h2:fb fs=.ok (.t x.t) fs):asB (Ad (BD true) fa fb) fs=.ok false fs:=by
 obtain ⟨b,hb,eb⟩:=gEqV_E (neg:=true) (e':=x) hx hd
 have:b=true:=hb.mpr rfl
 subst this
 exact Fe (Ae h1 h2 (eb fs))
theorem shape_c {d:Nat} {x:E} {f:FS->Out Rv} {fs:FS} (hx:E.ok d x) (hd:d < 60) (h:f fs=.ok (.t x.t) fs):C8 (DK (fz (Ak (Am 1 (A4 60)) (Ai f Ao)))) fs=.ok false fs :=
 EU (EJ (CS (Dz (rs:=[.t x.t]) (An h AA) rfl rfl (shape 60 d x hx hd))))
section
variable {ns:List Int} {c st:Int} {e o:E}
theorem turn (hb:BC ns<=2 ^ 20) (he:E.ok 4 e) (ho:E.ok 2 o) {j:Nat} (hj:j < 20) {x7 x8 x9 x10:Option Sl} (f7:Fre x7) (f8:Fre x8) (f9:Fre x9) (f10:Fre x10) :
  ∃ y7 y8 y9 y10,Fre y7/\Fre y8/\Fre y9/\Fre y10/\lB (lS ns c e o st (iv (j:Int)) x7 x8 x9 x10)=.nx (lS ns c e o st (iv (j:Int)) y7 y8 y9 y10):=by
 obtain ⟨p,mp,ep⟩:=sp_mod (e:=e) (st+(j:Int))
 have hpl:=(sp_len he).2 p mp
 obtain ⟨x,hx⟩:=sp_at e p mp
 have ox:=ok_at p he hx
 have h0:0 < e.sp.length:=by cases e <;> simp [E.sp]
 have l4:Ak Be (Ac (Aa 4) Ao) (lS ns c e o st (iv (j:Int)) x7 x8 x9 x10)=.ok (.t (.int (e.sp.length:Int))) (lS ns c e o st (iv (j:Int)) x7 x8 x9 x10):=by
  have:=Cw (f:=Aa 4) (fs:=lS ns c e o st (iv (j:Int)) x7 x8 x9 x10) (ts:=e.sp.map plT) (Ab rfl) (.inl rfl)
  rwa [List.length_map] at this
 have t1:AK 7 (Ad AN (Aa 4) (Ad Bd (Ad Ar (Aa 5) (Aa 6)) (Ak Be (Ac (Aa 4) Ao)))) (lS ns c e o st (iv (j:Int)) x7 x8 x9 x10)=.nx (lS ns c e o st (iv (j:Int)) (vl (plT p)) x8 x9 x10) :=
  AE (Ae (Ab (t:=.lst (e.sp.map plT)) rfl) (Ae (Ae (Ab rfl) (Ab rfl) A0) l4 (Bf (by omega))) (Bx rfl ep)) (Bt rfl f7)
 have t2:AK 8 (fz (Ak (Am 2 AX) (Ai (fz (Aa 2)) (Ai (fz (Aa 7)) Ao)))) (lS ns c e o st (iv (j:Int)) (vl (plT p)) x8 x9 x10)=.nx (lS ns c e o st (iv (j:Int)) (vl (plT p)) (vl x.t) x9 x10) :=
  AE (CS (Dz (rs:=[.t e.t,.t (plT p)]) (An (AJ (Ab rfl)) (An (AJ (Ab rfl)) AA)) rfl rfl (Cn he (by omega) hx))) (Bt rfl f8)
 have t3:ifS (orT (C8 (DK (fz (Ak (Am 1 (A4 60)) (Ai (fz (Aa 8)) Ao))))) (asB (Ad (BD true) (Aa 8) (fz (Ak (Am 2 BJ) (Ai (fz (Aa 2)) (Ai (fz (Aa 7)) Ao))))))) (retS (gc (.bl false))) nxS (lS ns c e o st (iv (j:Int)) (vl (plT p)) (vl x.t) x9 x10)=.nx (lS ns c e o st (iv (j:Int)) (vl (plT p)) (vl x.t) x9 x10) :=
  Dd (Fg (shape_c ox (by omega) (AJ (Ab rfl))) (ne_E ox (by omega) (Ab rfl) (Fs hx (AJ (Ab rfl)) (AJ (Ab rfl))))) rfl
 have t4:AK 9 (fz (Ak (Am 3 BI) (Ai (fz (Aa 2)) (Ai (fz (Aa 7)) (Ai (fz (Aa 3)) Ao))))) (lS ns c e o st (iv (j:Int)) (vl (plT p)) (vl x.t) x9 x10)=.nx (lS ns c e o st (iv (j:Int)) (vl (plT p)) (vl x.t) (vl (e.put p o).t) x10) :=
  AE (CS (Dz (rs:=[.t e.t,.t (plT p),.t o.t]) (An (AJ (Ab rfl)) (An (AJ (Ab rfl)) (An (AJ (Ab rfl)) AA))) rfl rfl (putAt_ok he (by omega) hx))) (Bt rfl f9)
 have om:E.ok 6 (e.put p o):=put_okE ho p he
 have pm:=put_same p e x o hx
 have pe:=putE 60 p e o ⟨x,hx⟩ (by omega)
 generalize e.put p o=m at t4 om pm pe
 have t5:ifS (orT (C8 (DK (fz (Ak (Am 1 (A4 60)) (Ai (fz (Aa 9)) Ao))))) (orT (asB (Ad (BD true) (Aa 9) (fz (Ak (Am 3 (CM 60)) (Ai (fz (Aa 2)) (Ai (fz (Aa 7)) (Ai (fz (Aa 3)) Ao))))))) (asB (Ad (BD true) (fz (Ak (Am 2 AX) (Ai (fz (Aa 9)) (Ai (fz (Aa 7)) Ao)))) (Aa 3))))) (retS (gc (.bl false))) nxS (lS ns c e o st (iv (j:Int)) (vl (plT p)) (vl x.t) (vl m.t) x10)=.nx (lS ns c e o st (iv (j:Int)) (vl (plT p)) (vl x.t) (vl m.t) x10) :=
  Dd (Fg (shape_c om (by omega) (AJ (Ab rfl))) (Fg
   (ne_E om (by omega) (Ab rfl) (CS (Dz (rs:=[.t e.t,.t (plT p),.t o.t]) (An (AJ (Ab rfl)) (An (AJ (Ab rfl)) (An (AJ (Ab rfl)) AA))) rfl rfl pe)))
   (ne_E ho (by omega) (CS (Dz (rs:=[.t m.t,.t (plT p)]) (An (AJ (Ab rfl)) (An (AJ (Ab rfl)) AA)) rfl rfl (Cn om (by omega) pm))) (Ab rfl)))) rfl
 obtain ⟨v,τ,ev⟩:=mixed (ns:=ns) (Nat.le_refl _) hb (a4:=(j:Int) % 4) (bb:=4) (by omega) (by omega) (by omega) (by omega)
 have cell:Ad BZ (fz (Ak (Am 3 Ce) (Ai (fz (Aa 0)) (Ai (Ad Bd (Aa 6) (gc (.int 4))) (Ai (gc (.int 4)) Ao))))) (Ad Ar (Aa 6) (gc (.int 3))) (lS ns c e o st (iv (j:Int)) (vl (plT p)) (vl x.t) (vl m.t) x10)=.ok (.t (.int (v / ((j:Int)+3)))) (lS ns c e o st (iv (j:Int)) (vl (plT p)) (vl x.t) (vl m.t) x10) :=
  Ae (CS (Dz (rs:=[.t (.scr (ns.map T.int)),.t (.int ((j:Int) % 4)),.t (.int 4)]) (An (AJ (Ab rfl)) (An (Ae (Ab rfl) Aw (Bf (by decide))) (An Aw AA))) rfl rfl ev)) (Ae (Ab rfl) Aw A0) (CJ ⟨by omega,by omega⟩)
 generalize v / ((j:Int)+3)=u at cell
 obtain ⟨q,hq,hw,eq⟩:=bad_spot u (p:=p) (by omega) hx
 have t6:AK 10 (fz (Ak (Am 3 BB) (Ai (fz (Aa 2)) (Ai (fz (Aa 7)) (Ai (Ad BZ (fz (Ak (Am 3 Ce) (Ai (fz (Aa 0)) (Ai (Ad Bd (Aa 6) (gc (.int 4))) (Ai (gc (.int 4)) Ao))))) (Ad Ar (Aa 6) (gc (.int 3)))) Ao))))) (lS ns c e o st (iv (j:Int)) (vl (plT p)) (vl x.t) (vl m.t) x10)=.nx (lS ns c e o st (iv (j:Int)) (vl (plT p)) (vl x.t) (vl m.t) (vl (plI q))) :=
  AE (CS (Dz (rs:=[.t e.t,.t (plT p),.t (.int u)]) (An (AJ (Ab rfl)) (An (AJ (Ab rfl)) (An cell AA))) rfl rfl eq)) (Bt rfl f10)
 have rf:∀ w:Int,C8 (DK (fz (Ak (Am 4 Bp) (Ai (gc (.int w)) (Ai (fz (Aa 2)) (Ai (fz (Aa 10)) (Ai (fz (Aa 3)) Ao))))))) (lS ns c e o st (iv (j:Int)) (vl (plT p)) (vl x.t) (vl m.t) (vl (plI q)))=.ok false (lS ns c e o st (iv (j:Int)) (vl (plT p)) (vl x.t) (vl m.t) (vl (plI q))):=fun w =>
  EU (EJ (CS (Dz (rs:=[.t (.int w),.t e.t,.t (plI q),.t o.t]) (An Aw (An (AJ (Ab rfl)) (An (AJ (Ab rfl)) (An (AJ (Ab rfl)) AA)))) rfl rfl (refused hq hw))))
 exact ⟨vl (plT p),vl x.t,vl m.t,vl (plI q),Bu,Bu,Bu,Bu,sq t1 (sq t2 (sq t3 (sq t4 (sq t5 (sq t6 (Dd (Fg (rf 0) (rf 1)) rfl))))))⟩
end
theorem good:∀ ns:List Int,ns.length<=63->L2.BC ns<=2 ^ 20->∃ fs,f_law [some (.val (.scr (ns.map T.int)))]=.ok (.t (.bl true)) fs:=by
 intro ns hlen hb
 have en:=names (c:=ns.getD 0 0) (n:=5) (by omega) (bits_get hb 0)
 have ec0:=cell_at ns 0
 have ec1:=cell_at ns 1
 generalize ns.getD 0 0=c at en ec0
 generalize ns.getD 1 0=c1 at ec1
 have cell:∀ {k:Nat} {v:Int} {fs:FS},Ba [vl (.scr (ns.map T.int)),iv k]=.ok (.t (.int v)) [vl (.scr (ns.map T.int)),iv k]->Aa 0 fs=.ok (.t (.scr (ns.map T.int))) fs->fz (Ak (Am 2 Ba) (Ai (fz (Aa 0)) (Ai (gc (.int (k:Int))) Ao))) fs=.ok (.t (.int v)) fs:=fun h g =>
  CS (Dz (An (AJ g) (An Aw AA)) rfl rfl h)
 have s1:AK 1 (fz (Ak (Am 2 CT) (Ai (fz (Ak (Am 2 Ba) (Ai (fz (Aa 0)) (Ai (gc (.int 0)) Ao)))) (Ai (gc (.int 5)) Ao)))) [vl (.scr (ns.map T.int)),none,none,none,none,none,none,none,none,none,none]=.nx [vl (.scr (ns.map T.int)),vl (.lst ((nms c 5).map T.str)),none,none,none,none,none,none,none,none,none] :=
  HV (fz_nw (EA (An (cell ec0 (Ab rfl)) (An (Aw (t:=.int 5)) AA)) rfl (by rw [show Dc _ _=[] from rfl];exact List.nodup_nil) en (BX rfl))) rfl
 obtain ⟨ds,hd,ed⟩:=dig_ok (ns:=ns) (fs:=[vl (.scr (ns.map T.int)),vl (.lst ((nms c 5).map T.str)),none,none,none,none,none,none,none,none,none]) (Ab rfl) (Aw (t:=.int 1)) (Aw (t:=.int 3)) (by omega) (by omega) (by omega) (by omega)
 obtain ⟨e,he,ew⟩:=wild_new (L:=nms c 5) (hL5 (c:=c)) (by rw [nms_len];omega) (AJ (Ab (i:=1) rfl)) ed (Aw (t:=.int 4)) (d:=4) (by omega) (by decide) (by omega) (by rw [hd];decide)
 have s2:=AE (i:=2) (fs':=[vl (.scr (ns.map T.int)),vl (.lst ((nms c 5).map T.str)),vl e.t,none,none,none,none,none,none,none,none]) ew rfl
 obtain ⟨du,hu,edu⟩:=dig_ok (ns:=ns) (fs:=[vl (.scr (ns.map T.int)),vl (.lst ((nms c 5).map T.str)),vl e.t,none,none,none,none,none,none,none,none]) (Ab rfl) (Aw (t:=.int 2)) (Aw (t:=.int 3)) (by omega) (by omega) (by omega) (by omega)
 obtain ⟨o,ho,ewo⟩:=wild_new (L:=nms c 5) (hL5 (c:=c)) (by rw [nms_len];omega) (AJ (Ab (i:=1) rfl)) edu (Aw (t:=.int 2)) (d:=2) (by omega) (by decide) (by omega) (by rw [hu];decide)
 have s3:=AE (i:=3) (fs':=[vl (.scr (ns.map T.int)),vl (.lst ((nms c 5).map T.str)),vl e.t,vl o.t,none,none,none,none,none,none,none]) ewo rfl
 have s4:AK 4 (fz (Ak (Am 1 (By 60)) (Ai (fz (Aa 2)) Ao))) [vl (.scr (ns.map T.int)),vl (.lst ((nms c 5).map T.str)),vl e.t,vl o.t,none,none,none,none,none,none,none]=.nx [vl (.scr (ns.map T.int)),vl (.lst ((nms c 5).map T.str)),vl e.t,vl o.t,vl (.lst (e.sp.map plT)),none,none,none,none,none,none] :=
  AE (CS (Dz (An (AJ (Ab (t:=e.t) rfl)) AA) rfl rfl (spots 60 4 e he (by omega) (by omega)))) rfl
 have h0:0 < e.sp.length:=by cases e <;> simp [E.sp]
 have lc:∀ {x5:Option Sl},Ak Be (Ac (Aa 4) Ao) [vl (.scr (ns.map T.int)),vl (.lst ((nms c 5).map T.str)),vl e.t,vl o.t,vl (.lst (e.sp.map plT)),x5,none,none,none,none,none]=.ok (.t (.int (e.sp.length:Int))) [vl (.scr (ns.map T.int)),vl (.lst ((nms c 5).map T.str)),vl e.t,vl o.t,vl (.lst (e.sp.map plT)),x5,none,none,none,none,none]:=fun {x5}=>by
  have:=Cw (f:=Aa 4) (fs:=[vl (.scr (ns.map T.int)),vl (.lst ((nms c 5).map T.str)),vl e.t,vl o.t,vl (.lst (e.sp.map plT)),x5,none,none,none,none,none]) (ts:=e.sp.map plT) (Ab rfl) (.inl rfl)
  rwa [List.length_map] at this
 have s5:AK 5 (Ad Bd (fz (Ak (Am 2 Ba) (Ai (fz (Aa 0)) (Ai (gc (.int 1)) Ao)))) (Ak Be (Ac (Aa 4) Ao))) [vl (.scr (ns.map T.int)),vl (.lst ((nms c 5).map T.str)),vl e.t,vl o.t,vl (.lst (e.sp.map plT)),none,none,none,none,none,none]=.nx (lS ns c e o (c1 % (e.sp.length:Int)) none none none none none) :=
  AE (Ae (cell ec1 (Ab rfl)) lc (Bf (by omega))) rfl
 generalize c1 % (e.sp.length:Int)=st at s5
 obtain ⟨n,hn,en2⟩:∃ n:Nat,n<=20/\Ac (Ak D5 (Ac (gc (.int 20)) (Ac (Ak Be (Ac (Aa 4) Ao)) Ao))) Ao (lS ns c e o st none none none none none)=.ok [.t (.int (n:Int))] (lS ns c e o st none none none none none):=by
  have m:Ak D5 (Ac (gc (.int 20)) (Ac (Ak Be (Ac (Aa 4) Ao)) Ao)) (lS ns c e o st none none none none none)=.ok (.t (.int (if (e.sp.length:Int) < 20 then (e.sp.length:Int) else 20))) (lS ns c e o st none none none none none) :=
   callB_ok (Az Aw (Az lc AA)) rfl
  by_cases hs:(e.sp.length:Int) < 20
  ·rw [if_pos hs] at m
   exact ⟨e.sp.length,by omega,Az m AA⟩
  ·rw [if_neg hs] at m
   exact ⟨20,by omega,Az m AA⟩
 obtain ⟨fs',ef,_,x6,x7,x8,x9,x10,_,_,_,_,_,rfl⟩:=Gs (gt:=tgN 6) (body:=lB) (fun ts fs=>(∀ t∈ts,∃ j:Nat,j < 20/\t=.int (j:Int))/\∃ x6 x7 x8 x9 x10,Fre x6/\Fre x7/\Fre x8/\Fre x9/\Fre x10/\fs=lS ns c e o st x6 x7 x8 x9 x10)
  (fun t ts fs ⟨ht,x6,x7,x8,x9,x10,f6,f7,f8,f9,f10,hfs⟩=>by
   subst hfs
   obtain ⟨j,hj,rfl⟩:=ht t (by simp)
   obtain ⟨y7,y8,y9,y10,g7,g8,g9,g10,et⟩:=turn (ns:=ns) (c:=c) (st:=st) hb he ho hj f7 f8 f9 f10
   exact ⟨_,_,by unfold tgN;exact Bt rfl f6,et,fun u m=>ht u (List.mem_cons_of_mem _ m),_,_,_,_,_,Bu,g7,g8,g9,g10,rfl⟩)
  (FL.upTo 0 n) (lS ns c e o st none none none none none) ⟨fun t m=>by
   unfold FL.upTo at m
   obtain ⟨k,hk,rfl⟩:=List.mem_map.mp m
   have:=List.mem_range.mp hk
   exact ⟨k,by omega,by simp⟩,none,none,none,none,none,AI,AI,AI,AI,AI,rfl⟩
 have s6:=for1_ok (gt:=tgN 6) (body:=lB) en2 (Nat.lt_of_le_of_lt hn (by decide)) ef
 have all:b_law [vl (.scr (ns.map T.int)),none,none,none,none,none,none,none,none,none,none]=.ret (.t (.bl true)) (lS ns c e o st x6 x7 x8 x9 x10) :=
  sq s1 (sq s2 (sq s3 (sq s4 (sq s5 (sq s6 (A6 Aw))))))
 exact ⟨_,Ck (n:=10) (g:=b_law) (args:=[vl (.scr (ns.map T.int))]) all⟩
theorem us1 {α:Type} {us:List α} (e:us.length=1):∃ a,us=[a]:=by
 match us,e with
 | [a],_=>exact ⟨a,rfl⟩
theorem us2 {α:Type} {us:List α} (e:us.length=2):∃ a b,us=[a,b]:=by
 match us,e with
 | [a,b],_=>exact ⟨a,b,rfl⟩
theorem us3 {α:Type} {us:List α} (e:us.length=3):∃ a b c,us=[a,b,c]:=by
 match us,e with
 | [a,b,c],_=>exact ⟨a,b,c,rfl⟩
theorem us4 {α:Type} {us:List α} (e:us.length=4):∃ a b c d,us=[a,b,c,d]:=by
 match us,e with
 | [a,b,c,d],_=>exact ⟨a,b,c,d,rfl⟩
theorem us5 {α:Type} {us:List α} (e:us.length=5):∃ a b c d e,us=[a,b,c,d,e]:=by
 match us,e with
 | [a,b,c,d,e],_=>exact ⟨a,b,c,d,e,rfl⟩
def spLaw (K:PySem.W.Frag):Sp:=fun vs H Q _=>∃ (a:Addr) (ns:List Int),vs=[.ref a]/\SqL K H a (ns.map V.int)/\ns.length<=63/\BC ns<=2 ^ 20/\∀ H',Q (.bl true) H'
theorem rel_ints {K:PySem.W.Frag} {F:Wd} {H:Hp}:∀ (ns:List Int),Af K F H (ns.map T.int) (ns.map V.int)
 | []=>by simp [Af]
 | n :: ns=>by
  simp only [List.map_cons,Af]
  exact ⟨_,_,rfl,by simp [AG],rel_ints ns⟩
theorem law_sp {K:PySem.W.Frag} {Fn:FS->Out Rv} (good:∀ ns:List Int,ns.length<=63->BC ns<=2 ^ 20->∃ fs,Fn [some (.val (.scr (ns.map T.int)))]=.ok (.t (.bl true)) fs):∀ vs H Q E,spLaw K vs H Q E->spX K 1 Fn vs H Q E:=by
 intro vs H Q E ⟨a,ns,e,hs,hl,hb,k⟩
 subst e
 obtain ⟨fs,eg⟩:=good ns hl hb
 have key:∀ F:Wd,StL K F H a (ns.map V.int)->(∀ b,F b->H b≠none)->(∀ b,¬ F.p b)->spX K 1 Fn [.ref a] H Q E:=fun F st fd np=>by
  refine ⟨rfl,F,[some (.val (.scr (ns.map T.int)))],⟨[],?_,List.nodup_nil,(fun _ m=>nomatch m),fd,?_,fun b p=>(np b p).elim,fun b _ p=>np b p,(fun _ m=>nomatch m)⟩,?_⟩
  ·show Ax K F H [some (.val (.scr (ns.map T.int)))] [some (.ref a)] []
   simp only [Ax]
   exact ⟨_,_,rfl,by simp only [AG];exact ⟨a,_,rfl,st,rel_ints ns⟩,by first | exact ⟨rfl,rfl⟩ | trivial⟩
  ·intro i o e
   cases i with
   | zero=>cases e
   | succ i=>simp at e
  ·rw [eg]
   intro F' H' u σ' _ q
   obtain ⟨L,L',_,⟨_,qu⟩,_⟩:=q
   have:u=.bl true:=qu
   subst this
   exact k H'
 rcases hs with hs | hs
 ·exact key ⟨fun b=>b=a,fun _=>False⟩ (.inl ⟨rfl,hs⟩) (fun b e=>by
   have e':b=a:=e
   subst e'
   rcases hs with z | ⟨o,z⟩ <;> (rw [z];exact fun q=>nomatch q)) fun _ p=>p
 ·exact key ⟨fun _=>False,fun _=>False⟩ (.inr hs) (fun b e=>e.elim) fun _ p=>p
theorem all_mk {l:PySem.W.OpenLaw} {w:World} {K:PySem.W.Frag} {h:Heap} {mg:Str->Option Value} {fa:Addr} (X:K.In h) (G:h.Ns mainGlobals mg) (hfa:mg "law"=some (.ref fa))
  {f0:Addr} {od0 an0:Option Addr} {sl0:Array (Option Value)} {oc0 kV0 dc0 pm0 cd0 ct0:Value}
  {f1:Addr} {od1 an1:Option Addr} {sl1:Array (Option Value)} {oc1 kV1 dc1 pm1 cd1 ct1:Value}
  {f2:Addr} {od2 an2:Option Addr} {sl2:Array (Option Value)} {oc2 kV2 dc2 pm2 cd2 ct2:Value}
  {f3:Addr} {od3 an3:Option Addr} {sl3:Array (Option Value)} {oc3 kV3 dc3 pm3 cd3 ct3:Value}
  {f4:Addr} {od4 an4:Option Addr} {sl4:Array (Option Value)} {oc4 kV4 dc4 pm4 cd4 ct4:Value}
  {f5:Addr} {od5 an5:Option Addr} {sl5:Array (Option Value)} {oc5 kV5 dc5 pm5 cd5 ct5:Value}
  {f6:Addr} {od6 an6:Option Addr} {sl6:Array (Option Value)} {oc6 kV6 dc6 pm6 cd6 ct6:Value}
  {f7:Addr} {od7 an7:Option Addr} {sl7:Array (Option Value)} {oc7 kV7 dc7 pm7 cd7 ct7:Value}
  {f8:Addr} {od8 an8:Option Addr} {sl8:Array (Option Value)} {oc8 kV8 dc8 pm8 cd8 ct8:Value}
  {f9:Addr} {od9 an9:Option Addr} {sl9:Array (Option Value)} {oc9 kV9 dc9 pm9 cd9 ct9:Value}
  {f10:Addr} {od10 an10:Option Addr} {sl10:Array (Option Value)} {oc10 kV10 dc10 pm10 cd10 ct10:Value}
  {f11:Addr} {od11 an11:Option Addr} {sl11:Array (Option Value)} {oc11 kV11 dc11 pm11 cd11 ct11:Value}
  {f12:Addr} {od12 an12:Option Addr} {sl12:Array (Option Value)} {oc12 kV12 dc12 pm12 cd12 ct12:Value}
  {f13:Addr} {od13 an13:Option Addr} {sl13:Array (Option Value)} {oc13 kV13 dc13 pm13 cd13 ct13:Value}
  {f14:Addr} {od14 an14:Option Addr} {sl14:Array (Option Value)} {oc14 kV14 dc14 pm14 cd14 ct14:Value}
  {f15:Addr} {od15 an15:Option Addr} {sl15:Array (Option Value)} {oc15 kV15 dc15 pm15 cd15 ct15:Value}
  {f16:Addr} {od16 an16:Option Addr} {sl16:Array (Option Value)} {oc16 kV16 dc16 pm16 cd16 ct16:Value}
  {f17:Addr} {od17 an17:Option Addr} {sl17:Array (Option Value)} {oc17 kV17 dc17 pm17 cd17 ct17:Value}
  (a0:PySem.W.nsIn K mainGlobals "_law_names"=some (some (.ref f0)))
  (l0:K.lookup f0=some ⟨oc0,od0,.func (PySem.W.fnOf "_law_names" "_law_names" (AY Dr) (AR Dr) (Ap Dr) .none kV0 dc0 pm0 an0 cd0 ct0),sl0⟩) (c0:PySem.W.codeIn K cd0 "_law_names"=true) (k0:PySem.W.keepIn K (.ref f0)=true)
  (a1:PySem.W.nsIn K mainGlobals "_law_wild"=some (some (.ref f1)))
  (l1:K.lookup f1=some ⟨oc1,od1,.func (PySem.W.fnOf "_law_wild" "_law_wild" (AY DZ) (AR DZ) (Ap DZ) .none kV1 dc1 pm1 an1 cd1 ct1),sl1⟩) (c1:PySem.W.codeIn K cd1 "_law_wild"=true) (k1:PySem.W.keepIn K (.ref f1)=true)
  (a2:PySem.W.nsIn K mainGlobals "_law_spots"=some (some (.ref f2)))
  (l2:K.lookup f2=some ⟨oc2,od2,.func (PySem.W.fnOf "_law_spots" "_law_spots" (AY Dp) (AR Dp) (Ap Dp) .none kV2 dc2 pm2 an2 cd2 ct2),sl2⟩) (c2:PySem.W.codeIn K cd2 "_law_spots"=true) (k2:PySem.W.keepIn K (.ref f2)=true)
  (a3:PySem.W.nsIn K mainGlobals "_law_cell_at"=some (some (.ref f3)))
  (l3:K.lookup f3=some ⟨oc3,od3,.func (PySem.W.fnOf "_law_cell_at" "_law_cell_at" (AY Cj) (AR Cj) (Ap Cj) .none kV3 dc3 pm3 an3 cd3 ct3),sl3⟩) (c3:PySem.W.codeIn K cd3 "_law_cell_at"=true) (k3:PySem.W.keepIn K (.ref f3)=true)
  (a4:PySem.W.nsIn K mainGlobals "_law_digits"=some (some (.ref f4)))
  (l4:K.lookup f4=some ⟨oc4,od4,.func (PySem.W.fnOf "_law_digits" "_law_digits" (AY CG) (AR CG) (Ap CG) .none kV4 dc4 pm4 an4 cd4 ct4),sl4⟩) (c4:PySem.W.codeIn K cd4 "_law_digits"=true) (k4:PySem.W.keepIn K (.ref f4)=true)
  (a5:PySem.W.nsIn K mainGlobals "arguments_of"=some (some (.ref f5)))
  (l5:K.lookup f5=some ⟨oc5,od5,.func (PySem.W.fnOf "arguments_of" "arguments_of" (AY Bi) (AR Bi) (Ap Bi) .none kV5 dc5 pm5 an5 cd5 ct5),sl5⟩) (c5:PySem.W.codeIn K cd5 "arguments_of"=true) (k5:PySem.W.keepIn K (.ref f5)=true)
  (a6:PySem.W.nsIn K mainGlobals "way_to"=some (some (.ref f6)))
  (l6:K.lookup f6=some ⟨oc6,od6,.func (PySem.W.fnOf "way_to" "way_to" (AY Dk) (AR Dk) (Ap Dk) .none kV6 dc6 pm6 an6 cd6 ct6),sl6⟩) (c6:PySem.W.codeIn K cd6 "way_to"=true) (k6:PySem.W.keepIn K (.ref f6)=true)
  (a7:PySem.W.nsIn K mainGlobals "part_at"=some (some (.ref f7)))
  (l7:K.lookup f7=some ⟨oc7,od7,.func (PySem.W.fnOf "part_at" "part_at" (AY CF) (AR CF) (Ap CF) .none kV7 dc7 pm7 an7 cd7 ct7),sl7⟩) (c7:PySem.W.codeIn K cd7 "part_at"=true) (k7:PySem.W.keepIn K (.ref f7)=true)
  (a8:PySem.W.nsIn K mainGlobals "put_at"=some (some (.ref f8)))
  (l8:K.lookup f8=some ⟨oc8,od8,.func (PySem.W.fnOf "put_at" "put_at" (AY Dl) (AR Dl) (Ap Dl) .none kV8 dc8 pm8 an8 cd8 ct8),sl8⟩) (c8:PySem.W.codeIn K cd8 "put_at"=true) (k8:PySem.W.keepIn K (.ref f8)=true)
  (a9:PySem.W.nsIn K mainGlobals "_law_there"=some (some (.ref f9)))
  (l9:K.lookup f9=some ⟨oc9,od9,.func (PySem.W.fnOf "_law_there" "_law_there" (AY Dn) (AR Dn) (Ap Dn) .none kV9 dc9 pm9 an9 cd9 ct9),sl9⟩) (c9:PySem.W.codeIn K cd9 "_law_there"=true) (k9:PySem.W.keepIn K (.ref f9)=true)
  (a10:PySem.W.nsIn K mainGlobals "_law_bad_spot"=some (some (.ref f10)))
  (l10:K.lookup f10=some ⟨oc10,od10,.func (PySem.W.fnOf "_law_bad_spot" "_law_bad_spot" (AY BP) (AR BP) (Ap BP) .none kV10 dc10 pm10 an10 cd10 ct10),sl10⟩) (c10:PySem.W.codeIn K cd10 "_law_bad_spot"=true) (k10:PySem.W.keepIn K (.ref f10)=true)
  (a11:PySem.W.nsIn K mainGlobals "_law_shape"=some (some (.ref f11)))
  (l11:K.lookup f11=some ⟨oc11,od11,.func (PySem.W.fnOf "_law_shape" "_law_shape" (AY Dq) (AR Dq) (Ap Dq) .none kV11 dc11 pm11 an11 cd11 ct11),sl11⟩) (c11:PySem.W.codeIn K cd11 "_law_shape"=true) (k11:PySem.W.keepIn K (.ref f11)=true)
  (a12:PySem.W.nsIn K mainGlobals "_law_put"=some (some (.ref f12)))
  (l12:K.lookup f12=some ⟨oc12,od12,.func (PySem.W.fnOf "_law_put" "_law_put" (AY Fz) (AR Fz) (Ap Fz) .none kV12 dc12 pm12 an12 cd12 ct12),sl12⟩) (c12:PySem.W.codeIn K cd12 "_law_put"=true) (k12:PySem.W.keepIn K (.ref f12)=true)
  (a13:PySem.W.nsIn K mainGlobals "_law_mixed"=some (some (.ref f13)))
  (l13:K.lookup f13=some ⟨oc13,od13,.func (PySem.W.fnOf "_law_mixed" "_law_mixed" (AY Ds) (AR Ds) (Ap Ds) .none kV13 dc13 pm13 an13 cd13 ct13),sl13⟩) (c13:PySem.W.codeIn K cd13 "_law_mixed"=true) (k13:PySem.W.keepIn K (.ref f13)=true)
  (a14:PySem.W.nsIn K mainGlobals "_law_classes"=some (some (.ref f14)))
  (l14:K.lookup f14=some ⟨oc14,od14,.func (PySem.W.fnOf "_law_classes" "_law_classes" (AY Ci) (AR Ci) (Ap Ci) .none kV14 dc14 pm14 an14 cd14 ct14),sl14⟩) (c14:PySem.W.codeIn K cd14 "_law_classes"=true) (k14:PySem.W.keepIn K (.ref f14)=true)
  (a15:PySem.W.nsIn K mainGlobals "_law_which"=some (some (.ref f15)))
  (l15:K.lookup f15=some ⟨oc15,od15,.func (PySem.W.fnOf "_law_which" "_law_which" (AY Dm) (AR Dm) (Ap Dm) .none kV15 dc15 pm15 an15 cd15 ct15),sl15⟩) (c15:PySem.W.codeIn K cd15 "_law_which"=true) (k15:PySem.W.keepIn K (.ref f15)=true)
  (a16:PySem.W.nsIn K mainGlobals "_law_refused"=some (some (.ref f16)))
  (l16:K.lookup f16=some ⟨oc16,od16,.func (PySem.W.fnOf "_law_refused" "_law_refused" (AY Cg) (AR Cg) (Ap Cg) .none kV16 dc16 pm16 an16 cd16 ct16),sl16⟩) (c16:PySem.W.codeIn K cd16 "_law_refused"=true) (k16:PySem.W.keepIn K (.ref f16)=true)
  (a17:PySem.W.nsIn K mainGlobals "law"=some (some (.ref f17)))
  (l17:K.lookup f17=some ⟨oc17,od17,.func (PySem.W.fnOf "law" "law" (AY Ge) (AR Ge) (Ap Ge) .none kV17 dc17 pm17 an17 cd17 ct17),sl17⟩) (c17:PySem.W.codeIn K cd17 "law"=true) (k17:PySem.W.keepIn K (.ref f17)=true)
  (z_ValueError:PySem.W.nsIn K mainGlobals "ValueError"=some none)
  (z_isinstance:PySem.W.nsIn K mainGlobals "isinstance"=some none)
  (z_len:PySem.W.nsIn K mainGlobals "len"=some none)
  (z_list:PySem.W.nsIn K mainGlobals "list"=some none)
  (z_min:PySem.W.nsIn K mainGlobals "min"=some none)
  (z_range:PySem.W.nsIn K mainGlobals "range"=some none)
  (z_reversed:PySem.W.nsIn K mainGlobals "reversed"=some none)
  (z_str:PySem.W.nsIn K mainGlobals "str"=some none)
  (z_sum:PySem.W.nsIn K mainGlobals "sum"=some none)
  (z_tuple:PySem.W.nsIn K mainGlobals "tuple"=some none)
  (z_zip:PySem.W.nsIn K mainGlobals "zip"=some none)
  (x_all:exAll K xrs xds CC=true) :
  ∃ fd:FuncData,(∀ (s:Shared) (v:Value),BindsTo s fd ⟨[v],[]⟩ [("_law_script",v)])/\∀ base:Heap,K.In base->base.Ns mainGlobals mg->Dh l.prog w K mg base (CX1 l.prog w) 62 fa fd ["_law_script"] (spLaw K):=by
 have e:=hfa.symm.trans (PySem.W.mg_of X G a17)
 cases e
 have T:Tx K mg:=⟨PySem.W.mg_none_of X G z_ValueError,PySem.W.mg_none_of X G z_isinstance,PySem.W.mg_none_of X G z_len,PySem.W.mg_none_of X G z_list,PySem.W.mg_none_of X G z_min,PySem.W.mg_none_of X G z_range,PySem.W.mg_none_of X G z_reversed,PySem.W.mg_none_of X G z_str,PySem.W.mg_none_of X G z_sum,PySem.W.mg_none_of X G z_tuple,PySem.W.mg_none_of X G z_zip,GK.of X G x_all⟩
 have F0:=BM (st:=Dr) l0 c0 k0
 have B0:=F0.binds (ps:=["_law_cell","_law_count"]) fun _ _ _ _ _ _ us hl=>by obtain ⟨a,b,rfl⟩:=us2 hl;rfl
 have F1:=BM (st:=DZ) l1 c1 k1
 have B1:=F1.binds (ps:=["_law_names_here","_law_purse","_law_down"]) fun _ _ _ _ _ _ us hl=>by obtain ⟨a,b,c,rfl⟩:=us3 hl;rfl
 have F2:=BM (st:=Dp) l2 c2 k2
 have B2:=F2.binds (ps:=["_law_expression"]) fun _ _ _ _ _ _ us hl=>by obtain ⟨a,rfl⟩:=us1 hl;rfl
 have F3:=BM (st:=Cj) l3 c3 k3
 have B3:=F3.binds (ps:=["_law_script","_law_k"]) fun _ _ _ _ _ _ us hl=>by obtain ⟨a,b,rfl⟩:=us2 hl;rfl
 have F4:=BM (st:=CG) l4 c4 k4
 have B4:=F4.binds (ps:=["_law_script","_law_at","_law_parts"]) fun _ _ _ _ _ _ us hl=>by obtain ⟨a,b,c,rfl⟩:=us3 hl;rfl
 have F5:=BM (st:=Bi) l5 c5 k5
 have B5:=F5.binds (ps:=["expression"]) fun _ _ _ _ _ _ us hl=>by obtain ⟨a,rfl⟩:=us1 hl;rfl
 have F6:=BM (st:=Dk) l6 c6 k6
 have B6:=F6.binds (ps:=["expression","place"]) fun _ _ _ _ _ _ us hl=>by obtain ⟨a,b,rfl⟩:=us2 hl;rfl
 have F7:=BM (st:=CF) l7 c7 k7
 have B7:=F7.binds (ps:=["expression","place"]) fun _ _ _ _ _ _ us hl=>by obtain ⟨a,b,rfl⟩:=us2 hl;rfl
 have F8:=BM (st:=Dl) l8 c8 k8
 have B8:=F8.binds (ps:=["expression","place","other"]) fun _ _ _ _ _ _ us hl=>by obtain ⟨a,b,c,rfl⟩:=us3 hl;rfl
 have F9:=BM (st:=Dn) l9 c9 k9
 have B9:=F9.binds (ps:=["_law_expression","_law_place"]) fun _ _ _ _ _ _ us hl=>by obtain ⟨a,b,rfl⟩:=us2 hl;rfl
 have F10:=BM (st:=BP) l10 c10 k10
 have B10:=F10.binds (ps:=["_law_expression","_law_place","_law_cell"]) fun _ _ _ _ _ _ us hl=>by obtain ⟨a,b,c,rfl⟩:=us3 hl;rfl
 have F11:=BM (st:=Dq) l11 c11 k11
 have B11:=F11.binds (ps:=["_law_got"]) fun _ _ _ _ _ _ us hl=>by obtain ⟨a,rfl⟩:=us1 hl;rfl
 have F12:=BM (st:=Fz) l12 c12 k12
 have B12:=F12.binds (ps:=["_law_expression","_law_place","_law_other"]) fun _ _ _ _ _ _ us hl=>by obtain ⟨a,b,c,rfl⟩:=us3 hl;rfl
 have F13:=BM (st:=Ds) l13 c13 k13
 have B13:=F13.binds (ps:=["_law_script","_law_at","_law_many"]) fun _ _ _ _ _ _ us hl=>by obtain ⟨a,b,c,rfl⟩:=us3 hl;rfl
 have F14:=BM (st:=Ci) l14 c14 k14
 have B14:=F14.binds (ps:=["_law_kept"]) fun _ _ _ _ _ _ us hl=>by obtain ⟨a,rfl⟩:=us1 hl;rfl
 have F15:=BM (st:=Dm) l15 c15 k15
 have B15:=F15.binds (ps:=["_law_kept"]) fun _ _ _ _ _ _ us hl=>by obtain ⟨a,rfl⟩:=us1 hl;rfl
 have F16:=BM (st:=Cg) l16 c16 k16
 have B16:=F16.binds (ps:=["_law_way","_law_expression","_law_place","_law_other"]) fun _ _ _ _ _ _ us hl=>by obtain ⟨a,b,c,d,rfl⟩:=us4 hl;rfl
 have F17:=BM (st:=Ge) l17 c17 k17
 have B17:=F17.binds (ps:=["_law_script"]) fun _ _ _ _ _ _ us hl=>by obtain ⟨a,rfl⟩:=us1 hl;rfl
 refine ⟨PySem.W.fnOf "law" "law" (AY Ge) (AR Ge) (Ap Ge) .none kV17 dc17 pm17 an17 cd17 ct17,fun s v=>.of_eq rfl,fun base _ _=>?_⟩
 have O0:=ok_Lnames (P:=l.prog) (w:=w) (base:=base) F0 T
 have G0:FnAt l.prog w K mg base (CX1 l.prog w) "_law_names" 1 ["_law_cell","_law_count"] (spX K 2 CT):=⟨_,_,O0,PySem.W.mg_of X G a0,k0,B0⟩
 have O1:=ok_Lwild (P:=l.prog) (w:=w) (base:=base) F1 T  (fun k sp o=>⟨_,_,o,PySem.W.mg_of X G a1,k1,B1⟩) 60
 have G1:FnAt l.prog w K mg base (CX1 l.prog w) "_law_wild" 61 ["_law_names_here","_law_purse","_law_down"] (spX K 3 (BA 60)):=⟨_,_,O1,PySem.W.mg_of X G a1,k1,B1⟩
 have O2:=Hg (P:=l.prog) (w:=w) (base:=base) F2 T  (fun k sp o=>⟨_,_,o,PySem.W.mg_of X G a2,k2,B2⟩) 60
 have G2:FnAt l.prog w K mg base (CX1 l.prog w) "_law_spots" 61 ["_law_expression"] (spX K 1 (By 60)):=⟨_,_,O2,PySem.W.mg_of X G a2,k2,B2⟩
 have O3:=ok_Lcell_at (P:=l.prog) (w:=w) (base:=base) F3 T
 have G3:FnAt l.prog w K mg base (CX1 l.prog w) "_law_cell_at" 1 ["_law_script","_law_k"] (spX K 2 Ba):=⟨_,_,O3,PySem.W.mg_of X G a3,k3,B3⟩
 have O4:=ok_Ldigits (P:=l.prog) (w:=w) (base:=base) F4 T
 have G4:FnAt l.prog w K mg base (CX1 l.prog w) "_law_digits" 1 ["_law_script","_law_at","_law_parts"] (spX K 3 BW):=⟨_,_,O4,PySem.W.mg_of X G a4,k4,B4⟩
 have O5:=ET (P:=l.prog) (w:=w) (base:=base) F5 T
 have G5:FnAt l.prog w K mg base (CX1 l.prog w) "arguments_of" 1 ["expression"] (spX K 1 A8):=⟨_,_,O5,PySem.W.mg_of X G a5,k5,B5⟩
 have O6:=ok_way_to (P:=l.prog) (w:=w) (base:=base) F6 T G5
 have G6:FnAt l.prog w K mg base (CX1 l.prog w) "way_to" 2 ["expression","place"] (spX K 2 BH):=⟨_,_,O6,PySem.W.mg_of X G a6,k6,B6⟩
 have O7:=ok_part_at (P:=l.prog) (w:=w) (base:=base) F7 T G6
 have G7:FnAt l.prog w K mg base (CX1 l.prog w) "part_at" 3 ["expression","place"] (spX K 2 AX):=⟨_,_,O7,PySem.W.mg_of X G a7,k7,B7⟩
 have O8:=ok_put_at (P:=l.prog) (w:=w) (base:=base) F8 T G6
 have G8:FnAt l.prog w K mg base (CX1 l.prog w) "put_at" 3 ["expression","place","other"] (spX K 3 BI):=⟨_,_,O8,PySem.W.mg_of X G a8,k8,B8⟩
 have O9:=ok_Lthere (P:=l.prog) (w:=w) (base:=base) F9 T
 have G9:FnAt l.prog w K mg base (CX1 l.prog w) "_law_there" 1 ["_law_expression","_law_place"] (spX K 2 BJ):=⟨_,_,O9,PySem.W.mg_of X G a9,k9,B9⟩
 have O10:=Hi (P:=l.prog) (w:=w) (base:=base) F10 T G9
 have G10:FnAt l.prog w K mg base (CX1 l.prog w) "_law_bad_spot" 2 ["_law_expression","_law_place","_law_cell"] (spX K 3 BB):=⟨_,_,O10,PySem.W.mg_of X G a10,k10,B10⟩
 have O11:=Hh (P:=l.prog) (w:=w) (base:=base) F11 T  (fun k sp o=>⟨_,_,o,PySem.W.mg_of X G a11,k11,B11⟩) 60
 have G11:FnAt l.prog w K mg base (CX1 l.prog w) "_law_shape" 61 ["_law_got"] (spX K 1 (A4 60)):=⟨_,_,O11,PySem.W.mg_of X G a11,k11,B11⟩
 have O12:=ok_Lput (P:=l.prog) (w:=w) (base:=base) F12 T  (fun k sp o=>⟨_,_,o,PySem.W.mg_of X G a12,k12,B12⟩) 60
 have G12:FnAt l.prog w K mg base (CX1 l.prog w) "_law_put" 61 ["_law_expression","_law_place","_law_other"] (spX K 3 (CM 60)):=⟨_,_,O12,PySem.W.mg_of X G a12,k12,B12⟩
 have O13:=ok_Lmixed (P:=l.prog) (w:=w) (base:=base) F13 T
 have G13:FnAt l.prog w K mg base (CX1 l.prog w) "_law_mixed" 1 ["_law_script","_law_at","_law_many"] (spX K 3 Ce):=⟨_,_,O13,PySem.W.mg_of X G a13,k13,B13⟩
 have O14:=ok_Lclasses (P:=l.prog) (w:=w) (base:=base) F14 T
 have G14:FnAt l.prog w K mg base (CX1 l.prog w) "_law_classes" 1 ["_law_kept"] (spX K 1 Bq):=⟨_,_,O14,PySem.W.mg_of X G a14,k14,B14⟩
 have O15:=ok_Lwhich (P:=l.prog) (w:=w) (base:=base) F15 T G14
 have G15:FnAt l.prog w K mg base (CX1 l.prog w) "_law_which" 2 ["_law_kept"] (spX K 1 DR):=⟨_,_,O15,PySem.W.mg_of X G a15,k15,B15⟩
 have O16:=ok_Lrefused (P:=l.prog) (w:=w) (base:=base) F16 T G7 G8 G15
 have G16:FnAt l.prog w K mg base (CX1 l.prog w) "_law_refused" 4 ["_law_way","_law_expression","_law_place","_law_other"] (spX K 4 Bp):=⟨_,_,O16,PySem.W.mg_of X G a16,k16,B16⟩
 have O17:=ok_law (P:=l.prog) (w:=w) (base:=base) F17 T G16 G13 G10 G7 G12 G11 G8 G9 G3 G2 G4 G1 G0
 exact O17.imp (law_sp (good))
theorem walk {l:PySem.W.OpenLaw} {q:Program} {loose:List Str} {XP:(Str->Option Value)->Heap->Prop} {d:DefRec} {K:Params->PySem.W.Frag} {as:List Addr} {N tk:Nat} (hn:l.most=some 63) (hdf:d.params.defaults=[]) (hK:∀ P:Params,as=(K P).map (·.1))
  (F:∀ (w:World) (mg:Str->Option Value) (fa:Addr) (h:Heap),(K w.params).In h->h.Ns mainGlobals mg->mg d.name=some (.ref fa) ->
   ∃ fd:FuncData,(∀ (s:Shared) (u:Value),BindsTo s fd ⟨[u],[]⟩ [("_law_script",u)])/\∀ base:Heap,(K w.params).In base->base.Ns mainGlobals mg->Dh l.prog w (K w.params) mg base (CX1 l.prog w) 62 fa fd ["_law_script"] (spLaw (K w.params))) :
  PySem.W.WalkX q loose XP (PySem.W.X.obsZ as) (PySem.W.X.valZ K N tk) l.row.toRowW d [] (fun f vs=>PySem.call f vs) :=
 L2.HN (n:=63) (k:=62) (x:="_law_script") (CX:=fun w=>CX1 l.prog w) (sp:=spLaw) hn (by decide) hdf ⟨rfl,by decide,by decide⟩ hK F (fun _ _ a ns hl hb _ hS=>⟨a,ns,rfl,hS,hl,hb,fun _=>rfl⟩) fun _ _ _ _ _ ⟨_,_,_,_,_,_,_,_,_,_,_,q⟩=>q
end Sy
def PySem.W.Fast.tw6768593625131620101:=()
def PySem.W.Fast.tw10730053238358479543:=()
def PySem.W.Fast.tw1148762749301200418:=()
def PySem.W.Fast.tw3949802797243124595:=()
def PySem.W.Fast.tw2382132964322586337:=()
def PySem.W.Fast.tw2069331229186099107:=()
def PySem.W.Fast.tw5425526260390047687:=()
def PySem.W.Fast.tw17858392599936934062:=()
def PySem.W.Fast.tw15392630857235882428:=()
def PySem.W.Fast.tw5542228345874664789:=()
def PySem.W.Fast.tw5085836592276857544:=()
def PySem.W.Fast.tw4312078875962421358:=()
def PySem.W.Fast.tw4864335811096822029:=()
def PySem.W.Fast.tw13517136968722477497:=()
def PySem.W.Fast.tw6973074555760628145:=()
def PySem.W.Fast.tw10441139534282241121:=()
def PySem.W.Fast.tw8239833952896483505:=()
def PySem.W.Fast.tw10798673621485360024:=()
def PySem.W.Fast.tw3053611582670110770:=()
def PySem.W.Fast.tw3573669823727954285:=()
def PySem.W.Fast.tw15417494667009066314:=()
def PySem.W.Fast.tw11827616941660755248:=()
open PySem PySem.W PyProof.Rows
set_option maxRecDepth 100000 in
set_option maxHeartbeats 0 in
theorem PySem.Challenge.cw_stairsay_k31_places_holds : PySem.Challenge.rw_stairsay_k31_places.Holds := by
 w_on;o_law;z_head;(case hw=>w_witness2)
 k_fill
 refine Sy.walk (l:=PySem.Challenge.rw_stairsay_k31_places) rfl rfl (fun P=>rfl) ?F
 case F =>
  intro w mg fa h KX G hmg
  refine' Sy.all_mk KX G hmg ?a0 ?l0 ?c0 ?k0 ?a1 ?l1 ?c1 ?k1 ?a2 ?l2 ?c2 ?k2 ?a3 ?l3 ?c3 ?k3 ?a4 ?l4 ?c4 ?k4 ?a5 ?l5 ?c5 ?k5 ?a6 ?l6 ?c6 ?k6 ?a7 ?l7 ?c7 ?k7 ?a8 ?l8 ?c8 ?k8 ?a9 ?l9 ?c9 ?k9 ?a10 ?l10 ?c10 ?k10 ?a11 ?l11 ?c11 ?k11 ?a12 ?l12 ?c12 ?k12 ?a13 ?l13 ?c13 ?k13 ?a14 ?l14 ?c14 ?k14 ?a15 ?l15 ?c15 ?k15 ?a16 ?l16 ?c16 ?k16 ?a17 ?l17 ?c17 ?k17 ?z_ValueError ?z_isinstance ?z_len ?z_list ?z_min ?z_range ?z_reversed ?z_str ?z_sum ?z_tuple ?z_zip ?x_all
  (case a0=>k_is)
  (case l0=>k_is)
  (case c0=>k_is)
  (case k0=>k_is)
  (case a1=>k_is)
  (case l1=>k_is)
  (case c1=>k_is)
  (case k1=>k_is)
  (case a2=>k_is)
  (case l2=>k_is)
  (case c2=>k_is)
  (case k2=>k_is)
  (case a3=>k_is)
  (case l3=>k_is)
  (case c3=>k_is)
  (case k3=>k_is)
  (case a4=>k_is)
  (case l4=>k_is)
  (case c4=>k_is)
  (case k4=>k_is)
  (case a5=>k_is)
  (case l5=>k_is)
  (case c5=>k_is)
  (case k5=>k_is)
  (case a6=>k_is)
  (case l6=>k_is)
  (case c6=>k_is)
  (case k6=>k_is)
  (case a7=>k_is)
  (case l7=>k_is)
  (case c7=>k_is)
  (case k7=>k_is)
  (case a8=>k_is)
  (case l8=>k_is)
  (case c8=>k_is)
  (case k8=>k_is)
  (case a9=>k_is)
  (case l9=>k_is)
  (case c9=>k_is)
  (case k9=>k_is)
  (case a10=>k_is)
  (case l10=>k_is)
  (case c10=>k_is)
  (case k10=>k_is)
  (case a11=>k_is)
  (case l11=>k_is)
  (case c11=>k_is)
  (case k11=>k_is)
  (case a12=>k_is)
  (case l12=>k_is)
  (case c12=>k_is)
  (case k12=>k_is)
  (case a13=>k_is)
  (case l13=>k_is)
  (case c13=>k_is)
  (case k13=>k_is)
  (case a14=>k_is)
  (case l14=>k_is)
  (case c14=>k_is)
  (case k14=>k_is)
  (case a15=>k_is)
  (case l15=>k_is)
  (case c15=>k_is)
  (case k15=>k_is)
  (case a16=>k_is)
  (case l16=>k_is)
  (case c16=>k_is)
  (case k16=>k_is)
  (case a17=>k_is)
  (case l17=>k_is)
  (case c17=>k_is)
  (case k17=>k_is)
  (case z_ValueError=>k_is)
  (case z_isinstance=>k_is)
  (case z_len=>k_is)
  (case z_list=>k_is)
  (case z_min=>k_is)
  (case z_range=>k_is)
  (case z_reversed=>k_is)
  (case z_str=>k_is)
  (case z_sum=>k_is)
  (case z_tuple=>k_is)
  (case z_zip=>k_is)
  (case x_all=>kernel_rfl)
