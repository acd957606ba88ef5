import PyProof.Rows.All
import Wide.All
import OpenK.AllK
import Wide.FinOn
import PyProof.EqAt
import PyProof.EqKinds
import PyProof.TupleCall
import PyProof.DictWalks
import KE.KSortTup
import KE.KEqDict
import PySem.Challenge.RW_stairsay_k32_put_ins
set_option Elab.async false
set_option linter.all false
set_option maxRecDepth 100000
set_option maxHeartbeats 4000000
namespace L2
open PySem PySem.Spec PyProof.Rows
abbrev Key:=Sum Int Str
def Fd:Key->Value->Bool
 | .inl k,v=>Value.isInt k v
 | .inr x,v=>Value.isStrOf x v
def keyH (w:World):Key->Int
 | .inl k=>hashInt k
 | .inr x=>hashStr w x
theorem AW:∀ {k:Key} {v:Value},Fd k v=true->(∃ i t,k=Sum.inl i/\v=Value.int i t)∨(∃ x t,k=Sum.inr x/\v=Value.str x t)
 | .inl i,v,h=>by
  obtain ⟨t,e⟩:=Value.isInt_shape (k:=i) (v:=v) h
  exact .inl ⟨i,t,rfl,e⟩
 | .inr x,v,h=>by
  obtain ⟨t,e⟩:=Value.isStrOf_shape (x:=x) (v:=v) h
  exact .inr ⟨x,t,rfl,e⟩
theorem keyIs_int (i:Int) (t:Tok):Fd (.inl i) (.int i t)=true:=by simp [Fd,Value.isInt]
theorem keyIs_str (x:Str) (t:Tok):Fd (.inr x) (.str x t)=true:=by simp [Fd,Value.isStrOf]
theorem key_ll (a b:Int):decide ((Sum.inl a:Key)=Sum.inl b)=(a == b):=by
 by_cases e:a=b
 ·subst e;simp
 ·have h:¬ (Sum.inl a:Key)=Sum.inl b:=fun q=>e (Sum.inl.inj q)
  rw [decide_eq_false h]
  exact (beq_eq_false_iff_ne.mpr e).symm
theorem key_rr (a b:Str):decide ((Sum.inr a:Key)=Sum.inr b)=decide (a=b):=by
 by_cases e:a=b
 ·subst e;simp
 ·have h:¬ (Sum.inr a:Key)=Sum.inr b:=fun q=>e (Sum.inr.inj q)
  rw [decide_eq_false h,decide_eq_false e]
theorem key_lr (a:Int) (b:Str):decide ((Sum.inl a:Key)=Sum.inr b)=false:=decide_eq_false (fun q=>nomatch q)
theorem key_rl (a:Str) (b:Int):decide ((Sum.inr a:Key)=Sum.inl b)=false:=decide_eq_false (fun q=>nomatch q)
def AZ (prog:Program) (w:World):PySem.KeyKind prog w Key where
 is:=Fd
 hash:=keyH w
 inj:=fun v a b ha hb=>by
  rcases AW ha with ⟨i,t,rfl,rfl⟩ | ⟨x,t,rfl,rfl⟩
  ·rcases AW hb with ⟨j,u,rfl,e⟩ | ⟨y,u,rfl,e⟩
   ·injection e with e1 _;rw [e1]
   ·exact nomatch e
  ·rcases AW hb with ⟨j,u,rfl,e⟩ | ⟨y,u,rfl,e⟩
   ·exact nomatch e
   ·injection e with e1 _;rw [e1]
 byValue:=fun k v h=>by
  rcases AW h with ⟨i,t,rfl,rfl⟩ | ⟨x,t,rfl,rfl⟩ <;> rfl
 pyHash:=fun hv h=>by
  rcases AW hv with ⟨i,t,rfl,rfl⟩ | ⟨x,t,rfl,rfl⟩
  ·exact wpAny_pyHash_int h
  ·exact wpAny_pyHash_str h
 eqBool:=fun hu hv h=>by
  rcases AW hu with ⟨i,t,rfl,rfl⟩ | ⟨x,t,rfl,rfl⟩
  ·rcases AW hv with ⟨j,u,rfl,rfl⟩ | ⟨y,u,rfl,rfl⟩
   ·rw [key_ll] at h;exact wpAny_eqBool_int h
   ·rw [key_lr] at h;exact SeqAt.EqAt.int_str i t y u _ _ _ _ h
  ·rcases AW hv with ⟨j,u,rfl,rfl⟩ | ⟨y,u,rfl,rfl⟩
   ·rw [key_rl] at h;exact SeqAt.EqAt.str_int x t j u _ _ _ _ h
   ·rw [key_rr] at h;exact wpAny_eqBool_str h
 «strs»:=fun k x t v h=>by
  rcases AW h with ⟨i,u,rfl,e⟩ | ⟨y,u,rfl,e⟩
  ·exact nomatch e
  ·injection e with e1 _
   subst e1
   cases v <;> rfl
theorem mixKind_int (prog:Program) (w:World) (i:Int) (t:Tok):(AZ prog w).is (.inl i) (.int i t)=true:=keyIs_int i t
theorem mixKind_str (prog:Program) (w:World) (x:Str) (t:Tok):(AZ prog w).is (.inr x) (.str x t)=true:=keyIs_str x t
end L2
namespace L2
open PySem PySem.Spec PyProof.Rows
inductive V where
 | non | bl (b:Bool) | int (i:Int) | str (x:Str) | byt (b:Array UInt8) | flt (b:UInt64) | ref (a:Addr) | ty (n:String)
 deriving DecidableEq
def RelV:V->Value->Prop
 | .non,u=>u=Value.none
 | .bl b,u=>u=Value.bool b
 | .int i,u=>∃ t,u=Value.int i t
 | .str x,u=>∃ t,u=Value.str x t
 | .byt b,u=>∃ t,u=Value.bytes b t
 | .flt b,u=>∃ t,u=Value.float b t
 | .ref a,u=>u=Value.ref a
 | .ty n,u=>u=Value.type n
abbrev Vals:List V->List Value->Prop:=Paired RelV
theorem Vals.length {xs:List V} {us:List Value} (r:Vals xs us):xs.length=us.length:=Paired.length r
theorem Vals.get:∀ {xs:List V} {us:List Value} {i:Nat} {x:V},Vals xs us->xs[i]?=some x->∃ u,us[i]?=some u/\RelV x u
 | _,_,_,_,.nil,e=>by simp at e
 | _,_,0,_,.cons r _,e=>by simp at e;subst e;exact ⟨_,rfl,r⟩
 | _,_,i+1,x,.cons _ t,e=>by
  obtain ⟨u,h1,h2⟩:=Vals.get (i:=i) (x:=x) t (by simpa using e)
  exact ⟨u,by simpa using h1,h2⟩
theorem Vals.set {x:V} {u:Value} (r:RelV x u):∀ {xs:List V} {us:List Value} (i:Nat),Vals xs us->Vals (xs.set i x) (us.set i u)
 | _,_,_,.nil=>.nil
 | _,_,0,.cons _ t=>.cons r t
 | _,_,i+1,.cons q t=>.cons q (Vals.set r i t)
theorem Vals.append:∀ {xs ys:List V} {us ws:List Value},Vals xs us->Vals ys ws->Vals (xs++ys) (us++ws)
 | _,_,_,_,.nil,s=>s
 | _,_,_,_,.cons r t,s=>.cons r (Vals.append t s)
theorem Vals.take:∀ {xs:List V} {us:List Value} (n:Nat),Vals xs us->Vals (xs.take n) (us.take n)
 | _,_,0,_=>.nil
 | _,_,_+1,.nil=>.nil
 | _,_,n+1,.cons r t=>.cons r (Vals.take n t)
theorem Vals.drop:∀ {xs:List V} {us:List Value} (n:Nat),Vals xs us->Vals (xs.drop n) (us.drop n)
 | _,_,0,r=>r
 | _,_,_+1,.nil=>.nil
 | _,_,n+1,.cons _ t=>Vals.drop n t
def AO:Option V->Option Value->Prop
 | some v,some u=>RelV v u
 | none,none=>True
 | _,_=>False
def KV {κ:Type}:List (κ×V)->List (κ×Value)->Prop:=Paired fun (p:κ×V) (q:κ×Value)=>p.1=q.1/\RelV p.2 q.2
def kV:Key->V
 | .inl i=>.int i
 | .inr x=>.str x
inductive HO where
 | lst (xs:List V)
 | tup (xs:List V)
 | dK (kvs:List (Key×V)) | dT (kvs:List (List Key×V))
 | set (S:Int->Bool) (n:Nat)
 | ins (C dx:Addr) (fs:List (Str×V))
 | own (x:Addr)
 | xd (fs:List (Str×V))
 | met (f x:Addr)
 | rng (lo hi:Int)
 | frz (o:Obj) (u:HO)
 | tbl (ps:Array Value)
 | ext (φ:Heap->Prop)
abbrev Hp:=Addr->Option HO
def upd (H:Hp) (a:Addr) (o:HO):Hp:=fun b=>if b=a then some o else H b
theorem Av {H:Hp} {a:Addr} {o:HO}:upd H a o a=some o:=by unfold upd;rw [if_pos rfl]
theorem Ap {H:Hp} {a b:Addr} {o:HO} (h:b≠a):upd H a o b=H b:=by unfold upd;rw [if_neg h]
theorem ne_of {H:Hp} {a b:Addr} {o u:HO} (h:H a=some o) (h':H b=some u) (d:o≠u):a≠b:=by
 intro e;subst e;rw [h] at h';exact d (Option.some.inj h')
theorem A6 {H:Hp} {a b:Addr} {o:HO} (h:H a=some o) (h':H b=none):a≠b:=by
 intro e;subst e;rw [h] at h';cases h'
section
variable (P:Program) (w:World)
def Bu (H:Hp) (h:Heap) (a:Addr):HO->Prop
 | .lst xs=>xs.length<=sizeLine/\∃ (its:List Value) (n:Nat),Vals xs its/\h.get? a=some { cls:=.type "list",data:=.seq its.toArray n }
 | .tup xs=>xs.length<=sizeLine/\∃ its:List Value,Vals xs its/\IsTup h a its.toArray
 | .dK kvs=>kvs.length<=sizeLine/\(a == sysModules)=false/\∃ vs,KV kvs vs/\h.DictOf (AZ P w) a vs
 | .dT kvs=>kvs.length<=sizeLine/\(a == sysModules)=false/\∃ xs:List (List Key×Addr×Value),
   Paired (fun (p:List Key×V) (q:List Key×Addr×Value)=>p.1=q.1/\H q.2.1=some (.tup (p.1.map kV))/\RelV p.2 q.2.2) kvs xs /\
   ∃ o es ep,h.get? a=some o/\o.ExactDict/\o.data=.dict es ep/\es.toList=xs.map (entryOfKey (tupleKind (AZ P w)))/\(xs.map (·.1)).Nodup
 | .set S n=>h.SetOf (intKind P w) a S n
 | .ins C dx fs=>H dx=some (.own a)/\fs.length<=1000/\dx≠a/\h.get? a=some (PySem.W.instObj C dx) /\
   ∃ mA,h.Ns1 dx mA/\(∀ f,AO (fs.lookup f) (mA f))/\PySem.Within mA (fs.map (·.1))
 | .own _=>∃ o,h.get? a=some o
 | .xd fs=>∃ mA,h.Ns1 a mA/\∀ f,AO (fs.lookup f) (mA f)
 | .rng lo hi=>∃ t u v,h.get? a=some { cls:=.type "range",data:=.fields #[.int lo t,.int hi u,.int 1 v] }
 | .frz o u=>h.get? a=some o/\Bu H h a u
 | .tbl ps=>h.get? a=some { cls:=.none,data:=.fields ps }
 | .met f x=>h.get? a=some (PySem.W.methodObj (.ref f) (.ref x))
 | .ext φ=>φ h/\(∃ o,h.get? a=some o)/\∀ h1 h2:Heap,φ h1->(∀ o,h1.get? a=some o->h2.get? a=some o)->φ h2
def HOk (H:Hp) (h:Heap):Prop:=∀ a o,H a=some o->Bu P w H h a o
end
section
variable {P:Program} {w:World} {H H':Hp} {h h':Heap} {a:Addr} {o:HO}
theorem Bu.lt (x:Bu P w H h a o):a < h.objs.size:=by
 cases o with
 | lst xs=>obtain ⟨_,_,_,_,e⟩:=x;exact Heap.lt_size e
 | tup xs=>obtain ⟨_,_,_,p⟩:=x;exact p.lt
 | dK kvs=>obtain ⟨_,_,_,_,o,_,_,e,_⟩:=x;exact Heap.lt_size e
 | dT kvs=>obtain ⟨_,_,_,_,o,_,_,e,_⟩:=x;exact Heap.lt_size e
 | set S n=>obtain ⟨o,_,_,_,e,_⟩:=x;exact Heap.lt_size e
 | ins C dx fs=>obtain ⟨_,_,_,e,_⟩:=x;exact Heap.lt_size e
 | own y=>obtain ⟨_,e⟩:=x;exact Heap.lt_size e
 | xd fs=>obtain ⟨_,⟨_,_,_,e,_⟩,_⟩:=x;exact Heap.lt_size e
 | rng lo hi=>obtain ⟨_,_,_,e⟩:=x;exact Heap.lt_size e
 | frz ob u=>obtain ⟨e,_⟩:=x;exact Heap.lt_size e
 | tbl ps=>exact Heap.lt_size (show h.get? a=some _ from x)
 | met f y=>exact Heap.lt_size (show h.get? a=some _ from x)
 | ext φ=>obtain ⟨_,⟨_,e⟩,_⟩:=x;exact Heap.lt_size e
theorem Paired.mapP {α β:Type} {F G:α->β->Prop}:∀ {l₁:List α} {l₂:List β},Paired F l₁ l₂->(∀ a b,F a b->G a b)->Paired G l₁ l₂
 | _,_,.nil,_=>.nil
 | _,_,.cons r t,f=>.cons (f _ _ r) (Paired.mapP t f)
theorem Bu.stay (x:Bu P w H h a o) (k:∀ b u,(b=a∨H b=some (.own a))->h.get? b=some u->h'.get? b=some u)
  (ho:∀ b,H b=some (.own a)->H' b=some (.own a)) (ht:∀ b xs,H b=some (.tup xs)->H' b=some (.tup xs)):Bu P w H' h' a o:=by
 induction o with
 | lst xs=>obtain ⟨z,its,n,r,e⟩:=x;exact ⟨z,its,n,r,k _ _ (.inl rfl) e⟩
 | tup xs=>obtain ⟨z,its,r,ob,e,c⟩:=x;exact ⟨z,its,r,ob,k _ _ (.inl rfl) e,c⟩
 | dK kvs=>obtain ⟨z,y,vs,r,ob,es,ep,e,c⟩:=x;exact ⟨z,y,vs,r,ob,es,ep,k _ _ (.inl rfl) e,c⟩
 | dT kvs =>
  obtain ⟨z,y,xs,r,ob,es,ep,e,c⟩:=x
  exact ⟨z,y,xs,Paired.mapP r fun p q z=>⟨z.1,ht _ _ z.2.1,z.2.2⟩,ob,es,ep,k _ _ (.inl rfl) e,c⟩
 | set S n=>obtain ⟨ob,es,ep,t,e,c⟩:=x;exact ⟨ob,es,ep,t,k _ _ (.inl rfl) e,c⟩
 | ins C dx fs =>
  obtain ⟨d,z,ne,e,mA,⟨od,es,ep,e2,c⟩,r⟩:=x
  exact ⟨ho _ d,z,ne,k _ _ (.inl rfl) e,mA,⟨od,es,ep,k _ _ (.inr d) e2,c⟩,r⟩
 | own y=>obtain ⟨ob,e⟩:=x;exact ⟨ob,k _ _ (.inl rfl) e⟩
 | xd fs=>obtain ⟨mA,⟨od,es,ep,e,c⟩,r⟩:=x;exact ⟨mA,⟨od,es,ep,k _ _ (.inl rfl) e,c⟩,r⟩
 | rng lo hi=>obtain ⟨t,u,v,e⟩:=x;exact ⟨t,u,v,k _ _ (.inl rfl) e⟩
 | frz ob u ih=>obtain ⟨e,q⟩:=x;exact ⟨k _ _ (.inl rfl) e,ih q⟩
 | tbl ps =>
  have e:h.get? a=some { cls:=.none,data:=.fields ps }:=x
  show h'.get? a=some { cls:=.none,data:=.fields ps }
  exact k a _ (.inl rfl) e
 | met f y =>
  have e:h.get? a=some (PySem.W.methodObj (.ref f) (.ref y)):=x
  show h'.get? a=some (PySem.W.methodObj (.ref f) (.ref y))
  exact k a _ (.inl rfl) e
 | ext φ=>obtain ⟨p,⟨o,e⟩,st⟩:=x;exact ⟨st _ _ p fun o q=>k _ _ (.inl rfl) q,⟨o,k _ _ (.inl rfl) e⟩,st⟩
theorem HOk.lt (x:HOk P w H h) (e:H a=some o):a < h.objs.size:=(x a o e).lt
theorem HOk.fresh (x:HOk P w H h) (e:h.objs.size<=a):H a=none:=by
 cases q:H a with
 | none=>rfl
 | some u=>exact absurd (Nat.lt_of_lt_of_le (x.lt q) e) (Nat.lt_irrefl _)
theorem HOk.kept (x:HOk P w H h) (k:∀ b u,h.get? b=some u->h'.get? b=some u):HOk P w H h':=fun a o e =>
 (x a o e).stay (fun b u _ q=>k b u q) (fun _ q=>q) fun _ _ q=>q
theorem HOk.laid (x:HOk P w H h) (k:∀ b u,h.get? b=some u->h'.get? b=some u) (hp:h.objs.size<=a) (new:Bu P w (upd H a o) h' a o):HOk P w (upd H a o) h':=fun b u e=>by
 have hn:=x.fresh hp
 by_cases hb:b=a
 ·subst hb;rw [Av] at e;cases e;exact new
 ·rw [Ap hb] at e
  exact (x b u e).stay (fun c v _ q=>k c v q) (fun c q=>by rw [Ap (A6 q hn)];exact q) fun c xs q=>by rw [Ap (A6 q hn)];exact q
end
def Rd (H:Hp) (a:Addr) (u:HO):Prop:=H a=some u∨∃ o,H a=some (.frz o u)
theorem Rd.ok {P:Program} {w:World} {H:Hp} {h:Heap} {a:Addr} {u:HO} (r:Rd H a u) (x:HOk P w H h):Bu P w H h a u:=by
 rcases r with r | ⟨o,r⟩
 ·exact x a u r
 ·obtain ⟨_,q⟩:=x a _ r
  exact q
def Mut:Option HO->Prop
 | some (.lst _)=>True
 | some (.dK _)=>True
 | some (.dT _)=>True
 | some (.set _ _)=>True
 | some (.ins _ _ _)=>True
 | some (.ext _)=>True
 | _=>False
section
variable {P:Program} {w:World} {H:Hp} {h h':Heap} {x e:Addr} {o':HO}
theorem HOk.write (ok:HOk P w H h) (mu:Mut (H x)) (he:e=x∨H e=some (.own x)) (k:∀ b u,b≠e->h.get? b=some u->h'.get? b=some u) (heo:∃ u,h'.get? e=some u)
  (new:Bu P w (upd H x o') h' x o'):HOk P w (upd H x o') h':=fun b u q=>by
 have nown:∀ c y,H c=some (.own y)->c≠x:=fun c y r z=>by subst z;rw [r] at mu;exact mu
 have ntup:∀ c xs,H c=some (.tup xs)->c≠x:=fun c xs r z=>by subst z;rw [r] at mu;exact mu
 by_cases hb:b=x
 ·subst hb;rw [Av] at q;cases q;exact new
 ·rw [Ap hb] at q
  by_cases hbe:b=e
  ·have q':H b=some (.own x):=by
    rcases he with z | z
    ·exact absurd (hbe.trans z) hb
    ·rw [hbe];exact z
   rw [q] at q';cases q'
   obtain ⟨v,hv⟩:=heo
   exact ⟨v,by rw [hbe];exact hv⟩
  ·refine (ok b u q).stay (fun c v hc r=>k c v ?_ r) (fun c r=>by rw [Ap (nown c b r)];exact r) fun c xs r=>by rw [Ap (ntup c xs r)];exact r
   rcases hc with rfl | hc
   ·exact hbe
   ·rintro rfl
    rcases he with z | z
    ·exact nown c b hc z
    ·rw [hc] at z;cases z;exact hb rfl
end
structure Un (fs ex:List Addr) (H H':Hp) (h h':Heap):Prop where
 keep:∀ b o,h.get? b=some o->H b=none->b∉fs->b∉ex->h'.get? b=some o
 slot:∀ b o,h.get? b=some o->H b=none->b∈fs->b∉ex->∃ sl,h'.get? b=some { o with slots:=sl }
 free:∀ b o,h.get? b=some o->H b=none->b∉ex->H' b=none
 there:∀ b o,h.get? b=some o->b∉ex->∃ o',h'.get? b=some o'
 tups:∀ b xs,H b=some (.tup xs)->H' b=some (.tup xs)
 frzs:∀ b o u,H b=some (.frz o u)->H' b=some (.frz o u)
 tbls:∀ b ps,H b=some (.tbl ps)->∃ more,H' b=some (.tbl (ps++more))
section
variable {fs fs' ex ex':List Addr} {H H1 H2:Hp} {h h1 h2 h':Heap} {a x e:Addr} {o:HO}
theorem Un.any (u:Un fs ex H H1 h h1) {b:Addr} {ob:Obj} (q:h.get? b=some ob) (n:H b=none) (hx:b∉ex):∃ sl,h1.get? b=some { ob with slots:=sl }:=by
 by_cases hb:b∈fs
 ·exact u.slot b ob q n hb hx
 ·exact ⟨ob.slots,u.keep b ob q n hb hx⟩
theorem Un.kept (k:∀ b u,h.get? b=some u->h'.get? b=some u):Un fs ex H H h h' :=
 ⟨fun b ob q _ _ _=>k b ob q,fun b ob q _ _ _=>⟨ob.slots,k b ob q⟩,fun _ _ _ n _=>n,fun b ob q _=>⟨ob,k b ob q⟩,fun _ _ q=>q,fun _ _ _ q=>q,fun _ ps q=>⟨#[],by rw [q];simp⟩⟩
theorem Un.refl:Un fs ex H H h h:=Un.kept fun _ _ q=>q
theorem Un.laid (k:∀ b u,h.get? b=some u->h'.get? b=some u) (hp:h.objs.size<=a) (hn:H a=none):Un fs ex H (upd H a o) h h' where
 keep:=fun b u q _ _ _=>k b u q
 slot:=fun b u q _ _ _=>⟨u.slots,k b u q⟩
 free:=fun b u q n _=>by rw [Ap (Nat.ne_of_lt (Nat.lt_of_lt_of_le (Heap.lt_size q) hp))];exact n
 there:=fun b u q _=>⟨u,k b u q⟩
 tups:=fun b xs q=>by rw [Ap (A6 q hn)];exact q
 frzs:=fun b u xs q=>by rw [Ap (A6 q hn)];exact q
 tbls:=fun b ps q=>⟨#[],by rw [Ap (A6 q hn),q];simp⟩
theorem Un.write (mu:Mut (H x)) (he:e=x∨H e=some (.own x)) (k:∀ b u,b≠e->h.get? b=some u->h'.get? b=some u) (heo:∃ u,h'.get? e=some u):Un fs ex H (upd H x o) h h':=by
 have hx:∀ b,H b=none->b≠x:=fun b n z=>by subst z;rw [n] at mu;exact mu
 have hb:∀ b,H b=none->b≠e:=fun b n z=>by
  subst z
  rcases he with r | r
  ·exact hx b n r
  ·rw [n] at r;cases r
 have hm:∀ b u,H b=some u->¬ Mut (some u)->b≠x:=fun b u q nm z=>by subst z;rw [q] at mu;exact nm mu
 refine ⟨fun b u q n _ _=>k b u (hb b n) q,fun b u q n _ _=>⟨u.slots,k b u (hb b n) q⟩,fun b u q n _=>by rw [Ap (hx b n)];exact n,fun b u q _=>?_,
  fun b xs q=>by rw [Ap (hm b _ q fun z=>z)];exact q,fun b u xs q=>by rw [Ap (hm b _ q fun z=>z)];exact q,fun b ps q=>⟨#[],by rw [Ap (hm b _ q fun z=>z),q];simp⟩⟩
 by_cases hbe:b=e
 ·subst hbe;exact heo
 ·exact ⟨u,k b u hbe q⟩
end
def trk (h:Heap) (H:Hp):List Addr:=(List.range h.objs.size).filter fun a=>(H a).isSome
def hidT (h:Heap) (H:Hp):Heap:=PySem.W.hideAll h (trk h H)
theorem hidT_size (h:Heap) (H:Hp):(hidT h H).objs.size=h.objs.size:=PySem.W.hideAll_size _ _
theorem hidT_get {h:Heap} {H:Hp} {b:Addr} {o:Obj} (e:h.get? b=some o) (n:H b=none):(hidT h H).get? b=some o :=
 PySem.W.hideAll_get _ e fun hm=>by
  have q:(H b).isSome=true:=(List.mem_filter.mp hm).2
  rw [n] at q;simp at q
theorem of_hidT {h:Heap} {H:Hp} {b:Addr} {o:Obj} (e:(hidT h H).get? b=some o):h.get? b=some o/\H b=none:=by
 have e':h.get? b=some o:=PySem.W.of_hideAll (trk h H) e
 refine ⟨e',?_⟩
 cases q:H b with
 | none=>rfl
 | some x =>
  have hm:b∈trk h H:=List.mem_filter.mpr ⟨List.mem_range.mpr (Heap.lt_size e'),by simp [q]⟩
  have z:(hidT h H).get? b=none:=PySem.W.hideAll_none (trk h H) hm
  rw [z] at e;cases e
end L2
namespace L2
open PySem PySem.Spec PyProof.Rows
structure Mod (K:PySem.W.Frag) (mg:Str->Option Value) (base:Heap):Prop where
 kin:K.In base
 glob:base.Ns mainGlobals mg
 blt:∃ mb,base.Ns builtinsNs mb/\∀ x:Str,x≠"__name__"->mb x=bootBuiltins x
 nolimit:base.NoLimit
structure Cx where
 prog:Program
 w:World
 K:PySem.W.Frag
 mg:Str->Option Value
 base:Heap
 A:Around
 N:List Str
 s₀:Shared
 H₀:Hp
 env:Env
 outer:List Env
 stack:List Env
 ex:List Addr
 fn:Str->Bool
 calm:Bool
 pn:List (Addr×Obj)
 xe:Value->Shared->Prop
def frs (l:List Env):List Addr:=l.filterMap (·.frame)
abbrev Cx.fs (X:Cx):List Addr:=frs X.outer
def Vis (sc:Scope) (x:Str):Prop:=sc.names.lookup x=some .local∨sc.names.lookup x=some .cell∨sc.names.lookup x=some .free
def Loc (sc:Scope) (x:Str):Prop:=sc.names.lookup x=some .local∨sc.names.lookup x=some .cell
def Look (env:Env) (h:Heap) (m:Str->Option Value) (x:Str) (u:Value):Prop :=
 (env.kindOf x=some .local/\m x=some u)∨((env.kindOf x=some .cell∨env.kindOf x=some .free)/\∃ c,env.cells.lookup x=some c/\h.IsCell c (some u))
structure Cx.Ok (X:Cx):Prop where
 mod:Mod X.K X.mg X.base
 kind:X.env.scope.kind=.function
 glob:X.env.globals=mainGlobals
 blt:X.env.builtins=builtinsNs
 above:X.s₀.heap.objs.size<=X.env.locals
 inj:∀ x y c,X.env.cells.lookup x=some c->X.env.cells.lookup y=some c->x=y
 has:∀ x,(X.env.kindOf x=some .cell∨X.env.kindOf x=some .free)->∃ c,X.env.cells.lookup x=some c
 cab:∀ x c,X.fn x=true->X.env.cells.lookup x=some c->X.s₀.heap.objs.size<=c
 hd:X.calm=true->X.A.handled=none
 frames:X.A.frames=some X.stack
 stk:X.stack=X.outer∨(X.stack=X.env :: X.outer/\X.env.frame=some X.env.locals)
 exf:∀ b∈X.ex,b≠X.env.locals/\∀ x c,X.env.cells.lookup x=some c->c≠b
 bs:∀ b o,X.base.get? b=some o->X.s₀.heap.get? b=some o/\X.H₀ b=none
 bsz:X.base.objs.size<=X.s₀.heap.objs.size
 noex:∀ b o,X.base.get? b=some o->b∉X.ex
 exfs:∀ b∈X.ex,b∉X.fs
 funs:X.s₀.heap.FunFrames X.base X.outer
 frf:∀ b∈X.fs,X.H₀ b=none
structure Inv (X:Cx) (pins:List (Addr×Obj)) (σ:List (Option V)) (H:Hp) (s:Shared):Prop where
 ok:X.Ok
 os:s.os=X.s₀.os
 bare:AllBare s.gens
 base:Un X.fs X.ex X.H₀ H X.s₀.heap s.heap
 loc:∃ m,s.heap.Ns X.env.locals m/\∀ (i:Nat) (x:Str) (v:V),X.N[i]?=some x->σ[i]?=some (some v)->Vis X.env.scope x->∃ u,RelV v u/\Look X.env s.heap m x u
 cell:∀ x c,X.env.cells.lookup x=some c->∃ v,s.heap.IsCell c v
 free:H X.env.locals=none
 freeC:∀ x c,X.env.cells.lookup x=some c->H c=none
 pin:∀ p∈X.pn++pins,s.heap.get? p.1=some p.2/\H p.1=none/\p.1≠X.env.locals/\p.1∉X.fs/\∀ v,p.2.data≠.cell v
 hok:HOk X.prog X.w H s.heap
 len:σ.length=X.N.length
section
variable {X:Cx} {pins:List (Addr×Obj)} {σ:List (Option V)} {H H':Hp} {s:Shared} {h':Heap}
theorem Cx.Ok.nofr (ok:X.Ok) {b:Addr} {o:Obj} (e:X.base.get? b=some o):b∉X.fs:=fun hb=>by
 have:=(ok.funs.mem hb).1
 rw [e] at this;cases this
theorem Inv.bs (I:Inv X pins σ H s):∀ b o,X.base.get? b=some o->s.heap.get? b=some o/\H b=none:=fun b o e =>
 ⟨I.base.keep b o (I.ok.bs b o e).1 (I.ok.bs b o e).2 (I.ok.nofr e) (I.ok.noex b o e),I.base.free b o (I.ok.bs b o e).1 (I.ok.bs b o e).2 (I.ok.noex b o e)⟩
theorem Inv.bk (I:Inv X pins σ H s):∀ b o,X.base.get? b=some o->s.heap.get? b=some o:=fun b o e=>(I.bs b o e).1
theorem Inv.mod (I:Inv X pins σ H s):Mod X.K X.mg X.base:=I.ok.mod
theorem Inv.kIn (I:Inv X pins σ H s):X.K.In s.heap:=I.ok.mod.kin.keeps I.bk
theorem Inv.lt (I:Inv X pins σ H s):X.env.locals < s.heap.objs.size:=let ⟨_,hn,_⟩:=I.loc;hn.lt
theorem Inv.sz (I:Inv X pins σ H s):X.s₀.heap.objs.size<=s.heap.objs.size:=Nat.le_trans I.ok.above (Nat.le_of_lt I.lt)
theorem Inv.nofs (I:Inv X pins σ H s) {a:Addr} (h:s.heap.objs.size<=a):a∉X.fs:=fun hb=>by
 obtain ⟨_,o,ho,_⟩:=I.ok.funs.mem hb
 exact absurd (Nat.lt_of_lt_of_le (Heap.lt_size ho) (Nat.le_trans I.sz h)) (Nat.lt_irrefl _)
theorem Inv.cne (I:Inv X pins σ H s):∀ x c,X.env.cells.lookup x=some c->c≠X.env.locals:=fun x c e z=>by
 obtain ⟨v,o,ho,hd⟩:=I.cell x c e
 obtain ⟨m,⟨o',es,ep,ho',hd',_⟩,_⟩:=I.loc
 rw [z,ho'] at ho;cases ho;rw [hd'] at hd;cases hd
theorem Inv.funs (I:Inv X pins σ H s):s.heap.FunFrames X.base X.outer:=by
 have all:∀ (l:List Env),(∀ b∈frs l,b∈X.fs)->X.s₀.heap.FunFrames X.base l->s.heap.FunFrames X.base l:=by
  intro l
  induction l with
  | nil=>intro _ _;trivial
  | cons env r ih =>
   intro hs hl
   obtain ⟨hk,⟨L,o,hf,hn,ho,hd⟩,hr⟩:=hl
   have hL:L∈X.fs:=hs L (by unfold frs;rw [List.filterMap_cons,hf];exact List.mem_cons_self)
   obtain ⟨sl,e⟩:=I.base.slot L o ho (I.ok.frf L hL) hL fun z=>I.ok.exfs L z hL
   exact ⟨hk,⟨L,_,hf,hn,e,hd⟩,ih (fun b hb=>hs b (by unfold frs;rw [List.filterMap_cons,hf];exact List.mem_cons_of_mem _ hb)) hr⟩
 exact all X.outer (fun _ hb=>hb) I.ok.funs
theorem Inv.stack (I:Inv X pins σ H s):s.heap.FunFrames X.base X.stack:=by
 rcases I.ok.stk with e | ⟨e,hf⟩
 ·rw [e];exact I.funs
 ·rw [e]
  obtain ⟨m,hn,_⟩:=I.loc
  refine .cons (by rw [I.ok.kind];decide) hf hn ?_ I.funs
  exact Heap.get?_none_of_le (Nat.le_trans I.ok.bsz I.ok.above)
theorem Inv.stkSub (I:Inv X pins σ H s):∀ b∈frs X.stack,b∈X.env.locals :: X.fs:=fun b hb=>by
 rcases I.ok.stk with e | ⟨e,hf⟩
 ·rw [e] at hb;exact List.mem_cons_of_mem _ hb
 ·rw [e] at hb
  unfold frs at hb
  rw [List.filterMap_cons,hf] at hb
  exact hb
theorem Inv.stkFree (I:Inv X pins σ H s):∀ b∈frs X.stack,H b=none:=fun b hb=>by
 rcases List.mem_cons.mp (I.stkSub b hb) with e | hb
 ·rw [e];exact I.free
 ·obtain ⟨_,o,ho,_⟩:=I.ok.funs.mem hb
  exact I.base.free b o ho (I.ok.frf b hb) fun z=>I.ok.exfs b z hb
theorem Inv.step {g':Array GenState} {t':Nat} {d':Drawn} {ch:List Addr} (I:Inv X pins σ H s)
  (hch:∀ b∈ch,(b∈X.ex∨X.s₀.heap.objs.size<=b)/\b≠X.env.locals/\(∀ x c,X.env.cells.lookup x=some c->c≠b)/\∀ p∈X.pn++pins,p.1≠b)
  (keep:∀ b o,b≠X.env.locals->b∉X.fs->b∉ch->s.heap.get? b=some o->H b=none->h'.get? b=some o)
  (slot:∀ b o,b≠X.env.locals->b∈X.fs->b∉ch->s.heap.get? b=some o->H b=none->∃ sl,h'.get? b=some { o with slots:=sl }) (free:∀ b o,b∉ch->s.heap.get? b=some o->H b=none->H' b=none)
  (there:∀ b o,b∉ch->s.heap.get? b=some o->∃ o',h'.get? b=some o')
  (tups:∀ b xs,H b=some (.tup xs)->H' b=some (.tup xs)) (frzs:∀ b o u,H b=some (.frz o u)->H' b=some (.frz o u)) (tbls:∀ b ps,H b=some (.tbl ps)->∃ more,H' b=some (.tbl (ps++more)))
  (ns:∀ m,s.heap.Ns X.env.locals m->h'.Ns X.env.locals m) (hok:HOk X.prog X.w H' h') (hg:AllBare g') :
  Inv X pins σ H' { s with heap:=h',gens:=g',drawn:=d',toks:=t' }:=by
 have neL:∀ b o,X.s₀.heap.get? b=some o->b≠X.env.locals:=fun b o e=>Nat.ne_of_lt (Nat.lt_of_lt_of_le (Heap.lt_size e) I.ok.above)
 have neC:∀ b o,X.s₀.heap.get? b=some o->b∉X.ex->b∉ch:=fun b o e hx hb=>by
  rcases (hch b hb).1 with z | z
  ·exact hx z
  ·exact absurd (Nat.lt_of_lt_of_le (Heap.lt_size e) z) (Nat.lt_irrefl _)
 have cellK:∀ x c,X.env.cells.lookup x=some c->∀ v,s.heap.IsCell c v->h'.IsCell c v:=fun x c e v ⟨o,ho,hd⟩=>by
  have nch:c∉ch:=fun z=>(hch c z).2.2.1 x c e rfl
  by_cases hc:c∈X.fs
  ·obtain ⟨sl,q⟩:=slot c o (I.cne x c e) hc nch ho (I.freeC x c e)
   exact ⟨_,q,hd⟩
  ·exact ⟨o,keep c o (I.cne x c e) hc nch ho (I.freeC x c e),hd⟩
 refine ⟨I.ok,I.os,hg,⟨fun b o e n hb hx=>?_,fun b o e n hb hx=>?_,fun b o e n hx=>?_,fun b o e hx=>?_,fun b xs e=>tups b xs (I.base.tups b xs e),fun b o xs e=>frzs b o xs (I.base.frzs b o xs e),fun b ps e=>?_⟩,?_,fun x c e=>?_,?_,fun x c e=>?_,fun p hp=>?_,hok,I.len⟩
 ·exact keep b o (neL b o e) hb (neC b o e hx) (I.base.keep b o e n hb hx) (I.base.free b o e n hx)
 ·obtain ⟨sl,e1⟩:=I.base.slot b o e n hb hx
  obtain ⟨sl',e2⟩:=slot b _ (neL b o e) hb (neC b o e hx) e1 (I.base.free b o e n hx)
  exact ⟨sl',e2⟩
 ·obtain ⟨o',e1⟩:=I.base.there b o e hx
  exact free b o' (neC b o e hx) e1 (I.base.free b o e n hx)
 ·obtain ⟨o',e1⟩:=I.base.there b o e hx
  exact there b o' (neC b o e hx) e1
 ·obtain ⟨m1,e1⟩:=I.base.tbls b ps e
  obtain ⟨m2,e2⟩:=tbls b _ e1
  exact ⟨m1++m2,by rw [e2,Array.append_assoc]⟩
 ·obtain ⟨m,hn,hl⟩:=I.loc
  refine ⟨m,ns m hn,fun i x v e1 e2 e3=>?_⟩
  obtain ⟨u,r,l⟩:=hl i x v e1 e2 e3
  refine ⟨u,r,?_⟩
  rcases l with l | ⟨k,c,e,z⟩
  ·exact .inl l
  ·exact .inr ⟨k,c,e,cellK x c e _ z⟩
 ·obtain ⟨v,z⟩:=I.cell x c e
  exact ⟨v,cellK x c e v z⟩
 ·obtain ⟨m,⟨o,_,_,ho,_⟩,_⟩:=I.loc
  exact free _ o (fun z=>(hch _ z).2.1 rfl) ho I.free
 ·obtain ⟨v,o,ho,hd⟩:=I.cell x c e
  exact free c o (fun z=>(hch c z).2.2.1 x c e rfl) ho (I.freeC x c e)
 ·obtain ⟨e,n,ne,nf,d⟩:=I.pin p hp
  have nch:p.1∉ch:=fun z=>(hch p.1 z).2.2.2 p hp rfl
  exact ⟨keep p.1 p.2 ne nf nch e n,free p.1 p.2 nch e n,ne,nf,d⟩
theorem Inv.un {t':Nat} (I:Inv X pins σ H s) (u:Un X.fs [] H H' s.heap h') (hok:HOk X.prog X.w H' h'):Inv X pins σ H' { s with heap:=h',toks:=t' }:=by
 obtain ⟨m,⟨o,es,ep,ho,r⟩,_⟩:=id I.loc
 obtain ⟨sl,hL⟩:=u.any ho I.free (by simp)
 exact I.step (g':=s.gens) (d':=s.drawn) (ch:=[]) (fun _ z=>nomatch z) (fun b o _ hb _ e n=>u.keep b o e n hb (by simp)) (fun b o _ hb _ e n=>u.slot b o e n hb (by simp)) (fun b o _ e n=>u.free b o e n (by simp)) (fun b o _ e=>u.there b o e (by simp)) u.tups u.frzs u.tbls (fun m' hm=>by
  obtain ⟨o',es',ep',ho',r'⟩:=hm
  rw [ho] at ho';cases ho'
  exact ⟨_,es',ep',hL,r'⟩) hok I.bare
theorem Inv.call {g':Array GenState} {t':Nat} {d':Drawn} {ch:List Addr} (I:Inv X pins σ H s) (u:Un (frs X.stack) ch H H' s.heap h') (hok:HOk X.prog X.w H' h') (hg:AllBare g')
  (hch:∀ b∈ch,(b∈X.ex∨X.s₀.heap.objs.size<=b)/\b≠X.env.locals/\(∀ x c,X.env.cells.lookup x=some c->c≠b)/\∀ p∈X.pn++pins,p.1≠b) :
  Inv X pins σ H' { s with heap:=h',gens:=g',drawn:=d',toks:=t' }:=by
 obtain ⟨m,⟨o,es,ep,ho,r⟩,_⟩:=id I.loc
 obtain ⟨sl,hL⟩:=u.any ho I.free fun z=>(hch _ z).2.1 rfl
 exact I.step (ch:=ch) hch (fun b o hL hb hc e n=>u.keep b o e n (fun z=>(List.mem_cons.mp (I.stkSub b z)).elim hL hb) hc) (fun b o _ _ hc e n=>u.any e n hc) (fun b o hc e n=>u.free b o e n hc) (fun b o hc e=>u.there b o e hc) u.tups u.frzs u.tbls (fun m' hm=>by
  obtain ⟨o',es',ep',ho',r'⟩:=hm
  rw [ho] at ho';cases ho'
  exact ⟨_,es',ep',hL,r'⟩) hok hg
theorem Inv.turned {t':Nat} {it:Addr} (I:Inv X pins σ H s) (k:∀ b o,b≠it->s.heap.get? b=some o->h'.get? b=some o) (hn:H it=none) (hL:it≠X.env.locals)
  (h1:it∈X.ex∨X.s₀.heap.objs.size<=it) (h2:∀ x c,X.env.cells.lookup x=some c->c≠it) (h3:∀ p∈X.pn++pins,p.1≠it):Inv X pins σ H { s with heap:=h',toks:=t' }:=by
 have nit:∀ b u,H b=some u->b≠it:=fun b u e z=>by rw [z,hn] at e;cases e
 refine I.step (g':=s.gens) (d':=s.drawn) (ch:=[it]) (fun b hb=>?_) (fun b o _ _ hc e _=>k b o (fun z=>hc (by simp [z])) e) (fun b o _ _ hc e _=>⟨o.slots,k b o (fun z=>hc (by simp [z])) e⟩) (fun _ _ _ _ n=>n)
  (fun b o hc e=>⟨o,k b o (fun z=>hc (by simp [z])) e⟩) (fun _ _ e=>e) (fun _ _ _ e=>e) (fun b ps e=>⟨#[],by rw [e];simp⟩) (fun m hm=>?_) (fun b u e=>?_) I.bare
 ·have e:b=it:=by simpa using hb
  subst e
  exact ⟨h1,hL,h2,h3⟩
 ·obtain ⟨o,es,ep,ho,r⟩:=hm
  exact ⟨o,es,ep,k _ o (Ne.symm hL) ho,r⟩
 ·refine (I.hok b u e).stay (fun c v hc q=>k c v ?_ q) (fun _ q=>q) fun _ _ q=>q
  rcases hc with z | z
  ·rw [z];exact nit b u e
  ·exact nit c _ z
theorem Inv.tok (I:Inv X pins σ H s) (t:Nat):Inv X pins σ H { s with toks:=t }:=I.un (h':=s.heap) (t':=t) Un.refl I.hok
theorem Inv.kept {t':Nat} (I:Inv X pins σ H s) (k:∀ b u,s.heap.get? b=some u->h'.get? b=some u):Inv X pins σ H { s with heap:=h',toks:=t' }:=I.un (Un.kept k) (I.hok.kept k)
theorem Inv.laid {a:Addr} {o:HO} {t':Nat} (I:Inv X pins σ H s) (k:∀ b u,s.heap.get? b=some u->h'.get? b=some u) (hp:s.heap.objs.size<=a) (new:Bu X.prog X.w (upd H a o) h' a o) :
  Inv X pins σ (upd H a o) { s with heap:=h',toks:=t' }:=I.un (Un.laid k hp (I.hok.fresh hp)) (I.hok.laid k hp new)
theorem Inv.write {x e:Addr} {o:HO} {t':Nat} (I:Inv X pins σ H s) (mu:Mut (H x)) (he:e=x∨H e=some (.own x)) (k:∀ b u,b≠e->s.heap.get? b=some u->h'.get? b=some u) (heo:∃ u,h'.get? e=some u)
  (new:Bu X.prog X.w (upd H x o) h' x o):Inv X pins σ (upd H x o) { s with heap:=h',toks:=t' }:=I.un (Un.write mu he k heo) (I.hok.write mu he k heo new)
theorem Inv.pins_of {pins':List (Addr×Obj)} (I:Inv X pins σ H s) (h:∀ p∈pins',s.heap.get? p.1=some p.2/\H p.1=none/\p.1≠X.env.locals/\p.1∉X.fs/\∀ v,p.2.data≠.cell v):Inv X pins' σ H s :=
 ⟨I.ok,I.os,I.bare,I.base,I.loc,I.cell,I.free,I.freeC,fun p hp=>(List.mem_append.mp hp).elim (fun z=>I.pin p (List.mem_append_left _ z)) (h p),I.hok,I.len⟩
theorem nodup_ix {N:List Str} (hN:N.Nodup) {i j:Nat} {x:Str} (a:N[i]?=some x) (b:N[j]?=some x):i=j:=by
 obtain ⟨h1,e1⟩:=List.getElem?_eq_some_iff.mp a
 obtain ⟨h2,e2⟩:=List.getElem?_eq_some_iff.mp b
 exact (List.getElem_inj hN).mp (e1.trans e2.symm)
theorem GB {M:Model} {A:Around} {E:Value->Shared->Prop} {i:Nat} {x:Str} {v:V} {u:Value} {Q:Unit->Shared->Prop} (I:Inv X pins σ H s) (hN:X.N.Nodup) (hi:X.N[i]?=some x) (hx:Loc X.env.scope x) (r:RelV v u)
  (h:∀ s',Inv X pins (σ.set i (some v)) H s'->(∃ a,Heap.SameBut a s.heap s'.heap/\(a=X.env.locals∨X.env.cells.lookup x=some a))->Q () s') (hf:X.fn x=true∨X.env.scope.names.lookup x=some .local:=by first | exact .inl rfl | exact .inr rfl | assumption):wpAny M A (storeName X.env x u) Q E s:=by
 obtain ⟨m,hn,hl⟩:=id I.loc
 have hcls:(X.env.scope.kind == .class || (X.env.scope.kind == .module && X.env.locals != X.env.globals))=false:=by rw [I.ok.kind];rfl
 have hiσ:i < σ.length:=by rw [I.len];exact (List.getElem?_eq_some_iff.mp hi).1
 have cne:=I.cne
 have tracked:∀ {a:Addr} {h':Heap},(∃ o,s.heap.get? a=some o/\H a=none)->Heap.SameBut a s.heap h'->HOk X.prog X.w H h':=fun {a h'} ha hs b ob e=>by
  obtain ⟨_,_,hfree⟩:=ha
  refine (I.hok b ob e).stay (fun c w' hc q=>(hs.2 c ?_).trans q) (fun _ q=>q) fun _ _ q=>q
  rintro rfl
  rcases hc with rfl | hc
  ·rw [hfree] at e;cases e
  ·rw [hfree] at hc;cases hc
 rcases hx with hk | hk
 ·refine wpAny_storeName_local hk hn (fun h' hn' hs=>?_) hcls
  obtain ⟨oL,_,_,hoL,_⟩:=id hn
  refine h _ ⟨I.ok,I.os,I.bare,⟨fun b o e n hb hx=>?_,fun b o e n hb hx=>?_,I.base.free,fun b o e hx=>?_,I.base.tups,I.base.frzs,I.base.tbls⟩,⟨_,hn',fun j y v' e1 e2 e3=>?_⟩,fun y c e=>?_,I.free,I.freeC,fun p hp=>?_,tracked ⟨oL,hoL,I.free⟩ hs,by simpa using I.len⟩ ⟨_,hs,.inl rfl⟩
  ·exact (hs.2 b (Nat.ne_of_lt (Nat.lt_of_lt_of_le (Heap.lt_size e) I.ok.above))).trans (I.base.keep b o e n hb hx)
  ·obtain ⟨sl,e1⟩:=I.base.slot b o e n hb hx
   exact ⟨sl,(hs.2 b (Nat.ne_of_lt (Nat.lt_of_lt_of_le (Heap.lt_size e) I.ok.above))).trans e1⟩
  ·obtain ⟨o',e1⟩:=I.base.there b o e hx
   exact ⟨o',(hs.2 b (Nat.ne_of_lt (Nat.lt_of_lt_of_le (Heap.lt_size e) I.ok.above))).trans e1⟩
  ·by_cases hj:j=i
   ·subst hj
    rw [hi] at e1;cases e1
    rw [List.getElem?_set_self hiσ] at e2
    cases e2
    exact ⟨u,r,.inl ⟨hk,by simp⟩⟩
   ·rw [List.getElem?_set_ne (Ne.symm hj)] at e2
    obtain ⟨u',r',q⟩:=hl j y v' e1 e2 e3
    refine ⟨u',r',?_⟩
    rcases q with ⟨k,e⟩ | ⟨k,c,e,z⟩
    ·refine .inl ⟨k,?_⟩
     have:y≠x:=fun e=>hj (nodup_ix hN e1 (e▸hi))
     simp [this,e]
    ·exact .inr ⟨k,c,e,z.sameBut hs (cne y c e)⟩
  ·obtain ⟨w',z⟩:=I.cell y c e
   exact ⟨w',z.sameBut hs (cne y c e)⟩
  ·obtain ⟨e,n,ne,nf,d⟩:=I.pin p hp
   exact ⟨(hs.2 p.1 ne).trans e,n,ne,nf,d⟩
 ·have hfn:X.fn x=true:=by
   rcases hf with z | z
   ·exact z
   ·rw [z] at hk;cases hk
  obtain ⟨c,hc⟩:=I.ok.has x (.inl hk)
  obtain ⟨w',z⟩:=I.cell x c hc
  refine wpAny_storeName_cell I.ok.kind hk hc z (fun h' hc' hs=>?_)
  obtain ⟨oc,hoc,hocd⟩:=id z
  refine h { s with heap:=h' } ⟨I.ok,I.os,I.bare,⟨fun b o e n hb hx=>?_,fun b o e n hb hx=>?_,I.base.free,fun b o e hx=>?_,I.base.tups,I.base.frzs,I.base.tbls⟩,⟨m,hn.sameBut hs (Ne.symm (cne x c hc)),fun j y v' e1 e2 e3=>?_⟩,fun y c' e=>?_,I.free,I.freeC,fun p hp=>?_,tracked ⟨oc,hoc,I.freeC x c hc⟩ hs,by simpa using I.len⟩ ⟨c,hs,.inr hc⟩
  ·exact (hs.2 b (Nat.ne_of_lt (Nat.lt_of_lt_of_le (Heap.lt_size e) (I.ok.cab x c hfn hc)))).trans (I.base.keep b o e n hb hx)
  ·obtain ⟨sl,e1⟩:=I.base.slot b o e n hb hx
   exact ⟨sl,(hs.2 b (Nat.ne_of_lt (Nat.lt_of_lt_of_le (Heap.lt_size e) (I.ok.cab x c hfn hc)))).trans e1⟩
  ·obtain ⟨o',e1⟩:=I.base.there b o e hx
   exact ⟨o',(hs.2 b (Nat.ne_of_lt (Nat.lt_of_lt_of_le (Heap.lt_size e) (I.ok.cab x c hfn hc)))).trans e1⟩
  ·by_cases hj:j=i
   ·subst hj
    rw [hi] at e1;cases e1
    rw [List.getElem?_set_self hiσ] at e2
    cases e2
    exact ⟨u,r,.inr ⟨.inl hk,c,hc,hc'⟩⟩
   ·rw [List.getElem?_set_ne (Ne.symm hj)] at e2
    obtain ⟨u',r',q⟩:=hl j y v' e1 e2 e3
    refine ⟨u',r',?_⟩
    rcases q with q | ⟨k,c',e,z'⟩
    ·exact .inl q
    ·refine .inr ⟨k,c',e,z'.sameBut hs ?_⟩
     rintro rfl
     exact hj (nodup_ix hN e1 (I.ok.inj _ _ _ e hc▸hi))
  ·by_cases hcc:c'=c
   ·subst hcc;exact ⟨_,hc'⟩
   ·obtain ⟨w2,z2⟩:=I.cell y c' e
    exact ⟨w2,z2.sameBut hs hcc⟩
  ·obtain ⟨e,n,ne,nf,d⟩:=I.pin p hp
   refine ⟨(hs.2 p.1 ?_).trans e,n,ne,nf,d⟩
   intro q
   rw [q,hoc] at e
   have q':oc=p.2:=Option.some.inj e
   exact d w' (by rw [<- q'];exact hocd)
theorem store_ok {M:Model} {A:Around} {E:Value->Shared->Prop} {i:Nat} {x:Str} {v:V} {u:Value} {Q:Unit->Shared->Prop} (I:Inv X pins σ H s) (hN:X.N.Nodup) (hi:X.N[i]?=some x) (hx:Loc X.env.scope x) (r:RelV v u)
  (h:∀ s',Inv X pins (σ.set i (some v)) H s'->Q () s') (hf:X.fn x=true∨X.env.scope.names.lookup x=some .local:=by first | exact .inl rfl | exact .inr rfl | assumption):wpAny M A (storeName X.env x u) Q E s :=
 GB I hN hi hx r (fun s' I' _=>h s' I') hf
theorem Inv.call' {s':Shared} {ch:List Addr} (I:Inv X pins σ H s) (ho:s'.os=s.os) (u:Un (frs X.stack) ch H H' s.heap s'.heap) (hok:HOk X.prog X.w H' s'.heap) (hg:AllBare s'.gens)
  (hch:∀ b∈ch,(b∈X.ex∨X.s₀.heap.objs.size<=b)/\b≠X.env.locals/\(∀ x c,X.env.cells.lookup x=some c->c≠b)/\∀ p∈X.pn++pins,p.1≠b):Inv X pins σ H' s':=by
 obtain ⟨h',g',d',t',o'⟩:=s'
 have e:o'=s.os:=ho
 subst e
 exact I.call (g':=g') (t':=t') (d':=d') u hok hg hch
end
abbrev XK:=Value->Option Addr->Hp->Prop
abbrev St:=List (Option V)
abbrev VK:=V->Hp->Prop
abbrev TE:=St->Hp->VK->Prop
abbrev TT:=St->Hp->(Bool->Hp->Prop)->Prop
abbrev TA:=St->Hp->(List V->Hp->Prop)->Prop
structure Ends where
 nx:St->Hp->Prop
 rt:VK
 bk:St->Hp->Prop:=fun _ _=>False
 ct:St->Hp->Prop:=fun _ _=>False
abbrev TS:=Ends->St->Hp->Prop
def EP (X:Cx) (pins:List (Addr×Obj)) (σ:St) (Q:VK) (u:Value) (s':Shared):Prop:=∃ v H',Inv X pins σ H' s'/\RelV v u/\Q v H'
def TP (X:Cx) (pins:List (Addr×Obj)) (σ:St) (Q:Bool->Hp->Prop) (b:Bool) (s':Shared):Prop:=∃ H',Inv X pins σ H' s'/\Q b H'
def AP (X:Cx) (pins:List (Addr×Obj)) (σ:St) (Q:List V->Hp->Prop) (us:List Value) (s':Shared):Prop:=∃ vs H',Inv X pins σ H' s'/\Vals vs us/\Q vs H'
def SP (X:Cx) (pins:List (Addr×Obj)) (D:Ends) (f:Flow) (s':Shared):Prop :=
 match f with
 | .next=>∃ σ' H',Inv X pins σ' H' s'/\D.nx σ' H'
 | .brk=>∃ σ' H',Inv X pins σ' H' s'/\D.bk σ' H'
 | .cont=>∃ σ' H',Inv X pins σ' H' s'/\D.ct σ' H'
 | .ret u=>∃ v σ' H',Inv X pins σ' H' s'/\RelV v u/\D.rt v H'
def PE (X:Cx) (e:Expr) (t:TE):Prop :=
 ∀ (pins:List (Addr×Obj)) (s:Shared) (σ:St) (H:Hp) (Q:VK),Inv X pins σ H s->t σ H Q->wpAny (model X.prog X.w) X.A (eval e X.env) (EP X pins σ Q) X.xe s
def PT (X:Cx) (e:Expr) (t:TT):Prop :=
 ∀ (pins:List (Addr×Obj)) (s:Shared) (σ:St) (H:Hp) (Q:Bool->Hp->Prop),Inv X pins σ H s->t σ H Q->wpAny (model X.prog X.w) X.A (isTrue e X.env (eval e X.env)) (TP X pins σ Q) X.xe s
def PW (X:Cx) (e:Expr) (t:TT):Prop :=
 ∀ (whole:Sem Value) (pins:List (Addr×Obj)) (s:Shared) (σ:St) (H:Hp) (Q:Bool->Hp->Prop),Inv X pins σ H s->t σ H Q->wpAny (model X.prog X.w) X.A (isTrue e X.env whole) (TP X pins σ Q) X.xe s
theorem PW.pt {X:Cx} {e:Expr} {t:TT} (h:PW X e t):PT X e t:=h _
def PA (X:Cx) (es:List Expr) (t:TA):Prop :=
 ∀ (pos:Pos) (pins:List (Addr×Obj)) (s:Shared) (σ:St) (H:Hp) (Q:List V->Hp->Prop),Inv X pins σ H s->t σ H Q->wpAny (model X.prog X.w) X.A (spliced (backTo pos (starEach es X.env))) (AP X pins σ Q) X.xe s
def PS (X:Cx) (st:Stmt) (t:TS):Prop :=
 ∀ (pins:List (Addr×Obj)) (s:Shared) (σ:St) (H:Hp) (D:Ends),Inv X pins σ H s->t D σ H->wpAny (model X.prog X.w) X.A (exec st X.env) (SP X pins D) X.xe s
def PSs (X:Cx) (st:List Stmt) (t:TS):Prop :=
 ∀ (pins:List (Addr×Obj)) (s:Shared) (σ:St) (H:Hp) (D:Ends),Inv X pins σ H s->t D σ H->wpAny (model X.prog X.w) X.A (execs st X.env) (SP X pins D) X.xe s
theorem thn {α:Type} {t:Sem α} {Q Q':α->Shared->Prop} {M:Model} {A:Around} {E:Value->Shared->Prop} {s:Shared} (h:wpAny M A t Q E s) (hQ:∀ a s,Q a s->Q' a s):wpAny M A t Q' E s:=wpAny_mono h hQ fun _ _ x=>x
end L2
namespace L2
open PySem PySem.Spec PyProof.Rows
section
variable {X:Cx}
def tVar (i:Nat):TE:=fun σ H Q=>∃ v,σ[i]?=some (some v)/\Q v H
def tC (v:V):TE:=fun _ H Q=>Q v H
theorem pe_var {i:Nat} {x:Str} {pos:Pos} (hN:X.N[i]?=some x) (hv:Vis X.env.scope x) (hd:(x == ("__debug__":Str))=false:=by decide) (hcd:(x == ("__classdict__":Str))=false:=by decide):PE X (.Name x pos) (tVar i):=by
 intro pins s σ H Q I h
 obtain ⟨v,e,h⟩:=h
 obtain ⟨m,hn,hl⟩:=I.loc
 obtain ⟨u,r,l⟩:=hl i x v hN e hv
 have fin:EP X pins σ Q u s:=⟨v,H,I,r,h⟩
 rcases l with ⟨hk,hm⟩ | ⟨hk,c,hc,hcell⟩
 ·exact wpAny_Name (wpAny_loadName_local I.ok.kind hk hn hm fin) hd
 ·rcases hk with hk | hk
  ·exact wpAny_Name (wpAny_loadName_cell I.ok.kind hk hc hcell fin) hd
  ·exact wpAny_Name (wpAny_loadName_free I.ok.kind hk hc hcell fin hcd) hd
theorem pe_int {i j pos}:PE X (.Constant (.int i) j pos) (tC (.int i)):=fun _ _ _ H _ I h=>wpAny_Constant_int ⟨.int i,H,I.tok _,⟨_,rfl⟩,h⟩
theorem pe_bl {b j pos}:PE X (.Constant (.bool b) j pos) (tC (.bl b)):=fun _ _ _ H _ I h=>Constant_bool ⟨.bl b,H,I,rfl,h⟩
theorem pe_str {x j pos}:PE X (.Constant (.str x) j pos) (tC (.str x)):=fun _ _ _ H _ I h=>Calls.Constant_str ⟨.str x,H,I.tok _,⟨_,rfl⟩,h⟩
def Gl (X:Cx) (x:Str):Prop:=X.env.kindOf x=some .globalImplicit
theorem ld_glob {E:Value->Shared->Prop} {pins:List (Addr×Obj)} {s:Shared} {σ:St} {H:Hp} {x:Str} {u:Value} {pos:Pos} {Q:Value->Shared->Prop} (I:Inv X pins σ H s) (hg:Gl X x) (hm:X.mg x=some u) (h:Q u s)
  (hd:(x == ("__debug__":Str))=false:=by decide):wpAny (model X.prog X.w) X.A (eval (.Name x pos) X.env) Q E s :=
 Calls.Name_function_global I.ok.kind hg (Calls.loadGlobal_global (by rw [I.ok.glob];exact I.mod.glob.keeps I.bk) hm h) hd
theorem Dl {E:Value->Shared->Prop} {pins:List (Addr×Obj)} {s:Shared} {σ:St} {H:Hp} {x:Str} {u:Value} {pos:Pos} {Q:Value->Shared->Prop} (I:Inv X pins σ H s) (hg:Gl X x) (hm:X.mg x=none) (hv:bootBuiltins x=some u) (h:Q u s)
  (hn:x≠"__name__":=by decide) (hd:(x == ("__debug__":Str))=false:=by decide):wpAny (model X.prog X.w) X.A (eval (.Name x pos) X.env) Q E s:=by
 obtain ⟨mb,h1,h2⟩:=I.mod.blt
 exact Calls.Name_function_global I.ok.kind hg (Calls.loadGlobal_builtin (by rw [I.ok.glob];exact I.mod.glob.keeps I.bk) hm (by rw [I.ok.blt];exact h1.keeps I.bk) ((h2 x hn).trans hv) h) hd
theorem pe_bltn {x:Str} {v:V} {u:Value} {pos:Pos} (hg:Gl X x) (hm:X.mg x=none) (hv:bootBuiltins x=some u) (r:RelV v u) (hn:x≠"__name__":=by decide) (hd:(x == ("__debug__":Str))=false:=by decide):PE X (.Name x pos) (tC v) :=
 fun _ _ _ H _ I h=>Dl I hg hm hv ⟨v,H,I,r,h⟩ hn hd
variable {a b:Expr} {ta tb:TE} {pos:Pos}
variable {tA tB':TT} {rest:List Expr}
def tAnd (t u:TT):TT:=fun σ H Q=>t σ H fun c H1=>if c=true then u σ H1 Q else Q false H1
def tOr (t u:TT):TT:=fun σ H Q=>t σ H fun c H1=>if c=true then Q true H1 else u σ H1 Q
def tNot (t:TT):TT:=fun σ H Q=>t σ H fun c H1=>Q (!c) H1
theorem pw_and1 (ha:PT X a tA):PW X (.BoolOp .And [a] pos) tA:=by
 intro wh pins s σ H Q I h
 refine isTrue_and (thn (ha pins s σ H Q I h) fun c s1 e=>?_)
 cases c with
 | true=>exact isTrue_and_nil e
 | false=>exact e
theorem pw_or1 (ha:PT X a tA):PW X (.BoolOp .Or [a] pos) tA:=by
 intro wh pins s σ H Q I h
 refine isTrue_or (thn (ha pins s σ H Q I h) fun c s1 e=>?_)
 cases c with
 | false=>exact isTrue_or_nil e
 | true=>exact e
theorem pw_and (ha:PT X a tA) (hb:PW X (.BoolOp .And (b :: rest) pos) tB'):PW X (.BoolOp .And (a :: b :: rest) pos) (tAnd tA tB'):=by
 intro wh pins s σ H Q I h
 refine isTrue_and (thn (ha pins s σ H _ I h) fun c s1 ⟨H1,I1,q1⟩=>?_)
 cases c with
 | true=>exact hb wh pins s1 σ H1 Q I1 q1
 | false=>exact ⟨H1,I1,q1⟩
theorem pw_or (ha:PT X a tA) (hb:PW X (.BoolOp .Or (b :: rest) pos) tB'):PW X (.BoolOp .Or (a :: b :: rest) pos) (tOr tA tB'):=by
 intro wh pins s σ H Q I h
 refine isTrue_or (thn (ha pins s σ H _ I h) fun c s1 ⟨H1,I1,q1⟩=>?_)
 cases c with
 | true=>exact ⟨H1,I1,q1⟩
 | false=>exact hb wh pins s1 σ H1 Q I1 q1
theorem pt_not (ha:PT X a tA):PT X (.UnaryOp .Not a pos) (tNot tA):=by
 intro pins s σ H Q I h
 exact isTrue_not (ha pins s σ H (fun c H1=>Q (!c) H1) I h)
def tIf (t:TT) (ta tb:TE):TE:=fun σ H Q=>t σ H fun c H1=>if c=true then ta σ H1 Q else tb σ H1 Q
theorem pe_ifExp {c:Expr} (hc:PT X c tA) (ha:PE X a ta) (hb:PE X b tb):PE X (.IfExp c a b pos) (tIf tA ta tb):=by
 intro pins s σ H Q I h
 refine wpAny_IfExp (thn (hc pins s σ H _ I h) fun d s1 ⟨H1,I1,q1⟩=>?_)
 cases d with
 | true=>exact ha pins s1 σ H1 Q I1 q1
 | false=>exact hb pins s1 σ H1 Q I1 q1
end
end L2
namespace L2
open PySem PySem.Spec PyProof.Rows
def SqL (K:PySem.W.Frag) (H:Hp) (a:Addr) (xs:List V):Prop :=
 Rd H a (.lst xs) ∨
  ∃ (o:Obj) (its:Array Value) (n:Nat),K.lookup a=some o/\o.cls=.type "list"/\o.dict=none/\o.data=.seq its n/\its.size<=sizeLine/\Vals xs its.toList
def SqT (K:PySem.W.Frag) (H:Hp) (a:Addr) (xs:List V):Prop :=
 Rd H a (.tup xs) ∨
  ∃ (o:Obj) (its:Array Value) (n:Nat),K.lookup a=some o/\o.cls=.type "tuple"/\o.data=.seq its n/\its.size<=sizeLine/\Vals xs its.toList
def absV:Value->Option V
 | .none=>some .non
 | .bool b=>some (.bl b)
 | .int i _=>some (.int i)
 | .str x _=>some (.str x)
 | .bytes b _=>some (.byt b)
 | .float b _=>some (.flt b)
 | .ref a=>some (.ref a)
 | .type n=>some (.ty n)
 | _=>none
theorem RelV.abs {x:V} {u:Value} (r:RelV x u):absV u=some x:=by
 cases x with
 | non=>cases r;rfl
 | bl _=>cases r;rfl
 | int _=>obtain ⟨t,rfl⟩:=r;rfl
 | str _=>obtain ⟨t,rfl⟩:=r;rfl
 | byt _=>obtain ⟨t,rfl⟩:=r;rfl
 | flt _=>obtain ⟨t,rfl⟩:=r;rfl
 | ref _=>cases r;rfl
 | ty _=>cases r;rfl
theorem RelV.inj {x y:V} {u:Value} (r:RelV x u) (q:RelV y u):x=y:=Option.some.inj (r.abs.symm.trans q.abs)
theorem Vals.inj:∀ {xs ys:List V} {us:List Value},Vals xs us->Vals ys us->xs=ys
 | _,_,_,.nil,.nil=>rfl
 | _,_,_,.cons r t,.cons r' t'=>by rw [r.inj r',Vals.inj t t']
section
variable {X:Cx} {pins:List (Addr×Obj)} {σ:St} {H:Hp} {s:Shared} {a:Addr} {xs ys:List V}
theorem SqL.of {K:PySem.W.Frag} (h:H a=some (.lst xs)):SqL K H a xs:=.inl (.inl h)
theorem SqT.of {K:PySem.W.Frag} (h:H a=some (.tup xs)):SqT K H a xs:=.inl (.inl h)
theorem Inv.list (I:Inv X pins σ H s) (h:SqL X.K H a xs):∃ its:List Value,Vals xs its/\PlainL s.heap a its.toArray/\xs.length<=sizeLine:=by
 rcases h with h | ⟨o,its,n,hk,hc,hd,hs,hz,r⟩
 ·obtain ⟨z,its,n,r,e⟩:=h.ok I.hok
  exact ⟨its,r,⟨_,n,e,rfl,rfl,rfl⟩,z⟩
 ·refine ⟨its.toList,r,⟨o,n,I.kIn a o hk,hc,hd,by simpa using hs⟩,?_⟩
  have e:=r.length
  simp only [Array.length_toList] at e
  omega
theorem Inv.tuple (I:Inv X pins σ H s) (h:SqT X.K H a xs):∃ its:List Value,Vals xs its/\IsTup s.heap a its.toArray/\xs.length<=sizeLine:=by
 rcases h with h | ⟨o,its,n,hk,hc,hs,hz,r⟩
 ·obtain ⟨z,its,r,p⟩:=h.ok I.hok
  exact ⟨its,r,p,z⟩
 ·refine ⟨its.toList,r,⟨o,I.kIn a o hk,hc,n,by simpa using hs⟩,?_⟩
  have e:=r.length
  simp only [Array.length_toList] at e
  omega
theorem Inv.list_inj (I:Inv X pins σ H s) (h:SqL X.K H a xs) (h':SqL X.K H a ys):xs=ys:=by
 obtain ⟨its,r,⟨o,n,e,_,_,d⟩,_⟩:=I.list h
 obtain ⟨its',r',⟨o',n',e',_,_,d'⟩,_⟩:=I.list h'
 rw [e] at e';cases e'
 rw [d] at d'
 injection d' with d1 _
 have:its=its':=by simpa using congrArg Array.toList d1
 subst this
 exact r.inj r'
theorem Inv.tuple_inj (I:Inv X pins σ H s) (h:SqT X.K H a xs) (h':SqT X.K H a ys):xs=ys:=by
 obtain ⟨its,r,⟨o,e,_,n,d⟩,_⟩:=I.tuple h
 obtain ⟨its',r',⟨o',e',_,n',d'⟩,_⟩:=I.tuple h'
 rw [e] at e';cases e'
 rw [d] at d'
 injection d' with d1 _
 have:its=its':=by simpa using congrArg Array.toList d1
 subst this
 exact r.inj r'
end
abbrev Cx.wish (X:Cx) (E:Value->Shared->Prop):Cx:={ X with xe:=E }
abbrev Cx.nox (X:Cx):Cx:=X.wish fun _ _=>False
theorem Cx.Ok.wish {X:Cx} (ok:X.Ok) (E:Value->Shared->Prop):(X.wish E).Ok :=
 ⟨ok.mod,ok.kind,ok.glob,ok.blt,ok.above,ok.inj,ok.has,ok.cab,ok.hd,ok.frames,ok.stk,ok.exf,ok.bs,ok.bsz,ok.noex,ok.exfs,ok.funs,ok.frf⟩
theorem Cx.Ok.DV {X:Cx} {E:Value->Shared->Prop} (ok:(X.wish E).Ok):X.Ok :=
 ⟨ok.mod,ok.kind,ok.glob,ok.blt,ok.above,ok.inj,ok.has,ok.cab,ok.hd,ok.frames,ok.stk,ok.exf,ok.bs,ok.bsz,ok.noex,ok.exfs,ok.funs,ok.frf⟩
section
variable {X:Cx} {pins:List (Addr×Obj)} {σ:St} {H:Hp} {s:Shared} {E:Value->Shared->Prop}
theorem Inv.wish (I:Inv X pins σ H s) (E:Value->Shared->Prop):Inv (X.wish E) pins σ H s:=⟨I.ok.wish E,I.os,I.bare,I.base,I.loc,I.cell,I.free,I.freeC,I.pin,I.hok,I.len⟩
theorem Inv.DV (I:Inv (X.wish E) pins σ H s):Inv X pins σ H s:=⟨I.ok.DV,I.os,I.bare,I.base,I.loc,I.cell,I.free,I.freeC,I.pin,I.hok,I.len⟩
theorem SP.DV {D:Ends} {f:Flow} {s':Shared} (h:SP (X.wish E) pins D f s'):SP X pins D f s':=by
 cases f with
 | next=>obtain ⟨σ',H',I,q⟩:=h;exact ⟨σ',H',I.DV,q⟩
 | brk=>obtain ⟨σ',H',I,q⟩:=h;exact ⟨σ',H',I.DV,q⟩
 | cont=>obtain ⟨σ',H',I,q⟩:=h;exact ⟨σ',H',I.DV,q⟩
 | ret u=>obtain ⟨v,σ',H',I,r,q⟩:=h;exact ⟨v,σ',H',I.DV,r,q⟩
theorem PSs.nox {st:List Stmt} {t:TS} (h:PSs X.nox st t):PSs X st t:=fun pins s σ H D I hw =>
 wpAny_mono (h pins s σ H D (I.wish _) hw) (fun _ _ q=>q.DV) fun _ _ z=>False.elim z
end
section
variable {X:Cx} {st:Stmt} {rest:List Stmt} {t u:TS} {e:Expr} {te:TE} {pos:Pos}
def tNext:TS:=fun D σ H=>D.nx σ H
def tSeq (t u:TS):TS:=fun D σ H=>t { D with nx:=u D } σ H
theorem pss_nil:PSs X [] tNext:=fun _ _ σ H _ I h=>wpAny_execs_nil ⟨σ,H,I,h⟩
theorem pss_cons (h1:PS X st t) (h2:PSs X rest u):PSs X (st :: rest) (tSeq t u):=by
 intro pins s σ H D I h
 refine wpAny_execs_cons (thn (h1 pins s σ H { D with nx:=u D } I h) fun f s1 q=>?_)
 cases f with
 | next =>
  obtain ⟨σ',H',I',q⟩:=q
  exact h2 pins s1 σ' H' D I' q
 | ret v=>exact q
 | brk=>exact q
 | cont=>exact q
theorem pss_one (h1:PS X st t):PSs X [st] t:=by
 intro pins s σ H D I h
 refine wpAny_execs_cons (thn (h1 pins s σ H D I h) fun f s1 q=>?_)
 cases f with
 | next=>exact wpAny_execs_nil q
 | ret v=>exact q
 | brk=>exact q
 | cont=>exact q
theorem Inv.quiet {pins:List (Addr×Obj)} {σ:St} {H:Hp} {s:Shared} (I:Inv X pins σ H s):interactive X.env=false:=by simp [interactive,I.ok.kind]
def tDrop (te:TE):TS:=fun D σ H=>te σ H fun _ H1=>D.nx σ H1
theorem ps_expr (he:PE X e te) (hs:swapsWith e none pos.line X.env=pure false:=by rfl):PS X (.Expr e pos) (tDrop te):=by
 intro pins s σ H D I h
 exact wpAny_Expr_any (thn (he pins s σ H _ I h) fun v s1 ⟨x,H1,I1,r1,q1⟩=>⟨σ,H1,I1,q1⟩) I.quiet hs
def tRet (te:TE):TS:=fun D σ H=>te σ H D.rt
theorem ps_ret (he:PE X e te):PS X (.Return (some e) pos) (tRet te):=by
 intro pins s σ H D I h
 exact wpAny_Return_some (thn (he pins s σ H _ I h) fun v s1 ⟨x,H1,I1,r1,q1⟩=>⟨x,σ,H1,I1,r1,q1⟩)
def tIfS (c:TT) (t u:TS):TS:=fun D σ H=>c σ H fun b H1=>if b=true then t D σ H1 else u D σ H1
theorem ps_if {c:Expr} {a b:List Stmt} {tc:TT} (hc:PT X c tc) (ha:PSs X a t) (hb:PSs X b u):PS X (.If c a b pos) (tIfS tc t u):=by
 intro pins s σ H D I h
 refine wpAny_If (thn (hc pins s σ H _ I h) fun d s1 ⟨H1,I1,q1⟩=>?_)
 cases d with
 | true=>exact ha pins s1 σ H1 D I1 q1
 | false=>exact hb pins s1 σ H1 D I1 q1
end
abbrev TG:=V->St->Hp->(St->Hp->Prop)->Prop
abbrev TGs:=List V->St->Hp->(St->Hp->Prop)->Prop
def PG (X:Cx) (target:Expr) (t:TG):Prop :=
 ∀ (pins:List (Addr×Obj)) (s:Shared) (σ:St) (H:Hp) (v:V) (u:Value) (Q:St->Hp->Prop),Inv X pins σ H s->RelV v u->t v σ H Q ->
  wpAny (model X.prog X.w) X.A (assign target X.env u) (fun _ s'=>∃ σ' H',Inv X pins σ' H' s'/\Q σ' H') X.xe s
def PGs (X:Cx) (ts:List Expr) (t:TGs):Prop :=
 ∀ (pins:List (Addr×Obj)) (s:Shared) (σ:St) (H:Hp) (vs:List V) (us:List Value) (Q:St->Hp->Prop),Inv X pins σ H s->Vals vs us->t vs σ H Q ->
  wpAny (model X.prog X.w) X.A (assignInOrder ((assignEach ts X.env).map (·.2)) us) (fun _ s'=>∃ σ' H',Inv X pins σ' H' s'/\Q σ' H') X.xe s
abbrev TSet:=V->V->V->Hp->(Hp->Prop)->Prop
def PSet (X:Cx) (t:TSet):Prop :=
 ∀ (pins:List (Addr×Obj)) (s:Shared) (σ:St) (H:Hp) (o i v:V) (ov iv u:Value) (Q:Hp->Prop),Inv X pins σ H s->RelV o ov->RelV i iv->RelV v u->t o i v H Q ->
  wpAny (model X.prog X.w) X.A (setItem ov iv u) (fun _ s'=>∃ H',Inv X pins σ H' s'/\Q H') X.xe s
section
variable {X:Cx} {pos:Pos}
def gName (i:Nat):TG:=fun v σ H Q=>Q (σ.set i (some v)) H
theorem pg_name {i:Nat} {x:Str} (hN:X.N.Nodup) (hi:X.N[i]?=some x) (hx:Loc X.env.scope x) (hf:X.fn x=true∨X.env.scope.names.lookup x=some .local:=by first | exact .inl rfl | exact .inr rfl | assumption):PG X (.Name x pos) (gName i):=by
 intro pins s σ H v u Q I r h
 exact wpAny_assign_Name (store_ok I hN hi hx r (fun s' I'=>⟨_,H,I',h⟩) hf)
def gNil:TGs:=fun vs σ H Q=>vs=[]/\Q σ H
def gCons (t:TG) (u:TGs):TGs:=fun vs σ H Q=>∃ v r,vs=v :: r/\t v σ H fun σ' H'=>u r σ' H' Q
theorem pgs_nil:PGs X [] gNil:=by
 intro pins s σ H vs us Q I r h
 obtain ⟨e,h⟩:=h
 subst e
 cases r
 exact assignInOrder_nil ⟨σ,H,I,h⟩
theorem FX {e:Expr} {es:List Expr} {t:TG} {u:TGs} (h1:PG X e t) (h2:PGs X es u)
  (hs:(assignEach (e :: es) X.env).map (·.2)=assign e X.env :: (assignEach es X.env).map (·.2):=by rfl):PGs X (e :: es) (gCons t u):=by
 intro pins s σ H vs us Q I r h
 obtain ⟨v,vr,e1,h⟩:=h
 subst e1
 cases r with
 | cons r rr =>
  rw [hs]
  refine assignInOrder_cons (thn (h1 pins s σ H _ _ _ I r h) fun _ s1 ⟨σ1,H1,I1,q1⟩=>?_)
  exact h2 pins s1 σ1 H1 _ _ Q I1 rr q1
def gTup (K:PySem.W.Frag) (n:Nat) (t:TGs):TG:=fun v σ H Q=>∃ a xs,v=.ref a/\SqT K H a xs/\xs.length=n/\t xs σ H Q
theorem pg_tup {es:List Expr} {k:Nat} {t:TGs} {n:Nat} (hc:X.calm=true) (h:PGs X es t)
  (hn:(assignEach es X.env).length=n:=by rfl) (hst:(assignEach es X.env).findIdx? (·.1)=none:=by rfl):PG X (.Tuple es k pos) (gTup X.K n t):=by
 intro pins s σ H v u Q I r hw
 obtain ⟨a,xs,e1,hq,hl,hw⟩:=hw
 subst e1
 cases r
 obtain ⟨its,rv,ht,hz⟩:=I.tuple hq
 refine assign_Tuple_tuple (I.ok.hd hc) ht (by simp [hn,<- hl,rv.length]) hst fun h' hx=>?_
 have I1:Inv X pins σ H { s with heap:=h' }:=I.kept (t':=s.toks) fun b o e=>hx b o (Nat.ne_of_lt (Heap.lt_size e)) e
 exact h pins _ σ H xs _ Q I1 (by simpa using rv) hw
def gSub (to ti:TE) (t:TSet):TG:=fun v σ H Q=>to σ H fun o H1=>ti σ H1 fun i H2=>t o i v H2 fun H3=>Q σ H3
theorem pg_sub {o i:Expr} {to ti:TE} {t:TSet} (ho:PE X o to) (hi:PE X i ti) (hs:PSet X t)
  (ha:∀ v,assign (.Subscript o i pos) X.env v=(do
   let ov <- holding [v] (eval o X.env)
   let iv <- holding [v,ov] (eval i X.env)
   standAt pos
   holding [v,ov,iv] (setItem ov iv v)
   release [v,ov,iv] []):=by intro _;rfl):PG X (.Subscript o i pos) (gSub to ti t):=by
 intro pins s σ H v u Q I r h
 rw [ha]
 refine wpAny_bind (wpAny_holding (thn (ho pins s σ H _ I h) fun ov s1 ⟨x,H1,I1,r1,q1⟩=>?_))
 refine wpAny_bind (wpAny_holding (thn (hi pins s1 σ H1 _ I1 q1) fun iv s2 ⟨y,H2,I2,r2,q2⟩=>?_))
 refine wpAny_bind (wpAny_standAt (wpAny_bind (wpAny_holding (thn (hs pins s2 σ H2 x y v ov iv u _ I2 r1 r2 r q2) fun _ s3 ⟨H3,I3,q3⟩=>?_))))
 exact wpAny_release ⟨σ,H3,I3,q3⟩
def tAsg (te:TE) (g:TG):TS:=fun D σ H=>te σ H fun x H1=>g x σ H1 D.nx
theorem ps_asg {tg e:Expr} {te:TE} {g:TG} (he:PE X e te) (hg:PG X tg g) (hs:swapsWithSole [tg] e pos.line X.env=pure false:=by rfl) (hw:swappedStores [tg] e X.env=pure none:=by rfl)
  (h1:(assignEach [tg] X.env).map (·.2)=[assign tg X.env]:=by rfl):PS X (.Assign [tg] e pos) (tAsg te g):=by
 intro pins s σ H D I h
 refine wpAny_Assign_stores (thn (he pins s σ H _ I h) fun v s1 ⟨x,H1,I1,r1,q1⟩=>?_) hs hw
 rw [h1]
 exact thn (hg pins s1 σ H1 x v _ I1 r1 q1) fun _ s2 q=>q
theorem ps_set {i:Nat} {x:Str} {e:Expr} {te:TE} {pos':Pos} (hN:X.N.Nodup) (hi:X.N[i]?=some x) (hx:Loc X.env.scope x) (he:PE X e te) (hs:swapsWith e (some (.Name x pos')) pos.line X.env=pure false:=by rfl) (hf:X.fn x=true∨X.env.scope.names.lookup x=some .local:=by first | exact .inl rfl | exact .inr rfl | assumption) :
  PS X (.Assign [.Name x pos'] e pos) (tAsg te (gName i)):=by
 intro pins s σ H D I h
 refine wpAny_Assign_Name (thn (he pins s σ H _ I h) fun v s1 ⟨y,H1,I1,r1,q1⟩=>?_) hs
 exact store_ok I1 hN hi hx r1 (fun s2 I2=>⟨_,H1,I2,q1⟩) hf
end
section
variable {X:Cx} {pos:Pos}
def tWhile (c:TT) (tb:TS):TS:=fun D σ H=>∃ W:Nat->St->Hp->Prop,(∃ m,W m σ H)/\∀ m σ H,W m σ H ->
 c σ H fun b H1=>if b=true then ∃ N:St->Hp->Prop,(∀ σ' H',N σ' H'->∃ m',m' < m/\W m' σ' H')/\tb { D with nx:=N,ct:=N,bk:=D.nx } σ H1 else D.nx σ H1
theorem ps_while {c:Expr} {body:List Stmt} {tc:TT} {tb:TS} (hp:PassesOwn (model X.prog X.w) X.A X.env X.xe) (hc:PT X c tc) (hb:PSs X body tb):PS X (.While c body [] pos) (tWhile tc tb):=by
 intro pins s σ H D I h
 obtain ⟨W,⟨m0,w0⟩,turn⟩:=h
 refine wpAny_While (codeAny_whileLoop (fun n s'=>∃ σ' H',Inv X pins σ' H' s'/\W n σ' H') ?_ m0 ⟨σ,H,I,w0⟩)
 rintro n s1 ⟨σ1,H1,I1,w1⟩
 refine wpAny_passesOwn hp (thn (hc pins s1 σ1 H1 _ I1 (turn n σ1 H1 w1)) fun b s2 ⟨H2,I2,q2⟩=>?_)
 cases b with
 | true =>
  obtain ⟨N,hN,q2⟩:=q2
  rw [if_pos rfl]
  refine wpAny_passesOwn hp (thn (hb pins s2 σ1 H2 _ I2 q2) fun f s3 q3=>?_)
  cases f with
  | next =>
   obtain ⟨σ3,H3,I3,n3⟩:=q3
   obtain ⟨m',hm,w3⟩:=hN σ3 H3 n3
   exact ⟨m',hm,σ3,H3,I3,w3⟩
  | cont =>
   obtain ⟨σ3,H3,I3,n3⟩:=q3
   obtain ⟨m',hm,w3⟩:=hN σ3 H3 n3
   exact ⟨m',hm,σ3,H3,I3,w3⟩
  | brk=>exact q3
  | ret v=>exact q3
 | false =>
  rw [if_neg Bool.false_ne_true]
  exact wpAny_execs_nil ⟨σ1,H2,I2,q2⟩
end
structure It where
 go:Nat->Hp->Prop
 yld:Nat->Hp->V->Hp->Prop
 stop:Nat->Hp->Prop
def FpOk (X:Cx) (pins:List (Addr×Obj)) (H:Hp) (b:Addr):Prop :=
 H b=none/\b≠X.env.locals/\b∉X.fs/\(b∈X.ex∨X.s₀.heap.objs.size<=b)/\(∀ x c,X.env.cells.lookup x=some c->c≠b)/\∀ p∈X.pn++pins,p.1≠b
theorem Inv.fpOk {X:Cx} {pins:List (Addr×Obj)} {σ:St} {H H':Hp} {s:Shared} {b:Addr} (I:Inv X pins σ H s) (hb:s.heap.objs.size<=b) (hn:H' b=none):FpOk X pins H' b:=by
 refine ⟨hn,Nat.ne_of_gt (Nat.lt_of_lt_of_le I.lt hb),I.nofs hb,.inr (Nat.le_trans I.sz hb),fun x c e z=>?_,fun p hp z=>?_⟩
 ·obtain ⟨v,q⟩:=I.cell x c e
  exact absurd (Nat.lt_of_lt_of_le q.lt (by rw [z];exact hb)) (Nat.lt_irrefl _)
 ·exact absurd (Nat.lt_of_lt_of_le (Heap.lt_size (I.pin p hp).1) (by rw [z];exact hb)) (Nat.lt_irrefl _)
structure Turn (P:Program) (w:World) (K:PySem.W.Frag) (tg:Expr) (J:It) (fp:List Addr) (it:Addr) (tn:Nat->Heap->Prop):Prop where
 mem:it∈fp
 obj:∀ i h,tn i h->∀ b∈fp,∃ o,h.get? b=some o/\∀ v,o.data≠.cell v
 keep:∀ i h h',tn i h->(∀ b∈fp,∀ o,h.get? b=some o->h'.get? b=some o)->tn i h'
 item:∀ (X:Cx),X.prog=P->X.w=w->X.K=K->X.calm=true->∀ (i:Nat) (pins:List (Addr×Obj)) (s:Shared) (σ:St) (H:Hp) (E:Value->Shared->Prop),Inv X pins σ H s->(∀ b∈fp,FpOk X pins H b)->tn i s.heap->J.go i H ->
  wpAny (model P w) X.A (pyNext (.ref it)) (fun r s1=>∃ u,r=some u /\
   wpAny (model P w) X.A (letOwnedTupleGo tg (.ref it) u) (fun _ s2=>∃ x H',Inv X pins σ H' s2/\RelV x u/\J.yld i H x H'/\tn (i+1) s2.heap/\∀ b∈fp,H' b=none) E s1) E s
 done:∀ (X:Cx),X.prog=P->X.w=w->X.K=K->X.calm=true->∀ (i:Nat) (pins:List (Addr×Obj)) (s:Shared) (σ:St) (H:Hp) (E:Value->Shared->Prop),Inv X pins σ H s->(∀ b∈fp,FpOk X pins H b)->tn i s.heap->J.stop i H ->
  wpAny (model P w) X.A (pyNext (.ref it)) (fun r s1=>r=none/\Inv X pins σ H s1) E s
 self:∀ (A:Around) (i:Nat) (s:Shared) (Q:Value->Shared->Prop) (E:Value->Shared->Prop),tn i s.heap->Q (.ref it) s->wpAny (model P w) A (pyIter (.ref it)) Q E s
abbrev TI:=St->Hp->(It->Hp->Prop)->Prop
def PIE (X:Cx) (pins:List (Addr×Obj)) (σ:St) (tg:Expr) (R:It->Hp->Prop) (itv:Value) (s2:Shared):Prop :=
 ∃ (it:Addr) (fp:List Addr) (tn:Nat->Heap->Prop) (J:It) (H':Hp),itv=.ref it/\Inv X pins σ H' s2/\Turn X.prog X.w X.K tg J fp it tn/\tn 0 s2.heap/\(∀ b∈fp,FpOk X pins H' b)/\R J H'
def PI (X:Cx) (tg iter:Expr) (wi:TI):Prop :=
 ∀ (pins:List (Addr×Obj)) (s:Shared) (σ:St) (H:Hp) (R:It->Hp->Prop),Inv X pins σ H s->wi σ H R ->
  wpAny (model X.prog X.w) X.A (eval iter X.env) (fun v s1=>wpAny (model X.prog X.w) X.A (pyIter v) (PIE X pins σ tg R) X.xe s1) X.xe s
theorem go_of {M:Model} {A:Around} {E:Value->Shared->Prop} {s:Shared} {tg:Expr} {it:Addr} {u:Value} {o:Obj} {n:String} {vs:Array Value} {Q:Unit->Shared->Prop} (ho:s.heap.get? it=some o) (hc:o.cls=.type n) (hd:o.data=.fields vs)
    (hn:["enumerate","zip","dict_itemiterator","dict_reverseitemiterator","odict_iterator","itertools.zip_longest","itertools.pairwise"].contains n=false) (hQ:Q () s):wpAny M A (letOwnedTupleGo tg (.ref it) u) Q E s:=by
  unfold letOwnedTupleGo
  cases tg <;> first
    | exact wpAny_pure hQ
    | (cases u <;> first
        | exact wpAny_pure hQ
        | (refine wpAny_bind (wpAny_load ho ?_)
           rw [hc,hd]
           show wpAny M A (if (["enumerate","zip","dict_itemiterator","dict_reverseitemiterator","odict_iterator","itertools.zip_longest","itertools.pairwise"].contains n && vs[0]? == some (rawInt _))=true then _ else _) Q E s
           rw [if_neg (by intro h;rw [hn,Bool.false_and] at h;cases h)]
           exact wpAny_pure hQ))
def Itl (K:PySem.W.Frag) (a:Addr):It :=
 ⟨fun i H=>∃ xs x,SqL K H a xs/\xs[i]?=some x,fun i H x H'=>H'=H/\∀ xs,SqL K H a xs->xs[i]?=some x,fun i H=>∃ xs,SqL K H a xs/\xs.length<=i⟩
def Itt (K:PySem.W.Frag) (a:Addr):It :=
 ⟨fun i H=>∃ xs x,SqT K H a xs/\xs[i]?=some x,fun i H x H'=>H'=H/\∀ xs,SqT K H a xs->xs[i]?=some x,fun i H=>∃ xs,SqT K H a xs/\xs.length<=i⟩
def Itr (lo:Int) (n:Nat):It:=⟨fun i _=>i < n,fun i H x H'=>H'=H/\x=.int (lo+i),fun i _=>n<=i⟩
theorem turn_list {P:Program} {w:World} {K:PySem.W.Frag} {tg:Expr} (a it:Addr):Turn P w K tg (Itl K a) [it] it (fun i h=>h.IsListIter it a i) where
 mem:=by simp
 obj:=fun i h st b hb=>by
  have e:b=it:=by simpa using hb
  subst e
  obtain ⟨o,e,c,d⟩:=st
  exact ⟨o,e,fun v z=>by rw [d] at z;cases z⟩
 keep:=fun i h h' st k=>st.at fun o e=>k it (by simp) o e
 item:=by
  intro X hP hw hK hc i pins s σ H E I hf st hg
  subst hP hw hK
  obtain ⟨xs,x,hq,hx⟩:=hg
  obtain ⟨its,rv,p,hz⟩:=I.list hq
  obtain ⟨u,hu,ru⟩:=rv.get hx
  obtain ⟨f0,f1,f2,f3,f4,f5⟩:=hf it (by simp)
  refine wpAny_pyNext_list_item st p.isList (x:=u) (by simpa using hu) fun h' st' sb=>?_
  have I1:Inv X pins σ H { s with heap:=h' }:=I.turned (t':=s.toks) (fun b o hb e=>(sb.2 b hb).trans e) f0 f1 f3 f4 f5
  obtain ⟨o,e,c,d⟩:=id st'
  exact ⟨u,rfl,go_of (s:={ s with heap:=h' }) e c d (by decide) ⟨x,H,I1,ru,⟨rfl,fun ys hy=>by rw [I.list_inj hy hq];exact hx⟩,st',fun b hb=>(hf b hb).1⟩⟩
 done:=by
  intro X hP hw hK hc i pins s σ H E I hf st hg
  subst hP hw hK
  obtain ⟨xs,hq,hx⟩:=hg
  obtain ⟨its,rv,p,hz⟩:=I.list hq
  obtain ⟨f0,f1,f2,f3,f4,f5⟩:=hf it (by simp)
  have hl:=rv.length
  exact wpAny_pyNext_list_end (I.ok.hd hc) st p.isList (by simp;omega) fun h' eb=>⟨rfl,I.turned (t':=s.toks) (fun b o hb e=>eb b o hb e) f0 f1 f3 f4 f5⟩
 self:=fun _ _ _ _ _ st h=>wpAny_pyIter_listiter st h
theorem turn_tuple {P:Program} {w:World} {K:PySem.W.Frag} {tg:Expr} (a it:Addr):Turn P w K tg (Itt K a) [it] it (fun i h=>h.IsTupleIter it a i) where
 mem:=by simp
 obj:=fun i h st b hb=>by
  have e:b=it:=by simpa using hb
  subst e
  obtain ⟨o,e,c,d⟩:=st
  exact ⟨o,e,fun v z=>by rw [d] at z;cases z⟩
 keep:=fun i h h' st k=>st.at fun o e=>k it (by simp) o e
 item:=by
  intro X hP hw hK hc i pins s σ H E I hf st hg
  subst hP hw hK
  obtain ⟨xs,x,hq,hx⟩:=hg
  obtain ⟨its,rv,p,hz⟩:=I.tuple hq
  obtain ⟨u,hu,ru⟩:=rv.get hx
  obtain ⟨f0,f1,f2,f3,f4,f5⟩:=hf it (by simp)
  refine wpAny_pyNext_tuple_item st (show s.heap.IsTuple a its.toArray from p) (x:=u) (by simpa using hu) fun h' st' sb=>?_
  have I1:Inv X pins σ H { s with heap:=h' }:=I.turned (t':=s.toks) (fun b o hb e=>(sb.2 b hb).trans e) f0 f1 f3 f4 f5
  obtain ⟨o,e,c,d⟩:=id st'
  exact ⟨u,rfl,go_of (s:={ s with heap:=h' }) e c d (by decide) ⟨x,H,I1,ru,⟨rfl,fun ys hy=>by rw [I.tuple_inj hy hq];exact hx⟩,st',fun b hb=>(hf b hb).1⟩⟩
 done:=by
  intro X hP hw hK hc i pins s σ H E I hf st hg
  subst hP hw hK
  obtain ⟨xs,hq,hx⟩:=hg
  obtain ⟨its,rv,p,hz⟩:=I.tuple hq
  obtain ⟨f0,f1,f2,f3,f4,f5⟩:=hf it (by simp)
  have hl:=rv.length
  exact wpAny_pyNext_tuple_end (I.ok.hd hc) st (show s.heap.IsTuple a its.toArray from p) (by simp;omega) fun h' eb=>⟨rfl,I.turned (t':=s.toks) (fun b o hb e=>eb b o hb e) f0 f1 f3 f4 f5⟩
 self:=fun _ _ _ _ _ st h=>wpAny_pyIter_tupleiter st h
theorem turn_range {P:Program} {w:World} {K:PySem.W.Frag} {tg:Expr} (it:Addr) (lo:Int) (n:Nat):Turn P w K tg (Itr lo n) [it] it (fun i h=>IsRangeIter h it (lo+(i:Nat) * 1) ((n:Int) - (i:Nat)) 1) where
 mem:=by simp
 obj:=fun i h st b hb=>by
  have e:b=it:=by simpa using hb
  subst e
  exact ⟨_,st,fun v z=>by
   have z':Data.fields _=Data.cell v:=z
   cases z'⟩
 keep:=fun i h h' st k=>k it (by simp) _ st
 item:=by
  intro X hP hw hK hc i pins s σ H E I hf st hg
  subst hP hw hK
  obtain ⟨f0,f1,f2,f3,f4,f5⟩:=hf it (by simp)
  have W:=Walks.range (prog:=X.prog) (w:=X.w) (I.ok.hd hc) it lo 1 n
  refine W.item i s _ _ hg st fun v h' tk hv st' kk=>?_
  obtain ⟨t,rfl⟩:=hv
  have I1:Inv X pins σ H { s with heap:=h',toks:=tk }:=I.turned (fun b o hb e=>kk b o (by simpa using hb) e) f0 f1 f3 f4 f5
  refine ⟨_,rfl,go_of (s:={ s with heap:=h',toks:=tk }) (n:="range_iterator") st' rfl rfl (by decide) ⟨.int (lo+i),H,I1,⟨t,?_⟩,⟨rfl,rfl⟩,st',fun b hb=>(hf b hb).1⟩⟩
  rw [Int.mul_one]
 done:=by
  intro X hP hw hK hc i pins s σ H E I hf st hg
  subst hP hw hK
  obtain ⟨f0,f1,f2,f3,f4,f5⟩:=hf it (by simp)
  exact wpAny_pyNext_range_end (I.ok.hd hc) st (by have:n<=i:=hg;omega) fun h' eb=>⟨rfl,I.turned (t':=s.toks) (fun b o hb e=>eb b o hb e) f0 f1 f3 f4 f5⟩
 self:=fun _ _ _ _ _ st h=>wpAny_pyIter_rangeiter st h
end L2
namespace L2
open PySem PySem.Spec PyProof.Rows
section
variable {X:Cx} {tg:Expr}
theorem range_it {pins:List (Addr×Obj)} {σ:St} {H:Hp} {s:Shared} {R:It->Hp->Prop} {E:Value->Shared->Prop} {lo hi:Int} {t u v:Tok} {tk:Nat} (I:Inv X pins σ H s) (h1:-(2 ^ 62)<=lo) (h2:lo < 2 ^ 62) (h3:-(2 ^ 62)<=hi) (h4:hi < 2 ^ 62)
  (q:R (Itr lo (hi - lo).toNat) H):wpAny (model X.prog X.w) X.A (pyIter (.ref s.heap.objs.size)) (PIE X pins σ tg R) E { s with heap:=s.heap.push { cls:=.type "range",data:=.fields #[.int lo t,.int hi u,.int 1 v] },toks:=tk }:=by
 refine wpAny_pyIter_range (IsRange.new ..) (small_one h1 h2 h3 h4) ?_
 have I1:Inv X pins σ H { s with heap:=s.heap.push { cls:=.type "range",data:=.fields #[.int lo t,.int hi u,.int 1 v] },toks:=tk }:=I.kept fun b o e=>Heap.get?_push_of_some _ e
 refine ⟨(s.heap.push { cls:=.type "range",data:=.fields #[.int lo t,.int hi u,.int 1 v] }).objs.size,[(s.heap.push { cls:=.type "range",data:=.fields #[.int lo t,.int hi u,.int 1 v] }).objs.size],_,_,H,rfl,
  I1.kept (t':=tk) fun b o e=>Heap.get?_push_of_some _ e,turn_range _ lo (hi - lo).toNat,?_,fun b hb=>?_,q⟩
 ·have e1:lo+((0:Nat):Int) * 1=lo:=by simp
  have e2:(((hi - lo).toNat:Nat):Int) - ((0:Nat):Int)=Builtin.Range.rangeSize lo hi 1:=by rw [rangeSize_one];split <;> omega
  show IsRangeIter _ _ (lo+((0:Nat):Int) * 1) ((((hi - lo).toNat:Nat):Int) - ((0:Nat):Int)) 1
  rw [e1,e2]
  exact Heap.get?_push_size _ rfl
 ·have e:b=(s.heap.push { cls:=.type "range",data:=.fields #[.int lo t,.int hi u,.int 1 v] }).objs.size:=by simpa using hb
  subst e
  exact I1.fpOk (Nat.le_refl _) (I1.hok.fresh (Nat.le_refl _))
def iRng1 (ta:TA):TI:=fun σ H R=>ta σ H fun vs H1=>∃ j:Int,vs=[.int j]/\-(2 ^ 62)<=j/\j < 2 ^ 62/\R (Itr 0 j.toNat) H1
theorem pi_range1 {a:Expr} {ta:TA} {p pos:Pos} (hg:Gl X "range") (hm:X.mg "range"=none) (ha:PA X [a] ta) (hs:starEach [a] X.env=[(false,eval a X.env)]:=by rfl):PI X tg (.Call (.Name "range" p) [a] [] pos) (iRng1 ta):=by
 intro pins s σ H R I h
 refine Call_ (Dl I hg hm boot_range (PyProof.Rows.callWith_type1 (thn (ha pos pins s σ H _ I h) fun us s1 ⟨vs,H1,I1,r1,q1⟩=>?_) hs rfl))
 obtain ⟨j,e,q1,q2,q⟩:=q1
 subst e
 cases r1 with
 | cons r rr =>
  cases rr
  obtain ⟨t,rfl⟩:=r
  exact call_range_1 (range_it I1 (by omega) (by omega) q1 q2 (by simpa using q))
def tFor (wi:TI) (g:TG) (tb:TS):TS:=fun D σ H=>wi σ H fun J H1=>∃ W:Nat->Nat->St->Hp->Prop,(∃ m,W 0 m σ H1)/\∀ i m σ H,W i m σ H ->
 (J.stop i H/\D.nx σ H)∨(J.go i H/\∃ N:St->Hp->Prop,(∀ σ' H',N σ' H'->∃ m',m' < m/\W (i+1) m' σ' H')/\∀ x H',J.yld i H x H'->g x σ H' fun σ2 H2=>tb { D with nx:=N,ct:=N,bk:=D.nx } σ2 H2)
def GO (fp:List Addr) (h:Heap):List (Addr×Obj):=fp.filterMap fun b=>(h.get? b).map fun o=>(b,o)
theorem CZ {fp:List Addr} {h:Heap} {b:Addr} {o:Obj} (hb:b∈fp) (e:h.get? b=some o):(b,o)∈GO fp h:=List.mem_filterMap.mpr ⟨b,hb,by rw [e];rfl⟩
theorem of_pinsAt {fp:List Addr} {h:Heap} {p:Addr×Obj} (hp:p∈GO fp h):p.1∈fp/\h.get? p.1=some p.2:=by
 obtain ⟨b,hb,e⟩:=List.mem_filterMap.mp hp
 cases q:h.get? b with
 | none=>rw [q] at e;cases e
 | some o =>
  rw [q] at e
  have e':(b,o)=p:=Option.some.inj e
  subst e'
  exact ⟨hb,q⟩
theorem Inv.pinned {pins:List (Addr×Obj)} {σ:St} {H:Hp} {s:Shared} {fp:List Addr} (I:Inv X pins σ H s) (hf:∀ b∈fp,FpOk X pins H b) (ho:∀ b∈fp,∃ o,s.heap.get? b=some o/\∀ v,o.data≠.cell v):Inv X (pins++GO fp s.heap) σ H s :=
 I.pins_of fun p hp=>(List.mem_append.mp hp).elim (fun z=>I.pin p (List.mem_append_right _ z)) fun z=>by
  obtain ⟨hb,e⟩:=of_pinsAt z
  obtain ⟨f0,f1,f2,_⟩:=hf p.1 hb
  obtain ⟨o,e',d⟩:=ho p.1 hb
  rw [e] at e';cases e'
  exact ⟨e,f0,f1,f2,d⟩
theorem Inv.Eg {pins pl:List (Addr×Obj)} {σ:St} {H:Hp} {s:Shared} (I:Inv X (pins++pl) σ H s):Inv X pins σ H s:=I.pins_of fun p hp=>I.pin p (List.mem_append_right _ (List.mem_append_left _ hp))
theorem ps_for {iter:Expr} {body:List Stmt} {wi:TI} {g:TG} {tb:TS} {pos:Pos} (hp:PassesOwn (model X.prog X.w) X.A X.env X.xe) (hc:X.calm=true) (hi:PI X tg iter wi) (hg:PG X tg g) (hb:PSs X body tb)
  (hs:∀ x,foldedSetIterable iter X.env x=pure x:=by intro _;rfl):PS X (.For tg iter body [] pos) (tFor wi g tb):=by
 intro pins s σ H D I h
 refine wpAny_For (thn (hi pins s σ H _ I h) fun v s1 h1=>thn h1 fun itv s2 h2=>?_) hs
 obtain ⟨it,fp,tn,J,H2,e,I2,T,st2,f2,W,⟨m0,w0⟩,turn⟩:=h2
 subst e
 have stat:∀ {H':Hp},(∀ b∈fp,H' b=none)->∀ b∈fp,FpOk X pins H' b:=fun hn b hb=>⟨hn b hb,(f2 b hb).2⟩
 refine codeAny_forLoop_any (fun n s'=>∃ i σ' H',Inv X pins σ' H' s'/\tn i s'.heap/\(∀ b∈fp,H' b=none)/\W i n σ' H') ?_ m0 ⟨0,σ,H2,I2,st2,fun b hb=>(f2 b hb).1,w0⟩
 rintro n s3 ⟨i,σ3,H3,I3,st3,fr3,w3⟩
 rcases turn i n σ3 H3 w3 with ⟨stop,qn⟩ | ⟨go,N,hN,step⟩
 ·refine wpAny_passesOwn hp (thn (T.done X rfl rfl rfl hc i pins s3 σ3 H3 X.xe I3 (stat fr3) st3 stop) fun r s4 ⟨hr,I4⟩=>?_)
  subst hr
  exact wpAny_execs_nil ⟨σ3,H3,I4,qn⟩
 ·refine wpAny_passesOwn hp (thn (T.item X rfl rfl rfl hc i pins s3 σ3 H3 X.xe I3 (stat fr3) st3 go) fun r s4 ⟨u,hr,h4⟩=>?_)
  subst hr
  refine wpAny_passesOwn hp (thn h4 fun _ s5 ⟨x,H5,I5,r5,y5,st5,fr5⟩=>?_)
  have I5':=I5.pinned (stat fr5) (T.obj _ _ st5)
  refine wpAny_passesOwn hp (thn (hg _ s5 σ3 H5 x u _ I5' r5 (step x H5 y5)) fun _ s6 ⟨σ6,H6,I6,q6⟩=>?_)
  refine wpAny_passesOwn hp (thn (hb _ s6 σ6 H6 _ I6 q6) fun f s7 q7=>?_)
  have again:∀ {σ7:St} {H7:Hp},Inv X (pins++GO fp s5.heap) σ7 H7 s7->N σ7 H7->∃ m,m < n/\∃ i σ' H',Inv X pins σ' H' s7/\tn i s7.heap/\(∀ b∈fp,H' b=none)/\W i m σ' H':=fun {σ7 H7} I7 n7=>by
   obtain ⟨m',hm,w7⟩:=hN σ7 H7 n7
   refine ⟨m',hm,i+1,σ7,H7,I7.Eg,T.keep _ _ _ st5 fun b hb o e=>(I7.pin (b,o) (List.mem_append_right _ (List.mem_append_right _ (CZ hb e)))).1,fun b hb=>?_,w7⟩
   obtain ⟨o,e,d⟩:=T.obj _ _ st5 b hb
   exact (I7.pin (b,o) (List.mem_append_right _ (List.mem_append_right _ (CZ hb e)))).2.1
  cases f with
  | next=>obtain ⟨σ7,H7,I7,n7⟩:=q7;exact again I7 n7
  | cont=>obtain ⟨σ7,H7,I7,n7⟩:=q7;exact again I7 n7
  | brk=>obtain ⟨σ7,H7,I7,q7⟩:=q7;exact ⟨σ7,H7,I7.Eg,q7⟩
  | ret v=>obtain ⟨x7,σ7,H7,I7,r7,q7⟩:=q7;exact ⟨x7,σ7,H7,I7.Eg,r7,q7⟩
end
end L2
namespace L2
open PySem PySem.Spec PyProof.Rows
abbrev R2:=V->V->Hp->VK->Prop
def OpR (X:Cx) (f:Value->Value->Sem Value) (r:R2):Prop :=
 ∀ (pins:List (Addr×Obj)) (s:Shared) (σ:St) (H:Hp) (x y:V) (v u:Value) (Q:VK),Inv X pins σ H s->RelV x v->RelV y u->r x y H Q ->
  wpAny (model X.prog X.w) X.A (f v u) (EP X pins σ Q) X.xe s
def Cs (X:Cx) (f:Value) (r:List V->Hp->VK->Prop):Prop :=
 ∀ (pins:List (Addr×Obj)) (s:Shared) (σ:St) (H:Hp) (xs:List V) (us:List Value) (Q:VK),Inv X pins σ H s->Vals xs us->r xs H Q ->
  wpAny (model X.prog X.w) X.A (call f us) (EP X pins σ Q) X.xe s
def TruR (X:Cx) (r:V->Hp->(Bool->Hp->Prop)->Prop):Prop :=
 ∀ (pins:List (Addr×Obj)) (s:Shared) (σ:St) (H:Hp) (x:V) (v:Value) (Q:Bool->Hp->Prop),Inv X pins σ H s->RelV x v->r x H Q ->
  wpAny (model X.prog X.w) X.A (truthy v) (TP X pins σ Q) X.xe s
def tOp (r:R2) (ta tb:TE):TE:=fun σ H Q=>ta σ H fun x H1=>tb σ H1 fun y H2=>r x y H2 Q
def rI (C:Int->Int->Prop) (g:Int->Int->V):R2:=fun x y H Q=>∃ i j,x=.int i/\y=.int j/\C i j/\Q (g i j) H
def rI0 (g:Int->Int->V):R2:=fun x y H Q=>∃ i j,x=.int i/\y=.int j/\Q (g i j) H
section
variable {X:Cx} {a b c:Expr} {ta tb tc:TE} {pos:Pos}
theorem binT (ha:PE X a ta) (hb:PE X b tb) {pins:List (Addr×Obj)} {s:Shared} {σ:St} {H:Hp} {R:V->V->Hp->Prop} (I:Inv X pins σ H s)
  (h:ta σ H fun x H1=>tb σ H1 fun y H2=>R x y H2) {Q:Value->Shared->Prop} {f:Value->Value->Sem Value}
  (hf:∀ v u s2 x y H2,Inv X pins σ H2 s2->RelV x v->RelV y u->R x y H2->wpAny (model X.prog X.w) X.A (f v u) Q X.xe s2) :
  wpAny (model X.prog X.w) X.A (eval a X.env) (fun v s₁=>wpAny (model X.prog X.w) X.A (eval b X.env) (fun u s₂=>wpAny (model X.prog X.w) X.A (f v u) Q X.xe s₂) X.xe s₁) X.xe s:=by
 refine thn (ha pins s σ H _ I h) fun v s1 ⟨x,H1,I1,r1,q1⟩=>?_
 refine thn (hb pins s1 σ H1 _ I1 q1) fun u s2 ⟨y,H2,I2,r2,q2⟩=>?_
 exact hf v u s2 x y H2 I2 r1 r2 q2
theorem pe_op {op:Operator} {r:R2} (ho:OpR X (binaryOp op) r) (ha:PE X a ta) (hb:PE X b tb):PE X (.BinOp a op b pos) (tOp r ta tb):=by
 intro pins s σ H Q I h
 exact wpAny_BinOp (binT ha hb I h fun v u s2 x y H2 I2 rx ry q=>ho pins s2 σ H2 x y v u Q I2 rx ry q)
theorem opI {f:Value->Value->Sem Value} {C:Int->Int->Prop} {g:Int->Int->Int}
  (rule:∀ (i j:Int) (t u:Tok) (s:Shared) (Q:Value->Shared->Prop) (E:Value->Shared->Prop),C i j->Q (.int (g i j) s.toks) { s with toks:=s.toks+1 }->wpAny (model X.prog X.w) X.A (f (.int i t) (.int j u)) Q E s) :
  OpR X f (rI C fun i j=>.int (g i j)):=by
 intro pins s σ H x y v u Q I rx ry h
 obtain ⟨i,j,rfl,rfl,hc,q⟩:=h
 obtain ⟨t,rfl⟩:=rx
 obtain ⟨t',rfl⟩:=ry
 exact rule i j t t' s _ _ hc ⟨.int (g i j),H,I.tok _,⟨_,rfl⟩,q⟩
theorem opI0 {f:Value->Value->Sem Value} {g:Int->Int->Int}
  (rule:∀ (i j:Int) (t u:Tok) (s:Shared) (Q:Value->Shared->Prop) (E:Value->Shared->Prop),Q (.int (g i j) s.toks) { s with toks:=s.toks+1 }->wpAny (model X.prog X.w) X.A (f (.int i t) (.int j u)) Q E s) :
  OpR X f (rI0 fun i j=>.int (g i j)):=by
 intro pins s σ H x y v u Q I rx ry h
 obtain ⟨i,j,rfl,rfl,q⟩:=h
 obtain ⟨t,rfl⟩:=rx
 obtain ⟨t',rfl⟩:=ry
 exact rule i j t t' s _ _ ⟨.int (g i j),H,I.tok _,⟨_,rfl⟩,q⟩
theorem opB0 {f:Value->Value->Sem Value} {g:Int->Int->Bool}
  (rule:∀ (i j:Int) (t u:Tok) (s:Shared) (Q:Value->Shared->Prop) (E:Value->Shared->Prop),Q (.bool (g i j)) s->wpAny (model X.prog X.w) X.A (f (.int i t) (.int j u)) Q E s) :
  OpR X f (rI0 fun i j=>.bl (g i j)):=by
 intro pins s σ H x y v u Q I rx ry h
 obtain ⟨i,j,rfl,rfl,q⟩:=h
 obtain ⟨t,rfl⟩:=rx
 obtain ⟨t',rfl⟩:=ry
 exact rule i j t t' s _ _ ⟨.bl (g i j),H,I,rfl,q⟩
def CDiv (i j:Int):Prop:=0 < j/\j < 1073741824
def CMul (i j:Int):Prop:=(-(2 ^ 64) < i/\i < 2 ^ 64)∨(-(2 ^ 64) < j/\j < 2 ^ 64)
theorem CMul.ok {i j:Int} (h:CMul i j):IntMulOk i j:=by
 rcases h with ⟨h1,h2⟩ | ⟨h1,h2⟩
 ·exact .of_left (intBits_le_64 h1 h2)
 ·exact .of_right (intBits_le_64 h1 h2)
theorem op_add:OpR X (binaryOp .Add) (rI0 fun i j=>.int (i+j)):=opI0 fun _ _ _ _ _ _ _ q=>add_int q
theorem op_sub:OpR X (binaryOp .Sub) (rI0 fun i j=>.int (i - j)):=opI0 fun _ _ _ _ _ _ _ q=>sub_int q
theorem op_fdiv:OpR X (binaryOp .FloorDiv) (rI CDiv fun i j=>.int (i / j)):=opI fun i j _ _ _ _ _ hc q=>by
 have h1:(0:Int) < j:=hc.1
 have h2:j < 1073741824:=hc.2
 exact floordiv_int (by omega) (by rw [Int.fdiv_eq_ediv_of_nonneg i (by omega)];exact q) (.inl (PyProof.noPylong_small (by omega)))
theorem op_mod:OpR X (binaryOp .Mod) (rI (fun _ j=>0 < j) fun i j=>.int (i % j)):=opI fun i j _ _ _ _ _ hc q=>by
 have h1:(0:Int) < j:=hc
 exact mod_int' (by omega) (by rw [Int.fmod_eq_emod_of_nonneg i (by omega)];exact q)
end
def scal:V->V->Bool
 | .non,.non=>true | .non,.int _=>true | .int _,.non=>true | .non,.bl _=>true | .bl _,.non=>true | .non,.str _=>true | .str _,.non=>true
 | .int _,.int _=>true | .bl _,.bl _=>true | .str _,.str _=>true | .byt _,.byt _=>true
 | .int _,.str _=>true | .str _,.int _=>true | .bl _,.str _=>true | .str _,.bl _=>true
 | _,_=>false
def rEq:R2:=fun x y H Q=>scal x y=true/\Q (.bl (decide (x=y))) H
def rNe:R2:=fun x y H Q=>scal x y=true/\Q (.bl (!decide (x=y))) H
theorem dec_int {i j:Int}:decide (V.int i=V.int j)=(i == j):=by
 rw [Bool.eq_iff_iff]
 simp
theorem dec_bl {i j:Bool}:decide (V.bl i=V.bl j)=(i == j):=by
 rw [Bool.eq_iff_iff]
 simp
theorem dec_str {i j:Str}:decide (V.str i=V.str j)=(i == j):=by
 rw [Bool.eq_iff_iff]
 simp
theorem dec_byt {i j:Array UInt8}:decide (V.byt i=V.byt j)=(i.toList == j.toList):=by
 rw [Bool.eq_iff_iff]
 cases i
 cases j
 simp
section
variable {X:Cx} {a b c:Expr} {ta tb tc:TE} {pos:Pos}
theorem AS {pins:List (Addr×Obj)} {σ:St} {H:Hp} {s:Shared} {Q:VK} {k k':Bool} (I:Inv X pins σ H s) (q:Q (.bl k) H) (e:k=k'):EP X pins σ Q (.bool k') s:=by
 subst e
 exact ⟨.bl k,H,I,rfl,q⟩
theorem op_eq:OpR X (compareOp .Eq) rEq:=by
 intro pins s σ H x y v u Q I rx ry h
 obtain ⟨hs,q⟩:=h
 cases x with
 | non =>
  cases rx
  cases y with
  | non=>cases ry;exact PySem.EqNone.eq_none_none (AS I q (by simp))
  | bl j=>cases ry;exact PySem.EqNone.eq_none_bool (AS I q (by simp))
  | int j=>obtain ⟨t',rfl⟩:=ry;exact PySem.EqNone.eq_none_int (AS I q (by simp))
  | str j=>obtain ⟨t',rfl⟩:=ry;exact PySem.EqNone.eq_none_str (AS I q (by simp))
  | _=>exact absurd (show false=true from hs) Bool.false_ne_true
 | bl i =>
  cases rx
  cases y with
  | non=>cases ry;exact PySem.EqNone.eq_bool_none (AS I q (by simp))
  | bl j=>cases ry;exact eq_bool (AS I q dec_bl)
  | str j=>obtain ⟨t',rfl⟩:=ry;exact PySem.EqMixed.eq_bool_str (AS I q (by simp))
  | _=>exact absurd (show false=true from hs) Bool.false_ne_true
 | int i =>
  obtain ⟨t,rfl⟩:=rx
  cases y with
  | non=>cases ry;exact PySem.EqNone.eq_int_none (AS I q (by simp))
  | int j=>obtain ⟨t',rfl⟩:=ry;exact eq_int (AS I q dec_int)
  | str j=>obtain ⟨t',rfl⟩:=ry;exact PySem.EqMixed.eq_int_str (AS I q (by simp))
  | _=>exact absurd (show false=true from hs) Bool.false_ne_true
 | str i =>
  obtain ⟨t,rfl⟩:=rx
  cases y with
  | non=>cases ry;exact PySem.EqNone.eq_str_none (AS I q (by simp))
  | bl j=>cases ry;exact PySem.EqMixed.eq_str_bool (AS I q (by simp))
  | int j=>obtain ⟨t',rfl⟩:=ry;exact PySem.EqMixed.eq_str_int (AS I q (by simp))
  | str j=>obtain ⟨t',rfl⟩:=ry;exact eq_str (AS I q dec_str)
  | _=>exact absurd (show false=true from hs) Bool.false_ne_true
 | byt i =>
  obtain ⟨t,rfl⟩:=rx
  cases y with
  | byt j=>obtain ⟨t',rfl⟩:=ry;exact PySem.W.eq_bytes (AS I q dec_byt)
  | _=>exact absurd (show false=true from hs) Bool.false_ne_true
 | _=>cases y <;> exact absurd (show false=true from hs) Bool.false_ne_true
theorem op_ne:OpR X (compareOp .NotEq) rNe:=by
 intro pins s σ H x y v u Q I rx ry h
 obtain ⟨hs,q⟩:=h
 cases x with
 | non =>
  cases rx
  cases y with
  | non=>cases ry;exact PySem.EqNone.ne_none_none (AS I q (by simp))
  | bl j=>cases ry;exact PySem.EqNone.ne_none_bool (AS I q (by simp))
  | int j=>obtain ⟨t',rfl⟩:=ry;exact PySem.EqNone.ne_none_int (AS I q (by simp))
  | str j=>obtain ⟨t',rfl⟩:=ry;exact PySem.EqNone.ne_none_str (AS I q (by simp))
  | _=>exact absurd (show false=true from hs) Bool.false_ne_true
 | bl i =>
  cases rx
  cases y with
  | non=>cases ry;exact PySem.EqNone.ne_bool_none (AS I q (by simp))
  | bl j=>cases ry;exact ne_bool (AS I q (congrArg not dec_bl))
  | str j=>obtain ⟨t',rfl⟩:=ry;exact PySem.EqMixed.ne_bool_str (AS I q (by simp))
  | _=>exact absurd (show false=true from hs) Bool.false_ne_true
 | int i =>
  obtain ⟨t,rfl⟩:=rx
  cases y with
  | non=>cases ry;exact PySem.EqNone.ne_int_none (AS I q (by simp))
  | int j=>obtain ⟨t',rfl⟩:=ry;exact ne_int (AS I q (congrArg not dec_int))
  | str j=>obtain ⟨t',rfl⟩:=ry;exact PySem.EqMixed.ne_int_str (AS I q (by simp))
  | _=>exact absurd (show false=true from hs) Bool.false_ne_true
 | str i =>
  obtain ⟨t,rfl⟩:=rx
  cases y with
  | non=>cases ry;exact PySem.EqNone.ne_str_none (AS I q (by simp))
  | bl j=>cases ry;exact PySem.EqMixed.ne_str_bool (AS I q (by simp))
  | int j=>obtain ⟨t',rfl⟩:=ry;exact PySem.EqMixed.ne_str_int (AS I q (by simp))
  | str j=>obtain ⟨t',rfl⟩:=ry;exact ne_str (AS I q (congrArg not dec_str))
  | _=>exact absurd (show false=true from hs) Bool.false_ne_true
 | byt i =>
  obtain ⟨t,rfl⟩:=rx
  cases y with
  | byt j=>obtain ⟨t',rfl⟩:=ry;exact PySem.W.ne_bytes (AS I q (congrArg not dec_byt))
  | _=>exact absurd (show false=true from hs) Bool.false_ne_true
 | _=>cases y <;> exact absurd (show false=true from hs) Bool.false_ne_true
theorem op_lt:OpR X (compareOp .Lt) (rI0 fun i j=>.bl (decide (i < j))):=opB0 fun _ _ _ _ _ _ _ q=>lt_int q
theorem op_gt:OpR X (compareOp .Gt) (rI0 fun i j=>.bl (decide (j < i))):=opB0 fun _ _ _ _ _ _ _ q=>gt_int q
theorem GY (b:Expr) {op:CmpOp} (h:op≠.In:=by decide) (h2:op≠.NotIn:=by decide):behindInMarks op b=false:=by
 have e1:(op == CmpOp.In)=false:=by cases op <;> first | rfl | exact absurd rfl h
 have e2:(op == CmpOp.NotIn)=false:=by cases op <;> first | rfl | exact absurd rfl h2
 cases b <;> simp [behindInMarks,e1,e2]
theorem pe_cmpR {op:CmpOp} {r:R2} (ho:OpR X (compareOp op) r) (ha:PE X a ta) (hb:PE X b tb) (hm:behindInMarks op b=false):PE X (.Compare a [op] [b] pos) (tOp r ta tb):=by
 intro pins s σ H Q I h
 exact wpAny_Compare1 (binT ha hb I h fun v u s2 x y H2 I2 rx ry q=>ho pins s2 σ H2 x y v u Q I2 rx ry q) hm
def tTest (t:TE):TT:=fun σ H Q=>t σ H fun x H'=>∃ k,x=.bl k/\Q k H'
theorem pt_cmpR {op:CmpOp} {r:R2} (ho:OpR X (compareOp op) r) (ha:PE X a ta) (hb:PE X b tb) (hm:behindInMarks op b=false):PT X (.Compare a [op] [b] pos) (tTest (tOp r ta tb)):=by
 intro pins s σ H Q I h
 refine wpAny_isTrue_Compare1 (thn (ha pins s σ H _ I h) fun v s1 ⟨x,H1,I1,r1,q1⟩=>thn (hb pins s1 σ H1 _ I1 q1) fun u s2 ⟨y,H2,I2,r2,q2⟩ =>
  thn (ho pins s2 σ H2 x y v u _ I2 r1 r2 q2) fun c s3 ⟨z,H3,I3,r3,k,e,q3⟩=>?_) hm
 subst e
 cases r3
 exact wpAny_truthy_bool ⟨H3,I3,q3⟩
def TruV (K:PySem.W.Frag) (x:V) (H:Hp) (k:Bool):Prop :=
 match x with
 | .non=>k=false
 | .bl b=>k=b
 | .int i=>k=(i != 0)
 | .str y=>y.length<=sizeLine/\k=((y.length:Int) != 0)
 | .byt y=>y.size<=sizeLine/\k=((y.size:Int) != 0)
 | .ref p=>(∃ xs,SqL K H p xs/\k=!xs.isEmpty)∨(∃ xs,SqT K H p xs/\k=!xs.isEmpty)∨∃ kvs,H p=some (.dK kvs)/\k=!kvs.isEmpty
 | _=>False
theorem isEmpty_kv {κ:Type} {kvs:List (κ×V)} {vs:List (κ×Value)} (r:KV kvs vs):(!vs.isEmpty)=!kvs.isEmpty:=by
 cases r <;> rfl
theorem Ft {xs:List V} {its:List Value} (r:Vals xs its):(!its.toArray.isEmpty)=!xs.isEmpty:=by
 cases r <;> simp
theorem EE:(sizeLine:Nat) < 2 ^ 63:=by rw [sizeLine_eq];decide
theorem tru_ok:TruR X (fun x H Q=>∃ k,TruV X.K x H k/\Q k H):=by
 intro pins s σ H x v Q I rx h
 obtain ⟨k,e,q⟩:=h
 have hl:=EE
 have hs:sizeLine=16777216:=sizeLine_eq
 cases x with
 | non =>
  cases rx
  have e':k=false:=e
  subst e'
  exact truthy_none ⟨H,I,q⟩
 | bl b =>
  cases rx
  have e':k=b:=e
  subst e'
  exact wpAny_truthy_bool ⟨H,I,q⟩
 | int i =>
  obtain ⟨t,rfl⟩:=rx
  have e':k=(i != 0):=e
  subst e'
  exact PySem.P.truthy_int ⟨H,I,q⟩
 | str y =>
  obtain ⟨t,rfl⟩:=rx
  obtain ⟨hy,e'⟩:y.length<=sizeLine/\k=((y.length:Int) != 0):=e
  subst e'
  exact PySem.P.truthy_str (by omega) ⟨H,I.tok _,q⟩
 | byt y =>
  obtain ⟨t,rfl⟩:=rx
  obtain ⟨hy,e'⟩:y.size<=sizeLine/\k=((y.size:Int) != 0):=e
  subst e'
  exact PySem.W.truthy_bytes (by omega) ⟨H,I.tok _,q⟩
 | ref p =>
  cases rx
  have e':(∃ xs,SqL X.K H p xs/\k=!xs.isEmpty)∨(∃ xs,SqT X.K H p xs/\k=!xs.isEmpty)∨∃ kvs,H p=some (.dK kvs)/\k=!kvs.isEmpty:=e
  rcases e' with ⟨xs,hx,e'⟩ | ⟨xs,hx,e'⟩ | ⟨kvs,hx,e'⟩
  ·subst e'
   obtain ⟨its,r,pl,hz⟩:=I.list hx
   have hlen:=r.length
   exact wpAny_truthy_list pl.isList (by simp only [List.size_toArray];omega) ⟨H,I.tok _,by rw [Ft r];exact q⟩
  ·subst e'
   obtain ⟨its,r,pl,hz⟩:=I.tuple hx
   have hlen:=r.length
   exact truthy_tuple pl (by simp only [List.size_toArray];omega) ⟨H,I.tok _,by rw [Ft r];exact q⟩
  ·subst e'
   obtain ⟨hz,hS,vs,r,m⟩:kvs.length<=sizeLine/\(p == sysModules)=false/\∃ vs,KV kvs vs/\s.heap.DictOf (AZ X.prog X.w) p vs:=I.hok p _ hx
   have hlen:kvs.length=vs.length:=Paired.length r
   exact wpAny_truthy_dict hS m (by omega) ⟨H,I.tok _,by rw [isEmpty_kv r];exact q⟩
 | _=>exact (show False from e).elim
theorem pt_truth (ha:PE X a ta) (he:∀ whole,isTrue a X.env whole=(do let v <- whole;standAt a.pos;holding [v] (truthy v))) :
  PT X a (fun σ H Q=>ta σ H fun x H'=>∃ k,TruV X.K x H' k/\Q k H'):=by
 intro pins s σ H Q I h
 exact isTrue_plain (thn (ha pins s σ H _ I h) fun v s1 ⟨x,H1,I1,r1,q1⟩=>tru_ok pins s1 σ H1 x v Q I1 r1 q1) (he _)
theorem op_add_str:OpR X (binaryOp .Add) (fun x y H Q=>∃ i j,x=.str i/\y=.str j/\i.length+j.length<=sizeLine/\Q (.str (i++j)) H):=by
 intro pins s σ H x y v u Q I rx ry h
 obtain ⟨i,j,rfl,rfl,hz,q⟩:=h
 obtain ⟨t,rfl⟩:=rx
 obtain ⟨t',rfl⟩:=ry
 exact add_str (fun t' tk=>⟨.str (i++j),H,I.tok _,⟨_,rfl⟩,q⟩) hz
theorem vals1 {x:V} {us:List Value} (r:Vals [x] us):∃ u,us=[u]/\RelV x u:=by
 cases r with
 | cons r1 r2=>cases r2;exact ⟨_,rfl,r1⟩
theorem vals2 {x y:V} {us:List Value} (r:Vals [x,y] us):∃ u w',us=[u,w']/\RelV x u/\RelV y w':=by
 cases r with
 | cons r1 r2 =>
  cases r2 with
  | cons r3 r4=>cases r4;exact ⟨_,_,rfl,r1,r3⟩
theorem call_min2 (hc:X.calm=true):Cs X (.builtin "min") (fun xs H Q=>∃ i j,xs=[.int i,.int j]/\Q (.int (if j < i then j else i)) H):=by
 intro pins s σ H xs us Q I r h
 obtain ⟨i,j,rfl,q⟩:=h
 obtain ⟨u,w',rfl,⟨t,rfl⟩,⟨t',rfl⟩⟩:=vals2 r
 refine min_two_ints (I.ok.hd hc) fun h' tk k=>⟨_,H,I.kept k,?_,q⟩
 by_cases hj:j < i
 ·rw [if_pos hj,if_pos hj];exact ⟨_,rfl⟩
 ·rw [if_neg hj,if_neg hj];exact ⟨_,rfl⟩
end
end L2
namespace L2
open PySem PySem.Spec PyProof.Rows
structure ObjM (h:Heap) (x dx C:Addr) (mA:Str->Option Value):Prop where
 obj:h.get? x=some (PySem.W.instObj C dx)
 ns:h.Ns1 dx mA
 ne:dx≠x
theorem lookIn_ns {h:Heap} {dx:Addr} {mA:Str->Option Value} (n:h.Ns1 dx mA):∃ od,h.get? dx=some od/\∀ name,PySem.W.lookIn name od=some (mA name):=by
 obtain ⟨o,es,ep,ho,hd,hk,_,hm⟩:=n
 refine ⟨o,ho,fun name=>?_⟩
 have e:=hm name
 unfold nsFind findBy at e
 rw [<- Array.find?_toList] at e
 unfold PySem.W.lookIn
 rw [hd]
 dsimp only
 split
 ·rename_i y q
  rw [q] at e
  exact congrArg some e
 ·rename_i q
  rw [q] at e
  have a:es.toList.any (·.refKey)=false:=by
   rw [List.any_eq_false]
   intro y hy
   obtain ⟨z,t,hkey⟩:=hk y (Array.mem_toList_iff.mp hy)
   simp [DictEntry.refKey,hkey]
  have a':¬ es.toList.any (·.refKey)=true:=by rw [a];exact Bool.false_ne_true
  rw [if_neg a']
  exact congrArg some e
theorem ObjM.look {h:Heap} {x dx C:Addr} {mA:Str->Option Value} (I:ObjM h x dx C mA):∃ od,PySem.W.InstAt h x (PySem.W.instObj C dx) C (some od)/\∀ name,PySem.W.lookIn name od=some (mA name) :=
 let ⟨od,ho,hl⟩:=lookIn_ns I.ns
 ⟨od,⟨I.obj,rfl,rfl,ho⟩,hl⟩
section
variable {prog:Program} {w:World} {A:Around} {E:Value->Shared->Prop} {s:Shared} {K:PySem.W.Frag} {x dx C f:Addr} {mA:Str->Option Value} {name:Str} {v:Value}
end
theorem AO.some_of {v:V} {o:Option Value} (r:AO (some v) o):∃ u,o=some u/\RelV v u:=by
 cases o with
 | none=>exact (show False from r).elim
 | some u=>exact ⟨u,rfl,r⟩
section
variable {P:Program} {w:World} {H H':Hp} {h h':Heap} {a C dx:Addr} {fs fs':List (Str×V)}
theorem ins_get (hok:HOk P w H h) (e:H a=some (.ins C dx fs)):∃ mA,ObjM h a dx C mA/\(∀ f,AO (fs.lookup f) (mA f))/\PySem.Within mA (fs.map (·.1))/\fs.length<=1000/\H dx=some (.own a):=by
 obtain ⟨d,z,ne,ob,mA,n,r,q⟩:=(show Bu P w H h a (.ins C dx fs) from hok a _ e)
 exact ⟨mA,⟨ob,n,ne⟩,r,q,z,d⟩
end
structure Cls (K:PySem.W.Frag) (C:Addr):Prop where
 pg:PySem.W.plainGet K C Str.empty=true
 hd:PySem.W.hasDictIn K C=true
 po:PySem.W.plainOver K C=true
 sa:PySem.W.findIn K (.ref C) "__setattr__"=some (some (.builtin "object.__setattr__"))
theorem Cls.get {K:PySem.W.Frag} {C:Addr} (c:Cls K C) (f:Str):PySem.W.plainGet K C f=true:=c.pg
section
variable {X:Cx} {pins:List (Addr×Obj)} {σ:St} {H:Hp} {s:Shared} {a C dx:Addr} {fs:List (Str×V)} {f:Str} {v:V} {A:Around} {E:Value->Shared->Prop}
end
section
variable {X:Cx} {o e value:Expr} {f:Str} {pos pos' tpos:Pos} {ta tv:TE}
end
section
variable {X:Cx} {pins:List (Addr×Obj)} {σ:St} {H:Hp} {s:Shared} {A:Around} {E:Value->Shared->Prop} {Q:Value->Shared->Prop} {c:Value} {b:Bool}
inductive TyOf (K:PySem.W.Frag) (H:Hp):V->Value->Prop where
 | non:TyOf K H .non (.type "NoneType")
 | bl (x:Bool):TyOf K H (.bl x) (.type "bool")
 | int (i:Int):TyOf K H (.int i) (.type "int")
 | str (x:Str):TyOf K H (.str x) (.type "str")
 | flt (x:UInt64):TyOf K H (.flt x) (.type "float")
 | lst {a:Addr} {xs:List V} (e:H a=some (.lst xs)):TyOf K H (.ref a) (.type "list")
 | frz {a:Addr} {o:Obj} {xs:List V} (e:H a=some (.frz o (.lst xs))):TyOf K H (.ref a) (.type "list")
 | tup {a:Addr} {xs:List V} (e:H a=some (.tup xs)):TyOf K H (.ref a) (.type "tuple")
 | dK {a:Addr} {kvs:List (Key×V)} (e:H a=some (.dK kvs)):TyOf K H (.ref a) (.type "dict")
 | dT {a:Addr} {kvs:List (List Key×V)} (e:H a=some (.dT kvs)):TyOf K H (.ref a) (.type "dict")
 | ins {a C dx:Addr} {fs:List (Str×V)} (e:H a=some (.ins C dx fs)) (cl:Cls K C) (ha:PySem.W.findIn K (.ref C) "__class__"=some (some (.builtin "object.__class__")))
   (hn:PySem.W.specialIn K (.builtin "object.__class__") "__get__"=some (some (.builtin "getset_descriptor.__get__"))) (htk:PySem.W.takesIn K (.builtin "object.__class__")=some true)
   (hm:PySem.W.mroIn K C (.type "object")=some true):TyOf K H (.ref a) (.ref C)
theorem isinst_ok {x:V} {u t:Value} (I:Inv X pins σ H s) (rx:RelV x u) (ty:TyOf X.K H x t) (e:PySem.W.kitOne X.K t c=some b) (h:∀ tk,Q (.bool b) { s with toks:=tk }) :
  wpAny (model X.prog X.w) A (call (.builtin "isinstance") [u,c]) Q E s:=by
 cases ty with
 | non=>cases (show u=Value.none from rx);exact PySem.W.kia_one PySem.W.kitx_none I.kIn True.intro e (fun z=>nomatch z) h
 | bl y=>cases (show u=Value.bool y from rx);exact PySem.W.kia_one PySem.W.kitx_bool I.kIn True.intro e (fun z=>nomatch z) h
 | int i=>obtain ⟨t,q⟩:=(show ∃ t,u=Value.int i t from rx);cases q;exact PySem.W.kia_one PySem.W.kitx_int I.kIn True.intro e (fun z=>nomatch z) h
 | str y=>obtain ⟨t,q⟩:=(show ∃ t,u=Value.str y t from rx);cases q;exact PySem.W.kia_one PySem.W.kitx_str I.kIn True.intro e (fun z=>nomatch z) h
 | flt y=>obtain ⟨t,q⟩:=(show ∃ t,u=Value.float y t from rx);cases q;exact PySem.W.kia_one PySem.W.kitx_float I.kIn True.intro e (fun z=>nomatch z) h
 | @lst a xs ea =>
  cases (show u=Value.ref a from rx)
  obtain ⟨_,_,n,_,h1⟩:=(show Bu X.prog X.w H s.heap a (.lst xs) from I.hok a _ ea)
  exact PySem.W.kia_one PySem.W.kitx_list I.kIn ⟨_,h1,rfl⟩ e (fun z=>nomatch z) h
 | @frz a ob xs ea =>
  cases (show u=Value.ref a from rx)
  obtain ⟨_,_,_,n,_,h1⟩:=(show Bu X.prog X.w H s.heap a (.frz ob (.lst xs)) from I.hok a _ ea)
  exact PySem.W.kia_one PySem.W.kitx_list I.kIn ⟨_,h1,rfl⟩ e (fun z=>nomatch z) h
 | @tup a xs ea =>
  cases (show u=Value.ref a from rx)
  obtain ⟨_,_,_,p⟩:=(show Bu X.prog X.w H s.heap a (.tup xs) from I.hok a _ ea)
  obtain ⟨o,h1,h2,_⟩:=p
  exact PySem.W.kia_one PySem.W.kitx_tuple I.kIn ⟨o,h1,h2⟩ e (fun z=>nomatch z) h
 | @dK a kvs ea =>
  cases (show u=Value.ref a from rx)
  obtain ⟨_,_,vs,_,p⟩:=(show Bu X.prog X.w H s.heap a (.dK kvs) from I.hok a _ ea)
  obtain ⟨o,es,ep,h1,h2,_⟩:=p
  exact PySem.W.kia_one PySem.W.kitx_dict I.kIn ⟨o,h1,h2.1⟩ e (fun z=>nomatch z) h
 | @dT a kvs ea =>
  cases (show u=Value.ref a from rx)
  obtain ⟨_,_,xs,_,o,es,ep,h1,h2,_⟩:=(show Bu X.prog X.w H s.heap a (.dT kvs) from I.hok a _ ea)
  exact PySem.W.kia_one PySem.W.kitx_dict I.kIn ⟨o,h1,h2.1⟩ e (fun z=>nomatch z) h
 | @ins a C dx fs ea cl ha hn htk hm =>
  cases (show u=Value.ref a from rx)
  obtain ⟨mA,O,_⟩:=ins_get I.hok ea
  obtain ⟨od,J,_⟩:=O.look
  exact PySem.W.kia_one (PySem.W.kitx_own (cl.get _) cl.hd ha hn htk hm) I.kIn J e (fun z=>nomatch z) h
end
end L2
namespace L2
open PySem PySem.Spec PyProof.Rows
structure E8 (k:Nat) (A:Around):Prop where
 hd:A.handled=none
 dp:A.depth+3 * k+5 < recursionLimit
 un:A.units+16 * k+200 < cLine
theorem E8.mono {j k:Nat} {A:Around} (r:E8 k A) (h:j<=k):E8 j A:=⟨r.hd,by have:=r.dp;omega,by have:=r.un;omega⟩
theorem E8.deeper {k:Nat} {A:Around} (r:E8 (k+1) A) (env:Env):E8 k (A.deeper env) :=
 ⟨r.hd,by have:=r.dp;show A.depth+1+3 * k+5 < _;omega,by have:=r.un;show A.units+3+16 * k+200 < _;omega⟩
theorem E8.depth {k:Nat} {A:Around} (r:E8 k A):A.depth < recursionLimit:=by have:=r.dp;omega
theorem E8.units {k:Nat} {A:Around} (r:E8 k A):A.units+64 < cLine:=by have:=r.un;omega
def tNil:TA:=fun _ H Q=>Q [] H
def tCons (ta:TE) (tr:TA):TA:=fun σ H Q=>ta σ H fun x H1=>tr σ H1 fun xs H2=>Q (x :: xs) H2
section
variable {X:Cx} {e:Expr} {es:List Expr} {te:TE} {t:TA} {pos:Pos}
theorem pa_nil:PA X [] tNil:=fun _ _ _ _ H Q I h=>Calls.spliced_nil ⟨[],H,I,.nil,h⟩
theorem DG (ha:PE X e te) (hr:PA X es t) (hs:starEach (e :: es) X.env=(false,eval e X.env) :: starEach es X.env:=by rfl):PA X (e :: es) (tCons te t):=by
 intro pos pins s σ H Q I h
 rw [hs]
 show wpAny _ _ (spliced ((false,eval e X.env) :: backTo pos (starEach es X.env))) _ _ s
 refine Calls.spliced_cons (thn (ha pins s σ H _ I h) fun u s1 ⟨x,H1,I1,r1,q1⟩=>?_)
 exact thn (hr pos pins s1 σ H1 _ I1 q1) fun us s2 ⟨xs,H2,I2,r2,q2⟩=>⟨x :: xs,H2,I2,.cons r1 r2,q2⟩
def tTup (t:TA):TE:=fun σ H Q=>t σ H fun xs H1=>xs.length<=sizeLine/\∀ p,H1 p=none->Q (.ref p) (upd H1 p (.tup xs))
def tLst (t:TA):TE:=fun σ H Q=>t σ H fun xs H1=>xs.length<=sizeLine/\∀ p,H1 p=none->Q (.ref p) (upd H1 p (.lst xs))
theorem pe_tup {x1} (h:PA X es t):PE X (.Tuple es x1 pos) (tTup t):=by
 intro pins s σ H Q I hq
 refine wpAny_Tuple_spliced (thn (h pos pins s σ H _ I hq) fun us s1 ⟨xs,H1,I1,r,z,q⟩=>⟨by rw [<- r.length];exact z,?_⟩)
 have hf:H1 s1.heap.objs.size=none:=I1.hok.fresh (Nat.le_refl _)
 refine ⟨.ref s1.heap.objs.size,upd H1 s1.heap.objs.size (.tup xs),I1.laid (t':=s1.toks) (fun b u e=>Heap.get?_push_of_some _ e) (Nat.le_refl _) ?_,rfl,q _ hf⟩
 exact ⟨z,us,r,⟨_,Heap.get?_push_size _ rfl,rfl,_,rfl⟩⟩
theorem pe_lst (h:PA X es t):PE X (.List es pos) (tLst t):=by
 intro pins s σ H Q I hq
 refine wpAny_List_spliced (thn (h pos pins s σ H _ I hq) fun us s1 ⟨xs,H1,I1,r,z,q⟩=>⟨by rw [<- r.length];exact z,?_⟩)
 have hf:H1 s1.heap.objs.size=none:=I1.hok.fresh (Nat.le_refl _)
 refine ⟨.ref s1.heap.objs.size,upd H1 s1.heap.objs.size (.lst xs),I1.laid (t':=s1.toks) (fun b u e=>Heap.get?_push_of_some _ e) (Nat.le_refl _) ?_,rfl,q _ hf⟩
 exact ⟨z,us,0,r,Heap.get?_push_size _ rfl⟩
end
abbrev Sp:=List V->Hp->VK->XK->Prop
abbrev CXT:=List Env->Hp->Shared->XK->Value->Shared->Prop
structure Env0 (P:Program) (w:World) (K:PySem.W.Frag) (mg:Str->Option Value) (base:Heap) (A:Around) (outer:List Env) (s:Shared) (H:Hp):Prop where
 frames:A.frames=some outer
 mod:Mod K mg base
 bs:∀ b o,base.get? b=some o->s.heap.get? b=some o/\H b=none
 bsz:base.objs.size<=s.heap.objs.size
 funs:s.heap.FunFrames base outer
 frf:∀ b∈frs outer,H b=none
 hok:HOk P w H s.heap
 bare:AllBare s.gens
def CE (outer:List Env) (P:Program) (w:World) (H:Hp) (s:Shared) (Q:VK) (u:Value) (s':Shared):Prop :=
 ∃ v H',s'.os=s.os/\AllBare s'.gens/\Un (frs outer) [] H H' s.heap s'.heap/\HOk P w H' s'.heap/\RelV v u/\Q v H'
def CR (CX:CXT) (outer:List Env) (P:Program) (w:World) (H:Hp) (s:Shared) (Q:VK) (E:XK) (r:Result) (s':Shared):Prop :=
 match r with
 | .ok (.ret u)=>CE outer P w H s Q u s'
 | .ok _=>False
 | .error e=>CX outer H s E e s'
structure Dh (P:Program) (w:World) (K:PySem.W.Frag) (mg:Str->Option Value) (base:Heap) (CX:CXT) (k:Nat) (f:Addr) (fd:FuncData) (ps:List Str) (sp:Sp):Prop where
 len:∀ vs H Q E,sp vs H Q E->vs.length=ps.length
 run:∀ (A:Around) (outer:List Env) (s:Shared) (H:Hp) (args:Args) (us:List Value) (vs:List V) (Q:VK) (E:XK),E8 k A->Env0 P w K mg base A outer s H->BindsTo s fd args (ps.zip us)->Vals vs us->sp vs H Q E ->
  codeAny (model P w) A (.call (.ref f) args) (CR CX outer P w H s Q E) s
theorem Dh.imp {P:Program} {w:World} {K:PySem.W.Frag} {mg:Str->Option Value} {base:Heap} {CX:CXT} {k:Nat} {f:Addr} {fd:FuncData} {ps:List Str} {sp sp':Sp} (F:Dh P w K mg base CX k f fd ps sp)
  (h:∀ vs H Q E,sp' vs H Q E->sp vs H Q E):Dh P w K mg base CX k f fd ps sp' :=
 ⟨fun vs H Q E q=>F.len vs H Q E (h _ _ _ _ q),fun A outer s H args us vs Q E hr he hb hv hs=>F.run A outer s H args us vs Q E hr he hb hv (h _ _ _ _ hs)⟩
section
variable {X:Cx} {pins:List (Addr×Obj)} {σ:St} {H:Hp} {s s':Shared}
theorem Inv.env0 (I:Inv X pins σ H s):Env0 X.prog X.w X.K X.mg X.base X.A X.stack s H :=
 ⟨I.ok.frames,I.ok.mod,I.bs,Nat.le_trans I.ok.bsz I.sz,I.stack,I.stkFree,I.hok,I.bare⟩
theorem Inv.after {Q:VK} {u:Value} (I:Inv X pins σ H s) (h:CE X.stack X.prog X.w H s Q u s'):EP X pins σ Q u s':=by
 obtain ⟨v,H',os,bare,un,hok,r,q⟩:=h
 obtain ⟨hh,g,d,t,os'⟩:=s'
 obtain rfl:os'=s.os:=os
 exact ⟨v,H',I.call (h':=hh) (g':=g) (d':=d) (t':=t) (ch:=[]) un hok bare (fun b z=>absurd z (by simp)),r,q⟩
end
def tCall (sp:Sp) (dvs:List V) (E:XK) (t:TA):TE:=fun σ H Q=>t σ H fun vs H1=>sp (vs++dvs) H1 Q E
def Binds (K:PySem.W.Frag) (fd:FuncData) (ps:List Str) (ds:List Value):Prop :=
 ∀ (s:Shared) (us:List Value),K.In s.heap->(us++ds).length=ps.length->BindsTo s fd ⟨us,[]⟩ (ps.zip (us++ds))
theorem Binds.all {K:PySem.W.Frag} {fd:FuncData} {ps:List Str} (h:∀ us:List Value,us.length=ps.length->bindArgs fd ⟨us,[]⟩=pure (ps.zip us)):Binds K fd ps []:=fun s us _ hl=>by
 rw [List.append_nil] at hl ⊢
 exact .of_eq (h us hl)
def Passes (CX:CXT) (X:Cx) (E:XK):Prop:=∀ (pins:List (Addr×Obj)) (σ:St) (H:Hp) (s:Shared) (e:Value) (s':Shared),Inv X pins σ H s->CX X.stack H s E e s'->X.xe e s'
section
variable {X:Cx} {CX:CXT} {k:Nat} {f C:Addr} {fd:FuncData} {ps:List Str} {sp:Sp} {dvs:List V} {ds:List Value} {E:XK} {x m:Str} {p pos apos:Pos} {e o:Expr} {es:List Expr} {ta:TE} {t:TA}
theorem run_fn {pins:List (Addr×Obj)} {σ:St} {H:Hp} {s:Shared} {Q:VK} {us:List Value} {vs:List V} (F:Dh X.prog X.w X.K X.mg X.base CX k f fd ps sp) (hr:E8 k X.A) (hb:Binds X.K fd ps ds) (hd:Vals dvs ds) (hx:Passes CX X E)
  (I:Inv X pins σ H s) (r:Vals vs us) (h:sp (vs++dvs) H Q E):wpAny (model X.prog X.w) X.A (call (.ref f) us) (EP X pins σ Q) X.xe s:=by
 have r2:Vals (vs++dvs) (us++ds):=r.append hd
 have hl:(us++ds).length=ps.length:=by rw [<- r2.length];exact F.len _ _ _ _ h
 refine wpAny_call (codeAny_mono (F.run X.A X.stack s H ⟨us,[]⟩ (us++ds) (vs++dvs) Q E hr I.env0 (hb s us I.kIn hl) r2 h) fun r s' hq=>?_)
 cases r with
 | error e=>exact hx pins σ H s e s' I hq
 | ok fl =>
  cases fl with
  | ret u=>exact I.after hq
  | next=>exact False.elim hq
  | brk=>exact False.elim hq
  | cont=>exact False.elim hq
theorem pe_call (F:Dh X.prog X.w X.K X.mg X.base CX k f fd ps sp) (hr:E8 k X.A) (hg:Gl X x) (hm:X.mg x=some (.ref f)) (hk:PySem.W.keepIn X.K (.ref f)=true) (hb:Binds X.K fd ps ds) (hd:Vals dvs ds) (hx:Passes CX X E)
  (ha:PA X (e :: es) t) (hdb:(x == ("__debug__":Str))=false:=by decide) (he:starEach (e :: es) X.env=(false,eval e X.env) :: starEach es X.env:=by rfl) (hpl:(backTo pos (starEach es X.env)).any (·.1)=false:=by rfl) :
  PE X (.Call (.Name x p) (e :: es) [] pos) (tCall sp dvs E t):=by
 intro pins s σ H Q I h
 refine wpAny_Call_Name_kw (ld_glob I hg hm ?_ hdb)
 refine PySem.W.callWith_K (h₀:=X.base) I.ok.mod.kin hk (thn (ha pos pins s σ H _ I h) fun us s1 ⟨vs,H1,I1,r,q⟩=>⟨I1.kIn,?_⟩) he hpl
 exact run_fn F hr hb hd hx I1 r q
end
section
variable {X:Cx} {CX:CXT} {k:Nat} {f C:Addr} {fd:FuncData} {ps ks:List Str} {sp:Sp} {E:XK} {x m:Str} {p pos apos kpos:Pos} {e o:Expr} {es:List Expr} {kws:List Keyword} {te ta:TE} {t tk:TA} {nm:Option Str}
variable {g:List Value->List Value->List Value} {gV:List V->List V->List V}
end
structure Bh (N P:List Str) (sc:Scope):Prop where
 kind:sc.kind=.function
 co:sc.isCoroutine=false
 gen:sc.isGenerator=false
 nd:N.Nodup
 pre:N.take P.length=P
 par:∀ x∈P,sc.names.lookup x=some .local∨sc.names.lookup x=some .cell
 nofree:∀ y∈sc.names,y.2≠.free
theorem Hw {kindOf:Str->Option NameKind} {x:Str}:∀ {binds:List (Str×Value)} {m:Str->Option Value},(∀ v,(x,v)∉binds)->bindL kindOf binds m x=m x
 | [],_,_=>rfl
 | (n,v) :: r,m,h=>by
  unfold bindL
  rw [Hw fun w hw=>h w (List.mem_cons_of_mem _ hw)]
  split
  ·have:x≠n:=by rintro rfl;exact h v List.mem_cons_self
   simp [this]
  ·rfl
theorem Hy {kindOf:Str->Option NameKind} {x:Str}:∀ {binds:List (Str×Value)} {m:Str->Option Value},(∀ v,(x,v)∉binds)->bindC kindOf binds m x=m x
 | [],_,_=>rfl
 | (n,v) :: r,m,h=>by
  unfold bindC
  rw [Hy fun w hw=>h w (List.mem_cons_of_mem _ hw)]
  split
  ·rfl
  ·have:x≠n:=by rintro rfl;exact h v List.mem_cons_self
   simp [this]
theorem Hx {kindOf:Str->Option NameKind} {x:Str} {v:Value}:∀ {P:List Str} {vs:List Value} {i:Nat} {m:Str->Option Value},P.Nodup->P[i]?=some x->vs[i]?=some v->kindOf x=some .local ->
  bindL kindOf (P.zip vs) m x=some v
 | [],_,_,_,_,h,_,_=>by simp at h
 | _ :: _,[],_,_,_,_,h,_=>by simp at h
 | p :: P,w :: vs,0,m,nd,h1,h2,hk=>by
  simp at h1 h2;subst h1;subst h2
  show bindL kindOf ((p,w) :: P.zip vs) m p=_
  unfold bindL
  rw [Hw fun v hv=>(List.nodup_cons.mp nd).1 (List.of_mem_zip hv).1,if_pos hk]
  simp
 | p :: P,w :: vs,i+1,m,nd,h1,h2,hk=>by
  show bindL kindOf ((p,w) :: P.zip vs) m x=_
  unfold bindL
  exact Hx (i:=i) (List.nodup_cons.mp nd).2 (by simpa using h1) (by simpa using h2) hk
theorem Hz {kindOf:Str->Option NameKind} {x:Str} {v:Value}:∀ {P:List Str} {vs:List Value} {i:Nat} {m:Str->Option Value},P.Nodup->P[i]?=some x->vs[i]?=some v->kindOf x≠some .local ->
  bindC kindOf (P.zip vs) m x=some v
 | [],_,_,_,_,h,_,_=>by simp at h
 | _ :: _,[],_,_,_,_,h,_=>by simp at h
 | p :: P,w :: vs,0,m,nd,h1,h2,hk=>by
  simp at h1 h2;subst h1;subst h2
  show bindC kindOf ((p,w) :: P.zip vs) m p=_
  unfold bindC
  rw [Hy fun v hv=>(List.nodup_cons.mp nd).1 (List.of_mem_zip hv).1,if_neg hk]
  simp
 | p :: P,w :: vs,i+1,m,nd,h1,h2,hk=>by
  show bindC kindOf ((p,w) :: P.zip vs) m x=_
  unfold bindC
  exact Hz (i:=i) (List.nodup_cons.mp nd).2 (by simpa using h1) (by simpa using h2) hk
def start (N:List Str) (vs:List V):St:=vs.map some++List.replicate (N.length - vs.length) none
def cxOf (CX:CXT) (P:Program) (w:World) (K:PySem.W.Frag) (mg:Str->Option Value) (base:Heap) (N:List Str) (qual:Str) (scope:Scope) (f:Addr) (cd:Value) (A:Around) (outer:List Env) (s:Shared) (H:Hp) (E:XK):Cx where
 prog:=P
 w:=w
 K:=K
 mg:=mg
 base:=base
 A:=A.deeper (envOfC qual scope s.heap.objs.size f cd)
 N:=N
 s₀:=s
 H₀:=H
 env:=envOfC qual scope s.heap.objs.size f cd
 outer:=outer
 stack:=envOfC qual scope s.heap.objs.size f cd :: outer
 ex:=[]
 calm:=true
 fn:=fun _=>true
 pn:=[]
 xe:=fun e s'=>wpAny (model P w) (A.deeper (envOfC qual scope s.heap.objs.size f cd)) (leaving (envOfC qual scope s.heap.objs.size f cd) e) (fun _ s''=>CX outer H s E e s'') (fun e' s''=>CX outer H s E e' s'') s'
theorem cell_has {sc:Scope} {n:Nat} {x:Str} (h:sc.names.lookup x=some .cell):∃ c,(cellsFrom n sc.names []).lookup x=some c:=by
 have q:=PySem.W.cellsFrom_some sc.names n [] (.inl h)
 exact Option.isSome_iff_exists.mp q
theorem inv_start {CX:CXT} {P:Program} {w:World} {K:PySem.W.Frag} {mg:Str->Option Value} {base:Heap} {N ps:List Str} {qual:Str} {scope:Scope} {f:Addr} {cd:Value} {A:Around} {outer:List Env} {s s1:Shared} {H:Hp} {E:XK} {us:List Value} {vs:List V}
  (S:Bh N ps scope) (hd:A.handled=none) (e0:Env0 P w K mg base A outer s H) (hl:vs.length=ps.length) (r:Vals vs us)
  (x:InCallC s s.heap.objs.size (bindL (envOfC qual scope s.heap.objs.size f cd).kindOf (ps.zip us) fun _=>none) (cellsFrom (s.heap.objs.size+1) scope.names []) (bindC (envOfC qual scope s.heap.objs.size f cd).kindOf (ps.zip us) fun _=>none) s1) :
  Inv (cxOf CX P w K mg base N qual scope f cd A outer s H E) [] (start N vs) H s1:=by
 have hpl:ps.length<=N.length:=by have:=congrArg List.length S.pre;rw [List.length_take] at this;omega
 obtain ⟨h1,tk,rfl,hk⟩:=x.done
 have noA:∀ b:Addr,b∉(cxOf CX P w K mg base N qual scope f cd A outer s H E).ex:=fun b z=>absurd (show b∈([]:List Addr) from z) (by simp)
 refine ⟨⟨e0.mod,S.kind,rfl,rfl,Nat.le_refl _,fun y z c h1 h2=>?_,fun y hy=>?_,fun y c _ h=>?_,fun _=>hd,Around.frames_deeper e0.frames,.inr ⟨rfl,rfl⟩,fun b z=>absurd z (noA b),e0.bs,e0.bsz,fun b _ _=>noA b,fun b z=>absurd z (noA b),e0.funs,e0.frf⟩,
  rfl,e0.bare,Un.kept hk,⟨_,x.toInCall.ns,fun i y v h1 h2 h3=>?_⟩,fun y c h=>⟨_,x.cell y c h⟩,e0.hok.fresh (Nat.le_refl _),fun y c h=>?_,fun p hp=>absurd (show p∈([]:List (Addr×Obj)) from hp) (by simp),e0.hok.kept hk,?_⟩
 ·exact name_of_addr x.apart (PySem.mem_of_lookup h1) (PySem.mem_of_lookup h2)
 ·have hy:scope.names.lookup y=some .cell∨scope.names.lookup y=some .free:=hy
  rcases hy with hy | hy
  ·exact cell_has hy
  ·exact absurd rfl (S.nofree _ (PySem.mem_of_lookup hy))
 ·exact Nat.le_of_lt (x.above y c (PySem.mem_of_lookup h))
 ·have hi:i < vs.length:=by
   unfold start at h2
   by_cases hi:i < vs.length
   ·exact hi
   ·rw [List.getElem?_append_right (by simpa using hi)] at h2
    rw [List.getElem?_replicate] at h2
    split at h2 <;> cases h2
  have ha:vs[i]?=some v:=by
   unfold start at h2
   rw [List.getElem?_append_left (by simpa using hi),List.getElem?_map] at h2
   cases e:vs[i]? with
   | none=>rw [e] at h2;cases h2
   | some a=>rw [e] at h2;cases h2;rfl
  obtain ⟨u,hu,rv⟩:=r.get ha
  have hp:ps[i]?=some y:=by
   rw [<- S.pre,List.getElem?_take_of_lt (by omega)];exact h1
  have ndP:ps.Nodup:=by rw [<- S.pre];exact S.nd.sublist (List.take_sublist _ _)
  refine ⟨u,rv,?_⟩
  rcases S.par y (List.mem_of_getElem? hp) with k | k
  ·exact .inl ⟨k,Hx ndP hp hu k⟩
  ·obtain ⟨c,e⟩:=cell_has (n:=s.heap.objs.size+1) k
   refine .inr ⟨.inl k,c,e,?_⟩
   have q:=x.cell y c e
   rw [Hz ndP hp hu (by show scope.names.lookup y≠_;rw [k];decide)] at q
   exact q
 ·exact e0.hok.fresh (Nat.le_of_lt (x.above y c (PySem.mem_of_lookup h)))
 ·unfold start
  show _=N.length
  rw [List.length_append,List.length_map,List.length_replicate]
  omega
theorem fn_of {CX:CXT} {P:Program} {w:World} {K:PySem.W.Frag} {mg:Str->Option Value} {base:Heap} {k:Nat} {f:Addr} {name qual:Str} {params:Arguments} {body:List Stmt} {scope:Scope} {dV kV doc pm cdv ct oc:Value} {an od:Option Addr}
  {osl:Array (Option Value)} {N ps:List Str} {sp:Sp} (lk:K.lookup f=some ⟨oc,od,.func (PySem.W.fnOf name qual params body scope dV kV doc pm an cdv ct),osl⟩) (hcd:PySem.W.codeIn K cdv qual=true) (S:Bh N ps scope)
  (len:∀ vs H Q E,sp vs H Q E->vs.length=ps.length)
  (hbody:∀ (A:Around) (outer:List Env) (s:Shared) (H:Hp) (vs:List V) (Q:VK) (E:XK),E8 k (A.deeper (envOfC qual scope s.heap.objs.size f cdv))->sp vs H Q E ->
   ∃ t,PSs (cxOf CX P w K mg base N qual scope f cdv A outer s H E) body t/\t { nx:=fun _ H'=>Q .non H',rt:=Q } (start N vs) H) :
  Dh P w K mg base CX (k+1) f (PySem.W.fnOf name qual params body scope dV kV doc pm an cdv ct) ps sp:=by
 refine ⟨len,fun A outer s H args us vs Q E hr e0 hb r hsp=>?_⟩
 have hl:=len _ _ _ _ hsp
 have KX:K.In s.heap:=e0.mod.kin.keeps fun b o e=>(e0.bs b o e).1
 have lim:s.heap.NoLimit:=e0.mod.nolimit.keeps fun b o e=>(e0.bs b o e).1
 have hkind:∀ y∈ps.zip us,scope.names.lookup y.1=some .local∨(scope.names.lookup y.1=some .cell/\((cellsFrom (s.heap.objs.size+1) scope.names []).lookup y.1).isSome=true):=fun ⟨n,v⟩ hy=>by
  rcases S.par n (List.of_mem_zip hy).1 with q | q
  ·exact .inl q
  ·exact .inr ⟨q,PySem.W.cellsFrom_some _ _ _ (.inl q)⟩
 refine codeAny_call_function hr.depth (KX _ _ lk) rfl S.co S.gen rfl (PySem.W.codeRec_of KX hcd) (hb _ _ _ _ ?_)
 refine wpAny_newFunctionEnv_cells S.kind hkind fun env he s1 x=>?_
 subst he
 refine ⟨lim.keeps x.toInCall.keep,codeAny_func ?_⟩
 obtain ⟨t,ht,hq⟩:=hbody A outer s H vs Q E (hr.deeper _) hsp
 have I:Inv (cxOf CX P w K mg base N qual scope f cdv A outer s H E) [] (start N vs) H s1:=inv_start S hr.hd e0 hl r x
 refine wpAny_mono (ht [] s1 (start N vs) H _ I hq) (fun fl s' hs=>?_) fun e s' hs=>hs
 have fin:∀ {σ':St} {H':Hp} {v:V} {u:Value},Inv (cxOf CX P w K mg base N qual scope f cdv A outer s H E) [] σ' H' s'->RelV v u->Q v H'->CE outer P w H s Q u s' :=
  fun {σ' H' v u} J rv q=>⟨v,H',J.os,J.bare,J.base,J.hok,rv,q⟩
 cases fl with
 | ret u =>
  obtain ⟨v,σ',H',J,rv,q⟩:=hs
  exact fin J rv q
 | next =>
  obtain ⟨σ',H',J,q⟩:=hs
  exact fin (v:=V.non) (u:=Value.none) J rfl q
 | brk =>
  obtain ⟨_,_,_,q⟩:=hs
  exact False.elim q
 | cont =>
  obtain ⟨_,_,_,q⟩:=hs
  exact False.elim q
end L2
namespace L2
open PySem PySem.Spec PyProof.Rows
section
variable {X:Cx} {x:Str} {p pos:Pos} {e:Expr} {es:List Expr} {t:TA} {id T:String} {r:List V->Hp->VK->Prop}
def tCB (r:List V->Hp->VK->Prop) (t:TA):TE:=fun σ H Q=>t σ H fun vs H1=>r vs H1 Q
theorem FY (hc:Cs X (.builtin id) r) (hg:Gl X x) (hm:X.mg x=none) (hv:bootBuiltins x=some (.builtin id)) (ha:PA X (e :: es) t) (hn:x≠"__name__":=by decide) (hdb:(x == ("__debug__":Str))=false:=by decide)
  (he:starEach (e :: es) X.env=(false,eval e X.env) :: starEach es X.env:=by rfl) (hpl:(backTo pos (starEach es X.env)).any (·.1)=false:=by rfl):PE X (.Call (.Name x p) (e :: es) [] pos) (tCB r t):=by
 intro pins s σ H Q I h
 refine wpAny_Call_Name_kw (Dl I hg hm hv ?_ hn hdb)
 exact PyProof.Rows.callWith_builtin1 (thn (ha pos pins s σ H _ I h) fun us s1 ⟨vs,H1,I1,r1,q1⟩=>hc pins s1 σ H1 vs us Q I1 r1 q1) he hpl
theorem pe_callTy (hc:Cs X (.type T) r) (hg:Gl X x) (hm:X.mg x=none) (hv:bootBuiltins x=some (.type T)) (ha:PA X (e :: es) t) (hn:x≠"__name__":=by decide) (hdb:(x == ("__debug__":Str))=false:=by decide)
  (he:starEach (e :: es) X.env=(false,eval e X.env) :: starEach es X.env:=by rfl) (hpl:(backTo pos (starEach es X.env)).any (·.1)=false:=by rfl):PE X (.Call (.Name x p) (e :: es) [] pos) (tCB r t):=by
 intro pins s σ H Q I h
 refine wpAny_Call_Name_kw (Dl I hg hm hv ?_ hn hdb)
 exact PyProof.Rows.callWith_type1 (thn (ha pos pins s σ H _ I h) fun us s1 ⟨vs,H1,I1,r1,q1⟩=>hc pins s1 σ H1 vs us Q I1 r1 q1) he hpl
end
end L2
namespace HT
open PySem PyProof.Rows
def lexLt:List Int->List Int->Bool
 | [],[]=>false
 | [],_ :: _=>true
 | _ :: _,[]=>false
 | x :: xs,y :: ys=>if x=y then lexLt xs ys else decide (x < y)
theorem DI (x y:Int) (xs ys:List Int):lexLt (x :: xs) (y :: ys)=if x=y then lexLt xs ys else decide (x < y):=rfl
theorem Gd:lexLt [] []=false:=rfl
theorem Fb (y:Int) (ys:List Int):lexLt [] (y :: ys)=true:=rfl
theorem Fc (x:Int) (xs:List Int):lexLt (x :: xs) []=false:=rfl
theorem eqAt_int (A:Around) (s:Shared) (a:Int) (t:Tok) (c:Int) (u:Tok):∃ e,SeqAt.EqAt A s (.int a t) (.int c u) e/\(e=true↔a=c) :=
 ⟨(a == c),SeqAt.EqAt.int_int a t c u,by simp⟩
theorem rcLt_int (A:Around) (s:Shared) (a:Int) (t:Tok) (c:Int) (u:Tok) (prog:Program) (w:World) (E:Value->Shared->Prop) (Q:Value->Shared->Prop) (h:Q (.bool (decide (a < c))) s) :
  wpAny (model prog w) A (richCompare .Lt (.int a t) (.int c u)) Q E s :=
 (PyProof.Rows.lt_int h:wpAny (model prog w) A (compareOp .Lt (.int a t) (.int c u)) Q E s)
section
open PySem.SeqAt
open PySem.AutoSeq1 (wpAny_loadPart')
open PySem.MeetsSeq PySem.MeetsSeq2 PySem.MeetsSeq3
theorem FF (l b:Addr) (items items2:Array Value) (n n2:Nat) (dd dd2:Option Addr) (sl sl2:Array (Option Value)) (ns ms:List Int) (hi:IntsAre items.toList ns) (hj:IntsAre items2.toList ms) :
  Meets (Builtin.«tuple.__lt__» ⟨[.ref l,.ref b],[]⟩)
   (fun _ R s=>s.heap.get? l=some { cls:=.type "tuple",dict:=dd,data:=.seq items n,slots:=sl }/\s.heap.get? b=some { cls:=.type "tuple",dict:=dd2,data:=.seq items2 n2,slots:=sl2 } /\
    R (.ok (.ret (.bool (lexLt ns ms)))) s) :=
 .of_wp fun prog w A R s h=>by
  obtain ⟨hp,g,d,tk,os⟩:=s;obtain ⟨hl,hb,h⟩:=h
  have f2:=AutoSeq1.sub_tuple_tuple
  have z1:items.size=ns.length:=by rw [<- hi.length];simp
  have z2:items2.size=ms.length:=by rw [<- hj.length];simp
  wp_walk using wpAny_loadPart' hl,wpAny_loadPart' hb,wpAny_forIn_list _ (fun rest b s'=>b.1=none/\s'=⟨hp,g,d,tk,os⟩/\∃ (vs ws:List Value) (ns' ms':List Int),rest=vs.zip ws /\
   IntsAre vs ns'/\IntsAre ws ms'/\ns'.length+items2.size=ms'.length+items.size/\R (.ok (.ret (.bool (lexLt ns' ms')))) ⟨hp,g,d,tk,os⟩) _
  case turn =>
   rintro ⟨y,x⟩ rest b s' ⟨hb',rfl,vs,ws,ns',ms',hz,hvi,hwi,hlen,hR⟩
   cases hvi with
   | nil=>rw [List.zip_nil_left] at hz;cases hz
   | cons a t hvi' =>
    cases hwi with
    | nil=>rw [List.zip_nil_right] at hz;cases hz
    | cons c u hwi' =>
     rw [List.zip_cons_cons] at hz
     injection hz with hyx hrest
     injection hyx with hy hx
     subst hy hx
     rw [DI] at hR
     simp only [List.length_cons] at hlen
     obtain ⟨e,he,hiff⟩:=eqAt_int A.in1 ⟨hp,g,d,tk,os⟩ a t c u
     refine wpAny_bind (he prog w _ _ ?_)
     cases e with
     | true =>
      rw [if_pos (hiff.mp rfl)] at hR
      wp_walk
      exact ⟨rfl,rfl,_,_,_,_,hrest,hvi',hwi',by omega,hR⟩
     | false =>
      rw [if_neg (fun q=>absurd (hiff.mpr q) Bool.false_ne_true)] at hR
      have hri:=rcLt_int A.in1 ⟨hp,g,d,tk,os⟩ a t c u prog w
      wp_walk using hri
      exact ⟨_,rfl,by simpa using hR⟩
  case fin =>
   rintro ⟨b1,b2⟩ s' ⟨hb',rfl,vs,ws,ns',ms',hz,hvi,hwi,hlen,hR⟩
   simp only at hb'
   subst hb'
   have hv:lexLt ns' ms'=decide (items.size < items2.size):=by
    cases hvi with
    | nil =>
     cases hwi with
     | nil =>
      simp only [List.length_nil] at hlen
      rw [Gd]
      exact (decide_eq_false (by omega)).symm
     | cons c u hw =>
      simp only [List.length_nil,List.length_cons] at hlen
      rw [Fb]
      exact (decide_eq_true (by omega)).symm
    | cons a t hv =>
     cases hwi with
     | nil =>
      simp only [List.length_nil,List.length_cons] at hlen
      rw [Fc]
      exact (decide_eq_false (by omega)).symm
     | cons c u hw =>
      rw [List.zip_cons_cons] at hz
      cases hz
   rw [hv] at hR
   wp_walk
   exact ⟨_,rfl,by simpa [Builtin.Tuple.tupleCompareSizes] using hR⟩
  case h =>
   exact ⟨rfl,rfl,items.toList,items2.toList,ns,ms,rfl,hi,hj,by omega,h⟩
end
section
variable {prog:Program} {w:World} {A:Around} {E:Value->Shared->Prop} {s:Shared}
theorem cat_tup {t b:Addr} {vs ws:List Value} {Q:Value->Shared->Prop} (ht:IsTup s.heap t vs.toArray) (hb:IsTup s.heap b ws.toArray) (hv:vs≠[])
  (h1:ws=[]->Q (.ref t) s) (h2:ws≠[]->Q (.ref s.heap.objs.size) { s with heap:=s.heap.push { cls:=.type "tuple",data:=.seq (vs++ws).toArray } })
  (hsz:vs.length+ws.length<=sizeLine):wpAny (model prog w) A (binaryOp .Add (.ref t) (.ref b)) Q E s:=by
 obtain ⟨⟨cls,dd,data,sl⟩,ho,hc,n,hd⟩:=id ht
 obtain ⟨⟨cls2,dd2,data2,sl2⟩,ho2,hc2,n2,hd2⟩:=id hb
 simp only at hc hd hc2 hd2
 subst hc hd hc2 hd2
 have e:vs.toArray++ws.toArray=(vs++ws).toArray:=by simp
 by_cases hw:ws=[]
 ·exact concat_meets ⟨_,ho,rfl⟩ ⟨_,ho2,rfl⟩ noFill_tuple_add seq_tuple_add PySem.F.slot_tuple_add PySem.F.entry_tuple_add (PySem.F.args_tuple_add_2 _ _)
   (tuple_addW1 t b vs.toArray ws.toArray n n2 dd dd2 sl sl2 (by simpa using hv) (by simp [hw])) ⟨ho,ho2,h1 hw⟩
 ·refine concat_meets ⟨_,ho,rfl⟩ ⟨_,ho2,rfl⟩ noFill_tuple_add seq_tuple_add PySem.F.slot_tuple_add PySem.F.entry_tuple_add (PySem.F.args_tuple_add_2 _ _)
   (tuple_addW2 t b vs.toArray ws.toArray n n2 dd dd2 sl sl2 (by simpa using hv) (by simpa using hw) (by rw [List.size_toArray,List.size_toArray];exact hsz)) ⟨ho,ho2,?_⟩
  rw [e]
  exact h2 hw
def sIx (n d:Nat):Option Int->Nat
 | none=>d
 | some v=>if v < 0 then (v+(n:Int)).toNat else min v.toNat n
theorem sIx_le (n d:Nat) (hd:d<=n) (o:Option Int):sIx n d o<=n:=by
 cases o with
 | none=>exact hd
 | some v =>
  show (if v < 0 then (v+(n:Int)).toNat else min v.toNat n)<=n
  by_cases hv:v < 0
  ·rw [if_pos hv];omega
  ·rw [if_neg hv];exact Nat.min_le_right _ _
theorem clip_eq (v:Int) (n d:Nat):(if v < 0 then max (v+(n:Int)) 0 else min v (n:Int))=((sIx n d (some v):Nat):Int):=by
 show (if v < 0 then max (v+(n:Int)) 0 else min v (n:Int))=(((if v < 0 then (v+(n:Int)).toNat else min v.toNat n):Nat):Int)
 by_cases hv:v < 0
 ·simp only [if_pos hv];omega
 ·simp only [if_neg hv];omega
theorem adjust_gen (lo hi:Option Int) (n:Nat):Builtin.Slice.sliceAdjust lo hi 1 (n:Int)=(((sIx n 0 lo:Nat):Int),((sIx n n hi:Nat):Int)):=by
 have h1:¬ ((1:Int) < 0):=by omega
 unfold Builtin.Slice.sliceAdjust
 simp only [h1,if_false]
 refine Prod.ext ?_ ?_
 ·cases lo with
  | none=>rfl
  | some v=>exact clip_eq v n 0
 ·cases hi with
  | none=>rfl
  | some v=>exact clip_eq v n n
theorem places_gen (i j:Nat):Builtin.Slice.slicePlaces (i:Int) (j:Int) 1=j - i:=by
 unfold Builtin.Slice.slicePlaces
 have h1:(1:Int) > 0:=by omega
 simp only [h1,if_true,Int.ediv_one]
 split <;> omega
theorem Fi {v:Value} {o:Option Int} {Q:Option Int->Shared->Prop} (p:IsPart v o) (h:Q o s):wpAny (model prog w) A (Builtin.Slice.slicePartIndex v) Q E s:=by
 cases p with
 | none=>exact slicePart_none h
 | int i t=>exact slicePart_int h
theorem CB {sl:Addr} {vl vu:Value} {lo hi:Option Int} {n:Nat} {Q:Int×Int×Nat->Shared->Prop} (hs:s.heap.IsSliceOf sl vl vu .none) (pl:IsPart vl lo) (pu:IsPart vu hi)
  (h:Q (((sIx n 0 lo:Nat):Int),1,sIx n n hi - sIx n 0 lo) s):wpAny (model prog w) A (Builtin.Slice.sliceApplied (.ref sl) (pure (n:Int))) Q E s:=by
 obtain ⟨os,hos,hcs,hds⟩:=id hs
 unfold Builtin.Slice.sliceApplied Builtin.Slice.sliceFields
 refine wpAny_bind (wpAny_bind (wpAny_field hos hds (x:=vl) rfl (wpAny_bind (wpAny_field hos hds (x:=vu) rfl (wpAny_bind (wpAny_field hos hds (x:=.none) rfl (wpAny_pure ?_)))))))
 refine wpAny_bind (slicePart_none ?_)
 show wpAny _ _ (if ((1:Int) == 0)=true then _ else _) _ _ s
 rw [if_neg (by decide)]
 refine wpAny_bind (Fi pl (wpAny_bind (Fi pu (wpAny_bind (wpAny_pure ?_)))))
 show wpAny _ _ (match Builtin.Slice.sliceAdjust lo hi 1 (n:Int) with | (lo,hi)=>pure (lo,(1:Int),Builtin.Slice.slicePlaces lo hi 1)) _ _ s
 rw [adjust_gen lo hi n]
 show wpAny _ _ (pure (((sIx n 0 lo:Nat):Int),(1:Int),Builtin.Slice.slicePlaces ((sIx n 0 lo:Nat):Int) ((sIx n n hi:Nat):Int) 1)) _ _ s
 rw [places_gen]
 exact wpAny_pure h
theorem pick_gen (xs:Array Value) (i k:Nat):((List.range k).filterMap fun (m:Nat)=>xs[((i:Int)+(m:Int) * 1).toNat]?).toArray=((xs.toList.drop i).take k).toArray:=by
 have e:(fun (m:Nat)=>xs[((i:Int)+(m:Int) * 1).toNat]?)=fun m=>xs[i+m]?:=by
  funext m
  have:((i:Int)+(m:Int) * 1).toNat=i+m:=by omega
  rw [this]
 rw [e]
 have:=pick_run xs i k
 rw [List.filterMap_map] at this
 have e2:((fun x=>xs[x]?)∘fun x=>i+x)=fun m=>xs[i+m]?:=rfl
 rw [e2] at this
 rw [this]
theorem DJ {t sl:Addr} {items:Array Value} {vl vu:Value} {lo hi:Option Int} {Q:Value->Shared->Prop} (ht:IsTup s.heap t items) (hs:s.heap.IsSliceOf sl vl vu .none) (pl:IsPart vl lo) (pu:IsPart vu hi)
  (hw:¬ (sIx items.size 0 lo=0/\sIx items.size items.size hi=items.size))
  (h:Q (.ref s.heap.objs.size) { s with heap:=s.heap.push { cls:=.type "tuple",data:=.seq ((items.toList.drop (sIx items.size 0 lo)).take (sIx items.size items.size hi - sIx items.size 0 lo)).toArray } })
  (hsz:items.size<=sizeLine):wpAny (model prog w) A (getItem (.ref t) (.ref sl)) Q E s:=by
 have htake:sizeOk (.seq ((items.toList.drop (sIx items.size 0 lo)).take (sIx items.size items.size hi - sIx items.size 0 lo)).toArray):=by
  show ((items.toList.drop (sIx items.size 0 lo)).take (sIx items.size items.size hi - sIx items.size 0 lo)).toArray.size<=sizeLine
  rw [List.size_toArray,List.length_take,List.length_drop,Array.length_toList]
  omega
 have hj:sIx items.size items.size hi<=items.size:=sIx_le _ _ (Nat.le_refl _) hi
 obtain ⟨os,hos,hcs,hds⟩:=id hs
 have hTs:s.TypeIs (.ref sl) "slice":=⟨os,hos,hcs⟩
 unfold getItem
 try with_reducible refine wpAny_holding ?_
 first | refine wpAny_bind (wpAny_pure ?_) | skip
 refine wpAny_bind (wpAny_sequenceKey ht.typeIs (by decide) ?_)
 refine wpAny_bind (wpAny_callSpecial?_slot (name:=Str.ofString "__getitem__") ht.typeIs PyProof.Rows.slot_tuple_getitem
  (wpAny_call_entry PyProof.Rows.slot_tuple_getitem ht.typeIs entry_tuple_getitem ?_ (args_tuple_getitem _ _)))
 show wpAny _ _ (Builtin.Tuple.tupleItemsOf (.ref t) >>= _) _ _ s
 refine wpAny_bind (tupleItemsOf_ ht ?_)
 refine wpAny_bind (wpAny_typeOf hTs ?_)
 rw [if_pos (by decide)]
 refine wpAny_bind (CB hs pl pu ?_)
 have hno:¬ ((((sIx items.size 0 lo:Nat):Int) == 0 && (1:Int) == 1 && (sIx items.size items.size hi - sIx items.size 0 lo) == items.size)=true):=by
  intro q
  rw [Bool.and_eq_true,Bool.and_eq_true] at q
  have q1:((sIx items.size 0 lo:Nat):Int)=0:=eq_of_beq q.1.1
  have q2:sIx items.size items.size hi - sIx items.size 0 lo=items.size:=eq_of_beq q.2
  exact hw ⟨by omega,by omega⟩
 show wpAny _ _ (if (((sIx items.size 0 lo:Nat):Int) == 0 && (1:Int) == 1 && (sIx items.size items.size hi - sIx items.size 0 lo) == items.size)=true then _ else _) _ _ s
 rw [if_neg hno,pick_gen]
 first
  | exact wpAny_bind (m:=Builtin.Tuple.tupleExact _) (wpAny_newObj_type (wpAny_pure ⟨_,rfl,wpAny_pure h⟩) htake)
  | exact wpAny_bind (m:=Builtin.Tuple.tupleExact _) (wpAny_newObj_type (wpAny_bind (wpAny_pure (wpAny_pure ⟨_,rfl,wpAny_pure h⟩))) htake)
  | exact wpAny_bind (wpAny_bind (m:=Builtin.Tuple.tupleExact _) (wpAny_newObj_type (wpAny_pure (wpAny_pure ⟨_,rfl,wpAny_pure h⟩)) htake))
  | exact wpAny_bind (wpAny_bind (m:=Builtin.Tuple.tupleExact _) (wpAny_newObj_type (wpAny_pure ⟨_,rfl,wpAny_pure h⟩) htake))
end
end HT
namespace L2
open PySem PySem.Spec PyProof.Rows
abbrev TO:=St->Hp->(Option Int->Hp->Prop)->Prop
def PO (X:Cx) (e:Option Expr) (t:TO):Prop :=
 ∀ (pins:List (Addr×Obj)) (s:Shared) (σ:St) (H:Hp) (Q:Option Int->Hp->Prop),Inv X pins σ H s->t σ H Q ->
  wpAny (model X.prog X.w) X.A (evalPart e X.env) (fun u s'=>∃ o H',Inv X pins σ H' s'/\IsPart u o/\Q o H') X.xe s
def tNoPart:TO:=fun _ H Q=>Q none H
def tPart (t:TE):TO:=fun σ H Q=>t σ H fun x H1=>∃ i,x=.int i/\Q (some i) H1
theorem intsAre_of {ns:List Int}:∀ {us:List Value},Vals (ns.map V.int) us->IntsAre us ns:=by
 induction ns with
 | nil=>intro us r;rw [List.map_nil] at r;cases r;exact .nil
 | cons n ns ih =>
  intro us r
  rw [List.map_cons] at r
  cases r with
  | cons r1 r2 =>
   obtain ⟨t,e⟩:=r1
   subst e
   exact .cons n t (ih r2)
section
variable {X:Cx} {e:Expr} {te:TE} {lo hi:Option Expr} {tl th:TO} {pos p2:Pos}
theorem po_none:PO X none tNoPart:=by
 intro pins s σ H Q I h
 rw [evalPart_none]
 exact wpAny_pure ⟨none,H,I,.none,h⟩
theorem po_some (h:PE X e te):PO X (some e) (tPart te):=by
 intro pins s σ H Q I hw
 rw [evalPart_some]
 refine thn (h pins s σ H _ I hw) fun u s1 ⟨x,H1,I1,r1,q1⟩=>?_
 obtain ⟨i,rfl,q⟩:=q1
 obtain ⟨t,rfl⟩:=r1
 exact ⟨some i,H1,I1,.int i t,q⟩
def SlR (X:Cx) (r:V->Option Int->Option Int->Hp->VK->Prop):Prop :=
 ∀ (pins:List (Addr×Obj)) (s:Shared) (σ:St) (H:Hp) (x:V) (v vl vu:Value) (lo hi:Option Int) (sl:Addr) (Q:VK),Inv X pins σ H s->RelV x v->s.heap.IsSliceOf sl vl vu .none->IsPart vl lo->IsPart vu hi->r x lo hi H Q ->
  ∃ T id,typeLookup (.type T) "__getitem__"=pure (some (.builtin id))/\s.TypeIs v T/\wpAny (model X.prog X.w) X.A (getItem v (.ref sl)) (EP X pins σ Q) X.xe s
theorem SlR.or {r r':V->Option Int->Option Int->Hp->VK->Prop} (h:SlR X r) (h':SlR X r'):SlR X (fun x lo hi H Q=>r x lo hi H Q∨r' x lo hi H Q):=by
 intro pins s σ H x v vl vu lo hi sl Q I rx hs pl pu q
 rcases q with q | q
 ·exact h pins s σ H x v vl vu lo hi sl Q I rx hs pl pu q
 ·exact h' pins s σ H x v vl vu lo hi sl Q I rx hs pl pu q
def tSl (r:V->Option Int->Option Int->Hp->VK->Prop) (te:TE) (tl th:TO):TE:=fun σ H Q=>te σ H fun x H1=>tl σ H1 fun l H2=>th σ H2 fun u H3=>r x l u H3 Q
theorem pe_slice {r:V->Option Int->Option Int->Hp->VK->Prop} (hr:SlR X r) (he:PE X e te) (hl:PO X lo tl) (hu:PO X hi th):PE X (.Subscript e (.Slice lo hi none p2) pos) (tSl r te tl th):=by
 intro pins s σ H Q I h
 refine Subscript_ (thn (he pins s σ H _ I h) fun v s1 ⟨x,H1,I1,r1,q1⟩=>?_)
 refine wpAny_Slice (thn (hl pins s1 σ H1 _ I1 q1) fun vl s2 ⟨l,H2,I2,pl,q2⟩=>thn (hu pins s2 σ H2 _ I2 q2) fun vu s3 ⟨u,H3,I3,pu,q3⟩=>?_)
 rw [evalPart_none]
 refine wpAny_pure ?_
 have I4:Inv X pins σ H3 { s3 with heap:=s3.heap.push { cls:=.type "slice",data:=.fields #[vl,vu,.none] } }:=I3.kept (t':=s3.toks) fun b ob q=>Heap.get?_push_of_some _ q
 obtain ⟨T,id,hT,ht,hg⟩:=hr pins { s3 with heap:=s3.heap.push { cls:=.type "slice",data:=.fields #[vl,vu,.none] } } σ H3 x v vl vu l u s3.heap.objs.size Q I4 r1 (Heap.IsSliceOf.new ..) pl pu q3
 show wpAny (model X.prog X.w) X.A (subscriptTail e (.Slice lo hi none p2) v (.ref s3.heap.objs.size)) (EP X pins σ Q) X.xe { s3 with heap:=s3.heap.push { cls:=.type "slice",data:=.fields #[vl,vu,.none] } }
 exact tail_any (ops:=[.ref s3.heap.objs.size,v]) ht hT hg (by with_unfolding_all rfl)
def cutV (xs:List V) (lo hi:Option Int):List V:=(xs.drop (HT.sIx xs.length 0 lo)).take (HT.sIx xs.length xs.length hi - HT.sIx xs.length 0 lo)
theorem EY (xs:List V) (lo hi:Option Int):(cutV xs lo hi).length<=xs.length:=by
 unfold cutV
 rw [List.length_take,List.length_drop]
 omega
def rSlT (K:PySem.W.Frag):V->Option Int->Option Int->Hp->VK->Prop:=fun x lo hi H Q=>∃ a xs,x=.ref a/\SqT K H a xs /\
 ¬ (HT.sIx xs.length 0 lo=0/\HT.sIx xs.length xs.length hi=xs.length)/\∀ p,H p=none->Q (.ref p) (upd H p (.tup (cutV xs lo hi)))
theorem sl_tup:SlR X (rSlT X.K):=by
 intro pins s σ H x v vl vu lo hi sl Q I rx hs pl pu h
 obtain ⟨a,xs,rfl,hx,hw,q⟩:=h
 cases rx
 obtain ⟨its,r,ht,hz⟩:=I.tuple hx
 have hlen:its.toArray.size=xs.length:=by rw [List.size_toArray];exact r.length.symm
 refine ⟨"tuple",_,PyProof.Rows.slot_tuple_getitem.lookup,ht.typeIs,?_⟩
 refine HT.DJ ht hs pl pu (by rw [hlen];exact hw) ?_ (by rw [hlen];exact hz)
 rw [hlen]
 refine ⟨.ref s.heap.objs.size,_,I.laid (t':=s.toks) (o:=.tup (cutV xs lo hi)) (fun b ob q=>Heap.get?_push_of_some _ q) (Nat.le_refl _) ?_,rfl,q _ (I.hok.fresh (Nat.le_refl _))⟩
 exact ⟨Nat.le_trans (EY xs lo hi) hz,_,(r.drop (HT.sIx xs.length 0 lo)).take (HT.sIx xs.length xs.length hi - HT.sIx xs.length 0 lo),IsTup.new _ _⟩
def rCatT (K:PySem.W.Frag):R2:=fun x y H Q=>∃ a b xs ys,x=.ref a/\y=.ref b/\SqT K H a xs/\SqT K H b ys/\xs≠[]/\xs.length+ys.length<=sizeLine /\
 (ys=[]->Q (.ref a) H)/\(ys≠[]->∀ p,H p=none->Q (.ref p) (upd H p (.tup (xs++ys))))
theorem Vals.HS {xs:List V} {us:List Value} (r:Vals xs us):us=[]↔xs=[]:=by
 cases r with
 | nil=>simp
 | cons _ _=>simp
theorem op_catT:OpR X (binaryOp .Add) (rCatT X.K):=by
 intro pins s σ H x y v u Q I rx ry h
 obtain ⟨a,b,xs,ys,rfl,rfl,ha,hb,hx,hz,q1,q2⟩:=h
 cases rx
 cases ry
 obtain ⟨its,r1,p1,_⟩:=I.tuple ha
 obtain ⟨its2,r2,p2,_⟩:=I.tuple hb
 refine HT.cat_tup p1 p2 (fun z=>hx (r1.HS.mp z)) (fun z=>⟨.ref a,H,I,rfl,q1 (r2.HS.mp z)⟩) (fun z=>?_) (by rw [<- r1.length,<- r2.length];exact hz)
 refine ⟨.ref s.heap.objs.size,_,I.laid (t':=s.toks) (o:=.tup (xs++ys)) (fun b ob q=>Heap.get?_push_of_some _ q) (Nat.le_refl _) ?_,rfl,q2 (fun w=>z (r2.HS.mpr w)) _ (I.hok.fresh (Nat.le_refl _))⟩
 exact ⟨by rw [List.length_append];exact hz,_,r1.append r2,IsTup.new _ _⟩
end
end L2
namespace L2
open PySem PySem.Spec PyProof.Rows
def ixN (n:Nat) (i:Int):Option Nat:=if 0<=i then (if i < n then some i.toNat else none) else if -(n:Int)<=i then some (i+n).toNat else none
def atI {α:Type} (xs:List α) (i:Int):Option α:=(ixN xs.length i).bind fun j=>xs[j]?
theorem ixN_seq {n:Nat} {i:Int} {j:Nat} (h:ixN n i=some j):seqIndex? i n=some j/\j < n/\-(n:Int)<=i/\i < n:=by
 unfold ixN at h
 by_cases h0:0<=i
 ·rw [if_pos h0] at h
  by_cases h1:i < n
  ·rw [if_pos h1] at h
   have e:i.toNat=j:=Option.some.inj h
   exact ⟨by rw [seqIndex_of h0 h1,e],by omega,by omega,h1⟩
  ·rw [if_neg h1] at h;cases h
 ·rw [if_neg h0] at h
  by_cases h1:-(n:Int)<=i
  ·rw [if_pos h1] at h
   have e:(i+n).toNat=j:=Option.some.inj h
   exact ⟨by rw [seqIndex_neg (by omega) h1,e],by omega,h1,by omega⟩
  ·rw [if_neg h1] at h;cases h
theorem atI_get {α:Type} {xs:List α} {i:Int} {v:α} (h:atI xs i=some v):∃ j,seqIndex? i xs.length=some j/\xs[j]?=some v/\j < xs.length/\-(xs.length:Int)<=i/\i < xs.length:=by
 unfold atI at h
 cases e:ixN xs.length i with
 | none=>rw [e] at h;cases h
 | some j =>
  rw [e] at h
  obtain ⟨h1,h2,h3,h4⟩:=ixN_seq e
  exact ⟨j,h1,h,h2,h3,h4⟩
theorem BC {α:Type} {xs:List α} {j:Nat} {v:α} (h:xs[j]?=some v):atI xs (j:Int)=some v:=by
 have hj:j < xs.length:=(List.getElem?_eq_some_iff.mp h).1
 have e:ixN xs.length (j:Int)=some j:=by
  unfold ixN
  rw [if_pos (by omega),if_pos (by omega)];simp
 unfold atI;rw [e];exact h
def PlainIx (b:Expr):Prop:=∀ o i,subscripted b false o i=operate [o,i] (getItem o i)
def IxR (X:Cx) (r:R2):Prop :=
 ∀ (value slice:Expr) (pins:List (Addr×Obj)) (s:Shared) (σ:St) (H:Hp) (x y:V) (v u:Value) (Q:VK),Inv X pins σ H s->RelV x v->RelV y u->r x y H Q ->
  subscripted slice false v u=operate [v,u] (getItem v u)->wpAny (model X.prog X.w) X.A (subscriptTail value slice v u) (EP X pins σ Q) X.xe s
def MtR (X:Cx) (id:String) (r:V->List V->Hp->VK->Prop):Prop :=
 ∀ (pins:List (Addr×Obj)) (s:Shared) (σ:St) (H:Hp) (x:V) (xs:List V) (v:Value) (us:List Value) (Q:VK),Inv X pins σ H s->RelV x v->Vals xs us->r x xs H Q ->
  wpAny (model X.prog X.w) X.A (call (.builtin id) (v :: us)) (EP X pins σ Q) X.xe s
section
variable {X:Cx} {a b:Expr} {ta tb:TE} {pos:Pos}
theorem IxR.or {r r':R2} (h:IxR X r) (h':IxR X r'):IxR X (fun x y H Q=>r x y H Q∨r' x y H Q):=by
 intro value slice pins s σ H x y v u Q I rx ry q hs
 rcases q with q | q
 ·exact h value slice pins s σ H x y v u Q I rx ry q hs
 ·exact h' value slice pins s σ H x y v u Q I rx ry q hs
theorem pe_ix {r:R2} (hr:IxR X r) (ha:PE X a ta) (hb:PE X b tb) (hs:PlainIx b):PE X (.Subscript a b pos) (tOp r ta tb):=by
 intro pins s σ H Q I h
 exact Subscript_ (binT ha hb I h fun v u s2 x y H2 I2 rx ry q=>hr a b pins s2 σ H2 x y v u Q I2 rx ry q (hs _ _))
def rIxL (K:PySem.W.Frag):R2:=fun x y H Q=>∃ p xs i v,x=.ref p/\y=.int i/\SqL K H p xs/\atI xs i=some v/\Q v H
def rIxT (K:PySem.W.Frag):R2:=fun x y H Q=>∃ p xs i v,x=.ref p/\y=.int i/\SqT K H p xs/\atI xs i=some v/\Q v H
def rIxS:R2:=fun x y H Q=>∃ z i c,x=.str z/\y=.int i/\z.length<=sizeLine/\atI z.cps.toList i=some c/\Q (.str ⟨#[c]⟩) H
theorem ix_list:IxR X (rIxL X.K):=by
 intro value slice pins s σ H x y v u Q I rx ry h hs
 obtain ⟨p,xs,i,z,rfl,rfl,hq,he,q⟩:=h
 cases rx
 obtain ⟨t,rfl⟩:=ry
 obtain ⟨its,r,pl,hz⟩:=I.list hq
 obtain ⟨j,h1,h2,h3,h4,h5⟩:=atI_get he
 obtain ⟨w,ew,rw'⟩:=r.get h2
 have hl:=r.length
 have hn:=EE
 have fin:EP X pins σ Q w s:=⟨z,H,I,rw',q⟩
 by_cases h0:0<=i
 ·have hj:i.toNat=j:=by
   rw [seqIndex_of h0 h5] at h1
   exact Option.some.inj h1
  exact item_listR pl.isList h0 (by omega) (by rw [hj];simpa using ew) fin hs
 ·have hj:(i+(its.toArray.size:Int)).toNat=j:=by
   rw [seqIndex_neg (by omega) h4] at h1
   rw [List.size_toArray,<- hl]
   exact Option.some.inj h1
  exact subscriptTail_builtinR (x:=w) pl.isList.typeIs slot_list_getitem.lookup
   (wpAny_getItem_list_neg (Q:=fun r s'=>r=w/\EP X pins σ Q r s') pl.isList (by omega) (by rw [List.size_toArray] <;> omega) (by omega) (by rw [hj];simpa using ew) ⟨rfl,fin⟩) hs
theorem ix_tup:IxR X (rIxT X.K):=by
 intro value slice pins s σ H x y v u Q I rx ry h hs
 obtain ⟨p,xs,i,z,rfl,rfl,hq,he,q⟩:=h
 cases rx
 obtain ⟨t,rfl⟩:=ry
 obtain ⟨its,r,pl,hz⟩:=I.tuple hq
 obtain ⟨j,h1,h2,h3,h4,h5⟩:=atI_get he
 obtain ⟨w,ew,rw'⟩:=r.get h2
 have hl:=r.length
 have hn:=EE
 have fin:EP X pins σ Q w s:=⟨z,H,I,rw',q⟩
 exact subscriptTail_builtinR (x:=w) pl.typeIs slot_tuple_getitem.lookup
  (getItem_tuple (j:=j) (Q:=fun r s'=>r=w/\EP X pins σ Q r s') pl (by omega) (by omega) (by rw [List.size_toArray,<- hl];exact h1) (by simpa using ew) ⟨rfl,fin⟩) hs
theorem ix_str:IxR X rIxS:=by
 intro value slice pins s σ H x y v u Q I rx ry h hs
 obtain ⟨z,i,c,rfl,rfl,hz,he,q⟩:=h
 obtain ⟨t,rfl⟩:=rx
 obtain ⟨t',rfl⟩:=ry
 obtain ⟨j,h1,h2,h3,h4,h5⟩:=atI_get he
 have hl:z.cps.toList.length=z.length:=by simp [Str.length]
 rw [hl] at h1 h4 h5
 have hn:=EE
 exact tail_any (typeIs_str s z t) slot_str_getitem.lookup (getItem_str (c:=c) (by
  have e1:decide (i < -(2 ^ 63:Int))=false:=decide_eq_false (by omega)
  have e2:decide (i≥2 ^ 63)=false:=decide_eq_false (by omega)
  rw [e1,e2,Bool.or_false]) (by rw [h1];simpa using h2) ⟨.str ⟨#[c]⟩,H,I.tok _,⟨_,rfl⟩,q⟩) hs
def rIx (K:PySem.W.Frag):R2:=fun x y H Q=>rIxL K x y H Q∨rIxT K x y H Q∨rIxS x y H Q
theorem ix_seq:IxR X (rIx X.K):=ix_list.or (ix_tup.or ix_str)
theorem mapSeq_set (its:List Value) (n j:Nat) (u:Value):Obj.mapSeq (·.setIfInBounds j u) { cls:=.type "list",data:=.seq its.toArray n }={ cls:=.type "list",data:=.seq (its.set j u).toArray n }:=by
 simp [Obj.mapSeq]
theorem Inv.lst {pins:List (Addr×Obj)} {σ:St} {H:Hp} {s:Shared} {p:Addr} {xs:List V} (I:Inv X pins σ H s) (h:H p=some (.lst xs)) :
  ∃ (its:List Value) (n:Nat),Vals xs its/\s.heap.get? p=some { cls:=.type "list",data:=.seq its.toArray n }/\xs.length<=sizeLine:=by
 obtain ⟨z,its,n,r,e⟩:=I.hok p _ h
 exact ⟨its,n,r,e,z⟩
theorem Inv.lstUpd {pins:List (Addr×Obj)} {σ:St} {H:Hp} {s:Shared} {p:Addr} {xs ys:List V} {its its':List Value} {n n':Nat} {f:Obj->Obj} (I:Inv X pins σ H s) (h:H p=some (.lst xs))
  (ho:s.heap.get? p=some { cls:=.type "list",data:=.seq its.toArray n }) (hf:f { cls:=.type "list",data:=.seq its.toArray n }={ cls:=.type "list",data:=.seq its'.toArray n' }) (r:Vals ys its') (hz:ys.length<=sizeLine) (t:Nat) :
  Inv X pins σ (upd H p (.lst ys)) { s with heap:=s.heap.update p f,toks:=t }:=by
 have e:(s.heap.update p f).get? p=some { cls:=.type "list",data:=.seq its'.toArray n' }:=by
  rw [Heap.get?_update_self f ho (by rw [hf] <;> rfl),hf]
 refine I.write (x:=p) (e:=p) (by rw [h];trivial) (.inl rfl) (fun b u hb q=>(Heap.get?_update_other _ _ (Ne.symm hb)).trans q) ⟨_,e⟩ ?_
 exact ⟨hz,its',n',r,e⟩
def rSetL:V->V->V->Hp->(Hp->Prop)->Prop:=fun o i v H Q=>∃ p xs k j,o=.ref p/\i=.int k/\H p=some (.lst xs)/\ixN xs.length k=some j/\Q (upd H p (.lst (xs.set j v)))
theorem set_list:PSet X rSetL:=by
 intro pins s σ H o i v ov iv u Q I ro ri rv h
 obtain ⟨p,xs,k,j,rfl,rfl,hp,hj,q⟩:=h
 cases ro
 obtain ⟨t,rfl⟩:=ri
 obtain ⟨its,n,r,ho,hz⟩:=I.lst hp
 obtain ⟨h1,h2,h3,h4⟩:=ixN_seq hj
 have hl:=r.length
 have hn:=EE
 have I':Inv X pins σ (upd H p (.lst (xs.set j v))) { s with heap:=s.heap.update p (Obj.mapSeq (·.setIfInBounds j u)) } :=
  I.lstUpd hp ho (mapSeq_set its n j u) (r.set rv j) (by rw [List.length_set];exact hz) s.toks
 by_cases h0:0<=k
 ·have hk:k.toNat=j:=by
   rw [seqIndex_of h0 h4] at h1
   exact Option.some.inj h1
  exact PySem.W.ki_setAt ho h0 (by omega) (by rw [List.size_toArray,<- hl];exact h4) (by rw [hk];exact ⟨_,I',q⟩)
 ·have hk:(k+(its.toArray.size:Int)).toNat=j:=by
   rw [seqIndex_neg (by omega) h3] at h1
   rw [List.size_toArray,<- hl]
   exact Option.some.inj h1
  exact PySem.W.ki_setBack ho (by omega) (by rw [List.size_toArray,<- hl];exact h3) (by omega) (by rw [hk];exact ⟨_,I',q⟩)
theorem GH (lo hi:Option Int) (n:Nat):(sliceBounds lo hi none n).1=((HT.sIx n 0 lo:Nat):Int)/\(sliceBounds lo hi none n).2.1=((HT.sIx n n hi:Nat):Int)/\(sliceBounds lo hi none n).2.2=1:=by
 refine ⟨?_,?_,rfl⟩
 ·cases lo with
  | none=>simp [sliceBounds,HT.sIx]
  | some i =>
   simp only [sliceBounds,HT.sIx,Option.getD_none,show (1:Int) > 0 by decide,if_true]
   by_cases h:i < 0
   ·simp only [h,if_true] <;> omega
   ·simp only [h,if_false] <;> omega
 ·cases hi with
  | none=>simp [sliceBounds,HT.sIx]
  | some i =>
   simp only [sliceBounds,HT.sIx,Option.getD_none,show (1:Int) > 0 by decide,if_true]
   by_cases h:i < 0
   ·simp only [h,if_true] <;> omega
   ·simp only [h,if_false] <;> omega
theorem FK (its:List Value) (lo hi:Option Int):slicePick its.toArray lo hi none=((its.drop (HT.sIx its.length 0 lo)).take (HT.sIx its.length its.length hi - HT.sIx its.length 0 lo)).toArray:=by
 obtain ⟨h1,h2,h3⟩:=GH lo hi its.toArray.size
 unfold slicePick
 rw [h1,h2,h3]
 simp only [sliceRange_one,pick_run,List.size_toArray] <;> rfl
def rSlL (K:PySem.W.Frag):V->Option Int->Option Int->Hp->VK->Prop:=fun x lo hi H Q=>∃ a xs,x=.ref a/\SqL K H a xs/\∀ p,H p=none->Q (.ref p) (upd H p (.lst (cutV xs lo hi)))
theorem sl_list:SlR X (rSlL X.K):=by
 intro pins s σ H x v vl vu lo hi sl Q I rx hs pl pu h
 obtain ⟨a,xs,rfl,hx,q⟩:=h
 cases rx
 obtain ⟨its,r,ht,hz⟩:=I.list hx
 have hlen:=r.length
 refine ⟨"list",_,slot_list_getitem.lookup,ht.isList.typeIs,?_⟩
 refine wpAny_getItem_list_slice ht.isList hs pl pu .none (by simp) ?_ (by rw [List.size_toArray] <;> omega)
 rw [FK,<- hlen]
 refine ⟨.ref s.heap.objs.size,_,I.laid (t':=s.toks) (o:=.lst (cutV xs lo hi)) (fun b ob q=>Heap.get?_push_of_some _ q) (Nat.le_refl _) ?_,rfl,q _ (I.hok.fresh (Nat.le_refl _))⟩
 exact ⟨Nat.le_trans (EY xs lo hi) hz,_,0,(r.drop (HT.sIx xs.length 0 lo)).take (HT.sIx xs.length xs.length hi - HT.sIx xs.length 0 lo),Heap.get?_push_size _ rfl⟩
def DL:V->Bool
 | .non=>true
 | .bl _=>true
 | .int _=>true
 | .str _=>true
 | _=>false
def eqV:V->V->Bool
 | .non,.non=>true
 | .bl a,.bl b=>a == b
 | .bl a,.int b=>(if a then 1 else 0) == b
 | .int a,.bl b=>a == (if b then 1 else 0)
 | .int a,.int b=>a == b
 | .str a,.str b=>a == b
 | _,_=>false
theorem eqAt_V {A:Around} {s:Shared} {y x:V} {u v:Value} (ry:RelV y u) (rx:RelV x v) (fy:DL y=true) (fx:DL x=true):SeqAt.EqAt A s u v (eqV y x):=by
 cases y with
 | non =>
  cases ry
  cases x with
  | non=>cases rx;exact SeqAt.EqAt.same _
  | bl b=>cases rx;exact SeqAt.EqAt.none_bool b
  | int b=>obtain ⟨t,rfl⟩:=rx;exact SeqAt.EqAt.none_int b t
  | str b=>obtain ⟨t,rfl⟩:=rx;exact SeqAt.EqAt.none_str b t
  | _=>exact absurd (show false=true from fx) Bool.false_ne_true
 | bl a =>
  cases ry
  cases x with
  | non=>cases rx;exact SeqAt.EqAt.bool_none a
  | bl b=>cases rx;exact SeqAt.EqAt.bool_bool a b
  | int b=>obtain ⟨t,rfl⟩:=rx;exact SeqAt.EqAt.bool_int a b t
  | str b=>obtain ⟨t,rfl⟩:=rx;exact SeqAt.EqAt.bool_str a b t
  | _=>exact absurd (show false=true from fx) Bool.false_ne_true
 | int a =>
  obtain ⟨t',rfl⟩:=ry
  cases x with
  | non=>cases rx;exact SeqAt.EqAt.int_none a t'
  | bl b=>cases rx;exact SeqAt.EqAt.int_bool a t' b
  | int b=>obtain ⟨t,rfl⟩:=rx;exact SeqAt.EqAt.int_int a t' b t
  | str b=>obtain ⟨t,rfl⟩:=rx;exact SeqAt.EqAt.int_str a t' b t
  | _=>exact absurd (show false=true from fx) Bool.false_ne_true
 | str a =>
  obtain ⟨t',rfl⟩:=ry
  cases x with
  | non=>cases rx;exact SeqAt.EqAt.str_none a t'
  | bl b=>cases rx;exact SeqAt.EqAt.str_bool a t' b
  | int b=>obtain ⟨t,rfl⟩:=rx;exact SeqAt.EqAt.str_int a t' b t
  | str b=>obtain ⟨t,rfl⟩:=rx;exact SeqAt.EqAt.str_str a t' b t
  | _=>exact absurd (show false=true from fx) Bool.false_ne_true
 | _=>exact absurd (show false=true from fy) Bool.false_ne_true
def eqU (x:V) (u:Value):Bool:=match u with
 | .none=>eqV .non x
 | .bool b=>eqV (.bl b) x
 | .int i _=>eqV (.int i) x
 | .str z _=>eqV (.str z) x
 | _=>false
theorem eqU_of {x y:V} {u:Value} (r:RelV y u) (f:DL y=true):eqU x u=eqV y x:=by
 cases y with
 | non=>cases r;rfl
 | bl b=>cases r;rfl
 | int i=>obtain ⟨t,rfl⟩:=r;rfl
 | str z=>obtain ⟨t,rfl⟩:=r;rfl
 | _=>exact absurd (show false=true from f) Bool.false_ne_true
theorem any_eqU {x:V}:∀ {xs:List V} {us:List Value},Vals xs us->xs.all DL=true->us.any (eqU x)=xs.any fun y=>eqV y x
 | _,_,.nil,_=>rfl
 | y :: xs,u :: us,.cons r t,f=>by
  rw [List.all_cons,Bool.and_eq_true] at f
  rw [List.any_cons,List.any_cons,eqU_of r f.1,any_eqU t f.2]
theorem Gb {A:Around} {s:Shared} {x:V} {v:Value} (rx:RelV x v) (fx:DL x=true):∀ {xs:List V} {us:List Value},Vals xs us->xs.all DL=true->∀ u∈us,SeqAt.EqAt A s u v (eqU x u)
 | _,_,.nil,_=>fun u hu=>by cases hu
 | y :: xs,u :: us,.cons r t,f=>fun u' hu=>by
  rw [List.all_cons,Bool.and_eq_true] at f
  rcases List.mem_cons.mp hu with rfl | hu
  ·rw [eqU_of r f.1];exact eqAt_V r rx f.1 fx
  ·exact Gb rx fx t f.2 u' hu
def inV (x:V) (xs:List V):Bool:=xs.any fun y=>eqV y x
def rIn (K:PySem.W.Frag) (neg:Bool):R2:=fun x y H Q=>∃ p xs,y=.ref p/\(SqL K H p xs∨SqT K H p xs)/\DL x=true/\xs.all DL=true/\Q (.bl (if neg then !inV x xs else inV x xs)) H
theorem GR:OpR X (compareOp .NotIn) (rIn X.K true):=by
 intro pins s σ H x y v u Q I rx ry h
 obtain ⟨p,xs,rfl,hq,fx,fs,q⟩:=h
 cases ry
 rcases hq with hq | hq
 ·obtain ⟨its,r,pl,hz⟩:=I.list hq
  refine SeqAt.notIn_listAt (eqU x) pl.isList (fun w hw=>Gb rx fx r fs w (by simpa using hw)) ⟨.bl _,H,I,rfl,?_⟩
  rw [show its.toArray.any (eqU x)=its.any (eqU x) by simp,any_eqU r fs]
  exact q
 ·obtain ⟨its,r,pl,hz⟩:=I.tuple hq
  refine SeqAt.notIn_tupleAt (eqU x) pl (fun w hw=>Gb rx fx r fs w (by simpa using hw)) ⟨.bl _,H,I,rfl,?_⟩
  rw [show its.toArray.any (eqU x)=its.any (eqU x) by simp,any_eqU r fs]
  exact q
theorem GQ:OpR X (compareOp .NotIn) (fun x y H Q=>∃ i j,x=.str i/\y=.str j/\Q (.bl (!(!(Builtin.Str.occurrences j i 0 j.length 1).isEmpty))) H):=by
 intro pins s σ H x y v u Q I rx ry h
 obtain ⟨i,j,rfl,rfl,q⟩:=h
 obtain ⟨t,rfl⟩:=rx
 obtain ⟨t',rfl⟩:=ry
 exact notIn_str ⟨.bl _,H,I,rfl,q⟩
theorem Hv:Cs X (.builtin "len") (fun xs H Q=>∃ p ys,xs=[.ref p]/\(SqL X.K H p ys∨SqT X.K H p ys)/\Q (.int ys.length) H):=by
 intro pins s σ H xs us Q I r h
 obtain ⟨p,ys,rfl,hq,q⟩:=h
 obtain ⟨u,rfl,rx⟩:=vals1 r
 cases rx
 have hn:=EE
 rcases hq with hq | hq
 ·obtain ⟨its,r',pl,hz⟩:=I.list hq
  have hlen:=r'.length
  exact Calls.call_len_list pl.isList (by simp only [List.size_toArray] <;> omega) ⟨.int ys.length,H,I.tok _,⟨s.toks+1,by rw [List.size_toArray,hlen]⟩,q⟩
 ·obtain ⟨its,r',pl,hz⟩:=I.tuple hq
  have hlen:=r'.length
  exact len_tuple pl (by simp only [List.size_toArray] <;> omega) ⟨.int ys.length,H,I.tok _,⟨s.toks+1,by rw [List.size_toArray,hlen]⟩,q⟩
theorem Hu:Cs X (.builtin "len") (fun xs H Q=>∃ z,xs=[.str z]/\z.length<=sizeLine/\Q (.int z.length) H):=by
 intro pins s σ H xs us Q I r h
 obtain ⟨z,rfl,hz,q⟩:=h
 obtain ⟨u,rfl,t,rfl⟩:=vals1 r
 have hn:=EE
 exact len_str (by omega) ⟨.int z.length,H,I.tok _,⟨_,rfl⟩,q⟩
theorem Gu:Cs X (.type "tuple") (fun xs H Q=>∃ p ys,xs=[.ref p]/\((SqL X.K H p ys/\∀ l,H l=none->Q (.ref l) (upd H l (.tup ys)))∨(SqT X.K H p ys/\Q (.ref p) H))):=by
 intro pins s σ H xs us Q I r h
 obtain ⟨p,ys,rfl,h⟩:=h
 obtain ⟨u,rfl,rx⟩:=vals1 r
 cases rx
 rcases h with ⟨hq,q⟩ | ⟨hq,q⟩
 ·obtain ⟨its,r',pl,hz⟩:=I.list hq
  have hlen:=r'.length
  refine call_tuple_list pl.isList (fun h' kp=>?_) (by simp only [List.size_toArray] <;> omega)
  have I1:Inv X pins σ H { s with heap:=h' }:=I.kept (t':=s.toks) kp
  have I2:Inv X pins σ (upd H h'.objs.size (.tup ys)) { s with heap:=h'.push { cls:=.type "tuple",data:=.seq its.toArray } } :=
   I1.laid (t':=s.toks) (fun b o e=>Heap.get?_push_of_some _ e) (Nat.le_refl _) (show Bu X.prog X.w _ _ _ (.tup ys) from ⟨hz,its,r',IsTup.new _ _⟩)
  exact ⟨.ref h'.objs.size,_,I2,rfl,q _ (I1.hok.fresh (Nat.le_refl _))⟩
 ·obtain ⟨its,r',pl,hz⟩:=I.tuple hq
  exact call_tuple_same pl ⟨.ref p,H,I,rfl,q⟩
def tyV (K:PySem.W.Frag) (T:String) (x:V) (H:Hp):Prop:=match x with
 | .str _=>T="str"
 | .int _=>T="int"
 | .ref p=>(T="list"/\∃ xs,SqL K H p xs)∨(T="tuple"/\∃ o,K.lookup p=some o/\o.cls=.type "tuple"/\o.dict=none) ∨
   (T="dict"/\((∃ kvs,H p=some (.dK kvs))∨∃ kvs,H p=some (.dT kvs)))∨(T="set"/\∃ S n,H p=some (.set S n))
 | _=>False
theorem tyV_is {pins:List (Addr×Obj)} {σ:St} {H:Hp} {s:Shared} {T:String} {x:V} {v:Value} (I:Inv X pins σ H s) (r:RelV x v) (ty:tyV X.K T x H) :
  s.TypeIs v T/\∀ a,v=.ref a->∃ ob,s.heap.get? a=some ob/\ob.dict=none:=by
 cases x with
 | str z =>
  obtain ⟨t,rfl⟩:=r
  cases (show T="str" from ty)
  exact ⟨typeIs_str s z t,fun _ e=>nomatch e⟩
 | int i =>
  obtain ⟨t,rfl⟩:=r
  cases (show T="int" from ty)
  exact ⟨typeIs_int s i t,fun _ e=>nomatch e⟩
 | ref p =>
  cases r
  rcases ty with ⟨rfl,xs,hq⟩ | ⟨rfl,o,hk,hc,hd⟩ | ⟨rfl,hk⟩ | ⟨rfl,S,n,hk⟩
  ·obtain ⟨its,_,pl,_⟩:=I.list hq
   refine ⟨pl.isList.typeIs,fun a e=>?_⟩
   cases e
   obtain ⟨o,n,e,c,hd,_⟩:=pl
   exact ⟨o,e,hd⟩
  ·refine ⟨⟨o,I.kIn p o hk,hc⟩,fun a e=>?_⟩
   cases e
   exact ⟨o,I.kIn _ o hk,hd⟩
  ·have z:∃ o,s.heap.get? p=some o/\o.ExactDict:=by
    rcases hk with ⟨kvs,hk⟩ | ⟨kvs,hk⟩
    ·obtain ⟨_,_,_,_,o,_,_,e,ex,_⟩:=I.hok p _ hk
     exact ⟨o,e,ex⟩
    ·obtain ⟨_,_,_,_,o,_,_,e,ex,_⟩:=I.hok p _ hk
     exact ⟨o,e,ex⟩
   obtain ⟨o,e,ex⟩:=z
   refine ⟨⟨o,e,ex.1⟩,fun a e2=>?_⟩
   cases e2
   exact ⟨o,e,ex.2.1⟩
  ·obtain ⟨o,_,_,_,e,ex,_⟩:=I.hok p _ hk
   refine ⟨⟨o,e,ex.1⟩,fun a e2=>?_⟩
   cases e2
   exact ⟨o,e,ex.2.1⟩
 | _=>exact False.elim ty
def tBM0 (K:PySem.W.Frag) (T:String) (r:V->List V->Hp->VK->Prop) (to:TE):TE:=fun σ H Q=>to σ H fun x H1=>tyV K T x H1/\r x [] H1 Q
def tBM (K:PySem.W.Frag) (T:String) (r:V->List V->Hp->VK->Prop) (to:TE) (t:TA):TE:=fun σ H Q=>to σ H fun x H1=>tyV K T x H1/\t σ H1 fun xs H2=>r x xs H2 Q
variable {o e:Expr} {es:List Expr} {to:TE} {t:TA} {name:Str} {apos cpos:Pos} {T id:String} {r:V->List V->Hp->VK->Prop}
theorem pe_bm0 (pa:PlainAttrs T) (slot:Slot T name id) (hty:typeOf (.builtin id)=pure (.type "method_descriptor")) (hm:MtR X id r) (ho:PE X o to)
  (hbase:attributeBase o name X.env (eval o X.env)=eval o X.env:=by rfl) (hline:(apos.endLine == cpos.line)=true:=by rfl):PE X (.Call (.Attribute o name apos) [] [] cpos) (tBM0 X.K T r to):=by
 intro pins s σ H Q I h
 refine wpAny_Call_method0_late hbase hline (thn (ho pins s σ H _ I h) fun v s1 ⟨x,H1,I1,r1,ty,q1⟩=>?_)
 obtain ⟨h1,h2⟩:=tyV_is I1 r1 ty
 exact ⟨T,id,pa,slot,hty,h1,h2,Calls.callWith_builtin rfl (PySem.evalArgs_none (hm pins s1 σ H1 x [] v [] Q I1 r1 .nil q1))⟩
theorem pe_bm (pa:PlainAttrs T) (slot:Slot T name id) (hty:typeOf (.builtin id)=pure (.type "method_descriptor")) (hm:MtR X id r) (ho:PE X o to) (ha:PA X (e :: es) t)
  (hbase:attributeBase o name X.env (eval o X.env)=eval o X.env:=by rfl)
  (hfew:((backTo cpos (starEach (e :: es) X.env)).all (fun x=>!x.1) && (backToKw cpos (keywordEach [] X.env)).all (fun x=>x.1.isSome)
   && decide ((e :: es).length+([]:List Keyword).length+(if ([]:List Keyword).isEmpty then 0 else 1) < 30))=true:=by rfl)
  (hline:(apos.endLine == cpos.line)=true:=by rfl) (hs:starEach (e :: es) X.env=(false,eval e X.env) :: starEach es X.env:=by rfl) (hplain:(backTo cpos (starEach es X.env)).any (·.1)=false:=by rfl) :
  PE X (.Call (.Attribute o name apos) (e :: es) [] cpos) (tBM X.K T r to t):=by
 intro pins s σ H Q I h
 refine wpAny_Call_method_late hbase hfew hline rfl (thn (ho pins s σ H _ I h) fun v s1 ⟨x,H1,I1,r1,ty,q1⟩=>?_)
 obtain ⟨h1,h2⟩:=tyV_is I1 r1 ty
 refine ⟨T,id,pa,slot,hty,h1,h2,?_⟩
 have hA:=ha cpos pins s1 σ H1 _ I1 q1
 rw [hs] at hA ⊢
 refine Calls.callWith_builtin (by show (false || (backTo cpos (starEach es X.env)).any (·.1))=false;rw [hplain] <;> rfl) (Calls.evalArgs_plain ?_)
 exact thn hA fun us s2 ⟨vs,H2,I2,r2,q2⟩=>hm pins s2 σ H2 x vs v us Q I2 r1 r2 q2
end
end L2
namespace L2
open PySem PySem.Spec PyProof.Rows
def MtM (X:Cx) (id:String) (r:V->List V->Hp->VK->Prop):Prop :=
 ∀ (pins:List (Addr×Obj)) (s:Shared) (σ:St) (H:Hp) (x:V) (xs:List V) (v:Value) (us:List Value) (Q:VK),Inv X pins σ H s->RelV x v->Vals xs us->r x xs H Q ->
  wpAny (model X.prog X.w) X.A (call (.builtin id) (v :: us)) (EP X pins σ Q) X.xe s
theorem Vals.one:∀ {x:V} {us:List Value},Vals [x] us->∃ u,us=[u]/\RelV x u
 | _,_,.cons r .nil=>⟨_,rfl,r⟩
theorem Vals.zero:∀ {us:List Value},Vals [] us->us=[]
 | _,.nil=>rfl
theorem Vals.dropLast {xs:List V} {us:List Value} (h:Vals xs us):Vals xs.dropLast us.dropLast:=by
 induction h with
 | nil=>exact .nil
 | cons r t ih =>
  cases t with
  | nil=>exact .nil
  | cons q t'=>exact .cons r ih
theorem Vals.reverse {xs:List V} {us:List Value} (h:Vals xs us):Vals xs.reverse us.reverse:=by
 induction h with
 | nil=>exact .nil
 | cons r t ih=>rw [List.reverse_cons,List.reverse_cons];exact Vals.append ih (.cons r .nil)
theorem erase_last {α:Type} (l:List α):l.eraseIdx (l.length - 1)=l.dropLast:=by
 induction l with
 | nil=>rfl
 | cons a r ih =>
  cases r with
  | nil=>rfl
  | cons b r =>
   have e:(a :: b :: r).length - 1=((b :: r).length - 1)+1:=by
    have h1:(a :: b :: r).length=r.length+2:=rfl
    have h2:(b :: r).length=r.length+1:=rfl
    omega
   rw [e,List.eraseIdx_cons_succ,ih]
   all_goals rfl
section
variable {X:Cx} {pins:List (Addr×Obj)} {σ:St} {H:Hp} {s:Shared} {l b:Addr} {xs ys zs:List V}
theorem Inv.lset {its its':List Value} {n:Nat} {f:Array Value->Array Value} {t':Nat} (I:Inv X pins σ H s) (hH:H l=some (.lst xs))
  (e:s.heap.get? l=some { cls:=.type "list",data:=.seq its.toArray n }) (hf:f its.toArray=its'.toArray) (hv:Vals ys its') (hz:ys.length<=sizeLine) :
  Inv X pins σ (upd H l (.lst ys)) { s with heap:=s.heap.update l (Obj.mapSeq f),toks:=t' }:=by
 have q:=PySem.IsL.update e f
 rw [hf] at q
 refine I.write (x:=l) (e:=l) (by rw [hH];exact trivial) (.inl rfl) (fun b' u hb hu=>(Heap.get?_update_other s.heap (Obj.mapSeq f) (Ne.symm hb)).trans hu) ⟨_,q⟩ ?_
 exact ⟨hz,its',_,hv,q⟩
theorem Inv.lnew {its:List Value} {t':Nat} (I:Inv X pins σ H s) (hv:Vals ys its) (hz:ys.length<=sizeLine) :
  Inv X pins σ (upd H s.heap.objs.size (.lst ys)) { s with heap:=s.heap.push { cls:=.type "list",data:=.seq its.toArray },toks:=t' } :=
 I.laid (fun _ _ q=>Heap.get?_push_of_some _ q) (Nat.le_refl _) ⟨hz,its,0,hv,Heap.get?_push_size _ rfl⟩
theorem Inv.fresh (I:Inv X pins σ H s):H s.heap.objs.size=none:=I.hok.fresh (Nat.le_refl _)
theorem Inv.lstM (I:Inv X pins σ H s) (hH:H l=some (.lst xs)):xs.length<=sizeLine/\∃ (its:List Value) (n:Nat),Vals xs its/\xs.length=its.length/\s.heap.get? l=some { cls:=.type "list",data:=.seq its.toArray n }:=by
 obtain ⟨z,its,n,r,e⟩:=I.hok l _ hH
 exact ⟨z,its,n,r,r.length,e⟩
theorem notLongL {n:Nat} (h:n<=sizeLine):Builtin.List.listTooLong n=false:=by
 unfold Builtin.List.listTooLong
 exact decide_eq_false (by omega)
end
section
variable {X:Cx}
def rAppend:V->List V->Hp->VK->Prop:=fun x vs H Q=>∃ l xs y,x=.ref l/\vs=[y]/\H l=some (.lst xs)/\xs.length < sizeLine/\Q .non (upd H l (.lst (xs++[y])))
theorem BY:MtM X "list.append" rAppend:=by
 intro pins s σ H x vs v us Q I rx rv h
 obtain ⟨l,xs,y,rfl,rfl,hH,hz,q⟩:=h
 cases rx
 obtain ⟨u,rfl,ru⟩:=rv.one
 obtain ⟨z,its,n,r,hl,e⟩:=I.lstM hH
 refine call_meets F.slot_list_append ⟨_,e,rfl⟩ F.entry_list_append (F.args_list_append_2 _ _) (PySem.list_append l its.toArray n u (by rw [List.size_toArray];omega)) ⟨e,?_⟩
 refine ⟨.non,_,I.lset (its':=its++[u]) hH e (by simp) (r.append (.cons ru .nil)) ?_,rfl,q⟩
 rw [List.length_append,List.length_singleton]
 omega
def FU:V->List V->Hp->VK->Prop:=fun x vs H Q=>∃ l b xs zs,x=.ref l/\vs=[.ref b]/\H l=some (.lst xs)/\H b=some (.lst zs)/\xs.length+zs.length<=sizeLine/\Q .non (upd H l (.lst (xs++zs)))
theorem mt_extend:MtM X "list.extend" FU:=by
 intro pins s σ H x vs v us Q I rx rv h
 obtain ⟨l,b,xs,zs,rfl,rfl,hH,hB,hz,q⟩:=h
 cases rx
 obtain ⟨u,rfl,ru⟩:=rv.one
 cases ru
 obtain ⟨z,its,n,r,hl,e⟩:=I.lstM hH
 obtain ⟨z2,its2,n2,r2,hl2,e2⟩:=I.lstM hB
 have hsz:its.toArray.size+its2.toArray.size<=sizeLine:=by rw [List.size_toArray,List.size_toArray];omega
 have hlong:¬ (!its.toArray.isEmpty && Builtin.List.listTooLong (its.toArray.size+its2.toArray.size))=true:=by
  rw [notLongL hsz,Bool.and_false]
  exact Bool.false_ne_true
 refine call_meets F.slot_list_extend ⟨_,e,rfl⟩ F.entry_list_extend (F.args_list_extend_2 _ _)
  (AutoSeq1.list_extend_list_list_0 l its.toArray n b its2.toArray n2 hlong (by rw [List.size_toArray];omega) (by omega)) ⟨e,e2,?_⟩
 refine ⟨.non,_,I.lset (its':=its++its2) hH e (by simp) (r.append r2) ?_,rfl,q⟩
 rw [List.length_append]
 omega
def rPop:V->List V->Hp->VK->Prop:=fun x vs H Q=>∃ l xs y,x=.ref l/\vs=[]/\H l=some (.lst xs)/\xs[xs.length - 1]?=some y/\Q y (upd H l (.lst xs.dropLast))
theorem mt_pop:MtM X "list.pop" rPop:=by
 intro pins s σ H x vs v us Q I rx rv h
 obtain ⟨l,xs,y,rfl,rfl,hH,hy,q⟩:=h
 cases rx
 have hus:=rv.zero
 subst hus
 obtain ⟨z,its,n,r,hl,e⟩:=I.lstM hH
 obtain ⟨u,hu,ru⟩:=r.get hy
 have hy':its.toArray[its.toArray.size - 1]?=some u:=by
  show its.toArray[its.length - 1]?=some u
  rw [<- Array.getElem?_toList,<- hl]
  exact hu
 refine call_meets F.slot_list_pop ⟨_,e,rfl⟩ F.entry_list_pop (F.args_list_pop_1 _) (MeetsSeq.list_pop_last l its.toArray n u hy' (by rw [List.size_toArray];omega)) ⟨e,?_⟩
 refine ⟨y,_,I.lset (its':=its.dropLast) hH e ?_ r.dropLast ?_,ru,q⟩
 ·show its.toArray.eraseIdxIfInBounds (its.toArray.size - 1)=its.dropLast.toArray
  rw [List.size_toArray,List.eraseIdxIfInBounds_toArray,erase_last]
 ·rw [List.length_dropLast]
  omega
def rCat:R2:=fun x y H Q=>∃ l b xs zs,x=.ref l/\y=.ref b/\H l=some (.lst xs)/\H b=some (.lst zs)/\xs.length+zs.length<=sizeLine/\∀ p,H p=none->Q (.ref p) (upd H p (.lst (xs++zs)))
theorem op_cat:OpR X (binaryOp .Add) rCat:=by
 intro pins s σ H x y v u Q I rx ry h
 obtain ⟨l,b,xs,zs,rfl,rfl,hH,hB,hz,q⟩:=h
 cases rx
 cases ry
 obtain ⟨z,its,n,r,hl,e⟩:=I.lstM hH
 obtain ⟨z2,its2,n2,r2,hl2,e2⟩:=I.lstM hB
 refine PySem.P.add_list e e2 ?_ (by rw [List.size_toArray,List.size_toArray];omega)
 have ea:its.toArray++its2.toArray=(its++its2).toArray:=by simp
 rw [ea]
 exact ⟨.ref _,_,I.lnew (t':=s.toks) (r.append r2) (by rw [List.length_append];omega),rfl,q _ I.fresh⟩
end
section
variable {prog:Program} {w:World} {A:Around} {E:Value->Shared->Prop} {s:Shared}
set_option maxRecDepth 100000 in
end
section
variable {X:Cx}
end
end L2
namespace L2
open PySem PySem.Spec PyProof.Rows
section
variable {κ:Type} [DecidableEq κ]
def valV (kvs:List (κ×V)) (k:κ):Option V:=(kvs.find? fun kv=>decide (kv.1=k)).map (·.2)
def putK (kvs:List (κ×V)) (k:κ) (v:V):List (κ×V) :=
 if (kvs.any fun kv=>decide (kv.1=k))=true then kvs.map (fun kv=>if kv.1=k then (kv.1,v) else kv) else kvs++[(k,v)]
theorem Ed {p:κ×V} {r:List (κ×V)} {k:κ} (e:p.1=k):valV (p :: r) k=some p.2:=by simp [valV,List.find?_cons,e]
theorem Ee {p:κ×V} {r:List (κ×V)} {k:κ} (e:¬ p.1=k):valV (p :: r) k=valV r k:=by simp [valV,List.find?_cons,e]
theorem valV_any (k:κ):∀ kvs:List (κ×V),(kvs.any fun kv=>decide (kv.1=k))=(valV kvs k).isSome
 | []=>rfl
 | p :: r=>by
  rw [List.any_cons]
  by_cases e:p.1=k
  ·simp only [Ed e,decide_eq_true e,Bool.true_or,Option.isSome_some]
  ·rw [Ee e,decide_eq_false e,Bool.false_or];exact valV_any k r
theorem EF (kvs:List (κ×V)) (k:κ) (v:V):(putK kvs k v).length<=kvs.length+1:=by
 unfold putK
 split
 ·rw [List.length_map];omega
 ·rw [List.length_append,List.length_cons,List.length_nil];omega
theorem AO.EI {o:Option V} {u:Option Value} (r:AO o u):o.isSome=u.isSome:=by
 cases o with
 | none=>cases u with
  | none=>rfl
  | some _=>exact (show False from r).elim
 | some _=>cases u with
  | none=>exact (show False from r).elim
  | some _=>rfl
theorem AO.getD {o:Option V} {u:Option Value} {d:V} {d':Value} (r:AO o u) (rd:RelV d d'):RelV (o.getD d) (u.getD d'):=by
 cases o with
 | none=>cases u with
  | none=>exact rd
  | some _=>exact (show False from r).elim
 | some _=>cases u with
  | none=>exact (show False from r).elim
  | some _=>exact r
theorem KV.val {kvs:List (κ×V)} {vs:List (κ×Value)} (r:KV kvs vs) (k:κ):AO (valV kvs k) (valueAt vs k):=by
 unfold KV at r
 induction r with
 | nil=>exact True.intro
 | @cons p q ps qs h t ih =>
  obtain ⟨h1,h2⟩:=h
  by_cases e:p.1=k
  ·have e':q.1=k:=h1.symm.trans e
   have b:valueAt (q :: qs) k=some q.2:=by simp [valueAt,List.find?_cons,e']
   rw [Ed e,b];exact h2
  ·have e':¬ q.1=k:=fun z=>e (h1.trans z)
   have b:valueAt (q :: qs) k=valueAt qs k:=by simp [valueAt,List.find?_cons,e']
   rw [Ee e,b];exact ih
theorem KV.any {kvs:List (κ×V)} {vs:List (κ×Value)} (r:KV kvs vs) (k:κ):(kvs.any fun kv=>decide (kv.1=k))=vs.any fun kv=>decide (kv.1=k):=by
 unfold KV at r
 induction r with
 | nil=>rfl
 | cons h t ih=>rw [List.any_cons,List.any_cons,ih,h.1]
theorem KV.repl {kvs:List (κ×V)} {vs:List (κ×Value)} (r:KV kvs vs) (k:κ) {y:V} {u:Value} (ry:RelV y u) :
  KV (kvs.map fun kv=>if kv.1=k then (kv.1,y) else kv) (vs.map fun kv=>if kv.1=k then (kv.1,u) else kv):=by
 unfold KV at r ⊢
 induction r with
 | nil=>exact .nil
 | @cons p q ps qs h t ih =>
  rw [List.map_cons,List.map_cons]
  refine .cons ?_ ih
  obtain ⟨h1,h2⟩:=h
  by_cases e:p.1=k
  ·rw [if_pos e,if_pos (h1.symm.trans e)];exact ⟨h1,ry⟩
  ·rw [if_neg e,if_neg (fun z=>e (h1.trans z))];exact ⟨h1,h2⟩
theorem KV.put {kvs:List (κ×V)} {vs:List (κ×Value)} (r:KV kvs vs) (k:κ) {y:V} {u:Value} (ry:RelV y u):KV (putK kvs k y) (stored vs k u):=by
 unfold putK stored
 rw [r.any k]
 by_cases e:(vs.any fun kv=>decide (kv.1=k))=true
 ·rw [if_pos e,if_pos e];exact r.repl k ry
 ·rw [if_neg e,if_neg e];exact Paired.snoc r ⟨rfl,ry⟩
theorem KV.length {kvs:List (κ×V)} {vs:List (κ×Value)} (r:KV kvs vs):kvs.length=vs.length:=Paired.length r
end
theorem kV_is {P:Program} {w:World} {k:Key} {u:Value} (r:RelV (kV k) u):(AZ P w).is k u=true:=by
 cases k with
 | inl i=>obtain ⟨t,e⟩:=(show ∃ t,u=Value.int i t from r);subst e;exact mixKind_int P w i t
 | inr x=>obtain ⟨t,e⟩:=(show ∃ t,u=Value.str x t from r);subst e;exact mixKind_str P w x t
theorem Hd {P:Program} {w:World}:∀ {ks:List Key} {us:List Value},Vals (ks.map kV) us->ItemsAre (AZ P w) ks us
 | [],_,r=>by rw [List.map_nil] at r;cases r;exact .nil
 | k :: ks,_,r=>by
  rw [List.map_cons] at r
  cases r with
  | cons h t=>exact .cons (kV_is h) (Hd t)
abbrev KT (H:Hp):List (List Key×V)->List (List Key×Addr×Value)->Prop:=Paired fun p q=>p.1=q.1/\H q.2.1=some (.tup (p.1.map kV))/\RelV p.2 q.2.2
theorem KT.val {H:Hp} {kvs:List (List Key×V)} {xs:List (List Key×Addr×Value)} (r:KT H kvs xs) (k:List Key):AO (valV kvs k) ((atKey xs k).map (·.2)):=by
 induction r with
 | nil=>exact True.intro
 | @cons p q ps qs h t ih =>
  obtain ⟨h1,_,h2⟩:=h
  by_cases e:p.1=k
  ·have e':q.1=k:=h1.symm.trans e
   have b:atKey (q :: qs) k=some q.2:=by simp [atKey,List.find?_cons,e']
   rw [Ed e,b];exact h2
  ·have e':¬ q.1=k:=fun z=>e (h1.trans z)
   have b:atKey (q :: qs) k=atKey qs k:=by simp [atKey,List.find?_cons,e']
   rw [Ee e,b];exact ih
theorem KT.repl {H:Hp} {kvs:List (List Key×V)} {xs:List (List Key×Addr×Value)} (r:KT H kvs xs) (k:List Key) {y:V} {u:Value} (ry:RelV y u) :
  KT H (kvs.map fun kv=>if kv.1=k then (kv.1,y) else kv) (xs.map (putAt k u)):=by
 induction r with
 | nil=>exact .nil
 | @cons p q ps qs h t ih =>
  rw [List.map_cons,List.map_cons]
  refine .cons ?_ ih
  obtain ⟨h1,h2,h3⟩:=h
  unfold putAt
  by_cases e:p.1=k
  ·rw [if_pos e,if_pos (h1.symm.trans e)];exact ⟨h1,h2,ry⟩
  ·rw [if_neg e,if_neg (fun z=>e (h1.trans z))];exact ⟨h1,h2,h3⟩
theorem KT.put {H:Hp} {kvs:List (List Key×V)} {xs:List (List Key×Addr×Value)} (r:KT H kvs xs) (k:List Key) {b:Addr} {y:V} {u:Value} (hb:H b=some (.tup (k.map kV))) (ry:RelV y u) :
  KT H (putK kvs k y) (storedH xs k b u):=by
 have e:(kvs.any fun kv=>decide (kv.1=k))=(atKey xs k).isSome:=by
  rw [valV_any,(r.val k).EI,Option.isSome_map]
 unfold putK storedH
 rw [e]
 by_cases q:(atKey xs k).isSome=true
 ·rw [if_pos q,if_pos q];exact r.repl k ry
 ·rw [if_neg q,if_neg q];exact Paired.snoc r ⟨rfl,hb,ry⟩
theorem KT.keeps {H H':Hp} {kvs:List (List Key×V)} {xs:List (List Key×Addr×Value)} (r:KT H kvs xs) (ht:∀ b ys,H b=some (.tup ys)->H' b=some (.tup ys)):KT H' kvs xs :=
 Paired.mapP r fun _ _ z=>⟨z.1,ht _ _ z.2.1,z.2.2⟩
section
variable {P:Program} {w:World} {H:Hp} {h:Heap} {a:Addr}
theorem rd_of {u:HO} (ok:HOk P w H h) (e:Rd H a u):Bu P w H h a u:=e.ok ok
theorem EX {kvs:List (Key×V)} (ok:HOk P w H h) (e:Rd H a (.dK kvs)):kvs.length<=sizeLine/\(a == sysModules)=false/\∃ vs,KV kvs vs/\h.DictOf (AZ P w) a vs :=
 show Bu P w H h a (.dK kvs) from rd_of ok e
theorem dk_of {kvs:List (Key×V)} (ok:HOk P w H h) (e:H a=some (.dK kvs)):kvs.length<=sizeLine/\(a == sysModules)=false/\∃ vs,KV kvs vs/\h.DictOf (AZ P w) a vs:=EX ok (.inl e)
theorem Hb {ks:List Key} (ok:HOk P w H h) (e:H a=some (.tup (ks.map kV))):(tupleKind (AZ P w)).is h ks a:=by
 obtain ⟨_,its,r,o,h1,h2,n,h3⟩:=(show Bu P w H h a (.tup (ks.map kV)) from ok a _ e)
 exact ⟨o,its.toArray,n,h1,h2,h3,by simpa using Hd r⟩
theorem dt_rd {kvs:List (List Key×V)} (ok:HOk P w H h) (e:Rd H a (.dT kvs)):kvs.length<=sizeLine/\(a == sysModules)=false /\
  ∃ xs,KT H kvs xs/\h.DictOfH (tupleKind (AZ P w)) a xs:=by
 obtain ⟨z,y,xs,r,o,es,ep,h1,h2,h3,h4,h5⟩:=(show Bu P w H h a (.dT kvs) from rd_of ok e)
 refine ⟨z,y,xs,r,o,es,ep,h1,h2,h3,h4,fun x hx=>?_,h5⟩
 have all:∀ {l:List (List Key×V)} {m:List (List Key×Addr×Value)},KT H l m->∀ x∈m,(tupleKind (AZ P w)).is h x.1 x.2.1:=by
  intro l m q
  induction q with
  | nil=>intro x hx;exact nomatch hx
  | @cons p q ps qs hq t ih =>
   intro x hx
   rcases List.mem_cons.mp hx with e | hx
   ·subst e
    exact Hb ok (by rw [<- hq.1];exact hq.2.1)
   ·exact ih x hx
 exact all r x hx
theorem dt_of {kvs:List (List Key×V)} (ok:HOk P w H h) (e:H a=some (.dT kvs)):kvs.length<=sizeLine/\(a == sysModules)=false /\
  ∃ xs,KT H kvs xs/\h.DictOfH (tupleKind (AZ P w)) a xs:=dt_rd ok (.inl e)
end
def DGet (H:Hp) (a:Addr) (y:V) (r:Option V):Prop :=
 (∃ kvs k,Rd H a (.dK kvs)/\y=kV k/\r=valV kvs k)∨∃ kvs k b,Rd H a (.dT kvs)/\y=.ref b/\H b=some (.tup (k.map kV))/\r=valV kvs k
def DPut (H:Hp) (a:Addr) (y v:V) (H':Hp):Prop :=
 (∃ kvs k,H a=some (.dK kvs)/\y=kV k/\kvs.length < sizeLine/\H'=upd H a (.dK (putK kvs k v))) ∨
 ∃ kvs k b,H a=some (.dT kvs)/\y=.ref b/\H b=some (.tup (k.map kV))/\kvs.length < sizeLine/\H'=upd H a (.dT (putK kvs k v))
theorem DGet.t {H:Hp} {a b:Addr} {kvs:List (List Key×V)} {k:List Key} (e:H a=some (.dT kvs)) (eb:H b=some (.tup (k.map kV))):DGet H a (.ref b) (valV kvs k):=.inr ⟨kvs,k,b,.inl e,rfl,eb,rfl⟩
theorem DPut.k {H:Hp} {a:Addr} {kvs:List (Key×V)} {k:Key} {v:V} (e:H a=some (.dK kvs)) (hl:kvs.length < sizeLine):DPut H a (kV k) v (upd H a (.dK (putK kvs k v))):=.inl ⟨kvs,k,e,rfl,hl,rfl⟩
theorem DPut.t {H:Hp} {a b:Addr} {kvs:List (List Key×V)} {k:List Key} {v:V} (e:H a=some (.dT kvs)) (eb:H b=some (.tup (k.map kV))) (hl:kvs.length < sizeLine) :
  DPut H a (.ref b) v (upd H a (.dT (putK kvs k v))):=.inr ⟨kvs,k,b,e,rfl,eb,hl,rfl⟩
section
variable {X:Cx} {pins:List (Addr×Obj)} {σ:St} {H:Hp} {s:Shared} {a:Addr} {y v:V} {u r:Value} {o:Option V} {A:Around} {E:Value->Shared->Prop}
theorem Inv.big (I:Inv X pins σ H s):sysModules < s.heap.objs.size:=by
 have h:mainGlobals < s.heap.objs.size:=(I.mod.glob.keeps I.bk).lt
 exact Nat.lt_trans (by decide) h
theorem d_getItem {Q:Value->Shared->Prop} (hu:A.units+1 < cLine) (I:Inv X pins σ H s) (g:DGet H a y (some v)) (ry:RelV y u) (h:∀ w' s',Inv X pins σ H s'->RelV v w'->Q w' s') :
  wpAny (model X.prog X.w) A (getItem (.ref a) u) Q E s:=by
 rcases g with ⟨kvs,k,e,ey,l⟩ | ⟨kvs,k,b,e,ey,eb,l⟩
 ·subst ey
  obtain ⟨z,hd,vs,rel,dd⟩:=EX I.hok e
  obtain ⟨w',hw,rw'⟩:=AO.some_of (v:=v) (o:=valueAt vs k) (by rw [l];exact rel.val k)
  exact wpAny_getItem_of (kV_is ry) dd.mapOf hw (h w' _ (I.tok _) rw')
 ·subst ey
  cases (show u=Value.ref b from ry)
  obtain ⟨z,hd,xs,rel,dd⟩:=dt_rd I.hok e
  obtain ⟨w',hw,rw'⟩:=AO.some_of (v:=v) (o:=(atKey xs k).map (·.2)) (by rw [l];exact rel.val k)
  obtain ⟨p,hp,hp2⟩:=Option.map_eq_some_iff.mp hw
  refine wpAny_getItem_heap (tupleKind_room_in1 hu) (Hb I.hok eb) dd hp ?_
  rw [hp2]
  exact h w' _ (I.tok _) rw'
theorem d_notIn {Q:Value->Shared->Prop} (hu:A.units+1 < cLine) (I:Inv X pins σ H s) (g:DGet H a y o) (ry:RelV y u) (h:∀ s',Inv X pins σ H s'->Q (.bool (!o.isSome)) s') :
  wpAny (model X.prog X.w) A (compareOp .NotIn u (.ref a)) Q E s:=by
 rcases g with ⟨kvs,k,e,ey,l⟩ | ⟨kvs,k,b,e,ey,eb,l⟩
 ·subst ey
  obtain ⟨z,hd,vs,rel,dd⟩:=EX I.hok e
  refine wpAny_notIn_of (kV_is ry) hd dd.mapOf ?_
  rw [<- (rel.val k).EI,<- l]
  exact h _ (I.tok _)
 ·subst ey
  cases (show u=Value.ref b from ry)
  obtain ⟨z,hd,xs,rel,dd⟩:=dt_rd I.hok e
  refine wpAny_notIn_heap (tupleKind_room_in1 hu) (Hb I.hok eb) hd dd ?_
  have q:=(rel.val k).EI
  rw [Option.isSome_map] at q
  rw [<- q,<- l]
  exact h _ (I.tok _)
theorem d_write {h':Heap} {t':Nat} {ob:HO} (I:Inv X pins σ H s) (mu:Mut (H a)) (hs:Heap.SameBut a s.heap h') (he:∃ q,h'.get? a=some q) (new:Bu X.prog X.w (upd H a ob) h' a ob) :
  Inv X pins σ (upd H a ob) { s with heap:=h',toks:=t' } :=
 I.write (x:=a) (e:=a) mu (.inl rfl) (fun b q hb z=>(hs.2 b hb).trans z) he new
theorem dk_new {P:Program} {w:World} {H':Hp} {h':Heap} {kvs:List (Key×V)} {vs:List (Key×Value)} (z:kvs.length<=sizeLine) (hd:(a == sysModules)=false) (rel:KV kvs vs) (dd:h'.DictOf (AZ P w) a vs) :
  Bu P w H' h' a (.dK kvs):=⟨z,hd,vs,rel,dd⟩
theorem d_setItem {H':Hp} {Q:Unit->Shared->Prop} (hu:A.units+1 < cLine) (I:Inv X pins σ H s) (g:DPut H a y v H') (ry:RelV y u) (rv:RelV v r) (h:∀ s',Inv X pins σ H' s'->Q () s') :
  wpAny (model X.prog X.w) A (setItem (.ref a) u r) Q E s:=by
 rcases g with ⟨kvs,k,e,ey,l,eH⟩ | ⟨kvs,k,b,e,ey,eb,l,eH⟩
 ·subst ey eH
  obtain ⟨z,hd,vs,rel,dd⟩:=dk_of I.hok e
  have hz:vs.length<=sizeLine:=by rw [<- rel.length];exact z
  have hl:(putK kvs k v).length<=sizeLine:=by have:=EF kvs k v;omega
  refine wpAny_setItem_pairs (hsz:=hz) (kV_is ry) dd fun h' dd' hs=>h _ ?_
  have he:∃ q,h'.get? a=some q:=let ⟨q,_,_,hq,_⟩:=dd';⟨q,hq⟩
  exact d_write I (by rw [e];exact True.intro) hs he (dk_new hl hd (rel.put k rv) dd')
 ·subst ey eH
  cases (show u=Value.ref b from ry)
  obtain ⟨z,hd,xs,rel,dd⟩:=dt_of I.hok e
  have hz:xs.length<=sizeLine:=by rw [<- Paired.length rel];exact z
  have hl:(putK kvs k v).length<=sizeLine:=by have:=EF kvs k v;omega
  refine wpAny_setItem_heap (hsz:=hz) (tupleKind_room_in1 hu) (Hb I.hok eb) dd fun h' dd' hs=>h _ ?_
  obtain ⟨q,es,ep,hq,h2,h3,h4,_,h5⟩:=dd'
  refine d_write I (by rw [e];exact True.intro) hs ⟨q,hq⟩ ⟨hl,hd,_,(rel.put k eb rv).keeps fun c ys ec=>?_,q,es,ep,hq,h2,h3,h4,h5⟩
  rw [Ap (ne_of ec e (fun z=>nomatch z))]
  exact ec
end
section
variable {X:Cx} {pins:List (Addr×Obj)} {σ:St} {H:Hp} {s:Shared} {a:Addr} {kvs:List (Key×V)} {k:Key} {u:Value} {A:Around} {E:Value->Shared->Prop}
theorem d_len {Q:Value->Shared->Prop} (I:Inv X pins σ H s) (e:Rd H a (.dK kvs)) (h:∀ t s',Inv X pins σ H s'->Q (.int kvs.length t) s'):wpAny (model X.prog X.w) A (call (.builtin "len") [.ref a]) Q E s:=by
 obtain ⟨z,hd,vs,rel,dd⟩:=EX I.hok e
 refine call_len_dict hd dd (by rw [<- rel.length];rw [sizeLine_eq] at z;omega) ?_
 rw [<- rel.length]
 exact h _ _ (I.tok _)
end
theorem dict_typeIs {X:Cx} {pins:List (Addr×Obj)} {σ:St} {H:Hp} {s:Shared} {a:Addr} {y:V} {o:Option V} (I:Inv X pins σ H s) (g:DGet H a y o):s.TypeIs (.ref a) "dict":=by
 rcases g with ⟨kvs,k,e,_,_⟩ | ⟨kvs,k,b,e,_,_,_⟩
 ·obtain ⟨_,_,vs,_,dd⟩:=EX I.hok e
  exact dd.typeIs
 ·obtain ⟨_,_,xs,_,dd⟩:=dt_rd I.hok e
  exact dd.typeIs
section
variable {X:Cx} {o i e value:Expr} {pos pos' tpos:Pos} {td ty tv:TE}
end
theorem dk_empty {P:Program} {w:World} {H:Hp} (h:Heap) (hb:sysModules < h.objs.size):Bu P w H (h.push { cls:=.type "dict",data:=.dict #[] }) h.objs.size (.dK []) :=
 ⟨Nat.zero_le _,beq_eq_false_iff_ne.mpr (Ne.symm (Nat.ne_of_lt hb)),[],.nil,Heap.DictOf.new h⟩
def tDNewK:TE:=fun _ H Q=>∀ p,H p=none->Q (.ref p) (upd H p (.dK []))
section
variable {X:Cx} {pos:Pos}
theorem pe_dnewK:PE X (.Dict [] [] pos) tDNewK:=fun pins s σ H Q I h =>
 wpAny_Dict_empty ⟨.ref s.heap.objs.size,_,I.laid (a:=s.heap.objs.size) (o:=.dK []) (t':=s.toks) (fun _ _ q=>Heap.get?_push_of_some _ q) (Nat.le_refl _) (dk_empty s.heap I.big),rfl,h _ (I.hok.fresh (Nat.le_refl _))⟩
end
structure M2 (X:Cx) (o:Expr) (m:Str) (apos:Pos) (e f:Expr) (cpos:Pos):Prop where
 base:attributeBase o m X.env (eval o X.env)=eval o X.env
 few:((backTo cpos (starEach [e,f] X.env)).all (fun x=>!x.1) && (backToKw cpos (keywordEach [] X.env)).all (fun x=>x.1.isSome)
  && decide (([e,f]:List Expr).length+([]:List Keyword).length+(if ([]:List Keyword).isEmpty then 0 else 1) < 30))=true
 line:(apos.endLine == cpos.line)=true
 trees:backTo cpos (starEach [e,f] X.env)=[(false,eval e X.env),(false,eval f X.env)]
def IsD (H:Hp) (a:Addr):Prop:=(∃ kvs,Rd H a (.dK kvs))∨∃ kvs,Rd H a (.dT kvs)
theorem isD_at {X:Cx} {pins:List (Addr×Obj)} {σ:St} {H:Hp} {s:Shared} {a:Addr} (I:Inv X pins σ H s) (d:IsD H a) :
  s.TypeIs (.ref a) "dict"/\(∀ b,Value.ref a=.ref b->∃ ob,s.heap.get? b=some ob/\ob.dict=none)/\(a == sysModules)=false:=by
 rcases d with ⟨kvs,e⟩ | ⟨kvs,e⟩
 ·obtain ⟨_,hd,vs,_,dd⟩:=EX I.hok e
  refine ⟨dd.typeIs,fun b q=>?_,hd⟩
  cases q
  obtain ⟨ob,_,_,h1,h2,_⟩:=dd
  exact ⟨ob,h1,h2.2.1⟩
 ·obtain ⟨_,hd,xs,_,dd⟩:=dt_rd I.hok e
  refine ⟨dd.typeIs,fun b q=>?_,hd⟩
  cases q
  obtain ⟨ob,_,_,h1,h2,_⟩:=dd
  exact ⟨ob,h1,h2.2.1⟩
section
variable {X:Cx} {pins:List (Addr×Obj)} {σ:St} {H:Hp} {s:Shared} {a:Addr} {y d:V} {u r:Value} {o:Option V} {A:Around} {E:Value->Shared->Prop}
theorem d_get2 {Q:Value->Shared->Prop} (hu:A.units+1 < cLine) (I:Inv X pins σ H s) (g:DGet H a y o) (ry:RelV y u) (rd:RelV d r) (h:∀ w' s',Inv X pins σ H s'->RelV (o.getD d) w'->Q w' s') :
  wpAny (model X.prog X.w) A (call (.builtin "dict.get") [.ref a,u,r]) Q E s:=by
 rcases g with ⟨kvs,k,e,ey,l⟩ | ⟨kvs,k,b,e,ey,eb,l⟩
 ·subst ey
  obtain ⟨z,hd,vs,rel,dd⟩:=EX I.hok e
  refine call_meetsIn PySem.F.slot_dict_get dd.typeIs PySem.F.entry_dict_get (PySem.F.args_dict_get_3 _ _ _) (meets_dict_get_default (AZ X.prog X.w) a (kV_is ry) hd r) ⟨_,dd.mapOf,h _ _ (I.tok _) ?_⟩
  rw [l]
  exact (rel.val k).getD rd
 ·subst ey
  cases (show u=Value.ref b from ry)
  obtain ⟨z,hd,xs,rel,dd⟩:=dt_rd I.hok e
  refine call_meetsIn PySem.F.slot_dict_get dd.typeIs PySem.F.entry_dict_get (PySem.F.args_dict_get_3 _ _ _) (meetsH_dict_get_default (tupleKind (AZ X.prog X.w)) a b hd r) ⟨tupleKind_room_in1 hu,k,xs,Hb I.hok eb,dd,h _ _ (I.tok _) ?_⟩
  rw [l]
  exact (rel.val k).getD rd
end
def tDGet2 (td ty tx:TE):TE:=fun σ H Q=>td σ H fun x H1=>∃ a,x=.ref a/\IsD H1 a/\ty σ H1 fun y H2=>tx σ H2 fun z H3=>∃ o,DGet H3 a y o/\Q (o.getD z) H3
section
variable {X:Cx} {o e f:Expr} {apos cpos:Pos} {td ty tx:TE}
theorem pe_dget2 (hu:X.A.units+1 < cLine) (ho:PE X o td) (he:PE X e ty) (hf:PE X f tx) (m:M2 X o "get" apos e f cpos):PE X (.Call (.Attribute o "get" apos) [e,f] [] cpos) (tDGet2 td ty tx):=by
 intro pins s σ H Q I h
 refine wpAny_Call_method m.base m.few m.line PySem.F.plainAttrs_dict PySem.F.slot_dict_get PySem.F.type_dict_get (thn (ho pins s σ H _ I h) fun u s1 ⟨x,H1,I1,rx,a,ex,d,q1⟩=>?_)
 subst ex
 obtain rfl:u=Value.ref a:=rx
 obtain ⟨t1,t2,_⟩:=isD_at I1 d
 refine ⟨t1,t2,?_⟩
 rw [m.trees]
 refine Calls.callWith_builtin rfl (Calls.evalArgs_plain (Calls.spliced_cons (thn (he pins s1 σ H1 _ I1 q1) fun iv s2 ⟨y,H2,I2,ry,q2⟩ =>
  Calls.spliced_cons (thn (hf pins s2 σ H2 _ I2 q2) fun fv s3 ⟨z,H3,I3,rz,ov,g,q3⟩=>Calls.spliced_nil ?_))))
 exact d_get2 hu I3 g ry rz fun w' s4 I4 rw'=>⟨_,H3,I4,rw',q3⟩
end
section
variable {X:Cx} {pins:List (Addr×Obj)} {σ:St} {H:Hp} {s:Shared} {a:Addr} {kvs:List (Key×V)} {A:Around} {E:Value->Shared->Prop}
theorem d_copyOf {Q:Value->Shared->Prop} (I:Inv X pins σ H s) (e:Rd H a (.dK kvs)) (h:∀ p s',H p=none->Inv X pins σ (upd H p (.dK kvs)) s'->Q (.ref p) s'):wpAny (model X.prog X.w) A (call (.type "dict") [.ref a]) Q E s:=by
 obtain ⟨z,hd,vs,rel,dd⟩:=EX I.hok e
 refine kt_call_dict hd dd (by rw [<- rel.length];exact z) fun h' dd' hs=>?_
 refine h _ _ (I.hok.fresh (Nat.le_refl _)) (I.laid (a:=s.heap.objs.size) (o:=.dK kvs) (t':=s.toks) (fun b q hq=>?_) (Nat.le_refl _) (dk_new z (beq_eq_false_iff_ne.mpr (Ne.symm (Nat.ne_of_lt I.big))) rel dd'))
 exact (hs.2 b (Nat.ne_of_lt (Heap.lt_size hq))).trans (Heap.get?_push_of_some _ hq)
end
section
variable {X:Cx} {pins:List (Addr×Obj)} {σ:St} {H:Hp} {s:Shared} {a:Addr} {y:V} {u:Value} {A:Around} {E:Value->Shared->Prop}
end
end L2
namespace Att
open PySem PySem.W PySem.Calls PyProof.Rows
theorem EJ {P:Params} {h:Heap}:∀ (ns:List Int) (vs:List Value),WellAll P h vs (ns.map WData.int)->IntsAre vs ns:=by
 intro ns
 induction ns with
 | nil =>
  intro vs w
  rw [List.map_nil] at w
  cases w
  exact .nil
 | cons n ns ih =>
  intro vs w
  rw [List.map_cons] at w
  cases w with
  | cons a b =>
   cases a
   exact .cons _ _ (ih _ b)
theorem script_of {l:OpenLaw} {n:Nat} (hn:l.most=some n) {P:Params} {h:Heap} {args:List WData} {vals:List Value}
  (hpre:l.row.toRowW.claim.pre args=true) (hwl:WellAll P h vals args) :
  ∃ a vs ns,vals=[Value.ref a]/\args=[WData.list (ns.map WData.int)]/\h.get? a=some { cls:=.type "list",data:=.seq vs.toArray }/\IntsAre vs ns/\ns.length<=n:=by
 have hsh:WShape.hasAll [] args [.list .int]=true:=(pre_splitW hpre).1
 have hc:l.pre.holds [] { args:=args }=true:=(pre_splitW hpre).2
 obtain ⟨d,r,rfl,h1,h2⟩:=hasAllW_cons hsh
 obtain rfl:=hasAllW_nil h2
 obtain ⟨xs,rfl,h3⟩:=hasW_list h1
 obtain ⟨ns,rfl⟩:=items_int h3
 have hlen:ns.length<=n:=by
  unfold OpenLaw.pre at hc
  have h4:(WTm.not (.lt (.lit (.int (n:Int))) (.len (.arg 0)))).holds [] { args:=[.list (ns.map .int)] }=true:=by
   have h4:=(holds_andW hc).1
   rw [hn] at h4
   exact h4
  have h5:=condW_of h4 (w_not (w_lt w_lit (w_len_list (w_arg rfl))))
  rw [List.length_map] at h5
  refine Nat.le_of_not_lt fun q=>?_
  have q':(n:Int) < ((ns.length:Nat):Int):=by omega
  first
   | (rw [decide_eq_true q'] at h5;exact absurd h5 (by decide))
   | (simp at h5;omega)
 cases hwl with
 | cons w1 w2 =>
  cases w2
  cases w1 with
  | list ho hall=>exact ⟨_,_,ns,rfl,rfl,ho,EJ ns _ hall,hlen⟩
theorem post_true (l:OpenLaw) (args:List WData):l.row.toRowW.claim.post args (.bool true) args=true :=
 postW_of (r:=l.row.toRowW) (X:=(true == true))
  (show WShape.has [] (.bool true) .bool=true by first | rfl | decide | simp [WShape.has,WShape.arms,WShape.armsAll])
  (show (WTm.eq .res (.lit (.bool true))).value [] { args:=args,res:=some (.bool true),after:=args }=some (.bool (true == true)) from w_eq_bool (w_res rfl) w_lit) rfl
section
variable {prog:Program} {w:World} {A:Around} {E:Value->Shared->Prop} {s:Shared} {K:Frag}
end
end Att
namespace L2
open PySem PySem.Spec PyProof.Rows
theorem Gy:∀ {vs:List Value} {ns:List Int},IntsAre vs ns->Vals (ns.map V.int) vs
 | _,_,.nil=>.nil
 | _,_,.cons n t h=>.cons ⟨t,rfl⟩ (Gy h)
def Only (H:Hp):Prop:=∀ b,H b=none∨∃ o xs,H b=some (.frz o (.lst xs))
theorem law_call {P:Program} {w:World} {K:PySem.W.Frag} {mg mb:Str->Option Value} {CX:CXT} {k:Nat} {fa a:Addr} {fd:FuncData} {x:Str} {sp:Sp} {s₁:Shared} {vs:List Value} {ns:List Int}
  (KX:K.In s₁.heap) (hns:s₁.heap.Ns mainGlobals mg) (hb:s₁.heap.Ns builtinsNs mb) (hbb:∀ x:Str,x≠"__name__"->mb x=bootBuiltins x) (hlim:s₁.heap.NoLimit) (hg:s₁.gens=#[])
  (ha:s₁.heap.get? a=some { cls:=.type "list",data:=.seq vs.toArray }) (hi:IntsAre vs ns) (hl:ns.length<=sizeLine) (hr:E8 k callerA)
  (F:∀ base:Heap,K.In base->base.Ns mainGlobals mg->Dh P w K mg base CX k fa fd [x] sp) (hbind:∀ (s:Shared) (u:Value),BindsTo s fd ⟨[u],[]⟩ [(x,u)])
  (hsp:∀ H:Hp,Only H->SqL K H a (ns.map V.int)->sp [.ref a] H (fun v _=>v=.bl true) fun _ _ _=>False)
  (hCX:∀ H e s',CX [] H s₁ (fun _ _ _=>False) e s'->False) :
  codeAny (model P w) callerA (.call (.ref fa) ⟨[.ref a],[]⟩) (fun r s'=>r=.ok (.ret (.bool true))/\OldK s₁.heap s'.heap/\s'.os=s₁.os/\AllBare s'.gens) s₁:=by
 have rv:=Gy hi
 have lenV:=hi.length
 have core:∀ H:Hp,Only H->SqL K H a (ns.map V.int)->HOk P w H s₁.heap->(∀ b,H b≠none->b=a)->(H a≠none->K.lookup a=none) ->
   codeAny (model P w) callerA (.call (.ref fa) ⟨[.ref a],[]⟩) (fun r s'=>r=.ok (.ret (.bool true))/\OldK s₁.heap s'.heap/\s'.os=s₁.os/\AllBare s'.gens) s₁:=by
  intro H hO hS hok hA hK
  have base_of:∀ {b:Addr} {o:Obj},s₁.heap.get? b=some o->H b=none->(hidT s₁.heap H).get? b=some o:=fun e n=>hidT_get e n
  have noA:∀ {b:Addr} {o:Obj} {es:Array DictEntry} {ep:Nat},s₁.heap.get? b=some o->o.data=.dict es ep->H b=none:=fun {b o es ep} e d=>by
   cases q:H b with
   | none=>rfl
   | some u =>
    have e':b=a:=hA b (by rw [q];simp)
    subst e'
    rw [ha] at e;cases e
    have d':Data.seq vs.toArray _=Data.dict es ep:=d
    cases d'
  have nsK:∀ {b:Addr} {m:Str->Option Value},s₁.heap.Ns b m->(hidT s₁.heap H).Ns b m:=fun {b m} ⟨o,es,ep,e,d,r⟩=>⟨o,es,ep,base_of e (noA e d),d,r⟩
  have hKb:K.In (hidT s₁.heap H):=fun b o e=>base_of (KX b o e) (by
   cases q:H b with
   | none=>rfl
   | some u =>
    have e':b=a:=hA b (by rw [q];simp)
    subst e'
    rw [hK (by rw [q];simp)] at e;cases e)
  have hM:Mod K mg (hidT s₁.heap H):=⟨hKb,nsK hns,⟨mb,nsK hb,hbb⟩,let ⟨mc,h1,h2⟩:=hlim;⟨mc,nsK h1,h2⟩⟩
  have e0:Env0 P w K mg (hidT s₁.heap H) callerA [] s₁ H:=⟨rfl,hM,fun b o e=>of_hidT e,Nat.le_of_eq (hidT_size _ _),trivial,fun b hb=>absurd (show b∈([]:List Addr) from hb) (by simp),hok,.of_eq hg⟩
  refine codeAny_mono ((F _ hKb (nsK hns)).run callerA [] s₁ H ⟨[.ref a],[]⟩ [.ref a] [.ref a] _ _ hr e0 (hbind s₁ (.ref a)) (.cons rfl .nil) (hsp H hO hS)) fun r s' h=>?_
  cases r with
  | error e=>exact (hCX H e s' h).elim
  | ok fl =>
   cases fl with
   | next=>exact False.elim h
   | brk=>exact False.elim h
   | cont=>exact False.elim h
   | ret u =>
    obtain ⟨v,H',os,bare,un,hok',r',q⟩:=h
    have q':v=.bl true:=q
    subst q'
    obtain rfl:u=Value.bool true:=r'
    refine ⟨rfl,OldK.of_keep fun b o e=>?_,os,bare⟩
    cases q:H b with
    | none=>exact un.keep b o e q (by intro z;exact absurd (show b∈([]:List Addr) from z) (by simp)) (by simp)
    | some u =>
     rcases hO b with z | ⟨ob,xs,z⟩
     ·rw [q] at z;cases z
     ·have z2:=un.frzs b ob _ z
      obtain ⟨e1,_⟩:=hok b _ z
      obtain ⟨e2,_⟩:=hok' b _ z2
      rw [e] at e1;cases e1
      exact e2
 cases hk:K.lookup a with
 | some o =>
  have e:=KX a o hk
  rw [ha] at e
  cases e
  refine core (fun _=>none) (fun _=>.inl rfl) (.inr ⟨_,vs.toArray,_,hk,rfl,rfl,rfl,by rw [List.size_toArray,lenV];exact hl,by simpa using rv⟩) (fun b u z=>by have z':(none:Option HO)=some u:=z;cases z') (fun b z=>absurd rfl z) fun z=>absurd rfl z
 | none =>
  refine core (fun b=>if b=a then some (.frz { cls:=.type "list",data:=.seq vs.toArray } (.lst (ns.map V.int))) else none) (fun b=>?_) (.inl (.inr ⟨{ cls:=.type "list",data:=.seq vs.toArray },if_pos rfl⟩)) (fun b u z=>?_) (fun b z=>?_) fun _=>hk
  ·by_cases hb:b=a
   ·exact .inr ⟨_,_,if_pos hb⟩
   ·exact .inl (if_neg hb)
  ·by_cases hb:b=a
   ·have z':=(if_pos hb).symm.trans z
    cases z'
    subst hb
    exact ⟨ha,by rw [List.length_map];exact hl,vs,_,rv,ha⟩
   ·have z':=(if_neg hb).symm.trans z
    cases z'
  ·by_cases hb:b=a
   ·exact hb
   ·exact absurd (if_neg hb) z
end L2
namespace L2
open PySem PySem.Spec PyProof.Rows
end L2
namespace L2
open PySem PySem.Spec PyProof.Rows
def Bd (s:Stmt):Arguments:=match s with
 | .FunctionDef _ a _ _ _ _ _ _ _ _=>a
 | _=>{ posonlyargs:=[],args:=[],vararg:=none,kwonlyargs:=[],kw_defaults:=[],kwarg:=none,defaults:=[] }
def A1 (s:Stmt):List Stmt:=match s with
 | .FunctionDef _ _ b _ _ _ _ _ _ _=>b
 | _=>[]
def Aq (s:Stmt):Scope:=match s with
 | .FunctionDef _ _ _ _ _ _ sc _ _ _=>sc
 | _=>{ kind:=.function,names:=[],isGenerator:=false,isCoroutine:=false }
abbrev CX0:CXT:=fun _ _ _ _ _ _=>False
abbrev E0:XK:=fun _ _ _=>False
theorem pass0 {X:Cx}:Passes CX0 X E0:=fun _ _ _ _ _ _ _ h=>h.elim
structure Fun (K:PySem.W.Frag) (x qual:Str) (st:Stmt) (f:Addr) (fd:FuncData):Prop where
 ex:∃ (oc:Value) (od:Option Addr) (kV doc pm:Value) (an:Option Addr) (cdv ct:Value) (osl:Array (Option Value)),
  fd=PySem.W.fnOf x qual (Bd st) (A1 st) (Aq st) .none kV doc pm an cdv ct/\K.lookup f=some ⟨oc,od,.func fd,osl⟩/\PySem.W.codeIn K cdv qual=true
 kp:PySem.W.keepIn K (.ref f)=true
section
variable {P:Program} {w:World} {K:PySem.W.Frag} {mg:Str->Option Value} {base:Heap}
theorem Fun.ok {x qual:Str} {st:Stmt} {f:Addr} {fd:FuncData} {N ps:List Str} {k:Nat} {sp:Sp} (F:Fun K x qual st f fd) (S:Bh N ps (Aq st)) (len:∀ vs H Q E,sp vs H Q E->vs.length=ps.length)
  (hbody:∀ (cdv:Value) (A:Around) (outer:List Env) (s:Shared) (H:Hp) (vs:List V) (Q:VK) (E:XK),E8 k (A.deeper (envOfC qual (Aq st) s.heap.objs.size f cdv))->sp vs H Q E ->
   ∃ t,PSs (cxOf CX0 P w K mg base N qual (Aq st) f cdv A outer s H E).nox (A1 st) t/\t { nx:=fun _ H'=>Q .non H',rt:=Q } (start N vs) H):Dh P w K mg base CX0 (k+1) f fd ps sp:=by
 obtain ⟨oc,od,kV,doc,pm,an,cdv,ct,osl,rfl,lk,hcd⟩:=F.ex
 refine fn_of lk hcd S len fun A outer s H vs Q E hr hsp=>?_
 obtain ⟨t,h,q⟩:=hbody cdv A outer s H vs Q E hr hsp
 exact ⟨t,h.nox,q⟩
theorem Fun.binds {x qual:Str} {st:Stmt} {f:Addr} {fd:FuncData} {ps:List Str} (F:Fun K x qual st f fd)
  (h:∀ (kV doc pm:Value) (an:Option Addr) (cdv ct:Value) (us:List Value),us.length=ps.length->bindArgs (PySem.W.fnOf x qual (Bd st) (A1 st) (Aq st) .none kV doc pm an cdv ct) ⟨us,[]⟩=pure (ps.zip us)):Binds K fd ps []:=by
 obtain ⟨oc,od,kV,doc,pm,an,cdv,ct,osl,rfl,lk,hcd⟩:=F.ex
 exact .all (h kV doc pm an cdv ct)
theorem CF {x qual:Str} {st:Stmt} {f:Addr} {oc:Value} {od an:Option Addr} {osl:Array (Option Value)} {kV doc pm cdv ct:Value} (l:K.lookup f=some ⟨oc,od,.func (PySem.W.fnOf x qual (Bd st) (A1 st) (Aq st) .none kV doc pm an cdv ct),osl⟩)
  (c:PySem.W.codeIn K cdv qual=true) (k:PySem.W.keepIn K (.ref f)=true):Fun K x qual st f (PySem.W.fnOf x qual (Bd st) (A1 st) (Aq st) .none kV doc pm an cdv ct):=⟨⟨oc,od,kV,doc,pm,an,cdv,ct,osl,rfl,l,c⟩,k⟩
end
theorem Ea {A:Around} {k:Nat} (hr:E8 k A):A.units+1 < cLine:=Nat.lt_of_le_of_lt (Nat.add_le_add_left (by decide:1<=64) _) hr.units
section
variable {X:Cx}
theorem pv (i:Nat) {x:Str} {pos:Pos} (hN:X.N[i]?=some x:=by rfl) (hv:Vis X.env.scope x:=by first | exact Or.inl rfl | exact Or.inr (Or.inl rfl) | exact Or.inr (Or.inr rfl)) (hd:(x == ("__debug__":Str))=false:=by decide)
  (hcd:(x == ("__classdict__":Str))=false:=by decide):PE X (.Name x pos) (tVar i):=pe_var hN hv hd hcd
end
section
variable {κ:Type} [DecidableEq κ]
end
end L2
namespace L2
open PySem PySem.Spec PyProof.Rows
theorem De {env:Env}:∀ (l:List (Str×NameKind)) (cs:List (Str×Addr)),(∀ y∈l,y.2=.free->∃ c,env.cells.lookup y.1=some c)->(∀ n c,cs.lookup n=some c->env.cells.lookup n=some c) ->
  ∃ cl,(forIn l cs fun (x:Str×NameKind) (r:List (Str×Addr))=>match x with | (name,kind)=>if (kind == NameKind.free)=true then do let c <- cellOf env name;pure (ForInStep.yield ((name,c) :: r)) else pure (ForInStep.yield r))=(pure cl:Sem _) /\
   (∀ n c,cl.lookup n=some c->env.cells.lookup n=some c)/\(∀ y∈l,y.2=.free->∃ c,cl.lookup y.1=some c)/\(∀ n c,cs.lookup n=some c->∃ c',cl.lookup n=some c')
 | [],cs,_,h2=>⟨cs,rfl,h2,(fun _ h=>nomatch h),fun n c h=>⟨c,h⟩⟩
 | (n,k) :: r,cs,h1,h2=>by
  by_cases e:k=.free
  ·subst e
   obtain ⟨c,hc⟩:=h1 (n,.free) List.mem_cons_self rfl
   have e1:cellOf env n=(pure c:Sem _):=by unfold cellOf;rw [hc]
   have h3:∀ n' c',((n,c) :: cs).lookup n'=some c'->env.cells.lookup n'=some c':=fun n' c' q=>by
    rw [List.lookup_cons] at q
    cases hb:n' == n with
    | true=>rw [hb] at q;cases q;rw [beq_iff_eq.mp hb];exact hc
    | false=>rw [hb] at q;exact h2 _ _ q
   obtain ⟨cl,q1,q2,q3,q4⟩:=De r ((n,c) :: cs) (fun y hy=>h1 y (List.mem_cons_of_mem _ hy)) h3
   have hself:∃ c',cl.lookup n=some c':=q4 n c (by simp)
   refine ⟨cl,?_,q2,fun y hy hf=>?_,fun n' c' q=>?_⟩
   ·rw [List.forIn_cons]
    simp only [beq_self_eq_true,if_true,e1,pure_bind]
    exact q1
   ·rcases List.mem_cons.mp hy with rfl | hy
    ·exact hself
    ·exact q3 y hy hf
   ·by_cases hb:n'=n
    ·subst hb;exact hself
    ·exact q4 n' c' (by rw [List.lookup_cons,beq_eq_false_iff_ne.mpr hb];exact q)
  ·obtain ⟨cl,q1,q2,q3,q4⟩:=De r cs (fun y hy=>h1 y (List.mem_cons_of_mem _ hy)) h2
   refine ⟨cl,?_,q2,fun y hy hf=>?_,q4⟩
   ·rw [List.forIn_cons]
    have hb:(k == NameKind.free)=false:=by simpa using e
    simp only [hb,Bool.false_eq_true,if_false,pure_bind]
    exact q1
   ·rcases List.mem_cons.mp hy with rfl | hy
    ·exact absurd hf e
    ·exact q3 y hy hf
theorem Dx {sc:Scope} {env:Env} (h:∀ y∈sc.names,y.2=.free->∃ c,env.cells.lookup y.1=some c) :
  ∃ cl,closureFor sc env=pure cl/\(∀ n c,cl.lookup n=some c->env.cells.lookup n=some c)/\(∀ y∈sc.names,y.2=.free->∃ c,cl.lookup y.1=some c):=by
 obtain ⟨cl,q1,q2,q3,_⟩:=De (env:=env) sc.names [] h (fun n c q=>by simp at q)
 refine ⟨cl,?_,q2,q3⟩
 unfold closureFor
 simp only [bind_pure]
 refine Eq.trans ?_ q1
 congr 1
section
variable {prog:Program} {w:World} {A:Around} {R:Result->Shared->Prop} {s:Shared}
theorem Hq {elt target iter:Expr} {ifs:List Expr} {scope:Scope} {pos:Pos} {it acc:Value} {env:Env} (I:Nat->Shared->Prop)
  (turn:∀ n s,I n s->wpAny (model prog w) A (pyNext it) (fun r s₁=>match r with
   | none=>R (.ok .next) s₁
   | some v=>wpAny (model prog w) A (letOwnedTupleGo target it v) (fun _ s₁=>wpAny (model prog w) A (assign target env v) (fun _ s₂ =>
     wpAny (model prog w) A (forIn ifs true fun c r=>if r=true then do let ok <- isTrue c env (eval c env);pure (ForInStep.yield ok) else pure (ForInStep.yield r)) (fun ok s₃ =>
      if ok=true then wpAny (model prog w) A (eval elt env) (fun x s₄ =>
       wpAny (model prog w) A (call (.builtin "list.append") [acc,x]) (fun _ s₅=>∃ m,m < n/\I m s₅) (fun _ _=>False) s₄) (fun _ _=>False) s₃
      else ∃ m,m < n/\I m s₃) (fun _ _=>False) s₂) (fun _ _=>False) s₁) (fun _ _=>False) s₁) (fun _ _=>False) s)
  (n:Nat) (h:I n s) :
  codeAny (model prog w) A (.compLoop (.ListComp elt [⟨target,iter,ifs,0⟩] scope pos) 0 it acc env) R s:=by
 refine codeAny_loop rfl I (fun n s hI=>?_) n h
 show wpAny _ A ((compTurn (.ListComp elt [⟨target,iter,ifs,0⟩] scope pos) 0 it acc env).onRaise (fun x=>do noteFrame x env;theTreesLotGoes x)) _ _ s
 refine wpAny_noted ?_
 rw [compTurn_list]
 refine wpAny_bind (wpAny_standAt (wpAny_bind (wpAny_mono (turn n s hI) (fun r s₁ h₁=>?_) fun _ _ h'=>h'.elim)))
 cases r with
 | none=>exact wpAny_pure h₁
 | some v =>
  refine wpAny_bind (wpAny_mono h₁ (fun _ s₁' h₁'=>?_) fun _ _ h'=>h'.elim)
  refine wpAny_bind (wpAny_mono h₁' (fun _ s₂ h₂=>wpAny_bind (wpAny_mono h₂ (fun ok s₃ h₃=>?_) fun _ _ h'=>h'.elim)) fun _ _ h'=>h'.elim)
  cases ok with
  | false=>exact wpAny_pure ⟨rfl,h₃⟩
  | true =>
   exact wpAny_bind (wpAny_bind (wpAny_mono h₃ (fun x s₄ h₄=>wpAny_bind (wpAny_mono h₄ (fun _ s₅ h₅=>wpAny_pure (wpAny_pure ⟨rfl,h₅⟩)) fun _ _ h'=>h'.elim)) fun _ _ h'=>h'.elim))
end
structure CompSc (fn sc:Scope):Prop where
 kind:sc.kind=.function
 nocell:∀ y∈sc.names,y.2≠.cell
 loc:∀ y∈sc.names,y.2=.local->sc.names.lookup y.1=some .local
 fr:∀ y∈sc.names,y.2=.free->fn.names.lookup y.1=some .cell∨fn.names.lookup y.1=some .free
def Fy (fn sc:Scope):Bool :=
 decide (sc.kind=.function) && sc.names.all fun y=>decide (y.2≠.cell) && (decide (y.2≠.local) || decide (sc.names.lookup y.1=some .local)) &&
  (decide (y.2≠.free) || decide (fn.names.lookup y.1=some .cell) || decide (fn.names.lookup y.1=some .free))
theorem Ho {fn sc:Scope} (h:Fy fn sc=true):CompSc fn sc:=by
 unfold Fy at h
 rw [Bool.and_eq_true,List.all_eq_true] at h
 obtain ⟨h1,h2⟩:=h
 refine ⟨of_decide_eq_true h1,fun y hy=>?_,fun y hy e=>?_,fun y hy e=>?_⟩
 all_goals
  have q:=h2 y hy
  rw [Bool.and_eq_true,Bool.and_eq_true] at q
  obtain ⟨⟨q1,q2⟩,q3⟩:=q
 ·exact of_decide_eq_true q1
 ·rw [Bool.or_eq_true] at q2
  rcases q2 with q | q
  ·exact absurd e (of_decide_eq_true q)
  ·exact of_decide_eq_true q
 ·rw [Bool.or_eq_true,Bool.or_eq_true] at q3
  rcases q3 with (q | q) | q
  ·exact absurd e (of_decide_eq_true q)
  ·exact .inl (of_decide_eq_true q)
  ·exact .inr (of_decide_eq_true q)
theorem Cj {env:Env} {x:Str} {k':NameKind}:∀ {names:List (Str×NameKind)},
  (names.map fun (n,k)=>if (k == NameKind.free && env.scope.kind == .function && env.kindOf n == some .cell) then (n,NameKind.cell) else (n,k)).lookup x=some k'->∃ k,names.lookup x=some k/\(k'=k∨(k=.free/\k'=.cell))
 | [],h=>by simp at h
 | (n,k) :: r,h=>by
  have h:List.lookup x ((if (k == NameKind.free && env.scope.kind == .function && env.kindOf n == some .cell)=true then (n,NameKind.cell) else (n,k)) :: _)=some k':=h
  cases hx:x == n with
  | true =>
   refine ⟨k,by simp [List.lookup_cons,hx],?_⟩
   by_cases hc:(k == NameKind.free && env.scope.kind == .function && env.kindOf n == some .cell)=true
   ·rw [if_pos hc] at h
    simp only [List.lookup_cons,hx] at h
    cases h
    rw [Bool.and_eq_true,Bool.and_eq_true] at hc
    exact .inr ⟨beq_iff_eq.mp hc.1.1,rfl⟩
   ·rw [if_neg hc] at h
    simp only [List.lookup_cons,hx] at h
    cases h
    exact .inl rfl
  | false =>
   have h':List.lookup x (r.map fun (n,k)=>if (k == NameKind.free && env.scope.kind == .function && env.kindOf n == some .cell) then (n,NameKind.cell) else (n,k))=some k':=by
    by_cases hc:(k == NameKind.free && env.scope.kind == .function && env.kindOf n == some .cell)=true
    ·rw [if_pos hc] at h
     simpa only [List.lookup_cons,hx] using h
    ·rw [if_neg hc] at h
     simpa only [List.lookup_cons,hx] using h
   obtain ⟨k0,e1,e2⟩:=Cj h'
   exact ⟨k0,by simp only [List.lookup_cons,hx];exact e1,e2⟩
def BB (X:Cx) (N:List Str) (sc:Scope) (cl:List (Str×Addr)) (C:Addr) (s:Shared) (H:Hp) (ex:List Addr):Cx :=
 { X with N:=N,s₀:=s,H₀:=H,env:=compEnvC sc cl C X.env,outer:=X.stack,stack:=X.stack,ex:=ex,fn:=fun _=>false,xe:=fun _ _=>False }
def DP (XN:List Str) (sc:Scope):List Str->List (Option Nat)->Bool
 | [],[]=>true
 | n :: r,none :: q=>DP XN sc r q
 | n :: r,some i :: q=>decide (XN[i]?=some n) && decide (sc.names.lookup n=some .free) && DP XN sc r q
 | _,_=>false
def C4 (σ:St) (src:List (Option Nat)):St:=src.map fun o=>o.bind fun i=>(σ[i]?).join
theorem E1 {XN:List Str} {sc:Scope}:∀ {N:List Str} {src:List (Option Nat)},DP XN sc N src=true->src.length=N.length
 | [],[],_=>rfl
 | _ :: r,none :: q,h=>by rw [List.length_cons,List.length_cons,E1 (N:=r) (src:=q) h]
 | _ :: r,some i :: q,h=>by
  unfold DP at h
  rw [Bool.and_eq_true] at h
  rw [List.length_cons,List.length_cons,E1 (N:=r) (src:=q) h.2]
 | [],_ :: _,h=>by cases h
 | _ :: _,[],h=>by cases h
theorem Hs {XN:List Str} {sc:Scope}:∀ {N:List Str} {src:List (Option Nat)} {j i:Nat} {n:Str},DP XN sc N src=true->N[j]?=some n->src[j]?=some (some i)->XN[i]?=some n/\sc.names.lookup n=some .free
 | [],_,j,i,n,_,h1,_=>by simp at h1
 | _ :: _,[],j,i,n,_,_,h2=>by simp at h2
 | n0 :: r,o :: q,0,i,n,h,h1,h2=>by
  simp at h1 h2
  subst h1
  subst h2
  unfold DP at h
  rw [Bool.and_eq_true,Bool.and_eq_true] at h
  exact ⟨of_decide_eq_true h.1.1,of_decide_eq_true h.1.2⟩
 | n0 :: r,o :: q,j+1,i,n,h,h1,h2=>by
  refine Hs (N:=r) (src:=q) (j:=j) ?_ (by simpa using h1) (by simpa using h2)
  cases o with
  | none=>exact h
  | some k =>
   unfold DP at h
   rw [Bool.and_eq_true] at h
   exact h.2
section
variable {X:Cx} {pins:List (Addr×Obj)} {σ:St} {H:Hp} {s:Shared} {fp:List Addr} {N:List Str} {sc:Scope} {cl:List (Str×Addr)} {C:Addr} {src:List (Option Nat)}
theorem blk_ok (I:Inv X pins σ H s) (hf:∀ b∈fp,FpOk X pins H b) (hfs:∀ b∈fp,b < s.heap.objs.size) (hS:CompSc X.env.scope sc) (hC:s.heap.objs.size<=C)
  (hc1:∀ n c,cl.lookup n=some c->X.env.cells.lookup n=some c) (hc2:∀ y∈sc.names,y.2=.free->∃ c,cl.lookup y.1=some c):(BB X N sc cl C s H fp).Ok where
 mod:=I.ok.mod
 kind:=hS.kind
 glob:=I.ok.glob
 blt:=I.ok.blt
 above:=hC
 inj:=fun x y c h1 h2=>I.ok.inj x y c (hc1 _ _ h1) (hc1 _ _ h2)
 has:=fun x hx=>by
  have free:∀ k',(k'=NameKind.cell∨k'=NameKind.free)->(relabel sc X.env).names.lookup x=some k'->∃ c,cl.lookup x=some c:=fun k' hk e=>by
   obtain ⟨k,e1,e2⟩:=Cj (env:=X.env) e
   have hm:=PySem.mem_of_lookup e1
   have hk2:k=.free:=by
    rcases e2 with e2 | ⟨e2,_⟩
    ·subst e2
     rcases hk with hk | hk
     ·exact absurd hk (hS.nocell _ hm)
     ·exact hk
    ·exact e2
   exact hc2 _ hm hk2
  rcases hx with hx | hx
  ·exact free _ (.inl rfl) hx
  ·exact free _ (.inr rfl) hx
 cab:=fun x c h _=>absurd (show false=true from h) Bool.false_ne_true
 hd:=I.ok.hd
 frames:=I.ok.frames
 stk:=.inl rfl
 exf:=fun b hb=>⟨Nat.ne_of_lt (Nat.lt_of_lt_of_le (hfs b hb) hC),fun x c e=>(hf b hb).2.2.2.2.1 x c (hc1 x c e)⟩
 bs:=I.bs
 bsz:=Nat.le_trans I.ok.bsz I.sz
 noex:=fun b o e hb=>by
  rcases (hf b hb).2.2.2.1 with z | z
  ·exact I.ok.noex b o e z
  ·exact absurd (Nat.lt_of_lt_of_le (Heap.lt_size e) (Nat.le_trans I.ok.bsz z)) (Nat.lt_irrefl _)
 exfs:=fun b hb hz=>by
  rcases List.mem_cons.mp (I.stkSub b hz) with z | z
  ·exact (hf b hb).2.1 z
  ·exact (hf b hb).2.2.1 z
 funs:=I.stack
 frf:=I.stkFree
theorem blk_inv {D:Addr} {h':Heap} {tk:Nat} {m:Str->Option Value} (I:Inv X pins σ H s) (hf:∀ b∈fp,FpOk X pins H b) (hfs:∀ b∈fp,b < s.heap.objs.size) (hS:CompSc X.env.scope sc)
  (hc1:∀ n c,cl.lookup n=some c->X.env.cells.lookup n=some c) (hc2:∀ y∈sc.names,y.2=.free->∃ c,cl.lookup y.1=some c) (hcap:DP X.N sc N src=true)
  (hD:s.heap.objs.size<=D) (hC:s.heap.objs.size<=C) (hDC:D≠C) (hk:∀ b o,s.heap.get? b=some o->h'.get? b=some o) (hn:h'.Ns C m) (hl:h'.get? D=some { cls:=.type "list",data:=.seq (#[]:Array Value) }) :
  Inv (BB X N sc cl C s H fp) pins (C4 σ src) (upd H D (.lst [])) { s with heap:=h',toks:=tk }:=by
 have fD:H D=none:=I.hok.fresh hD
 have fC:H C=none:=I.hok.fresh hC
 have old:∀ {b:Addr} {o:Obj},s.heap.get? b=some o->b≠D/\b≠C:=fun {b o} e=>⟨Nat.ne_of_lt (Nat.lt_of_lt_of_le (Heap.lt_size e) hD),Nat.ne_of_lt (Nat.lt_of_lt_of_le (Heap.lt_size e) hC)⟩
 refine ⟨blk_ok I hf hfs hS hC hc1 hc2,rfl,I.bare,Un.laid hk hD fD,⟨m,hn,fun j x v e1 e2 e3=>?_⟩,fun x c e=>?_,?_,fun x c e=>?_,fun p hp=>?_,I.hok.laid hk hD ⟨Nat.zero_le _,[],0,.nil,hl⟩,?_⟩
 ·unfold C4 at e2
  rw [List.getElem?_map] at e2
  cases q:src[j]? with
  | none=>rw [q] at e2;cases e2
  | some o =>
   rw [q] at e2
   cases o with
   | none=>cases e2
   | some i =>
    have e2':(σ[i]?).join=some v:=Option.some.inj e2
    have e4:σ[i]?=some (some v):=by
     cases r:σ[i]? with
     | none=>rw [r] at e2';cases e2'
     | some u=>rw [r] at e2';cases u with
      | none=>cases e2'
      | some u=>have e5:some u=some v:=e2';cases e5;rfl
    obtain ⟨g1,g2⟩:=Hs hcap e1 q
    obtain ⟨m0,_,hl0⟩:=I.loc
    have hfr:=hS.fr _ (PySem.mem_of_lookup g2) rfl
    obtain ⟨u,ru,lk⟩:=hl0 i x v g1 e4 (hfr.elim (fun z=>.inr (.inl z)) fun z=>.inr (.inr z))
    refine ⟨u,ru,.inr ⟨?_,?_⟩⟩
    ·rcases e3 with e3 | e3 | e3
     ·obtain ⟨k,r1,r2⟩:=Cj (env:=X.env) (show (relabel sc X.env).names.lookup x=some .local from e3)
      rw [g2] at r1
      cases r1
      rcases r2 with r2 | ⟨_,r2⟩ <;> cases r2
     ·exact .inl e3
     ·exact .inr e3
    ·obtain ⟨c,hc⟩:=hc2 _ (PySem.mem_of_lookup g2) rfl
     refine ⟨c,hc,?_⟩
     rcases lk with ⟨lk,_⟩ | ⟨_,c',hc',z⟩
     ·rcases hfr with z | z
      ·have z':X.env.kindOf x=some .cell:=z
       rw [lk] at z';cases z'
      ·have z':X.env.kindOf x=some .free:=z
       rw [lk] at z';cases z'
     ·have:=hc1 _ _ hc
      rw [hc'] at this
      cases this
      obtain ⟨o,ho,hd⟩:=z
      exact ⟨o,hk _ _ ho,hd⟩
 ·obtain ⟨v,o,ho,hd⟩:=I.cell x c (hc1 x c e)
  exact ⟨v,o,hk _ _ ho,hd⟩
 ·show upd H D (.lst []) C=none
  rw [Ap (Ne.symm hDC)]
  exact fC
 ·obtain ⟨v,o,ho,hd⟩:=I.cell x c (hc1 x c e)
  rw [Ap (old ho).1]
  exact I.freeC x c (hc1 x c e)
 ·obtain ⟨p1,p2,p3,p4,p5⟩:=I.pin p hp
  refine ⟨hk _ _ p1,by rw [Ap (old p1).1];exact p2,(old p1).2,fun z=>?_,p5⟩
  rcases List.mem_cons.mp (I.stkSub _ z) with z | z
  ·exact p3 z
  ·exact p4 z
 ·show (C4 σ src).length=N.length
  unfold C4
  rw [List.length_map]
  exact E1 hcap
end
def PIfs (X:Cx) (ifs:List Expr) (t:TT):Prop :=
 ∀ (pins:List (Addr×Obj)) (s:Shared) (σ:St) (H:Hp) (Q:Bool->Hp->Prop),Inv X pins σ H s->t σ H Q ->
  wpAny (model X.prog X.w) X.A (forIn ifs true fun c r=>if r=true then do let ok <- isTrue c X.env (eval c X.env);pure (ForInStep.yield ok) else pure (ForInStep.yield r)) (TP X pins σ Q) X.xe s
def tYes:TT:=fun _ H Q=>Q true H
theorem pifs_nil {X:Cx}:PIfs X [] tYes:=fun pins s σ H Q I h=>wpAny_pure ⟨H,I,h⟩
theorem pifs_one {X:Cx} {c:Expr} {t:TT} (h:PT X c t):PIfs X [c] t:=by
 intro pins s σ H Q I q
 rw [List.forIn_cons]
 simp only [if_true]
 refine wpAny_bind (wpAny_bind (thn (h pins s σ H Q I q) fun b s1 q1=>wpAny_pure ?_))
 exact wpAny_pure q1
def compW (J:It) (g:TG) (tt:TT) (te:TE) (Q:VK) (τ0:St) (H1:Hp):Prop:=∀ D,H1 D=none ->
 ∃ W:Nat->Nat->St->Hp->Prop,(∃ m,W 0 m τ0 (upd H1 D (.lst [])))/\∀ i m τ H2,W i m τ H2 ->
  (J.stop i H2/\Q (.ref D) H2)∨(J.go i H2/\∃ N:St->Hp->Prop,(∀ τ' H',N τ' H'->∃ m',m' < m/\W (i+1) m' τ' H')/\∀ x H3,J.yld i H2 x H3->g x τ H3 fun τ2 H4=>tt τ2 H4 fun b H5 =>
   if b=true then te τ2 H5 fun y H6=>∃ ys,H6 D=some (.lst ys)/\ys.length < sizeLine/\N τ2 (upd H6 D (.lst (ys++[y]))) else N τ2 H5)
def tComp (src:List (Option Nat)) (wi:TI) (g:TG) (tt:TT) (te:TE):TE:=fun σ H Q=>wi σ H fun J H1=>compW J g tt te Q (C4 σ src) H1
section
variable {X:Cx} {tg iter elt:Expr} {ifs:List Expr} {sc:Scope} {pos:Pos} {N:List Str} {src:List (Option Nat)} {wi:TI} {g:TG} {tt:TT} {te:TE}
theorem comp_run (hcalm:X.calm=true) (hS:CompSc X.env.scope sc) (hcap:DP X.N sc N src=true)
  (hg:∀ cl C s H fp,PG (BB X N sc cl C s H fp) tg g) (ht:∀ cl C s H fp,PIfs (BB X N sc cl C s H fp) ifs tt) (he:∀ cl C s H fp,PE (BB X N sc cl C s H fp) elt te)
  {pins:List (Addr×Obj)} {s:Shared} {σ:St} {H:Hp} {it:Addr} {fp:List Addr} {tn:Nat->Heap->Prop} {J:It} {cl:List (Str×Addr)} {Q:VK} {E:Value->Shared->Prop} {RR:Value->Addr->Result->Shared->Prop}
  (hc1:∀ n c,cl.lookup n=some c->X.env.cells.lookup n=some c) (hc2:∀ y∈sc.names,y.2=.free->∃ c,cl.lookup y.1=some c)
  (I:Inv X pins σ H s) (T:Turn X.prog X.w X.K tg J fp it tn) (t0:tn 0 s.heap) (hf:∀ b∈fp,FpOk X pins H b) (hw:compW J g tt te Q (C4 σ src) H)
  (hR:∀ (D C:Addr) (s':Shared) (τ:St) (H':Hp) (m:Str->Option Value),s.heap.objs.size<=C->s'.heap.Ns C m->Inv (BB X N sc cl C s H fp) pins τ H' s'->(∀ b∈fp,H' b=none)->Q (.ref D) H'->RR (.ref D) C (.ok .next) s') :
  wpAny (model X.prog X.w) X.A (newList []) (fun acc s₃=>wpAny (model X.prog X.w) X.A (newFunctionEnv sc X.env.globals cl [] X.env.qual none .none (some X.env)) (fun cenv s₄ =>
   codeAny (model X.prog X.w) X.A (.compStart (.ListComp elt [⟨tg,iter,ifs,0⟩] sc pos) 0 (.ref it) acc { cenv with scope:=relabel sc X.env }) (RR acc cenv.locals) s₄) E s₃) E s:=by
 have hfs:∀ b∈fp,b < s.heap.objs.size:=fun b hb=>by
  obtain ⟨o,e,_⟩:=T.obj 0 _ t0 b hb
  exact Heap.lt_size e
 refine wpAny_newObj_type (wpAny_newFunctionEnv hS.nocell (by intro y hy;simp at hy) (fun h₁ hns₁ hsb₁=>?_) hS.kind)
 dsimp only at hns₁ hsb₁ ⊢
 generalize hH2:s.heap.push { cls:=.type "list",dict:=none,data:=.seq ([]:List Value).toArray }=H2 at hns₁ hsb₁ ⊢
 have hC:H2.objs.size=s.heap.objs.size+1:=by rw [<- hH2,Heap.size_push]
 have hDC:s.heap.objs.size≠H2.objs.size:=by rw [hC];exact Nat.ne_of_lt (Nat.lt_succ_self _)
 have hCle:s.heap.objs.size<=H2.objs.size:=by rw [hC];exact Nat.le_succ _
 have old:∀ b o,s.heap.get? b=some o->h₁.get? b=some o:=fun b o e=>hsb₁.extBut b o (Nat.ne_of_lt (Nat.lt_of_lt_of_le (Heap.lt_size e) hCle)) (Heap.get?_push_of_some _ (hH2▸Heap.get?_push_of_some _ e))
 have hacc:h₁.get? s.heap.objs.size=some { cls:=.type "list",data:=.seq (#[]:Array Value) }:=hsb₁.extBut _ _ hDC (Heap.get?_push_of_some _ (hH2▸Heap.get?_push_size _ rfl))
 have fresh:H s.heap.objs.size=none:=I.hok.fresh (Nat.le_refl _)
 obtain ⟨W,⟨m0,w0⟩,turn⟩:=hw s.heap.objs.size fresh
 have Y0:Inv (BB X N sc cl H2.objs.size s H fp) pins (C4 σ src) (upd H s.heap.objs.size (.lst [])) { s with heap:=h₁,toks:=s.toks+([]:List (Str×Value)).length } :=
  blk_inv I hf hfs hS hc1 hc2 hcap (Nat.le_refl _) hCle hDC old hns₁ hacc
 have t1:tn 0 h₁:=T.keep 0 _ _ t0 fun b _ o e=>old b o e
 have fp0:∀ b∈fp,upd H s.heap.objs.size (.lst []) b=none:=fun b hb=>by
  rw [Ap (Nat.ne_of_lt (hfs b hb))]
  exact (hf b hb).1
 have stat:∀ {H':Hp},(∀ b∈fp,H' b=none)->∀ b∈fp,FpOk (BB X N sc cl H2.objs.size s H fp) pins H' b:=fun {H'} hn b hb =>
  ⟨hn b hb,Nat.ne_of_lt (Nat.lt_of_lt_of_le (hfs b hb) hCle),Y0.ok.exfs b hb,.inl hb,(Y0.ok.exf b hb).2,(hf b hb).2.2.2.2.2⟩
 have loop:∀ s₃:Shared,s₃={ s with heap:=h₁,toks:=s.toks+([]:List (Str×Value)).length } ->
   codeAny (model X.prog X.w) X.A (.compLoop (.ListComp elt [⟨tg,iter,ifs,0⟩] sc pos) 0 (.ref it) (.ref s.heap.objs.size) (compEnvC sc cl H2.objs.size X.env)) (RR (.ref s.heap.objs.size) H2.objs.size) s₃:=by
  rintro s₃ rfl
  refine Hq (fun n s'=>∃ i τ H',Inv (BB X N sc cl H2.objs.size s H fp) pins τ H' s'/\tn i s'.heap/\(∀ b∈fp,H' b=none)/\W i n τ H') ?_ m0 ⟨0,_,_,Y0,t1,fp0,w0⟩
  rintro n s4 ⟨i,τ,H4,I4,t4,fr4,w4⟩
  rcases turn i n τ H4 w4 with ⟨stop,qn⟩ | ⟨go,Nx,hNx,step⟩
  ·refine thn (T.done (BB X N sc cl H2.objs.size s H fp) rfl rfl rfl hcalm i pins s4 τ H4 _ I4 (stat fr4) t4 stop) fun r s5 ⟨hr,I5⟩=>?_
   subst hr
   obtain ⟨m5,hn5,_⟩:=I5.loc
   exact hR _ _ s5 τ H4 m5 hCle hn5 I5 fr4 qn
  ·refine thn (T.item (BB X N sc cl H2.objs.size s H fp) rfl rfl rfl hcalm i pins s4 τ H4 _ I4 (stat fr4) t4 go) fun r s5 ⟨u,hr,h5⟩=>?_
   subst hr
   refine thn h5 fun _ s6 ⟨x,H6,I6,r6,y6,st6,fr6⟩=>?_
   have I6':=I6.pinned (stat fr6) (T.obj _ _ st6)
   have again:∀ {τ7:St} {H7:Hp} {s7:Shared} {m':Nat},Inv (BB X N sc cl H2.objs.size s H fp) (pins++GO fp s6.heap) τ7 H7 s7->m' < n->W (i+1) m' τ7 H7 ->
     ∃ m,m < n/\∃ i τ H',Inv (BB X N sc cl H2.objs.size s H fp) pins τ H' s7/\tn i s7.heap/\(∀ b∈fp,H' b=none)/\W i m τ H':=fun {τ7 H7 s7 m'} I7 hm w7=>by
    refine ⟨m',hm,i+1,τ7,H7,I7.Eg,T.keep _ _ _ st6 fun b hb o e=>(I7.pin (b,o) (List.mem_append_right _ (List.mem_append_right _ (CZ hb e)))).1,fun b hb=>?_,w7⟩
    obtain ⟨o,e,d⟩:=T.obj _ _ st6 b hb
    exact (I7.pin (b,o) (List.mem_append_right _ (List.mem_append_right _ (CZ hb e)))).2.1
   refine thn (hg cl H2.objs.size s H fp _ s6 τ H6 x u _ I6' r6 (step x H6 y6)) fun _ s7 ⟨τ7,H7,I7,q7⟩=>?_
   refine thn (ht cl H2.objs.size s H fp _ s7 τ7 H7 _ I7 q7) fun b s8 ⟨H8,I8,q8⟩=>?_
   cases b with
   | false =>
    rw [if_neg Bool.false_ne_true] at q8 ⊢
    obtain ⟨m',hm,w8⟩:=hNx _ _ q8
    exact again I8 hm w8
   | true =>
    rw [if_pos rfl] at q8 ⊢
    refine thn (he cl H2.objs.size s H fp _ s8 τ7 H8 _ I8 q8) fun v s9 ⟨y,H9,I9,r9,ys,hD9,hz,w9⟩=>?_
    obtain ⟨m',hm,w9⟩:=hNx _ _ w9
    refine thn (BY _ s9 τ7 H9 (.ref s.heap.objs.size) [y] (.ref s.heap.objs.size) [v] (fun _ Hn=>W (i+1) m' τ7 Hn) I9 rfl (.cons r9 .nil) ⟨_,ys,y,rfl,rfl,hD9,hz,w9⟩) fun _ s10 ⟨_,H10,I10,_,w10⟩=>?_
    exact again I10 hm w10
 exact codeAny_compStart_list (loop _ rfl) (T.self X.A 0 _ _ _ t1 (loop _ rfl))
theorem blk_end {pins:List (Addr×Obj)} {s s':Shared} {σ τ:St} {H H':Hp} {fp:List Addr} {cl:List (Str×Addr)} {C:Addr} (I:Inv X pins σ H s) (hf:∀ b∈fp,FpOk X pins H b) (J:Inv (BB X N sc cl C s H fp) pins τ H' s'):Inv X pins σ H' s' :=
 I.call' (ch:=fp) J.os J.base J.hok J.bare fun b hb=>⟨(hf b hb).2.2.2.1,(hf b hb).2.1,(hf b hb).2.2.2.2.1,(hf b hb).2.2.2.2.2⟩
theorem blk_off {pins:List (Addr×Obj)} {s s':Shared} {σ τ:St} {H H':Hp} {fp:List Addr} {cl:List (Str×Addr)} {C:Addr} {h':Heap} (I:Inv X pins σ H s) (hC:s.heap.objs.size<=C) (hf:∀ b∈fp,FpOk X pins H b)
  (J:Inv (BB X N sc cl C s H fp) pins τ H' s') (hs:Heap.SameBut C s'.heap h'):Inv X pins σ H' { s' with heap:=h' }:=by
 have I':=blk_end I hf J
 refine I'.turned (it:=C) (t':=s'.toks) (fun b o hb e=>hs.extBut b o hb e) J.free (Nat.ne_of_gt (Nat.lt_of_lt_of_le I.lt hC)) (.inr (Nat.le_trans I.sz hC)) (fun x c e z=>?_) fun p hp z=>?_
 ·obtain ⟨v,q⟩:=I.cell x c e
  exact absurd (Nat.lt_of_lt_of_le q.lt (by rw [z];exact hC)) (Nat.lt_irrefl _)
 ·exact absurd (Nat.lt_of_lt_of_le (Heap.lt_size (I.pin p hp).1) (by rw [z];exact hC)) (Nat.lt_irrefl _)
theorem pe_comp (N:List Str) (src:List (Option Nat)) (hcalm:X.calm=true) (hi:PI X tg iter wi) (hg:∀ cl C s H fp,PG (BB X N sc cl C s H fp) tg g) (ht:∀ cl C s H fp,PIfs (BB X N sc cl C s H fp) ifs tt)
  (he:∀ cl C s H fp,PE (BB X N sc cl C s H fp) elt te) (hS:Fy X.env.scope sc=true:=by rfl) (hcap:DP X.N sc N src=true:=by rfl)
  (hs:∀ x,foldedSetIterable iter X.env x=pure x:=by intro _;rfl):PE X (.ListComp elt [⟨tg,iter,ifs,0⟩] sc pos) (tComp src wi g tt te):=by
 intro pins s σ H Q I h
 have S:=Ho hS
 obtain ⟨cl,hcl,hc1,hc2⟩:=Dx (sc:=sc) (env:=X.env) fun y hy e=>I.ok.has y.1 (S.fr y hy e)
 rw [eval_ListComp]
 refine wpAny_comprehension_free (use:=none) rfl hs hcl S.kind S.loc (thn (hi pins s σ H _ I h) fun v s1 h1=>thn h1 fun itv s2 h2=>?_)
 obtain ⟨it,fp,tn,J,H2,e,I2,T,t2,f2,hw⟩:=h2
 subst e
 refine comp_run hcalm S hcap hg ht he hc1 hc2 I2 T t2 f2 hw (RR:=fun acc C=>compPost (model X.prog X.w) X.A X.xe none (EP X pins σ Q) acc C) fun D C s' τ H' m hC hn J' _ q=>?_
 exact ⟨m,hn,fun h' hsb=>⟨.ref D,H',blk_off I2 hC f2 J' hsb,rfl,q⟩⟩
theorem ps_setComp {i:Nat} {y:Str} {pos' spos:Pos} (N:List Str) (src:List (Option Nat)) (hcalm:X.calm=true) (hN:X.N.Nodup) (hiy:X.N[i]?=some y) (hy:Loc X.env.scope y) (hi:PI X tg iter wi) (hg:∀ cl C s H fp,PG (BB X N sc cl C s H fp) tg g) (ht:∀ cl C s H fp,PIfs (BB X N sc cl C s H fp) ifs tt)
  (he:∀ cl C s H fp,PE (BB X N sc cl C s H fp) elt te) (hS:Fy X.env.scope sc=true:=by rfl) (hcap:DP X.N sc N src=true:=by rfl)
  (hs:∀ x,foldedSetIterable iter X.env x=pure x:=by intro _;rfl) (hsw:swapsWith (.ListComp elt [⟨tg,iter,ifs,0⟩] sc pos) (some (.Name y pos')) spos.line X.env=pure true:=by rfl)
  (hf:X.fn y=true∨X.env.scope.names.lookup y=some .local:=by first | exact .inl rfl | exact .inr rfl | assumption) :
  PS X (.Assign [.Name y pos'] (.ListComp elt [⟨tg,iter,ifs,0⟩] sc pos) spos) (tAsg (tComp src wi g tt te) (gName i)):=by
 intro pins s σ H D0 I h
 have S:=Ho hS
 obtain ⟨cl,hcl,hc1,hc2⟩:=Dx (sc:=sc) (env:=X.env) fun y hy e=>I.ok.has y.1 (S.fr y hy e)
 rw [exec_Assign_Name_used _ _ _ _ hsw]
 refine wpAny_bind (wpAny_standAt (wpAny_bind ?_))
 show wpAny _ X.A (do let _ <- comprehension (.ListComp elt [⟨tg,iter,ifs,0⟩] sc pos) sc X.env _ (newList []) false (eval iter X.env) (some (assign (.Name y pos') X.env))) _ _ s
 refine wpAny_bind (wpAny_mono (wpAny_comprehension_free (use:=some (assign (.Name y pos') X.env)) (Q:=fun _ s'=>SP X pins D0 .next s') rfl hs hcl S.kind S.loc
  (thn (hi pins s σ H _ I h) fun v s1 h1=>thn h1 fun itv s2 h2=>?_)) (fun _ s' hq=>wpAny_pure (wpAny_pure hq)) fun _ _ e=>e)
 obtain ⟨it,fp,tn,J,H2,e,I2,T,t2,f2,hw⟩:=h2
 subst e
 refine comp_run hcalm S hcap hg ht he hc1 hc2 I2 T t2 f2 hw (RR:=fun acc C=>compPost (model X.prog X.w) X.A X.xe (some (assign (.Name y pos') X.env)) (fun _ s'=>SP X pins D0 .next s') acc C) fun D C s' τ H' m hC hn J' _ q=>?_
 show wpAny _ X.A (assign (.Name y pos') X.env (.ref D)) _ _ s'
 have I':=blk_end I2 f2 J'
 have ltC:∀ {b:Addr} {o:Obj},s2.heap.get? b=some o->b≠C:=fun e=>Nat.ne_of_lt (Nat.lt_of_lt_of_le (Heap.lt_size e) hC)
 have cC:∀ x c,X.env.cells.lookup x=some c->c≠C:=fun x c e=>by
  obtain ⟨v,o,ho,_⟩:=I2.cell x c e
  exact ltC ho
 have lC:X.env.locals≠C:=Nat.ne_of_lt (Nat.lt_of_lt_of_le I2.lt hC)
 refine wpAny_assign_Name (GB I' hN hiy hy (v:=.ref D) rfl (fun s3 I3 ⟨a,sb,ha⟩=>?_) hf)
 have naC:C≠a:=by
  rcases ha with rfl | ha
  ·exact Ne.symm lC
  ·exact Ne.symm (cC _ _ ha)
 refine ⟨m,hn.sameBut sb naC,fun h' hs'=>⟨_,H',I3.turned (it:=C) (t':=s3.toks) (fun b o hb e=>hs'.extBut b o hb e) J'.free (Ne.symm lC) (.inr (Nat.le_trans I2.sz hC)) cC (fun p hp z=>ltC (I2.pin p hp).1 z),q⟩⟩
end
section
variable {K:PySem.W.Frag} {a:Addr} {xs:List V} {g:TG} {tt:TT} {te:TE} {Q:VK} {τ0:St} {H1:Hp}
end
end L2
namespace PySem
namespace F
theorem nolen_lri:typeLookup (.type "list_reverseiterator") "__len__"=pure none:=by rw [typeLookup_type,builtinLookup_eq_fast];kernel_rfl
theorem hint_lri:typeLookup (.type "list_reverseiterator") "__length_hint__"=pure (some (.builtin "list_reverseiterator.__length_hint__")):=by rw [typeLookup_type,builtinLookup_eq_fast];kernel_rfl
end F
section
variable {prog:Program} {w:World} {A:Around} {s:Shared} {R:Result->Shared->Prop}
variable {I:Addr} {fp wr:List Addr} {G:Array GenState->Array GenState->Prop} {n:Nat} {P:Nat->Value->Prop} {St:Nat->Shared->Prop}
theorem D5 (W:WalksS prog w A.in1 I fp wr G n P St) (hT:∀ i s,St i s->s.TypeIs (.ref I) "list_reverseiterator") (S:Addr) (res:Value) (c₀:Nat) (hst:St 0 s) (hSf:S∉fp) (hI:I∈fp)
  (hS:s.heap.get? S=some { cls:=.type "list",data:=.seq #[] c₀ })
  (hR:∀ s' acc' c',Moved (S :: wr) G s s'->s'.heap.get? S=some { cls:=.type "list",dict:=none,data:=.seq acc' c',slots:=#[] }->ItemsOf P acc' n->R (.ok (.ret res)) s') (hn:n<=sizeLine) :
  wpAny (model prog w) A.in1 (Builtin.List.listExtendWith (.ref S) (.ref I) res)
   (fun fin s'=>match fin with | .done f=>R (.ok f) s' | .again c'=>c'.quiet=true/\codeAny (model prog w) A c' R s') (fun e s'=>R (.error e) s') s:=by
 have hSI:S≠I:=fun e=>hSf (e▸hI)
 unfold Builtin.List.listExtendWith
 refine wpAny_bind (wpAny_typeOf (hT 0 _ hst) ?_)
 have h1:Builtin.List.listSameRef (.ref S) (.ref I)=false:=by simp [Builtin.List.listSameRef,hSI]
 have h2:(Value.type "list_reverseiterator" == Value.type "list")=false:=by decide
 have h3:(Value.type "list_reverseiterator" == Value.type "tuple")=false:=by decide
 simp only [h1,h2,h3,Bool.or_false,Bool.false_eq_true,if_false]
 refine wpAny_bind (W.self 0 _ _ _ hst ?_)
 refine wpAny_bind (wpAny_holding ?_)
 unfold Builtin.List.listLengthHint
 refine wpAny_bind (wpAny_specialOf (hT 0 _ hst) F.nolen_lri ?_)
 show wpAny _ A.in1 (specialOf (Value.ref I) (Str.ofString "__length_hint__") >>= _) _ _ _
 refine wpAny_bind (wpAny_specialOf (hT 0 _ hst) F.hint_lri ?_)
 generalize hid:("list_reverseiterator.__length_hint__":String)=id0
 wp_delta
 rw [show splitId id0=some ("list_reverseiterator","__length_hint__") from by subst hid;decide +kernel]
 subst hid
 refine wpAny_bind (wpAny_isInstance (b:=true) (hT 0 _ hst) (by rw [isSubtype_type];kernel_rfl) ?_)
 refine wpAny_pure ?_
 rw [if_neg (by decide)]
 refine wpAny_pure ⟨plainId_quiet F.plain_extend_loop _,codeAny_extend_loopS W hn _ hSf _ n 0 _ _ _ rfl (Nat.zero_le _) hst hS (ItemsOf.nil P) fun s' acc' c' hm hS' hacc=>?_⟩
 exact hR s' acc' c' hm hS' hacc
theorem C7 (W:WalksS prog w A.in1 I fp wr G n P St) (hT:∀ i s,St i s->s.TypeIs (.ref I) "list_reverseiterator") (S:Addr) (hst:St 0 s) (hSf:S∉fp) (hI:I∈fp)
  (hS:s.heap.get? S=some { cls:=.type "list",data:=.seq #[] })
  (hR:∀ s' acc' c',Moved (S :: wr) G s s'->s'.heap.get? S=some { cls:=.type "list",dict:=none,data:=.seq acc' c',slots:=#[] }->ItemsOf P acc' n->R (.ok (.ret .none)) s') (hn:n<=sizeLine) :
  wpAny (model prog w) A.in1 (Builtin.«list.__init__» ⟨[.ref S,.ref I],[]⟩)
   (fun fin s'=>match fin with | .done f=>R (.ok f) s' | .again c'=>c'.quiet=true/\codeAny (model prog w) A c' R s') (fun e s'=>R (.error e) s') s:=by
 show wpAny _ A.in1 (do let old <- Builtin.List.listItems (.ref S);Builtin.List.listUpdate (.ref S) (fun _=>#[]);letGo old.toList.reverse;Builtin.List.listExtendWith (.ref S) (.ref I) .none) _ _ s
 refine wpAny_bind ?_
 unfold Builtin.List.listItems
 refine wpAny_bind (wpAny_seqItems hS rfl (wpAny_pure ?_))
 show wpAny _ A.in1 (updateSeq S (fun _=>#[]) >>= fun _=>letGo (#[]:Array Value).toList.reverse >>= fun _=>Builtin.List.listExtendWith (.ref S) (.ref I) .none) _ _ s
 refine wpAny_bind (wpAny_updateSeq hS rfl ?_)
 have hS₂:=Heap.get?_update_self (Obj.mapSeq (fun _=>(#[]:Array Value))) hS rfl
 have oth:∀ b o,b≠S->s.heap.get? b=some o->(s.heap.update S (Obj.mapSeq (fun _=>(#[]:Array Value)))).get? b=some o :=
  fun b o hb e=>(Heap.get?_update_other _ _ (Ne.symm hb)).trans e
 refine wpAny_bind (wpAny_letGo ?_)
 refine D5 (hn:=hn) W hT S .none _ (W.frame 0 s _ s.toks hst (Nat.le_refl _) fun b hb o e=>oth b o (fun h=>hSf (h▸hb)) e) hSf hI hS₂ fun s' acc' c' hm hS' hacc=>?_
 exact hR s' acc' c' (Moved.trans W.gtrans ((Moved.refl W.grefl).then_heap (Nat.le_refl _) fun b o hb e=>oth b o (fun h=>hb (h▸List.mem_cons_self)) e) hm) hS' hacc
end
section
variable {prog:Program} {w:World} {A:Around} {E:Value->Shared->Prop} {s:Shared}
theorem DQ {it l:Addr} {items:Array Value} {Q:Value->Shared->Prop} (hh:A.handled=none) (hne:l≠it) (hit:s.heap.IsRevIter it l ((items.size:Int) - 1)) (hl:s.heap.IsList l items) (hz:items.size<=sizeLine)
  (hQ:∀ h' tk acc' c',(∀ b o,b≠it->s.heap.get? b=some o->h'.get? b=some o) ->
   h'.get? s.heap.objs.size=some { cls:=.type "list",dict:=none,data:=.seq acc' c',slots:=#[] }->ItemsOf (fun i v=>items[items.size - 1 - i]?=some v) acc' items.size->Q (.ref s.heap.objs.size) { s with heap:=h',toks:=tk }) :
  wpAny (model prog w) A (call (.type "list") [.ref it]) Q E s:=by
 refine callType_codes (Q₁:=fun obj s₁=>obj=.ref s.heap.objs.size/\s₁={ s with heap:=s.heap.push { cls:=.type "list",data:=.seq #[] } }) F.called_list (F.typeCall_list_1 _) F.entry_list_init
  (code_list_new _ ⟨rfl,rfl⟩) fun obj s₁ h₁=>?_
 obtain ⟨rfl,rfl⟩:=h₁
 have hS:(s.heap.push { cls:=.type "list",data:=.seq #[] }).get? s.heap.objs.size=some { cls:=.type "list",data:=.seq #[] }:=Heap.get?_push_size _ rfl
 have hlt:it < s.heap.objs.size:=by obtain ⟨o,e,_⟩:=hit;exact Heap.lt_size e
 have hlt2:l < s.heap.objs.size:=by obtain ⟨o,e,_⟩:=hl;exact Heap.lt_size e
 have W:=(Walks.listRev (prog:=prog) (w:=w) (A:=A.in1.in1) hh it l hne items).toS
 have e0:(items.size:Int) - 1 - ((0:Nat):Int)=(items.size:Int) - 1:=by simp
 refine ⟨⟨_,hS,rfl⟩,F.args_list_init_2 _ _,C7 (A:=A.in1) W (fun i s' st=>?_) _ ?_ ?_ (by simp) hS (fun s' acc' c' hm hS' hacc=>?_) hz⟩
 ·exact st.2.1.typeIs
 ·refine ⟨Nat.zero_le _,?_,hl.push _⟩
  rw [e0]
  exact hit.at fun o e=>Heap.get?_push_of_some _ e
 ·intro hm
  rcases List.mem_cons.mp hm with e | hm
  ·exact absurd hlt (by rw [e];exact Nat.lt_irrefl _)
  ·exact absurd hlt2 (by rw [List.mem_singleton.mp hm];exact Nat.lt_irrefl _)
 ·rw [Moved.eq_with hm] at hS' ⊢
  refine ⟨rfl,hQ s'.heap s'.toks acc' c' (fun b o hb e=>hm.heap b o (fun hmem=>?_) (Heap.get?_push_of_some _ e)) hS' hacc⟩
  rcases List.mem_cons.mp hmem with e' | hmem
  ·exact absurd (Heap.lt_size e) (by rw [e'];exact Nat.lt_irrefl _)
  ·exact hb (List.mem_singleton.mp hmem)
end
end PySem
namespace L2
open PySem PySem.Spec PyProof.Rows
section
variable {X:Cx} {pins:List (Addr×Obj)} {σ:St} {H:Hp} {s:Shared}
theorem Inv.Hr {it d:Addr} {h':Heap} {t':Nat} {ys:List V} {its:List Value} {n:Nat} (I:Inv X pins σ H s) (hf:FpOk X pins H it) (hd:s.heap.objs.size<=d) (k:∀ b o,b≠it->s.heap.get? b=some o->h'.get? b=some o)
  (hz:ys.length<=sizeLine) (r:Vals ys its) (e:h'.get? d=some { cls:=.type "list",data:=.seq its.toArray n }):Inv X pins σ (upd H d (.lst ys)) { s with heap:=h',toks:=t' }:=by
 obtain ⟨f0,f1,f2,f3,f4,f5⟩:=hf
 have fd:H d=none:=I.hok.fresh hd
 have nd:∀ {b:Addr} {o:Obj},s.heap.get? b=some o->b≠d:=fun e=>Nat.ne_of_lt (Nat.lt_of_lt_of_le (Heap.lt_size e) hd)
 have nit:∀ {b:Addr} {u:HO},H b=some u->b≠it:=fun {b u} e z=>by rw [z,f0] at e;cases e
 refine I.step (g':=s.gens) (d':=s.drawn) (ch:=[it]) (fun b hb=>?_) (fun b o _ _ hc e _=>k b o (fun z=>hc (by simp [z])) e) (fun b o _ _ hc e _=>⟨o.slots,k b o (fun z=>hc (by simp [z])) e⟩)
  (fun b o _ e n=>by rw [Ap (nd e)];exact n) (fun b o hc e=>⟨o,k b o (fun z=>hc (by simp [z])) e⟩) (fun b xs e=>by rw [Ap (A6 e fd)];exact e) (fun b o u e=>by rw [Ap (A6 e fd)];exact e)
  (fun b ps e=>⟨#[],by rw [Ap (A6 e fd),e];simp⟩) (fun m hm=>?_) (fun b u e=>?_) I.bare
 ·have e:b=it:=by simpa using hb
  subst e
  exact ⟨f3,f1,f4,f5⟩
 ·obtain ⟨o,es,ep,ho,r⟩:=hm
  exact ⟨o,es,ep,k _ o (Ne.symm f1) ho,r⟩
 ·by_cases hb:b=d
  ·subst hb
   rw [Av] at e
   cases e
   exact ⟨hz,its,n,r,‹_›⟩
  ·rw [Ap hb] at e
   refine (I.hok b u e).stay (fun c v hc q=>k c v ?_ q) (fun c q=>by rw [Ap (A6 q fd)];exact q) fun c xs q=>by rw [Ap (A6 q fd)];exact q
   rcases hc with z | z
   ·rw [z];exact nit e
   ·exact nit z
end
theorem vals_rev {ys:List V} {its:List Value} (r:Vals ys its) {acc:Array Value} (h:ItemsOf (fun i v=>its.toArray[its.toArray.size - 1 - i]?=some v) acc its.toArray.size):Vals ys.reverse acc.toList:=by
 have e:acc.toList=its.reverse:=by
  apply List.ext_getElem?
  intro i
  obtain ⟨h1,h2⟩:=h
  have hs:its.toArray.size=its.length:=by simp
  by_cases hi:i < its.length
  ·have ha:acc[i]?=some (acc[i]'(by omega)):=by simp
   have q:=h2 i _ ha
   rw [List.getElem?_reverse (by omega)]
   have q':its[its.length - 1 - i]?=some (acc[i]'(by omega)):=by simpa using q
   rw [q']
   simp
  ·rw [List.getElem?_eq_none (by simp;omega),List.getElem?_eq_none (by simp;omega)]
 rw [e]
 exact r.reverse
section
variable {X:Cx} {a:Expr} {ta:TE} {p1 p2 pos1 pos2:Pos}
def tListRev (K:PySem.W.Frag) (ta:TE):TE:=fun σ H Q=>ta σ H fun x H1=>∃ l ys,x=.ref l/\SqL K H1 l ys/\∀ d,H1 d=none->Q (.ref d) (upd H1 d (.lst ys.reverse))
theorem pe_listRev (hc:X.calm=true) (hm1:X.mg "list"=none) (hm2:X.mg "reversed"=none) (ha:PE X a ta) (hg1:Gl X "list":=by rfl) (hg2:Gl X "reversed":=by rfl)
  (he:starEach [(.Call (.Name "reversed" p2) [a] [] pos2:Expr)] X.env=[(false,eval (.Call (.Name "reversed" p2) [a] [] pos2) X.env)]:=by rfl) (he2:starEach [a] X.env=[(false,eval a X.env)]:=by rfl) :
  PE X (.Call (.Name "list" p1) [.Call (.Name "reversed" p2) [a] [] pos2] [] pos1) (tListRev X.K ta):=by
 intro pins s σ H Q I h
 refine wpAny_Call_Name_kw (Dl I hg1 hm1 boot_list ?_)
 refine PyProof.Rows.callWith_type1 ?_ he rfl
 rw [he]
 refine Calls.spliced_cons ?_
 refine wpAny_Call_Name_kw (Dl I hg2 hm2 boot_reversed ?_)
 refine PyProof.Rows.callWith_type1 ?_ he2 rfl
 rw [he2]
 refine Calls.spliced_cons (thn (ha pins s σ H _ I h) fun u s1 ⟨x,H1,I1,r1,l,ys,ex,hq,q⟩=>?_)
 subst ex
 cases r1
 obtain ⟨its,rv,pl,hz⟩:=I1.list hq
 have hlen:=rv.length
 refine Calls.spliced_nil (call_reversed_list pl.isList ?_)
 refine Calls.spliced_nil ?_
 have I2:Inv X pins σ H1 { s1 with heap:=s1.heap.push (revObj l ((its.toArray.size:Int) - 1)) }:=I1.kept (t':=s1.toks) fun b o e=>Heap.get?_push_of_some _ e
 have hf:FpOk X pins H1 s1.heap.objs.size:=I1.fpOk (Nat.le_refl _) (I1.hok.fresh (Nat.le_refl _))
 have hlt:l < s1.heap.objs.size:=by obtain ⟨o,n,e,_⟩:=pl;exact Heap.lt_size e
 refine DQ (s:={ s1 with heap:=s1.heap.push (revObj l ((its.toArray.size:Int) - 1)) }) (I.ok.hd hc) (Nat.ne_of_lt hlt) ⟨_,Heap.get?_push_size _ rfl,rfl,rfl⟩ (pl.isList.push _) (by rw [List.size_toArray];omega) fun h' tk acc c kp e hacc=>?_
 refine ⟨.ref _,_,I2.Hr (n:=c) hf (Nat.le_refl _) kp (by rw [List.length_reverse];exact hz) (vals_rev rv hacc) (by simpa using e),rfl,q _ (I2.hok.fresh (Nat.le_refl _))⟩
theorem call_sum (hc:X.calm=true):Cs X (.builtin "sum") (fun xs H Q=>∃ (l:Addr) (ns:List Int),xs=[.ref l]/\SqL X.K H l (ns.map V.int)/\Q (.int ns.sum) H):=by
 intro pins s σ H xs us Q I r h
 obtain ⟨l,ns,rfl,hq,q⟩:=h
 obtain ⟨u,rfl,rx⟩:=vals1 r
 cases rx
 obtain ⟨its,rv,pl,hz⟩:=I.list hq
 have hi:=intsAre_of rv
 obtain ⟨zs,hx⟩:=hi.allInts.items
 have hl':s.heap.IsList l (intItems zs):=hx▸pl.isList
 refine sum_intListG (I.ok.hd hc) hl' fun h' tk t' hk=>?_
 have e1:ns=zs.toList.map (·.1):=by
  rw [<- nums_intItems,<- hx]
  exact (show numsOf its.toArray.toList=ns from hi.numsOf).symm
 have e2:preSum (numAt zs) zs.size=ns.sum:=by
  rw [preSum_eq,List.take_of_length_le (by simp),e1]
 rw [e2]
 exact ⟨.int ns.sum,H,I.kept hk,⟨_,rfl⟩,q⟩
theorem op_mulK:OpR X (binaryOp .Mult) (rI IntMulOk fun i j=>.int (i * j)):=opI fun _ _ _ _ _ _ _ hc q=>mul_int q hc
theorem op_mulStr:OpR X (binaryOp .Mult) (fun x y H Q=>∃ z n,x=.str z/\y=.int n/\MulOk z n/\Q (.str (Txt.mul z n)) H):=by
 intro pins s σ H x y v u Q I rx ry h
 obtain ⟨z,n,rfl,rfl,hok,q⟩:=h
 obtain ⟨t,rfl⟩:=rx
 obtain ⟨t',rfl⟩:=ry
 exact SB.mul hok fun t' k=>⟨.str _,H,I.tok _,⟨_,rfl⟩,q⟩
theorem Eu:∀ {ys:List Str} {us:List Value},Vals (ys.map V.str) us->StrsAre us ys
 | [],_,.nil=>.nil
 | y :: ys,_,.cons r t=>by
  obtain ⟨tk,rfl⟩:=(show ∃ tk,_=Value.str y tk from r)
  exact .cons _ _ (Eu t)
theorem mt_join:MtR X "str.join" (fun x xs H Q=>∃ (z:Str) (l:Addr) (ys:List Str),x=.str z/\xs=[.ref l]/\SqL X.K H l (ys.map V.str)/\(ys.map (·.length)).sum+ys.length * z.length<=16777216/\Q (.str (Txt.join z ys)) H):=by
 intro pins s σ H x xs v us Q I rx rv h
 obtain ⟨z,l,ys,rfl,rfl,hq,hok,q⟩:=h
 obtain ⟨t,rfl⟩:=rx
 obtain ⟨u,rfl,ru⟩:=vals1 rv
 cases ru
 obtain ⟨its,r,pl,hz⟩:=I.list hq
 exact join_list pl.isList (Eu r) hok fun t' k=>⟨.str _,H,I.tok _,⟨_,rfl⟩,q⟩
end
def Itrs (lo st:Int) (n:Nat):It:=⟨fun i _=>i < n,fun i H x H'=>H'=H/\x=.int (lo+i * st),fun i _=>n<=i⟩
theorem HF {P:Program} {w:World} {K:PySem.W.Frag} {tg:Expr} (it:Addr) (lo st:Int) (n:Nat):Turn P w K tg (Itrs lo st n) [it] it (fun i h=>IsRangeIter h it (lo+(i:Nat) * st) ((n:Int) - (i:Nat)) st) where
 mem:=by simp
 obj:=fun i h st b hb=>by
  have e:b=it:=by simpa using hb
  subst e
  exact ⟨_,st,fun v z=>by
   have z':Data.fields _=Data.cell v:=z
   cases z'⟩
 keep:=fun i h h' st k=>k it (by simp) _ st
 item:=by
  intro X hP hw hK hc i pins s σ H E I hf stt hg
  subst hP hw hK
  obtain ⟨f0,f1,f2,f3,f4,f5⟩:=hf it (by simp)
  have W:=Walks.range (prog:=X.prog) (w:=X.w) (I.ok.hd hc) it lo st n
  refine W.item i s _ _ hg stt fun v h' tk hv st' kk=>?_
  obtain ⟨t,rfl⟩:=hv
  have I1:Inv X pins σ H { s with heap:=h',toks:=tk }:=I.turned (fun b o hb e=>kk b o (by simpa using hb) e) f0 f1 f3 f4 f5
  exact ⟨_,rfl,go_of (s:={ s with heap:=h',toks:=tk }) (n:="range_iterator") st' rfl rfl (by decide) ⟨.int (lo+i * st),H,I1,⟨t,rfl⟩,⟨rfl,rfl⟩,st',fun b hb=>(hf b hb).1⟩⟩
 done:=by
  intro X hP hw hK hc i pins s σ H E I hf st hg
  subst hP hw hK
  obtain ⟨f0,f1,f2,f3,f4,f5⟩:=hf it (by simp)
  exact wpAny_pyNext_range_end (I.ok.hd hc) st (by have:n<=i:=hg;omega) fun h' eb=>⟨rfl,I.turned (t':=s.toks) (fun b o hb e=>eb b o hb e) f0 f1 f3 f4 f5⟩
 self:=fun _ _ _ _ _ st h=>wpAny_pyIter_rangeiter st h
def iRng3 (ta:TA):TI:=fun σ H R=>ta σ H fun vs H1=>∃ i j c:Int,vs=[.int i,.int j,.int c]/\0 < c/\c < 1073741824/\Builtin.Range.small i j c=true/\0<=Builtin.Range.rangeSize i j c/\R (Itrs i c (Builtin.Range.rangeSize i j c).toNat) H1
section
variable {X:Cx} {tg:Expr}
theorem pi_range3 {a b c:Expr} {ta:TA} {p pos:Pos} (hg:Gl X "range") (hm:X.mg "range"=none) (ha:PA X [a,b,c] ta) (hs:starEach [a,b,c] X.env=[(false,eval a X.env),(false,eval b X.env),(false,eval c X.env)]:=by rfl)
  (hs2:starEach [b,c] X.env=[(false,eval b X.env),(false,eval c X.env)]:=by rfl):PI X tg (.Call (.Name "range" p) [a,b,c] [] pos) (iRng3 ta):=by
 intro pins s σ H R I h
 refine Call_ (Dl I hg hm boot_range (PyProof.Rows.callWith_type1 (thn (ha pos pins s σ H _ I h) fun us s1 ⟨vs,H1,I1,r1,q1⟩=>?_) (by rw [hs,hs2]) (by rw [hs2];rfl)))
 obtain ⟨i,j,k,e,h0,hk,hsm,hn,q⟩:=q1
 subst e
 cases r1 with
 | cons r rr =>
  cases rr with
  | cons r' rr =>
   cases rr with
   | cons r'' rr =>
    cases rr
    obtain ⟨t,rfl⟩:=r
    obtain ⟨t',rfl⟩:=r'
    obtain ⟨t'',rfl⟩:=r''
    refine call_range_3 (by omega) ?_ (.inl (PyProof.noPylong_small (by omega)))
    refine wpAny_pyIter_range (IsRange.new ..) hsm ?_
    have I2:Inv X pins σ H1 { s1 with heap:=s1.heap.push { cls:=.type "range",data:=.fields #[.int i t,.int j t',.int k t''] },toks:=s1.toks }:=I1.kept fun b o e=>Heap.get?_push_of_some _ e
    refine ⟨(s1.heap.push { cls:=.type "range",data:=.fields #[.int i t,.int j t',.int k t''] }).objs.size,[(s1.heap.push { cls:=.type "range",data:=.fields #[.int i t,.int j t',.int k t''] }).objs.size],_,_,H1,rfl,
     I2.kept (t':=s1.toks) fun b o e=>Heap.get?_push_of_some _ e,HF _ i k (Builtin.Range.rangeSize i j k).toNat,?_,fun b hb=>?_,q⟩
    ·have e1:i+((0:Nat):Int) * k=i:=by simp
     have e2:(((Builtin.Range.rangeSize i j k).toNat:Nat):Int) - ((0:Nat):Int)=Builtin.Range.rangeSize i j k:=by omega
     show IsRangeIter _ _ (i+((0:Nat):Int) * k) ((((Builtin.Range.rangeSize i j k).toNat:Nat):Int) - ((0:Nat):Int)) k
     rw [e1,e2]
     exact Heap.get?_push_size _ rfl
    ·have e:b=(s1.heap.push { cls:=.type "range",data:=.fields #[.int i t,.int j t',.int k t''] }).objs.size:=by simpa using hb
     subst e
     exact I2.fpOk (Nat.le_refl _) (I2.hok.fresh (Nat.le_refl _))
def Its (z:Str):It:=⟨fun i _=>i < z.cps.size,fun i H x H'=>H'=H/\∃ c,z.cps[i]?=some c/\x=.str ⟨#[c]⟩,fun i _=>z.cps.size<=i⟩
theorem go_str {M:Model} {A:Around} {E:Value->Shared->Prop} {s:Shared} {tg:Expr} {it:Value} {x:Str} {t:Tok} {Q:Unit->Shared->Prop} (hQ:Q () s):wpAny M A (letOwnedTupleGo tg it (.str x t)) Q E s:=by
 unfold letOwnedTupleGo
 cases tg <;> first
  | exact wpAny_pure hQ
  | (cases it <;> exact wpAny_pure hQ)
theorem turn_str {P:Program} {w:World} {K:PySem.W.Frag} {tg:Expr} (it:Addr) (ty:String) (z:Str) (t:Tok) (hty:ty="str_ascii_iterator"∨ty="str_iterator"):Turn P w K tg (Its z) [it] it (fun i h=>h.IsStrIter it ty z t i) where
 mem:=by simp
 obj:=fun i h st b hb=>by
  have e:b=it:=by simpa using hb
  subst e
  obtain ⟨o,e,c,d⟩:=st
  exact ⟨o,e,fun v z=>by rw [d] at z;cases z⟩
 keep:=fun i h h' st k=>by
  obtain ⟨o,e,c,d⟩:=st
  exact ⟨o,k it (by simp) o e,c,d⟩
 item:=by
  intro X hP hw hK hc i pins s σ H E I hf st hg
  subst hP hw hK
  obtain ⟨f0,f1,f2,f3,f4,f5⟩:=hf it (by simp)
  have fin:∀ (v:Value) (h':Heap) (tk:Nat),SignAt z i v->h'.IsStrIter it ty z t (i+1)->(∀ b o,b∉[it]->s.heap.get? b=some o->h'.get? b=some o) ->
    ∃ u,some v=some u/\wpAny (model X.prog X.w) X.A (letOwnedTupleGo tg (.ref it) u) (fun _ s2=>∃ x H',Inv X pins σ H' s2/\RelV x u/\(Its z).yld i H x H'/\s2.heap.IsStrIter it ty z t (i+1)/\∀ b∈[it],H' b=none) E { s with heap:=h',toks:=tk }:=fun v h' tk hv st' kk=>by
   obtain ⟨c,u,hcs,rfl⟩:=hv
   have I1:Inv X pins σ H { s with heap:=h',toks:=tk }:=I.turned (fun b o hb e=>kk b o (by simpa using hb) e) f0 f1 f3 f4 f5
   exact ⟨_,rfl,go_str ⟨.str ⟨#[c]⟩,H,I1,⟨u,rfl⟩,⟨rfl,c,hcs,rfl⟩,st',fun b hb=>(hf b hb).1⟩⟩
  rcases hty with rfl | rfl
  ·exact (Walks.strAscii (prog:=X.prog) (w:=X.w) (I.ok.hd hc) it z t).item i s _ _ hg st fin
  ·exact (Walks.strWide (prog:=X.prog) (w:=X.w) (I.ok.hd hc) it z t).item i s _ _ hg st fin
 done:=by
  intro X hP hw hK hc i pins s σ H E I hf st hg
  subst hP hw hK
  obtain ⟨f0,f1,f2,f3,f4,f5⟩:=hf it (by simp)
  have hz:z.cps[i]?=none:=Array.getElem?_eq_none hg
  rcases hty with rfl | rfl
  ·exact wpAny_pyNext_ascii_end (I.ok.hd hc) st hz fun h' he'=>⟨rfl,I.turned (t':=s.toks) (fun b o hb e=>he' b o hb e) f0 f1 f3 f4 f5⟩
  ·exact wpAny_pyNext_wide_end (I.ok.hd hc) st hz fun h' he'=>⟨rfl,I.turned (t':=s.toks) (fun b o hb e=>he' b o hb e) f0 f1 f3 f4 f5⟩
 self:=fun _ _ _ _ _ st h=>by
  rcases hty with rfl | rfl
  ·exact wpAny_pyIter_striter_ascii st h
  ·exact wpAny_pyIter_striter_wide st h
end
section
variable {K:PySem.W.Frag} {a:Addr} {xs:List V} {g:TG} {te:TE} {Q:VK} {τ0:St} {H1:Hp}
end
section
variable {X:Cx} (K:PySem.W.Frag)
end
theorem mt_popS {X:Cx}:MtM X "list.pop" (fun x vs H Q=>∃ l e z,x=.ref l/\vs=[]/\H l=some (.lst (e++[z]))/\Q z (upd H l (.lst e))):=by
 intro pins s σ H x vs v us Q I rx rv h
 obtain ⟨l,e,z,rfl,rfl,hH,q⟩:=h
 refine mt_pop pins s σ H _ _ v us Q I rx rv ⟨l,e++[z],z,rfl,rfl,hH,by simp,?_⟩
 rw [List.dropLast_concat]
 exact q
structure FnAt (P:Program) (w:World) (K:PySem.W.Frag) (mg:Str->Option Value) (base:Heap) (CX:CXT) (x:Str) (k:Nat) (ps:List Str) (sp:Sp):Prop where
 ex:∃ f fd,Dh P w K mg base CX k f fd ps sp/\mg x=some (.ref f)/\PySem.W.keepIn K (.ref f)=true/\Binds K fd ps []
section
variable {X:Cx} {CX:CXT} {k:Nat} {ps:List Str} {sp:Sp} {E:XK} {x:Str} {p pos:Pos} {e:Expr} {es:List Expr} {t:TA}
theorem pe_fn (G:FnAt X.prog X.w X.K X.mg X.base CX x k ps sp) (hr:E8 k X.A) (hx:Passes CX X E) (ha:PA X (e :: es) t) (hg:Gl X x:=by rfl) (hdb:(x == ("__debug__":Str))=false:=by decide)
  (he:starEach (e :: es) X.env=(false,eval e X.env) :: starEach es X.env:=by rfl) (hpl:(backTo pos (starEach es X.env)).any (·.1)=false:=by rfl):PE X (.Call (.Name x p) (e :: es) [] pos) (tCall sp [] E t):=by
 obtain ⟨f,fd,F,hm,hk,hb⟩:=G.ex
 exact pe_call F hr hg hm hk hb .nil hx ha hdb he hpl
end
end L2
namespace L2
open PySem PySem.Spec PyProof.Rows
section
variable {X:Cx} {x:Str} {pos:Pos}
theorem keyIs_rel {k:Key} {v:Value} (h:Fd k v=true):RelV (kV k) v:=by
 rcases AW h with ⟨i,t,rfl,rfl⟩ | ⟨x,t,rfl,rfl⟩
 ·exact ⟨t,rfl⟩
 ·exact ⟨t,rfl⟩
theorem vals_keys {kvs:List (Key×V)} {vs:List (Key×Value)} {acc:Array Value} (r:KV kvs vs) (h:ItemsOf (fun i v=>∃ k x,vs[i]?=some (k,x)/\Fd k v=true) acc vs.length):Vals (kvs.map fun kv=>kV kv.1) acc.toList:=by
 obtain ⟨h1,h2⟩:=h
 have key:∀ (kvs:List (Key×V)) (vs:List (Key×Value)) (l:List Value),KV kvs vs->l.length=vs.length->(∀ (j:Nat) (v:Value),l[j]?=some v->∃ k x,vs[j]?=some (k,x)/\Fd k v=true)->Vals (kvs.map fun kv=>kV kv.1) l:=by
  intro kvs
  induction kvs with
  | nil =>
   intro vs l r hl _
   cases r
   have:l=[]:=List.eq_nil_of_length_eq_zero (by simpa using hl)
   subst this
   exact .nil
  | cons p kvs ih =>
   intro vs l r hl hh
   cases r with
   | @cons _ q _ vr e t =>
    cases l with
    | nil=>simp at hl
    | cons v l =>
     obtain ⟨k,x,e1,e2⟩:=hh 0 v rfl
     have e1':q=(k,x):=Option.some.inj e1
     refine .cons ?_ (ih vr l t (by simpa using hl) fun j w hw=>?_)
     ·have:p.1=k:=by rw [e.1,e1']
      show RelV (kV p.1) v
      rw [this]
      exact keyIs_rel e2
     ·exact hh (j+1) w hw
 exact key kvs vs acc.toList r (by rw [Array.length_toList];exact h1) fun j v e=>h2 j v (by rw [<- Array.getElem?_toList];exact e)
end
section
variable {X:Cx} {CX:CXT} {k:Nat} {C:Addr} {ps:List Str} {sp:Sp} {E:XK} {x m:Str} {p pos apos:Pos} {e o:Expr} {es:List Expr} {ta:TE} {t:TA}
end
end L2
namespace L2
open PySem PySem.Spec PyProof.Rows
def orR (r r':R2):R2:=fun x y H Q=>r x y H Q∨r' x y H Q
section
variable {X:Cx}
theorem OpR.orR {f:Value->Value->Sem Value} {r r':R2} (h:OpR X f r) (h':OpR X f r'):OpR X f (orR r r'):=fun pins s σ H x y v u Q I rx ry q=>q.elim (h pins s σ H x y v u Q I rx ry) (h' pins s σ H x y v u Q I rx ry)
theorem IxR.orR {r r':R2} (h:IxR X r) (h':IxR X r'):IxR X (L2.orR r r'):=fun value slice pins s σ H x y v u Q I rx ry q e=>q.elim (fun q=>h value slice pins s σ H x y v u Q I rx ry q e) (fun q=>h' value slice pins s σ H x y v u Q I rx ry q e)
def rDGet:R2:=fun x y H Q=>∃ a v,x=.ref a/\DGet H a y (some v)/\Q v H
def rDIn (neg:Bool):R2:=fun y x H Q=>∃ a o,x=.ref a/\DGet H a y o/\Q (.bl (if neg then !o.isSome else o.isSome)) H
theorem op_dnotin (hu:X.A.units+1 < cLine):OpR X (compareOp .NotIn) (rDIn true):=by
 intro pins s σ H y x v u Q I ry rx h
 obtain ⟨a,o,rfl,g,q⟩:=h
 obtain rfl:u=Value.ref a:=rx
 exact d_notIn hu I g ry fun s3 I3=>⟨.bl (!o.isSome),H,I3,rfl,q⟩
theorem ix_dict (hu:X.A.units+1 < cLine):IxR X rDGet:=by
 intro value slice pins s σ H x y v u Q I rx ry h hs
 obtain ⟨a,w,rfl,g,q⟩:=h
 obtain rfl:v=Value.ref a:=rx
 have hT:=dict_typeIs I g
 have h₂:wpAny (model X.prog X.w) X.A (getItem (.ref a) u) (EP X pins σ Q) X.xe s:=d_getItem hu I g ry fun w' s3 I3 rw'=>⟨w,H,I3,rw',q⟩
 unfold subscriptTail
 refine wpAny_bind ?_
 rw [getitemInPython_of_ne hT.not_modules]
 refine wpAny_bind (wpAny_specialOf hT PySem.F.slot_dict_getitem.lookup ?_)
 have fin:wpAny (model X.prog X.w) X.A (subscripted slice false (.ref a) u) (fun r s₃=>wpAny (model X.prog X.w) X.A (letTemporaryGo value (.ref a) r >>= fun _=>pure r) (EP X pins σ Q) X.xe s₃) X.xe s:=by
  rw [hs]
  exact wpAny_operating (wpAny_mono h₂ (fun r s₃ h₃=>wpAny_bind (wpAny_letTemporaryGo (wpAny_pure h₃))) fun _ _ x=>x)
 first
  | exact wpAny_pure (wpAny_bind fin)
  | exact wpAny_bind (wpAny_pure (wpAny_bind fin))
  | exact wpAny_bind fin
def orSet (r r':TSet):TSet:=fun o i v H Q=>r o i v H Q∨r' o i v H Q
theorem PSet.orR {r r':TSet} (h:PSet X r) (h':PSet X r'):PSet X (orSet r r'):=fun pins s σ H o i v ov iv u Q I r1 r2 r3 q=>q.elim (h pins s σ H o i v ov iv u Q I r1 r2 r3) (h' pins s σ H o i v ov iv u Q I r1 r2 r3)
def rDPut:TSet:=fun o i v H Q=>∃ a H4,o=.ref a/\DPut H a i v H4/\Q H4
theorem set_dict (hu:X.A.units+1 < cLine):PSet X rDPut:=by
 intro pins s σ H o i v ov iv u Q I ro ri rv h
 obtain ⟨a,H4,rfl,g,q⟩:=h
 obtain rfl:ov=Value.ref a:=ro
 exact d_setItem hu I g ri rv fun s4 I4=>⟨H4,I4,q⟩
def orCall (r r':List V->Hp->VK->Prop):List V->Hp->VK->Prop:=fun vs H Q=>r vs H Q∨r' vs H Q
theorem Cs.orR {f:Value} {r r':List V->Hp->VK->Prop} (h:Cs X f r) (h':Cs X f r'):Cs X f (orCall r r'):=fun pins s σ H xs us Q I rx q=>q.elim (h pins s σ H xs us Q I rx) (h' pins s σ H xs us Q I rx)
def orMt (r r':V->List V->Hp->VK->Prop):V->List V->Hp->VK->Prop:=fun x vs H Q=>r x vs H Q∨r' x vs H Q
theorem MtR.orR {id:String} {r r':V->List V->Hp->VK->Prop} (h:MtR X id r) (h':MtR X id r'):MtR X id (orMt r r'):=fun pins s σ H x xs v us Q I rx rs q=>q.elim (h pins s σ H x xs v us Q I rx rs) (h' pins s σ H x xs v us Q I rx rs)
def iSeq (K:PySem.W.Frag) (tl:TE):TI:=fun σ H R=>tl σ H fun x H1=>(∃ a,x=.ref a/\(∃ xs,SqL K H1 a xs)/\R (Itl K a) H1)∨(∃ a,x=.ref a/\(∃ xs,SqT K H1 a xs)/\R (Itt K a) H1)∨(∃ z,x=.str z/\R (Its z) H1)
variable {tg:Expr}
theorem pi_seq {l:Expr} {tl:TE} (hl:PE X l tl):PI X tg l (iSeq X.K tl):=by
 intro pins s σ H R I h
 have key:∀ (x:V) (H1:Hp) (v:Value) (s1:Shared),Inv X pins σ H1 s1->RelV x v->((∃ a,x=.ref a/\(∃ xs,SqL X.K H1 a xs)/\R (Itl X.K a) H1)∨(∃ a,x=.ref a/\(∃ xs,SqT X.K H1 a xs)/\R (Itt X.K a) H1)∨(∃ z,x=.str z/\R (Its z) H1)) ->
   wpAny (model X.prog X.w) X.A (pyIter v) (PIE X pins σ tg R) X.xe s1:=by
  intro x H1 v s1 I1 r1 q1
  rcases q1 with ⟨a,e,⟨xs,hq⟩,q⟩ | ⟨a,e,⟨xs,hq⟩,q⟩ | ⟨z,e,q⟩
  ·subst e
   cases r1
   obtain ⟨its,rv,p,hz⟩:=I1.list hq
   refine wpAny_pyIter_list p.isList ?_
   refine ⟨s1.heap.objs.size,[s1.heap.objs.size],_,_,H1,rfl,I1.kept (t':=s1.toks) fun b o e=>Heap.get?_push_of_some _ e,turn_list a _,⟨_,Heap.get?_push_size _ rfl,rfl,rfl⟩,fun b hb=>?_,q⟩
   have e:b=s1.heap.objs.size:=by simpa using hb
   subst e
   exact I1.fpOk (Nat.le_refl _) (I1.hok.fresh (Nat.le_refl _))
  ·subst e
   cases r1
   obtain ⟨its,rv,p,hz⟩:=I1.tuple hq
   refine wpAny_pyIter_tuple (show s1.heap.IsTuple a its.toArray from p) ?_
   refine ⟨s1.heap.objs.size,[s1.heap.objs.size],_,_,H1,rfl,I1.kept (t':=s1.toks) fun b o e=>Heap.get?_push_of_some _ e,turn_tuple a _,⟨_,Heap.get?_push_size _ rfl,rfl,rfl⟩,fun b hb=>?_,q⟩
   have e:b=s1.heap.objs.size:=by simpa using hb
   subst e
   exact I1.fpOk (Nat.le_refl _) (I1.hok.fresh (Nat.le_refl _))
  ·subst e
   obtain ⟨t,rfl⟩:=r1
   have go:∀ (ty:String),(ty="str_ascii_iterator"∨ty="str_iterator")->PIE X pins σ tg R (.ref s1.heap.objs.size) { s1 with heap:=s1.heap.push { cls:=.type ty,data:=.fields #[.str z t,.int 0 0] } }:=fun ty hty=>by
    refine ⟨s1.heap.objs.size,[s1.heap.objs.size],_,_,H1,rfl,I1.kept (t':=s1.toks) fun b o e=>Heap.get?_push_of_some _ e,turn_str _ ty z t hty,⟨_,Heap.get?_push_size _ rfl,rfl,rfl⟩,fun b hb=>?_,q⟩
    have e:b=s1.heap.objs.size:=by simpa using hb
    subst e
    exact I1.fpOk (Nat.le_refl _) (I1.hok.fresh (Nat.le_refl _))
   cases ha:z.cps.all (· < 128)
   ·exact wpAny_pyIter_wide ha (go _ (.inr rfl))
   ·exact wpAny_pyIter_ascii ha (go _ (.inl rfl))
 exact thn (hl pins s σ H _ I h) fun v s1 ⟨x,H1,I1,r1,q1⟩=>key x H1 v s1 I1 r1 q1
end
end L2
namespace PySem
namespace Zp
section
variable {prog:Program} {w:World} {A:Around} {E:Value->Shared->Prop} {s:Shared}
end
section
variable {prog:Program} {w:World} {A:Around} {E:Value->Shared->Prop} {s:Shared} {z TI TO i1 i2 l1 l2:Addr} {xs ys:Array Value} {S1 S2:Nat->Heap->Prop}
end
end Zp
end PySem
namespace PySem
namespace Zp
section
variable {prog:Program} {w:World} {A:Around} {E:Value->Shared->Prop} {s:Shared} {z TI TO i1 i2 l1 l2:Addr} {xs ys:Array Value} {S1 S2:Nat->Heap->Prop}
end
end Zp
end PySem
namespace L2
open PySem PySem.Spec PyProof.Rows
section
variable {X:Cx} {pins:List (Addr×Obj)} {σ:St} {H:Hp} {s:Shared} {a:Addr} {xs ys:List V} {b:Bool}
end
end L2
namespace PySem
namespace Zp
end Zp
end PySem
namespace L2
open PySem PySem.Spec PyProof.Rows
end L2
namespace PySem
theorem extend_tupW (l b:Addr) (items items2:Array Value) (n n2:Nat) (dd2:Option Addr) (sl2:Array (Option Value)) (hs0:¬(!items.isEmpty && Builtin.List.listTooLong (items.size+items2.size))=true) (hs1:items.size<=sizeLine) (hs2:items.size+items2.size<=sizeLine+1) :
  Meets (Builtin.«list.extend» ⟨[.ref l,.ref b],[]⟩) (fun _ R s=>s.heap.get? l=some { cls:=.type "list",dict:=none,data:=.seq items n,slots:=#[] }/\s.heap.get? b=some { cls:=.type "tuple",dict:=dd2,data:=.seq items2 n2,slots:=sl2 } /\
   R (.ok (.ret Value.none)) { s with heap:=s.heap.update l (Obj.mapSeq fun x=>x++items2),toks:=s.toks }) :=
 .of_wp fun prog w A R s h=>by
  obtain ⟨hp,g,d,tk,os⟩:=s;obtain ⟨hl,hb,h⟩:=h;have f1:=AutoSeq1.idx_int;have f2:=AutoSeq1.sub_tuple_tuple;have f3:=AutoSeq1.sub_list_list;have f4:=AutoSeq1.sub_tuple_list;have f5:=AutoSeq1.sub_list_tuple
  have hz':(items++items2).size<=sizeLine+1:=by rw [Array.size_append];exact hs2
  wp_walk using (wpAny_updateSeq hl rfl (hz:=hs1) (_hz':=hz')),wpAny_loadPart' hl,wpAny_loadPart' hb
  exact ⟨_,rfl,h⟩
end PySem
namespace L2
open PySem PySem.Spec PyProof.Rows
section
variable {X:Cx}
def rExtT (K:PySem.W.Frag):V->List V->Hp->VK->Prop:=fun x vs H Q=>∃ l b xs zs,x=.ref l/\vs=[.ref b]/\H l=some (.lst xs)/\SqT K H b zs/\xs.length+zs.length<=sizeLine/\Q .non (upd H l (.lst (xs++zs)))
theorem mt_extT:MtM X "list.extend" (rExtT X.K):=by
 intro pins s σ H x vs v us Q I rx rv h
 obtain ⟨l,b,xs,zs,rfl,rfl,hH,hB,hz,q⟩:=h
 cases rx
 obtain ⟨u,rfl,ru⟩:=rv.one
 cases ru
 obtain ⟨z,its,n,r,hl,e⟩:=I.lstM hH
 obtain ⟨its2,r2,⟨⟨cls,dd,data,sl⟩,ho,hc,n2,hd⟩,z2⟩:=I.tuple hB
 simp only at hc hd
 subst hc hd
 have e1:=r.length
 have e2:=r2.length
 have hsz:its.toArray.size+its2.toArray.size<=sizeLine:=by rw [List.size_toArray,List.size_toArray];omega
 have hlong:¬ (!its.toArray.isEmpty && Builtin.List.listTooLong (its.toArray.size+its2.toArray.size))=true:=by
  rw [notLongL hsz,Bool.and_false]
  exact Bool.false_ne_true
 refine call_meets F.slot_list_extend ⟨_,e,rfl⟩ F.entry_list_extend (F.args_list_extend_2 _ _) (extend_tupW l b its.toArray its2.toArray n n2 dd sl hlong (by rw [List.size_toArray];omega) (by omega)) ⟨e,ho,?_⟩
 refine ⟨.non,_,I.lset (its':=its++its2) hH e (by simp) (r.append r2) ?_,rfl,q⟩
 rw [List.length_append]
 omega
def rCatT0 (K:PySem.W.Frag):R2:=fun x y H Q=>∃ a b ys,x=.ref a/\y=.ref b/\SqT K H a []/\SqT K H b ys/\Q (.ref b) H
theorem op_catT0:OpR X (binaryOp .Add) (rCatT0 X.K):=by
 intro pins s σ H x y v u Q I rx ry h
 obtain ⟨a,b,ys,rfl,rfl,ha,hb,q⟩:=h
 cases rx
 cases ry
 obtain ⟨its,r1,⟨⟨cls,dd,data,sl⟩,ho,hc,n,hd⟩,_⟩:=I.tuple ha
 obtain ⟨its2,r2,⟨⟨cls2,dd2,data2,sl2⟩,ho2,hc2,n2,hd2⟩,_⟩:=I.tuple hb
 simp only at hc hd hc2 hd2
 subst hc hd hc2 hd2
 cases r1
 exact concat_meets ⟨_,ho,rfl⟩ ⟨_,ho2,rfl⟩ noFill_tuple_add seq_tuple_add PySem.F.slot_tuple_add PySem.F.entry_tuple_add (PySem.F.args_tuple_add_2 _ _) (tuple_addW0 a b _ _ n n2 dd dd2 sl sl2 (by simp)) ⟨ho,ho2,⟨.ref b,H,I,rfl,q⟩⟩
theorem E3 (T:String):Cs X (.builtin "isinstance") (fun xs H Q=>∃ x t b,xs=[x,.ty T]/\TyOf X.K H x t/\PySem.W.kitOne X.K t (.type T)=some b/\Q (.bl b) H):=by
 intro pins s σ H xs us Q I r h
 obtain ⟨x,t,b,rfl,ty,e,q⟩:=h
 cases r with
 | cons r1 rr =>
  cases rr with
  | cons r2 rr =>
   cases rr
   obtain rfl:_=Value.type T:=r2
   exact isinst_ok I r1 ty e fun tk=>⟨.bl b,H,I.tok tk,rfl,q⟩
end
end L2
namespace PySem
namespace Zp
section
variable {prog:Program} {w:World} {A:Around} {E:Value->Shared->Prop} {s:Shared} {z TI TO i1 i2 l1 l2 ad:Addr} {xs ys:Array Value} {S1 S2:Nat->Heap->Prop}
end
section
variable {prog:Program} {w:World} {A:Around} {E:Value->Shared->Prop} {s:Shared} {z TI TO i1 i2 l1 l2 ad lo S:Addr} {xs ys:Array Value} {b1 b2:Bool} {R:Result->Shared->Prop}
end
end Zp
end PySem
namespace PySem
namespace F
end F
namespace Zp
section
variable {prog:Program} {w:World} {A:Around} {E:Value->Shared->Prop} {s:Shared} {z TI TO i1 i2 l1 l2 S:Addr} {xs ys:Array Value} {b1 b2:Bool} {R:Result->Shared->Prop}
end
end Zp
end PySem
namespace L2
open PySem PySem.Spec PyProof.Rows
section
variable {X:Cx} {pins:List (Addr×Obj)} {σ:St} {H H':Hp} {s:Shared}
end
end L2
namespace PySem
namespace F
theorem HQ:typeLookup (.type "tuple") "__reversed__"=pure none:=by rw [typeLookup_type,builtinLookup_eq_fast];kernel_rfl
theorem FZ:Manifest.owners.lookup (String.ofList ['d','e','s','r','e','v','e','r'].reverse)=some Manifest.sig_reversed:=by kernel_rfl
theorem BG:Slot "reversed" "__next__" "reversed.__next__" :=
 .of (owner:="reversed") (n:="__next__") (by rw [typeLookup_type,builtinLookup_eq_fast];kernel_rfl) (by decide +kernel) (by decide +kernel) (by decide +kernel)
  (by first | exact .inl (by decide +kernel) | exact .inr (by decide +kernel)) (by rw [isSubtype_type];kernel_rfl)
theorem Dv:entryFor table "reversed.__next__"=some Builtin.«reversed.__next__»:=entryFor_of_tree (by kernel_rfl)
theorem D4 (a:Value):argsOk "reversed.__next__" ⟨[a],[]⟩:=by
 unfold argsOk;rw [signature?_of (id:="reversed.__next__") (n:=['_','_','t','x','e','n','_','_']) (o:=['d','e','s','r','e','v','e','r']) (by kernel_rfl) FZ];kernel_rfl
theorem DW:Slot "reversed" "__iter__" "reversed.__iter__" :=
 .of (owner:="reversed") (n:="__iter__") (by rw [typeLookup_type,builtinLookup_eq_fast];kernel_rfl) (by decide +kernel) (by decide +kernel) (by decide +kernel)
  (by first | exact .inl (by decide +kernel) | exact .inr (by decide +kernel)) (by rw [isSubtype_type];kernel_rfl)
theorem HC (a:Value):argsOk "reversed.__iter__" ⟨[a],[]⟩:=by
 unfold argsOk;rw [signature?_of (id:="reversed.__iter__") (n:=['_','_','r','e','t','i','_','_']) (o:=['d','e','s','r','e','v','e','r']) (by kernel_rfl) FZ];kernel_rfl
theorem Gp:entryFor table "reversed.__iter__"=some Builtin.«dict_keyiterator.__iter__» :=
 entryFor_alias (id':="dict_keyiterator.__iter__") (by kernel_rfl) (by first | rfl | decide +kernel | (unfold String.splitOn;simp +decide [String.splitOnAux])) (by decide +kernel) (by kernel_rfl)
theorem GG:Slot "reversed" "__init__" "object.__init__" :=
 .of (owner:="object") (n:="__init__") (by rw [typeLookup_type,builtinLookup_eq_fast];kernel_rfl) (by decide +kernel) (by decide +kernel) (by decide +kernel)
  (by first | exact .inl (by decide +kernel) | exact .inr (by decide +kernel)) (by rw [isSubtype_type];kernel_rfl)
theorem called_rv:TypeCalled "reversed" "reversed.__new__" "object.__init__" :=
 ⟨by decide +kernel,by decide +kernel,⟨_,_,mro_reversed⟩,made_reversed,by decide +kernel,by rw [isSubtype_type];kernel_rfl,GG⟩
theorem nolen_rv:typeLookup (.type "reversed") "__len__"=pure none:=by rw [typeLookup_type,builtinLookup_eq_fast];kernel_rfl
theorem CJ:Slot "reversed" "__length_hint__" "reversed.__length_hint__" :=
 .of (owner:="reversed") (n:="__length_hint__") (by rw [typeLookup_type,builtinLookup_eq_fast];kernel_rfl) (by decide +kernel) (by decide +kernel) (by decide +kernel)
  (by first | exact .inl (by decide +kernel) | exact .inr (by decide +kernel)) (by rw [isSubtype_type];kernel_rfl)
theorem Gq:entryFor table "reversed.__length_hint__"=some Builtin.«reversed.__length_hint__»:=entryFor_of_tree (by kernel_rfl)
theorem HD (a:Value):argsOk "reversed.__length_hint__" ⟨[a],[]⟩:=by
 unfold argsOk;rw [signature?_of (id:="reversed.__length_hint__") (n:="__length_hint__".toList.reverse) (o:=['d','e','s','r','e','v','e','r']) (by kernel_rfl) FZ];kernel_rfl
end F
end PySem
namespace PySem
open PyProof.Rows (IsTup)
namespace Rv
theorem tupAt {h h':Heap} {t:Addr} {items:Array Value} (x:IsTup h t items) (e:∀ o,h.get? t=some o->h'.get? t=some o):IsTup h' t items:=let ⟨o,ho,r⟩:=x;⟨o,e _ ho,r⟩
def obj (t:Addr) (i:Int):Obj:={ cls:=.type "reversed",data:=.fields #[.ref t,rawInt i] }
def Is (h:Heap) (a t:Addr) (i:Int):Prop:=∃ o,h.get? a=some o/\o.cls=.type "reversed"/\o.data=.fields #[.ref t,rawInt i]
theorem Is.typeIs {s:Shared} {a t:Addr} {i:Int} (x:Is s.heap a t i):s.TypeIs (.ref a) "reversed":=let ⟨o,ho,hc,_⟩:=x;⟨o,ho,hc⟩
theorem Is.at {h h':Heap} {a t:Addr} {i:Int} (x:Is h a t i) (e:∀ o,h.get? a=some o->h'.get? a=some o):Is h' a t i:=let ⟨o,ho,r⟩:=x;⟨o,e _ ho,r⟩
theorem meets_new (t:Addr) (items:Array Value) (hz:items.size<=sizeLine) :
  Meets (Builtin.«reversed.__new__» ⟨[.type "reversed",.ref t],[]⟩) (fun _ R s=>IsTup s.heap t items/\∀ tk,R (.ok (.ret (.ref s.heap.objs.size))) { s with heap:=s.heap.push (obj t ((items.size:Int) - 1)),toks:=tk }) :=
 .of_wp fun prog w A R s h=>by
  obtain ⟨ht,h⟩:=h
  have hfit:(items.size:Int) < 2 ^ 63:=by rw [sizeLine_eq] at hz;omega
  unfold Builtin.«reversed.__new__»
  refine wpAny_bind (wpAny_of_eq (newClass_reversed _) ?_)
  try dsimp only
  refine wpAny_bind (wpAny_of_eq (a:=()) (by first | rfl | kernel_rfl) ?_)
  refine wpAny_bind (wpAny_of_eq (a:=()) (by first | rfl | kernel_rfl) ?_)
  try dsimp only
  refine wpAny_bind (wpAny_specialOf ht.typeIs F.HQ ?_)
  try dsimp only
  refine wpAny_bind ?_
  show wpAny _ _ (isInstance (.ref t) (.type "dict") >>= _) _ _ _
  refine wpAny_bind (wpAny_isInstance (T:="tuple") (b:=false) ht.typeIs (by rw [isSubtype_type];kernel_rfl) ?_)
  simp only [Bool.false_eq_true,if_false]
  show wpAny _ _ (specialOf (.ref t) (Str.ofString "__getitem__") >>= _) _ _ _
  refine wpAny_bind (wpAny_specialOf ht.typeIs PyProof.Rows.slot_tuple_getitem.lookup ?_)
  dsimp only
  refine wpAny_ite_split (fun _=>wpAny_pure ?_) (fun hab=>absurd (by decide +kernel) hab)
  simp only [Bool.not_true,Bool.false_eq_true,if_false]
  refine wpAny_bind (PyProof.Rows.len_tuple ht hfit ?_)
  refine wpAny_bind (m:=asInt? _) (wpAny_pure ?_)
  dsimp only
  unfold Builtin.SmallTypes.newRecord
  refine wpAny_bind (wpAny_newObj_type (wpAny_pure ⟨_,rfl,h _⟩) (by size_fits))
section
variable {prog:Program} {w:World} {A:Around} {E:Value->Shared->Prop} {s:Shared}
theorem call_new {t:Addr} {items:Array Value} {Q:Value->Shared->Prop} (hz:items.size<=sizeLine) (ht:IsTup s.heap t items) (h:∀ tk,Q (.ref s.heap.objs.size) { s with heap:=s.heap.push (obj t ((items.size:Int) - 1)),toks:=tk }) :
  wpAny (model prog w) A (call (.type "reversed") [.ref t]) Q E s :=
 callType_new F.called_rv (by decide) (F.typeCall_reversed_1 _) (F.newCall_reversed_1 _) (fun ob=>F.args_object_init_2 ob _) F.entry_reversed_new (meets_new t items hz) ⟨ht,fun tk=>⟨⟨_,Heap.get?_push_size _ rfl,rfl⟩,h tk⟩⟩
theorem next_item {it t:Addr} {i:Nat} {items:Array Value} {x:Value} {Q:Option Value->Shared->Prop} (hit:Is s.heap it t (i:Int)) (ht:IsTup s.heap t items) (hz:items.size<=sizeLine) (hx:items[i]?=some x) (hne:t≠it)
  (hQ:∀ h' tk,s.toks<=tk->Is h' it t ((i:Int) - 1)->Heap.SameBut it s.heap h'->Q (some x) { s with heap:=h',toks:=tk }):wpAny (model prog w) A (pyNext (.ref it)) Q E s:=by
 obtain ⟨o,ho,hc,hd⟩:=id hit
 have hi:i < items.size:=by
  rcases Nat.lt_or_ge i items.size with q | q
  ·exact q
  ·rw [Array.getElem?_eq_none q] at hx;cases hx
 rw [sizeLine_eq] at hz
 unfold pyNext
 refine wpAny_bind (wpAny_attempt (wpAny_callSpecial?_slot (name:=Str.ofString "__next__") hit.typeIs F.BG
  (wpAny_call_entry F.BG hit.typeIs F.Dv ?_ (F.D4 _))))
 unfold Builtin.«reversed.__next__»
 refine wpAny_bind (wpAny_of_eq (a:=(Value.ref it,[])) rfl ?_)
 try dsimp only
 refine wpAny_bind (wpAny_field ho hd (x:=.ref t) rfl ?_)
 refine wpAny_bind (wpAny_field ho hd (x:=rawInt (i:Int)) rfl ?_)
 show wpAny _ _ (if (i:Int) < 0 then _ else _) _ _ s
 rw [if_neg (by omega)]
 show wpAny _ _ (specialOf (.ref t) (Str.ofString "__getitem__") >>= _) _ _ _
 refine wpAny_bind (wpAny_specialOf ht.typeIs PyProof.Rows.slot_tuple_getitem.lookup ?_)
 simp only [Option.isNone_some,Bool.false_eq_true,if_false]
 refine wpAny_bind (wpAny_mkInt ?_)
 refine wpAny_bind (wpAny_attempt (PyProof.Rows.getItem_tuple (j:=i) ht (by omega) (by omega) (by unfold seqIndex?;simp only [show ¬ ((i:Int) < 0) from by omega,if_false];simp [hi]) hx ?_))
 dsimp only
 refine wpAny_bind (wpAny_field ho hd (x:=rawInt (i:Int)) rfl ?_)
 dsimp only [rawInt]
 refine wpAny_bind (wpAny_setField ho hd (by simp) ?_)
 refine wpAny_pure ⟨x,rfl,wpAny_pure (hQ _ _ ?_ ?_ (Heap.SameBut.update ..))⟩
 ·exact Nat.le_trans (Nat.le_succ _) (Nat.le_refl _)
 ·exact ⟨_,Heap.get?_update_self _ ho (Obj.isFreed_of_fields (Obj.data_mapFields hd _)),(Obj.cls_mapFields ..).trans hc,by
   rw [Obj.data_mapFields hd];simp [rawInt]⟩
theorem next_end {it t:Addr} {Q:Option Value->Shared->Prop} (hh:A.handled=none) (hit:Is s.heap it t (-1))
  (hQ:∀ h',Heap.ExtBut it s.heap h'->Q none { s with heap:=h' }):wpAny (model prog w) A (pyNext (.ref it)) Q E s:=by
 obtain ⟨o,ho,hc,hd⟩:=id hit
 unfold pyNext
 refine wpAny_bind (wpAny_attempt (wpAny_callSpecial?_slot (name:=Str.ofString "__next__") hit.typeIs F.BG
  (wpAny_call_entry F.BG hit.typeIs F.Dv ?_ (F.D4 _))))
 unfold Builtin.«reversed.__next__»
 refine wpAny_bind (wpAny_of_eq (a:=(Value.ref it,[])) rfl ?_)
 try dsimp only
 refine wpAny_bind (wpAny_field ho hd (x:=.ref t) rfl ?_)
 refine wpAny_bind (wpAny_field ho hd (x:=rawInt (-1)) rfl ?_)
 show wpAny _ _ (if (-1:Int) < 0 then _ else _) _ _ s
 rw [if_pos (by decide)]
 refine wpAny_bind (wpAny_rule ?_)
 refine wpAny_bind ?_
 show wpAny _ _ (setField (.ref it) 1 (rawInt (-1)) >>= fun _=>setField (.ref it) 0 .none) _ _ _
 refine wpAny_bind (wpAny_setField ho hd (by simp) ?_)
 have ho2:=Heap.get?_update_self (Obj.mapFields (fun vs=>vs.setIfInBounds 1 (rawInt (-1)))) ho (Obj.isFreed_of_fields (Obj.data_mapFields hd _))
 refine wpAny_setField ho2 (Obj.data_mapFields hd _) (by simp) ?_
 refine wpAny_bind ?_
 show wpAny _ _ (newExc (.type "StopIteration") [] >>= _) _ _ _
 refine wpAny_bind ?_
 simp only [newExc,newTuple]
 refine wpAny_bind (wpAny_newObj_type ?_ (by size_fits))
 refine wpAny_bind (m:=firstArgMember _ _) (wpAny_of_eq (a:=Value.none) (by first | rfl | (simp only [firstArgMember];rfl)) ?_)
 refine wpAny_newObj_type ?_ (by size_fits)
 simp only [raiseNew]
 refine wpAny_bind (wpAny_handled ?_)
 first | rw [show A.in1.handled=none from hh] | rw [hh]
 refine wpAny_bind (wpAny_pure (wpAny_throw ?_))
 refine wpAny_bind (wpAny_isInstance (T:="StopIteration") (b:=true) ⟨_,Heap.get?_push_size _ rfl,rfl⟩ isSubtype_stop ?_)
 refine wpAny_pure (hQ _ ?_)
 have k1:Heap.SameBut it s.heap (s.heap.update it (Obj.mapFields (·.setIfInBounds 1 (rawInt (-1))))):=Heap.SameBut.update ..
 have k2:Heap.SameBut it (s.heap.update it (Obj.mapFields (·.setIfInBounds 1 (rawInt (-1))))) ((s.heap.update it (Obj.mapFields (·.setIfInBounds 1 (rawInt (-1))))).update it (Obj.mapFields (·.setIfInBounds 0 Value.none))):=Heap.SameBut.update ..
 exact fun b ob hb e=>Heap.get?_push_of_some _ (Heap.get?_push_of_some _ (k2.extBut b ob hb (k1.extBut b ob hb e)))
theorem Hc {it t:Addr} {i:Int} {Q:Value->Shared->Prop} (hit:Is s.heap it t i) (h:Q (.ref it) s):wpAny (model prog w) A (pyIter (.ref it)) Q E s:=by
 refine wpAny_pyIter_slot hit.typeIs F.DW (wpAny_call_entry F.DW hit.typeIs F.Gp ?_ (F.HC _))
 show wpAny _ _ (ret (.ref it)) _ _ s
 exact wpAny_pure ⟨_,rfl,"reversed",_,hit.typeIs,F.BG.lookup,h⟩
theorem call_hint {it t:Addr} {i:Nat} {items:Array Value} {Q:Value->Shared->Prop} (hit:Is s.heap it t ((i:Int) - 1)) (ht:IsTup s.heap t items) (hz:items.size<=sizeLine) (hi:i<=items.size)
  (h:∀ tk u,s.toks<=tk->Q (.int (i:Int) u) { s with toks:=tk }):wpAny (model prog w) A (call (.builtin "reversed.__length_hint__") [.ref it]) Q E s:=by
 obtain ⟨o,ho,hc,hd⟩:=id hit
 have hfit:(items.size:Int) < 2 ^ 63:=by rw [sizeLine_eq] at hz;omega
 refine wpAny_call_entry F.CJ hit.typeIs F.Gq ?_ (F.HD _)
 unfold Builtin.«reversed.__length_hint__»
 refine wpAny_bind (wpAny_of_eq (a:=Value.ref it) rfl ?_)
 refine wpAny_bind (wpAny_field ho hd (x:=.ref t) rfl ?_)
 rw [if_neg (show ¬ ((Value.ref t == Value.none)=true) from Bool.false_ne_true)]
 refine wpAny_bind (PyProof.Rows.len_tuple ht hfit ?_)
 refine wpAny_bind (m:=asInt? _) (wpAny_pure ?_)
 dsimp only
 refine wpAny_bind (wpAny_field ho hd (x:=rawInt ((i:Int) - 1)) rfl ?_)
 dsimp only [rawInt]
 have e:(i:Int) - 1+1=(i:Int):=by omega
 rw [if_neg (by omega),e]
 exact wpAny_bind (wpAny_mkInt (wpAny_pure ⟨_,rfl,h _ _ (by show s.toks<=s.toks+1+1+1;omega)⟩))
theorem hint {it t:Addr} {items:Array Value} {Q:Bool->Shared->Prop} (hit:Is s.heap it t ((items.size:Int) - 1)) (ht:IsTup s.heap t items) (hz:items.size<=sizeLine)
  (h:∀ b tk,s.toks<=tk->Q b { s with toks:=tk }):wpAny (model prog w) A (Builtin.List.listLengthHint (.ref it)) Q E s:=by
 have hT:=hit.typeIs
 unfold Builtin.List.listLengthHint
 refine wpAny_bind (wpAny_specialOf hT F.nolen_rv ?_)
 show wpAny _ _ (specialOf (Value.ref it) (Str.ofString "__length_hint__") >>= _) _ _ _
 refine wpAny_bind (wpAny_specialOf hT F.CJ.lookup ?_)
 generalize hid:("reversed.__length_hint__":String)=id0
 wp_delta
 rw [show splitId id0=some ("reversed","__length_hint__") from by subst hid;decide +kernel]
 subst hid
 refine wpAny_bind (wpAny_isInstance (T:="reversed") (b:=true) hT (by rw [isSubtype_type];kernel_rfl) ?_)
 rw [if_neg (by decide)]
 refine wpAny_ite_split (fun hab=>absurd hab (by decide)) (fun _=>?_)
 refine wpAny_bind (wpAny_rule ?_)
 refine wpAny_bind (wpAny_of_eq (F.CJ.bind _) ?_)
 dsimp only
 refine wpAny_bind (wpAny_attempt (call_hint hit ht hz (Nat.le_refl _) fun tk u htk=>?_))
 have hz':=hz
 rw [sizeLine_eq] at hz'
 have f1:Builtin.List.listFitsIndex (items.size:Int)=true:=by
  unfold Builtin.List.listFitsIndex
  rw [Bool.and_eq_true,decide_eq_true_eq,decide_eq_true_eq]
  constructor <;> omega
 have f2:Builtin.List.listTooLong (items.size:Int).toNat=false:=by
  rw [Int.toNat_natCast]
  unfold Builtin.List.listTooLong
  exact decide_eq_false (Nat.not_lt.mpr hz)
 split
 ·rename_i he;cases he
 ·rename_i he;cases he
 ·rename_i r _ he
  cases he
  have f3:¬ ((items.size:Int) < 0):=by omega
  simp only [asInt?,pure_bind,f1,f2,f3,Bool.not_true,Bool.false_eq_true,if_false]
  exact wpAny_pure (h _ tk htk)
end
theorem walks {prog:Program} {w:World} {A:Around} (hh:A.handled=none) (I t:Addr) (hne:t≠I) (items:Array Value) (hz:items.size<=sizeLine) :
  Walks prog w A I [I,t] [I] items.size (fun i v=>items[items.size - 1 - i]?=some v) (fun i h=>i<=items.size/\Is h I t ((items.size:Int) - 1 - (i:Int))/\IsTup h t items) where
 sub:=fun b hb=>by simp at hb;simp [hb]
 frame:=fun _ _ _ x hk=>⟨x.1,x.2.1.at fun o e=>hk I (by simp) o e,tupAt x.2.2 fun o e=>hk t (by simp) o e⟩
 item:=fun i s Q E hi x hQ=>by
  have e:(items.size:Int) - 1 - (i:Int)=((items.size - 1 - i:Nat):Int):=by omega
  have hit:=x.2.1
  rw [e] at hit
  have hx:items[items.size - 1 - i]?=some (items[items.size - 1 - i]'(by omega)):=Array.getElem?_eq_getElem (by omega)
  refine next_item hit x.2.2 hz hx hne fun h' tk htk hit' hs'=>?_
  have e2:((items.size - 1 - i:Nat):Int) - 1=(items.size:Int) - 1 - ((i+1:Nat):Int):=by omega
  rw [e2] at hit'
  exact hQ _ h' tk hx ⟨hi,hit',tupAt x.2.2 fun o eo=>(hs'.2 t hne).trans eo⟩ fun b o hb eo=>hs'.extBut b o (fun h=>hb (by simp [h])) eo
 done:=fun s Q E x hQ=>by
  have e:(items.size:Int) - 1 - (items.size:Int)=-1:=by omega
  have hit:=x.2.1
  rw [e] at hit
  exact next_end hh hit fun h' he'=>hQ h' s.toks fun b o hb eo=>he' b o (fun h=>hb (by simp [h])) eo
 self:=fun _ _ _ _ x hQ=>Hc x.2.1 hQ
section
variable {prog:Program} {w:World} {A:Around} {E:Value->Shared->Prop} {s:Shared}
end
end Rv
end PySem
namespace PySem
open PyProof.Rows (IsTup)
namespace Rv
section
variable {prog:Program} {w:World} {A:Around} {E:Value->Shared->Prop} {s:Shared}
end
end Rv
end PySem
namespace L2
open PySem PySem.Spec PyProof.Rows
end L2
namespace HT
open PySem PyProof.Rows
section
variable {prog:Program} {w:World} {A:Around} {E:Value->Shared->Prop} {s:Shared}
theorem DK {t sl:Addr} {items:Array Value} {vl vu:Value} {lo hi:Option Int} {Q:Value->Shared->Prop} (ht:IsTup s.heap t items) (hs:s.heap.IsSliceOf sl vl vu .none) (pl:IsPart vl lo) (pu:IsPart vu hi)
  (hw:sIx items.size 0 lo=0/\sIx items.size items.size hi=items.size) (h:Q (.ref t) s):wpAny (model prog w) A (getItem (.ref t) (.ref sl)) Q E s:=by
 obtain ⟨os,hos,hcs,hds⟩:=id hs
 have hTs:s.TypeIs (.ref sl) "slice":=⟨os,hos,hcs⟩
 unfold getItem
 try with_reducible refine wpAny_holding ?_
 first | refine wpAny_bind (wpAny_pure ?_) | skip
 refine wpAny_bind (wpAny_sequenceKey ht.typeIs (by decide) ?_)
 refine wpAny_bind (wpAny_callSpecial?_slot (name:=Str.ofString "__getitem__") ht.typeIs PyProof.Rows.slot_tuple_getitem
  (wpAny_call_entry PyProof.Rows.slot_tuple_getitem ht.typeIs entry_tuple_getitem ?_ (args_tuple_getitem _ _)))
 show wpAny _ _ (Builtin.Tuple.tupleItemsOf (.ref t) >>= _) _ _ s
 refine wpAny_bind (tupleItemsOf_ ht ?_)
 refine wpAny_bind (wpAny_typeOf hTs ?_)
 rw [if_pos (by decide)]
 refine wpAny_bind (CB hs pl pu ?_)
 have hyes:(((sIx items.size 0 lo:Nat):Int) == 0 && (1:Int) == 1 && (sIx items.size items.size hi - sIx items.size 0 lo) == items.size)=true:=by
  rw [hw.1,hw.2]
  simp
 show wpAny _ _ (if (((sIx items.size 0 lo:Nat):Int) == 0 && (1:Int) == 1 && (sIx items.size items.size hi - sIx items.size 0 lo) == items.size)=true then _ else _) _ _ s
 rw [if_pos hyes]
 refine wpAny_bind ?_
 unfold Builtin.Tuple.tupleIsExact
 refine wpAny_bind (wpAny_typeOf ht.typeIs (wpAny_pure ?_))
 rw [if_pos (by decide)]
 exact wpAny_bind (wpAny_rule (wpAny_pure ⟨_,rfl,wpAny_pure h⟩))
end
end HT
namespace L2
open PySem PySem.Spec PyProof.Rows
def rSlA (K:PySem.W.Frag):V->Option Int->Option Int->Hp->VK->Prop:=fun x lo hi H Q=>∃ a xs,x=.ref a/\SqT K H a xs/\(HT.sIx xs.length 0 lo=0/\HT.sIx xs.length xs.length hi=xs.length)/\Q (.ref a) H
theorem sl_all {X:Cx}:SlR X (rSlA X.K):=by
 intro pins s σ H x v vl vu lo hi sl Q I rx hs pl pu h
 obtain ⟨a,xs,rfl,hx,hw,q⟩:=h
 cases rx
 obtain ⟨its,r,ht,hz⟩:=I.tuple hx
 have hlen:its.toArray.size=xs.length:=by rw [List.size_toArray];exact r.length.symm
 refine ⟨"tuple",_,PyProof.Rows.slot_tuple_getitem.lookup,ht.typeIs,?_⟩
 exact HT.DK ht hs pl pu (by rw [hlen];exact hw) ⟨.ref a,H,I,rfl,q⟩
end L2
namespace L2
open PySem PySem.Spec PySem.W PyProof.Rows
def BO:List Int->Nat
 | []=>0
 | n :: ns=>Builtin.Int.intBits n+1+BO ns
theorem E4:∀ ns:List Int,WData.weightAll (ns.map WData.int)=BO ns
 | []=>by simp [WData.weightAll,BO]
 | n :: ns=>by
  simp only [List.map_cons,WData.weightAll,BO,WData.weight,E4 ns]
  rfl
theorem walk_bits {l:PySem.W.OpenLaw} {n k:Nat} {q:Program} {loose:List Str} {XP:(Str->Option Value)->Heap->Prop} {YP:World->Heap->Prop} {d:DefRec} {K:Params->PySem.W.Frag} {CX:CXT} {sp:PySem.W.Frag->Sp} {x:Str}
  (hn:l.most=some n) (hn2:n<=sizeLine) (hdf:d.params.defaults=[]) (hr:E8 k callerA)
  (hY:∀ (w:World) (h:Heap),YP w h->(K w.params).In h)
  (F:∀ (w:World) (mg:Str->Option Value) (fa:Addr) (h:Heap),(K w.params).In h->h.Ns mainGlobals mg->mg d.name=some (.ref fa) ->
   ∃ fd:FuncData,(∀ (s:Shared) (u:Value),BindsTo s fd ⟨[u],[]⟩ [(x,u)]) /\
    ∀ base:Heap,(K w.params).In base->base.Ns mainGlobals mg->Dh l.prog w (K w.params) mg base CX k fa fd [x] (sp (K w.params)))
  (hsp:∀ (K:PySem.W.Frag) (H:Hp) (a:Addr) (ns:List Int),ns.length<=n->BO ns<=2 ^ 20->Only H->SqL K H a (ns.map V.int)->sp K [.ref a] H (fun v _=>v=.bl true) fun _ _ _=>False)
  (hCX:∀ (H:Hp) (s:Shared) (e:Value) (s':Shared),CX [] H s (fun _ _ _=>False) e s'->False) :
  PySem.W.WalkO q loose XP YP l.row.toRowW d [] (fun f vs=>PySem.call f vs):=by
 intro w s₀ s₁ mg mb G Y fa o pm cd doc dV kV ho hd hcd hD hmg hg args vals as hpre hlay hrd hwl hlo
 obtain rfl:dV=.none:=Dflts.none hD hdf
 obtain rfl:kV=.none:=Dflts.noKw hD
 obtain ⟨a,vs,ns,rfl,rfl,hobj,hints,hlen⟩:=Att.script_of hn hpre hwl
 have hw:BO ns<=2 ^ 20:=by
  have h1:(WData.list (ns.map WData.int)).layable=true:=by
   unfold WData.layableAll at hlay
   simpa using hlay
  unfold WData.layable at h1
  rw [Bool.and_eq_true] at h1
  have h2:=of_decide_eq_true h1.2
  simp only [WData.weight] at h2
  rw [<- E4]
  exact h2
 have KX:=hY w _ Y
 obtain ⟨fd,hb,hF⟩:=F w mg fa _ KX G.T.g hmg
 refine PySem.W.enter_call (codeAny_mono (law_call KX G.T.g G.T.b G.T.builtins G.T.nolimit hg hobj hints (Nat.le_trans hlen hn2) hr hF hb (fun H hO hS=>hsp (K w.params) H a ns hlen hw hO hS) fun H e s'=>hCX H s₁ e s') fun r s' hq=>?_)
 obtain ⟨rfl,h2,h3,h4⟩:=hq
 exact ⟨.inl ⟨.bool true,.bool true,[],rfl,fun _=>rfl,.bool true,Att.post_true l _,fun _=>⟨List.Pairwise.nil,fun _ hm=>(nomatch hm)⟩⟩,h2,h3,h4⟩
end L2
namespace L2
open PySem PySem.Spec
section
variable {prog:Program} {w:World} {K:Type} [DecidableEq K] {knd:KeyKind prog w K} {A:Around} {E:Value->Shared->Prop} {s:Shared}
end
section
variable {X:Cx} {pins:List (Addr×Obj)} {σ:St} {H:Hp} {s:Shared} {a:Addr} {A:Around} {E:Value->Shared->Prop}
variable {o e f:Expr} {td ty tx:TE} {apos cpos:Pos}
end
end L2
namespace L2
open PySem PySem.Spec
theorem rel_kV {k:Key} {u:Value} (h:Fd k u=true):RelV (kV k) u:=by
 cases k with
 | inl i =>
  have h:Value.isInt i u=true:=h
  cases u <;> first
   | (simp [Value.isInt] at h;subst h;exact ⟨_,rfl⟩)
   | (simp [Value.isInt] at h)
   | (cases h)
 | inr x =>
  have h:Value.isStrOf x u=true:=h
  cases u <;> first
   | (simp [Value.isStrOf] at h;subst h;exact ⟨_,rfl⟩)
   | (simp [Value.isStrOf] at h)
   | (cases h)
def epOf (o:Obj):Nat:=match o.data with
 | .dict _ ep=>ep
 | _=>0
def Itd (a:Addr) (o:Obj) (kvs:List (Key×V)):It :=
 ⟨fun i H=>H a=some (.frz o (.dK kvs))/\i < kvs.length,fun i H x H'=>H'=H/\∃ k,(kvs.map (·.1))[i]?=some k/\x=kV k,fun i H=>H a=some (.frz o (.dK kvs))/\kvs.length<=i⟩
section
variable {X:Cx} {pins:List (Addr×Obj)} {σ:St} {H:Hp} {s:Shared} {a:Addr} {o:Obj} {kvs:List (Key×V)}
theorem Inv.frzd (I:Inv X pins σ H s) (e:H a=some (.frz o (.dK kvs))):(a == sysModules)=false/\∃ vs,KV kvs vs/\s.heap.DictAt (AZ X.prog X.w) a vs (epOf o):=by
 obtain ⟨h1,h2⟩:=(show Bu X.prog X.w H s.heap a (.frz o (.dK kvs)) from I.hok a _ e)
 obtain ⟨z,hd,vs,rel,dd⟩:=(show kvs.length<=sizeLine/\(a == sysModules)=false/\∃ vs,KV kvs vs/\s.heap.DictOf (AZ X.prog X.w) a vs from h2)
 refine ⟨hd,vs,rel,?_⟩
 obtain ⟨o',es,ep,ho,hc,hdat,r⟩:=dd
 rw [h1] at ho
 cases ho
 refine ⟨o,es,h1,hc,?_,r⟩
 rw [hdat]
 unfold epOf
 rw [hdat]
theorem Inv.freeze (I:Inv X pins σ H s) (e:H a=some (.dK kvs)):∃ o,Inv X pins σ (upd H a (.frz o (.dK kvs))) s:=by
 have h2:=(show Bu X.prog X.w H s.heap a (.dK kvs) from I.hok a _ e)
 obtain ⟨z,hd,vs,rel,dd⟩:=(show kvs.length<=sizeLine/\(a == sysModules)=false/\∃ vs,KV kvs vs/\s.heap.DictOf (AZ X.prog X.w) a vs from h2)
 obtain ⟨o,es,ep,ho,r⟩:=id dd
 exact ⟨o,I.write (x:=a) (e:=a) (t':=s.toks) (h':=s.heap) (by rw [e];exact True.intro) (.inl rfl) (fun _ _ _ z=>z) ⟨o,ho⟩ ⟨ho,z,hd,vs,rel,dd⟩⟩
end
theorem turn_dict {P:Program} {w:World} {K:PySem.W.Frag} {tg:Expr} (a it:Addr) (o:Obj) (kvs:List (Key×V)):Turn P w K tg (Itd a o kvs) [it] it (fun i h=>h.IsKeyIter it a i kvs.length (epOf o)) where
 mem:=by simp
 obj:=fun i h st b hb=>by
  have e:b=it:=by simpa using hb
  subst e
  obtain ⟨o,e,c,d⟩:=st
  exact ⟨o,e,fun v z=>by rw [d] at z;cases z⟩
 keep:=fun i h h' st k=>by
  obtain ⟨o,e,r⟩:=st
  exact ⟨o,k it (by simp) o e,r⟩
 item:=by
  intro X hP hw hK hc i pins s σ H E I hf st hg
  subst hP hw hK
  obtain ⟨he,hi⟩:=hg
  obtain ⟨hd,vs,rel,da⟩:=I.frzd he
  have hl:=rel.length
  have hi':i < vs.length:=by omega
  obtain ⟨f0,f1,f2,f3,f4,f5⟩:=hf it (by simp)
  have hx:vs[i]?=some ((vs[i]).1,(vs[i]).2):=List.getElem?_eq_getElem hi'
  rw [hl] at st
  refine wpAny_pyNext_dict_item st da hx fun key h' hk st' sb=>?_
  rw [<- hl] at st'
  have I1:Inv X pins σ H { s with heap:=h' }:=I.turned (t':=s.toks) (fun b o hb e=>(sb.2 b hb).trans e) f0 f1 f3 f4 f5
  obtain ⟨o',e,c,d⟩:=id st'
  have hkk:(kvs.map (·.1))[i]?=some (vs[i]).1:=by
   have:kvs.map (·.1)=vs.map (·.1):=by
    clear hx hi' hl da st hk st' sb I1 e c d he hi
    unfold KV at rel
    induction rel with
    | nil=>rfl
    | cons h t ih=>rw [List.map_cons,List.map_cons,h.1,ih]
   rw [this,List.getElem?_map,List.getElem?_eq_getElem hi']
   rfl
  exact ⟨key,rfl,go_of (s:={ s with heap:=h' }) e c d (by decide) ⟨kV (vs[i]).1,H,I1,rel_kV hk,⟨rfl,_,hkk,rfl⟩,st',fun b hb=>(hf b hb).1⟩⟩
 done:=by
  intro X hP hw hK hc i pins s σ H E I hf st hg
  subst hP hw hK
  obtain ⟨he,hi⟩:=hg
  obtain ⟨hd,vs,rel,da⟩:=I.frzd he
  have hl:=rel.length
  obtain ⟨f0,f1,f2,f3,f4,f5⟩:=hf it (by simp)
  rw [hl] at st
  exact wpAny_pyNext_dict_end (I.ok.hd hc) st da (List.getElem?_eq_none (by omega)) fun h' eb=>⟨rfl,I.turned (t':=s.toks) (fun b o hb e=>eb b o hb e) f0 f1 f3 f4 f5⟩
 self:=fun _ _ _ _ _ st h=>wpAny_pyIter_keyiter st h
section
variable {X:Cx} {tg:Expr}
end
section
variable {X:Cx}
theorem E2 (hc:X.calm=true):Cs X (.type "list") (fun xs H Q=>∃ p kvs,xs=[.ref p]/\Rd H p (.dK kvs)/\∀ l,H l=none->Q (.ref l) (upd H l (.lst (kvs.map fun kv=>kV kv.1)))):=by
 intro pins s σ H xs us Q I r h
 obtain ⟨p,kvs,rfl,hp,q⟩:=h
 obtain ⟨u,rfl,rx⟩:=vals1 r
 cases rx
 obtain ⟨z,hd,vs,rel,dd⟩:=EX I.hok hp
 obtain ⟨ep,da⟩:=dd.dictAt
 have hlen:kvs.length=vs.length:=Paired.length rel
 refine PySem.W.kdl_call (PySem.W.kdl_dict (ep:=ep) hd) (I.ok.hd hc) da (by rw [<- hlen];exact z) fun h' tk acc c' kp e hacc=>?_
 refine ⟨.ref s.heap.objs.size,_,I.laid (t':=tk) kp (Nat.le_refl _) (show Bu X.prog X.w _ h' _ (.lst (kvs.map fun kv=>kV kv.1)) from ⟨by rw [List.length_map];exact z,acc.toList,c',vals_keys rel hacc,by simpa using e⟩),rfl,q _ (I.hok.fresh (Nat.le_refl _))⟩
theorem call_lenDR:Cs X (.builtin "len") (fun xs H Q=>∃ a kvs,xs=[V.ref a]/\Rd H a (.dK kvs)/\Q (.int kvs.length) H):=by
 intro pins s σ H xs us Q I r h
 obtain ⟨a,kvs,rfl,ha,q⟩:=h
 obtain ⟨u,rfl,ru⟩:=vals1 r
 cases ru
 exact d_len I ha fun t s' I'=>⟨.int kvs.length,H,I',⟨t,rfl⟩,q⟩
end
end L2
namespace L2
open PySem PySem.Spec
end L2
namespace PySem
open PyProof.Rows
namespace So
def Tps (h:Heap):List Value->List (List Int)->Prop
 | [],[]=>True
 | v :: vs,n :: ns=>(∃ t its,v=.ref t/\IsTup h t its/\IntsAre its.toList n)/\Tps h vs ns
 | _,_=>False
theorem Tps.mono {h h':Heap} (k:∀ b o,h.get? b=some o->h'.get? b=some o):∀ {vs:List Value} {ns:List (List Int)},Tps h vs ns->Tps h' vs ns
 | [],[],_=>trivial
 | v :: vs,n :: ns,⟨⟨t,its,e,⟨o,ho,r⟩,i⟩,x⟩=>⟨⟨t,its,e,⟨o,k _ _ ho,r⟩,i⟩,x.mono k⟩
 | [],_ :: _,x=>x.elim
 | _ :: _,[],x=>x.elim
theorem Tps.len {h:Heap}:∀ {vs:List Value} {ns:List (List Int)},Tps h vs ns->vs.length=ns.length
 | [],[],_=>rfl
 | v :: vs,n :: ns,x=>congrArg (·+1) (Tps.len x.2)
 | [],_ :: _,x=>x.elim
 | _ :: _,[],x=>x.elim
theorem Tps.at {h:Heap}:∀ {vs:List Value} {ns:List (List Int)},Tps h vs ns->∀ {i:Nat} {n:List Int},ns[i]?=some n->∃ t its,vs.getD i Value.none=.ref t/\IsTup h t its/\IntsAre its.toList n
 | [],[],_,i,n,e=>by simp at e
 | v :: vs,m :: ns,x,0,n,e=>by
  obtain ⟨t,its,rfl,h1,h2⟩:=x.1
  have:m=n:=by simpa using e
  subst this
  exact ⟨t,its,rfl,h1,h2⟩
 | v :: vs,m :: ns,x,i+1,n,e=>by
  obtain ⟨t,its,h0,h1,h2⟩:=x.2.at (i:=i) (n:=n) (by simpa using e)
  exact ⟨t,its,by simpa using h0,h1,h2⟩
 | [],_ :: _,x,_,_,_=>x.elim
 | _ :: _,[],x,_,_,_=>x.elim
def ord:List (List Int)->Bool
 | a :: b :: r=>!HT.lexLt b a && ord (b :: r)
 | _=>true
theorem ord_at:∀ {ns:List (List Int)},ord ns=true->∀ {i:Nat} {a b:List Int},ns[i]?=some a->ns[i+1]?=some b->HT.lexLt b a=false
 | [],_,i,a,b,h,_=>by simp at h
 | [x],_,i,a,b,_,h=>by simp at h
 | x :: y :: r,o,0,a,b,h1,h2=>by
  simp only [ord,Bool.and_eq_true,Bool.not_eq_true'] at o
  have e1:x=a:=by simpa using h1
  have e2:y=b:=by simpa using h2
  subst e1 e2
  exact o.1
 | x :: y :: r,o,i+1,a,b,h1,h2=>by
  simp only [ord,Bool.and_eq_true] at o
  exact ord_at o.2 (i:=i) (by simpa using h1) (by simpa using h2)
section
variable {prog:Program} {w:World} {A:Around} {E:Value->Shared->Prop} {s:Shared}
theorem keyLt_tup {x y:Addr} {xs ys:Array Value} {ns ms:List Int} {Q:Bool->Shared->Prop} (hx:IsTup s.heap x xs) (hy:IsTup s.heap y ys) (ix:IntsAre xs.toList ns) (iy:IntsAre ys.toList ms) (hu:A.units < cLine) (h:Q (HT.lexLt ns ms) s) :
  wpAny (model prog w) A (keyLt' oneType' (.ref x) (.ref y)) Q E s:=by
 obtain ⟨⟨cls,dd,data,sl⟩,ho,hc,n,hd⟩:=id hx
 obtain ⟨⟨cls2,dd2,data2,sl2⟩,ho2,hc2,n2,hd2⟩:=id hy
 simp only at hc hd hc2 hd2
 subst hc hd hc2 hd2
 rw [keyLt'_oneType,oneLt'_eq]
 dsimp only
 rw [if_pos rfl]
 refine wpAny_bind (wpAny_cRoomFor hu ?_)
 refine wpAny_bind (wpAny_callSpecialIfBound?_slot (T:="tuple") (id:="tuple.__lt__") ⟨_,ho,rfl⟩ F.slot_tuple_lt ?_)
 refine call_meets F.slot_tuple_lt ⟨_,ho,rfl⟩ F.entry_tuple_lt (F.args_tuple_lt_2 _ _) (HT.FF x y xs ys n n2 dd dd2 sl sl2 ns ms ix iy) ⟨ho,ho2,?_⟩
 show wpAny _ _ (truthOfDropped (.bool (HT.lexLt ns ms))) Q E s
 exact wpAny_truthy_bool h
theorem kasWp_bind {α β:Type} {cmp:Nat->Nat->(Bool->Shared->Prop)->Shared->Prop} (hm:∀ i j C C' s,(∀ b s,C b s->C' b s)->cmp i j C s->cmp i j C' s) {f:α->W.KasT β} {Q:β->Shared->Prop}:∀ (t:W.KasT α) (s:Shared),W.KasT.kasWp cmp t (fun a s'=>W.KasT.kasWp cmp (f a) Q s') s->W.KasT.kasWp cmp (t.bind f) Q s
 | .ret a,s,h=>h
 | .ask i j k,s,h=>by
  rw [W.KasT.kasWp.eq_2] at h
  show W.KasT.kasWp cmp (.ask i j fun b=>(k b).bind f) Q s
  rw [W.KasT.kasWp.eq_2]
  exact hm i j _ _ s (fun b s h=>kasWp_bind hm (k b) s h) h
theorem asc_go {cmp:Nat->Nat->(Bool->Shared->Prop)->Shared->Prop} {n:Nat} {Q:Nat->Shared->Prop} (hc:∀ i,1<=i->i < n->∀ C:Bool->Shared->Prop,C false s->cmp i (i - 1) C s) (hQ:Q n s):∀ (f x:Nat),x+f=n->1<=x->W.KasT.kasWp cmp (W.kas_asc (List.range n).toArray f x) Q s
 | 0,x,e,_=>by
  rw [W.kas_asc.eq_1,W.KasT.kasWp.eq_1]
  have:x=n:=by omega
  exact this▸hQ
 | f+1,x,e,h1=>by
  have g:∀ j,j < n->(List.range n).toArray.getD j 0=j:=fun j hj=>by simp [hj]
  rw [W.kas_asc.eq_2,W.KasT.kasWp.eq_2,g x (by omega),g (x - 1) (by omega)]
  refine hc x h1 (by omega) _ ?_
  rw [if_neg (by simp)]
  exact asc_go hc hQ f (x+1) (by omega) (by omega)
theorem sort_go {cmp:Nat->Nat->(Bool->Shared->Prop)->Shared->Prop} (hm:∀ i j C C' s,(∀ b s,C b s->C' b s)->cmp i j C s->cmp i j C' s) {n:Nat} {G:Array Nat->Shared->Prop} (h1:1<=n) (hc:∀ i,1<=i->i < n->∀ C:Bool->Shared->Prop,C false s->cmp i (i - 1) C s) (hG:G (List.range n).toArray s):W.KasT.kasWp cmp (W.kas_sort n) G s:=by
 unfold W.kas_sort
 refine kasWp_bind hm _ s ?_
 unfold W.kas_count
 refine kasWp_bind hm _ s (asc_go hc ?_ (n - 1) 1 (by omega) (by omega))
 rw [if_pos (by simp),W.KasT.kasWp.eq_1]
 rw [if_neg (by simp),W.KasT.kasWp.eq_1]
 exact hG
theorem Hl:∀ (vs:List Value) (ns:List (List Int)) {Q:List (Option Value)->Shared->Prop},Tps s.heap vs ns->(∀ fs:List (Option Value),(∀ r,ns=[] :: r->fs[0]?=some none)->Q fs s)->wpAny (model prog w) A (List.mapM firstOfTuple' vs) Q E s
 | [],[],Q,_,h=>by
  rw [List.mapM_nil]
  exact wpAny_pure (h [] fun r e=>by cases e)
 | v :: vs,n :: ns,Q,x,h=>by
  obtain ⟨⟨t,its,rfl,ht,hi⟩,x2⟩:=x
  obtain ⟨o,ho,hcl,e,hd⟩:=id ht
  rw [List.mapM_cons]
  refine wpAny_bind ?_
  unfold firstOfTuple'
  refine wpAny_bind (wpAny_typeOf (T:="tuple") ⟨o,ho,hcl⟩ ?_)
  rw [if_neg (by decide)]
  refine wpAny_bind (listItems_at ho hd (wpAny_pure (wpAny_bind (Hl vs ns x2 fun fs _=>wpAny_pure (h _ fun r er=>?_)))))
  injection er with e1 e2
  subst e1
  have:its.toList=[]:=by cases hi':its.toList with
   | nil=>rfl
   | cons a b=>rw [hi'] at hi;cases hi
  have:its=#[]:=by simpa using this
  subst this
  rfl
 | [],_ :: _,Q,x,h=>x.elim
 | _ :: _,[],Q,x,h=>x.elim
theorem types_go:∀ (vs:List Value) (ns:List (List Int)) {Q:List Value->Shared->Prop},Tps s.heap vs ns->Q (vs.map fun _=>Value.type "tuple") s->wpAny (model prog w) A (List.mapM typeOf vs) Q E s
 | [],[],Q,_,h=>by
  rw [List.mapM_nil]
  exact wpAny_pure h
 | v :: vs,n :: ns,Q,x,h=>by
  obtain ⟨⟨t,its,rfl,⟨o,ho,hcl,e,hd⟩,hi⟩,x2⟩:=x
  rw [List.mapM_cons]
  exact wpAny_bind (wpAny_typeOf (T:="tuple") ⟨o,ho,hcl⟩ (wpAny_bind (types_go vs ns x2 (wpAny_pure h))))
 | [],_ :: _,Q,x,h=>x.elim
 | _ :: _,[],Q,x,h=>x.elim
theorem kind_ok {vs:List Value} {ns:List (List Int)} {Q:SortKind->Shared->Prop} (x:Tps s.heap vs ([] :: ns)) (h:Q oneType' s):wpAny (model prog w) A (keyKind' vs.toArray) Q E s:=by
 rw [keyKind'_eq,Array.mapM_eq_mapM_toList,map_eq_pure_bind]
 refine wpAny_bind (wpAny_bind (Hl vs _ x fun fs hf=>wpAny_pure ?_))
 have h0:=hf ns rfl
 obtain ⟨f,rfl⟩:∃ f,fs=none :: f:=by
  cases fs with
  | nil=>simp at h0
  | cons a f=>exact ⟨f,by simpa using h0⟩
 rw [if_neg (by simp),if_neg (by simp)]
 refine wpAny_bind ?_
 rw [oneTypeOnly'_eq,Array.mapM_eq_mapM_toList,map_eq_pure_bind]
 refine wpAny_bind (wpAny_bind (types_go vs _ x (wpAny_pure ?_)))
 cases vs with
 | nil=>exact x.elim
 | cons v vs =>
  show wpAny _ _ (pure (if (((v :: vs).map fun _=>Value.type "tuple").toArray.all fun x=>x == Value.type "tuple")=true then some (Value.type "tuple") else none)) _ _ _
  rw [if_pos (by simp)]
  exact wpAny_pure (wpAny_pure h)
end
end So
end PySem
namespace PySem
open PyProof.Rows
namespace So
section
variable {prog:Program} {w:World} {A:Around} {E:Value->Shared->Prop} {s:Shared}
theorem Tps.keep {h h':Heap}:∀ {vs:List Value} {ns:List (List Int)},(∀ b o,Value.ref b∈vs->h.get? b=some o->h'.get? b=some o)->Tps h vs ns->Tps h' vs ns
 | [],[],_,_=>trivial
 | v :: vs,n :: ns,k,⟨⟨t,its,e,⟨o,ho,r⟩,i⟩,x⟩=>⟨⟨t,its,e,⟨o,k _ _ (by rw [e];exact List.mem_cons_self) ho,r⟩,i⟩,Tps.keep (fun b o m=>k b o (List.mem_cons_of_mem _ m)) x⟩
 | [],_ :: _,_,x=>x.elim
 | _ :: _,[],_,x=>x.elim
theorem ask_mono {κ:SortKind} {vs:List Value} (i j:Nat) (C C':Bool->Shared->Prop) (s:Shared) (k:∀ b s,C b s->C' b s) (h:W.kas_ask prog w A κ vs i j C s):W.kas_ask prog w A κ vs i j C' s:=L2.thn (E:=fun _ _=>False) h fun b s' q=>k b s' q
theorem out_eq (vs:List Value):Array.map (fun x=>x.2) (Array.map (W.kas_item (vs.toArray.zip vs.toArray)) (List.range vs.length).toArray)=vs.toArray:=by
 apply Array.ext
 ·simp
 ·intro i h1 h2
  simp [W.kas_item] at h1 ⊢
  have:i < (vs.zip vs).length:=by simpa using h1
  simp [h1]
theorem list_sort {a:Addr} {vs:List Value} {ns:List (List Int)} {P:Fin->Shared->Prop} {n:Nat} (hd:s.heap.get? a=some (seqObj "list" vs.toArray n)) (x:Tps s.heap vs ([] :: ns)) (ho:ord ([] :: ns)=true) (hna:∀ t,Value.ref t∈vs->t≠a) (h2:2<=vs.length) (h64:vs.length < 64) (hu:A.units < cLine)
  (h:P (.done (.ret .none)) { s with heap:=sortedHeap s.heap a vs vs.toArray }):wpAny (model prog w) A (Builtin.«list.sort» { pos:=[.ref a] }) P E s:=by
 have hz:vs.toArray.size<=sizeLine:=by rw [List.size_toArray,sizeLine_eq];omega
 rw [list_sort_plain]
 refine wpAny_bind (listItems_at hd rfl ?_)
 refine wpAny_bind (listUpdate_at hd rfl ?_ hz (by simp))
 have h1:=get?_update_seq hd (fun _=>#[])
 refine wpAny_bind (seqEpoch_at h1 rfl ?_)
 refine wpAny_bind (wpAny_newTuple ?_ (by simpa using hz))
 refine wpAny_bind (wpAny_newList ?_ (by simp))
 refine wpAny_holding ?_
 dsimp only
 rw [if_neg (by simp;omega)]
 have kp:∀ b o,b≠a->s.heap.get? b=some o->(((s.heap.update a (Obj.mapSeq fun _=>#[])).push { cls:=.type "tuple",data:=.seq vs.toArray.toList.toArray }).push { cls:=.type "list",data:=.seq (([]:List Value).toArray) }).get? b=some o:=fun b o hb e =>
  Heap.get?_push_of_some _ (Heap.get?_push_of_some _ (Heap.get?_update_of_ne _ (Ne.symm hb) e))
 have x':=Tps.keep (fun b o m=>kp b o (hna b m)) x
 generalize hS:({ s with heap:=(((s.heap.update a (Obj.mapSeq fun _=>#[])).push { cls:=.type "tuple",data:=.seq vs.toArray.toList.toArray }).push { cls:=.type "list",data:=.seq (([]:List Value).toArray) }) }:Shared)=S at *
 have hh:S.heap=(((s.heap.update a (Obj.mapSeq fun _=>#[])).push { cls:=.type "tuple",data:=.seq vs.toArray.toList.toArray }).push { cls:=.type "list",data:=.seq (([]:List Value).toArray) }):=by rw [<- hS]
 rw [<- hh] at x'
 have ha:S.heap.get? a=some (seqObj "list" #[] (if ((#[]:Array Value).size == vs.toArray.size)=true then n else n+1)):=by
  rw [hh]
  exact Heap.get?_push_of_some _ (Heap.get?_push_of_some _ h1)
 refine wpAny_bind (kind_ok x' ?_)
 rw [if_neg (by simp;omega)]
 refine wpAny_bind (L2.thn (W.kat_run (vs:=vs) (ks:=vs) (κ:=oneType') (Q:=fun st s'=>arrOf st=Array.map (W.kas_item (vs.toArray.zip vs.toArray)) (List.range vs.length).toArray/\failedOf st=none/\s'=S) (G:=fun p s'=>p=(List.range vs.length).toArray/\s'=S) rfl h2 h64 (fun p st' s' _ e f q=>⟨by rw [e,q.1],f,q.2⟩) (sort_go ask_mono (by omega) (fun i i1 i2 C hC=>?_) ⟨rfl,rfl⟩)) fun r s' hq=>?_)
 ·have hl:=x'.len
  obtain ⟨j,rfl⟩:∃ j,i=j+1:=⟨i - 1,by omega⟩
  have g1:([] :: ns)[j]?=some (([] :: ns)[j]'(by omega)):=List.getElem?_eq_getElem (by omega)
  have g2:([] :: ns)[j+1]?=some (([] :: ns)[j+1]'(by omega)):=List.getElem?_eq_getElem (by omega)
  have hlt:=ord_at ho g1 g2
  obtain ⟨t1,i1,e1,q1,r1⟩:=x'.at g1
  obtain ⟨t2,i2,e2,q2,r2⟩:=x'.at g2
  unfold W.kas_ask
  rw [Nat.add_sub_cancel,e1,e2]
  refine keyLt_tup q2 q1 r2 r1 hu ?_
  rw [hlt]
  exact hC
 ·obtain ⟨u,st⟩:=r
  obtain ⟨e1,e2,rfl⟩:=hq
  cases u
  dsimp only at e1 e2 ⊢
  rw [e1,out_eq,e2]
  refine wpAny_bind (seqEpoch_at ha rfl ?_)
  refine wpAny_bind (listUpdate_at ha rfl ?_ (by simp) (by omega))
  dsimp only
  rw [if_neg (by simp)]
  refine wpAny_pure ?_
  rw [hh,<- hS]
  exact h
end
end So
end PySem
namespace PySem
open PyProof.Rows
namespace So
section
variable {prog:Program} {w:World} {A:Around} {E:Value->Shared->Prop} {s:Shared}
theorem list_sort1 {a:Addr} {v:Value} {P:Fin->Shared->Prop} {n:Nat} (hd:s.heap.get? a=some (seqObj "list" [v].toArray n))
  (h:P (.done (.ret .none)) { s with heap:=sortedHeap s.heap a [v] [v].toArray }):wpAny (model prog w) A (Builtin.«list.sort» { pos:=[.ref a] }) P E s:=by
 rw [list_sort_plain]
 refine wpAny_bind (listItems_at hd rfl ?_)
 refine wpAny_bind (listUpdate_at hd rfl ?_ (by simp [sizeLine_eq]) (by simp))
 have h1:=get?_update_seq hd (fun _=>#[])
 refine wpAny_bind (seqEpoch_at h1 rfl ?_)
 refine wpAny_bind (wpAny_newTuple ?_ (by simp [sizeLine_eq]))
 refine wpAny_bind (wpAny_newList ?_ (by simp))
 refine wpAny_holding ?_
 dsimp only
 rw [if_pos (by simp)]
 refine wpAny_bind (wpAny_pure ?_)
 rw [if_pos (by simp)]
 refine wpAny_bind (wpAny_pure ?_)
 dsimp only
 have e1:∀ arr:Array Keyed,arrOf (SortSt.mk' general' arr #[] 7 none)=arr:=fun _=>rfl
 have e3:Array.map (fun x=>x.2) ([v].toArray.zip [v].toArray)=[v].toArray:=by simp
 rw [e1,e3]
 have ha:=Heap.get?_push_of_some { cls:=Value.type "list",data:=.seq (([]:List Value).toArray) } (Heap.get?_push_of_some { cls:=Value.type "tuple",data:=.seq ([v].toArray.toList.toArray) } h1)
 refine wpAny_bind (seqEpoch_at ha rfl ?_)
 refine wpAny_bind (listUpdate_at ha rfl ?_ (by simp) (by simp [sizeLine_eq]))
 dsimp only
 rw [if_neg (by simp)]
 exact wpAny_pure h
theorem call_sorted {l:Addr} {vs:List Value} {ns:List (List Int)} {Q:Value->Shared->Prop} (hl:s.heap.IsList l vs.toArray) (x:Tps s.heap vs ([] :: ns)) (ho:ord ([] :: ns)=true) (h64:vs.length < 64) (hu:A.units+2 < cLine)
  (h:Q (.ref (s.heap.objs.size+1)) { s with heap:=sortedAll s.heap vs vs.toArray }):wpAny (model prog w) A (call (.builtin "sorted") [.ref l]) Q E s:=by
 have hz:vs.length<=sizeLine:=by rw [sizeLine_eq];omega
 refine Calls.call_function_entry kind_sorted plain_sorted entry_sorted (args_sorted1 _) ?_
 unfold Builtin.sorted
 refine wpAny_bind (wpAny_of_eq (a:=()) rfl ?_)
 refine wpAny_bind (collect_list hl ?_ hz)
 refine wpAny_bind (wpAny_newList ?_ hz)
 refine wpAny_bind (wpAny_holding ?_)
 have hsz:((s.heap.push (seqObj "list" #[] 0)).update s.heap.objs.size (Obj.mapSeq fun x=>x++vs.toArray)).objs.size=s.heap.objs.size+1:=by rw [Heap.size_update,Heap.size_push]
 rw [hsz]
 have hD:(((s.heap.push (seqObj "list" #[] 0)).update s.heap.objs.size (Obj.mapSeq fun x=>x++vs.toArray)).push (seqObj "list" vs.toArray 0)).get? (s.heap.objs.size+1)=some (seqObj "list" vs.toArray 0):=by
  rw [<- hsz]
  exact Heap.get?_push_size _ rfl
 have kp:∀ b o,s.heap.get? b=some o->(((s.heap.push (seqObj "list" #[] 0)).update s.heap.objs.size (Obj.mapSeq fun x=>x++vs.toArray)).push (seqObj "list" vs.toArray 0)).get? b=some o:=fun b o e =>
  Heap.get?_push_of_some _ (Heap.get?_update_of_ne _ (Nat.ne_of_gt (Heap.lt_size e)) (Heap.get?_push_of_some _ e))
 have x':=Tps.mono kp x
 refine wpAny_call_entry (T:="list") slot_list_sort ⟨_,hD,rfl⟩ entry_list_sort ?_ (args_list_sort _)
 have fin:∀ {P:Fin->Shared->Prop},P (.done (.ret .none)) { s with heap:=sortedAll s.heap vs vs.toArray }->wpAny (model prog w) A.in1.in1 (Builtin.«list.sort» { pos:=[.ref (s.heap.objs.size+1)] }) P E { s with heap:=(((s.heap.push (seqObj "list" #[] 0)).update s.heap.objs.size (Obj.mapSeq fun x=>x++vs.toArray)).push (seqObj "list" vs.toArray 0)) }:=fun {P} hP=>by
  rcases Nat.lt_or_ge vs.length 2 with h2 | h2
  ·have hl2:=x.len
   obtain ⟨v,rfl⟩:∃ v,vs=[v]:=List.length_eq_one_iff.mp (by rw [List.length_cons] at hl2;omega)
   exact list_sort1 hD hP
  ·refine list_sort hD x' ho (fun t mt e=>?_) h2 h64 (by show A.units+1+1 < _;omega) hP
   obtain ⟨i,hi,ei⟩:=List.mem_iff_getElem.mp mt
   have hl2:=x.len
   obtain ⟨t',its,e1,q,_⟩:=x.at (List.getElem?_eq_getElem (show i < ([] :: ns).length by omega))
   have:vs.getD i Value.none=.ref t:=by rw [<- ei];simp [hi]
   rw [this] at e1
   cases e1
   obtain ⟨o,ho',_⟩:=q
   exact absurd e (Nat.ne_of_lt (Nat.lt_succ_of_lt (Heap.lt_size ho')))
 exact fin ⟨_,rfl,wpAny_pure ⟨_,rfl,h⟩⟩
end
end So
end PySem
namespace L2
open PySem PySem.Spec
def TpV (K:PySem.W.Frag) (H:Hp):List V->List (List Int)->Prop
 | [],[]=>True
 | v :: vs,n :: ns=>(∃ t,v=.ref t/\SqT K H t (n.map V.int))/\TpV K H vs ns
 | _,_=>False
section
variable {X:Cx} {pins:List (Addr×Obj)} {σ:St} {H:Hp} {s:Shared}
theorem tps_of (I:Inv X pins σ H s):∀ {vs:List V} {us:List Value} {ns:List (List Int)},TpV X.K H vs ns->Vals vs us->So.Tps s.heap us ns
 | [],us,[],_,r=>by cases r;trivial
 | v :: vs,us,n :: ns,⟨⟨t,e,hs⟩,x⟩,r=>by
  subst e
  cases r with
  | cons r1 r2 =>
   cases r1
   obtain ⟨its,p1,p2,_⟩:=I.tuple hs
   exact ⟨⟨t,its.toArray,rfl,p2,by simpa using intsAre_of p1⟩,tps_of I x r2⟩
 | [],_,_ :: _,x,_=>x.elim
 | _ :: _,_,[],x,_=>x.elim
theorem Ht (hu:X.A.units+2 < cLine):Cs X (.builtin "sorted") (fun xs H Q=>∃ a vs ns,xs=[.ref a]/\SqL X.K H a vs/\TpV X.K H vs ([] :: ns)/\So.ord ([] :: ns)=true/\vs.length < 64/\∀ l,H l=none->Q (.ref l) (upd H l (.lst vs))):=by
 intro pins s σ H xs us Q I r h
 obtain ⟨a,vs,ns,rfl,hl,ht,ho,h64,q⟩:=h
 obtain ⟨u,rfl,rx⟩:=vals1 r
 cases rx
 obtain ⟨its,vx,pl,_⟩:=I.list hl
 have hz:its.length=vs.length:=vx.length.symm
 refine So.call_sorted pl.isList (tps_of I ht vx) ho (by omega) hu ?_
 obtain ⟨e,he⟩:=PyProof.Rows.sortedAll_at s.heap its its.toArray
 refine ⟨.ref (s.heap.objs.size+1),_,I.laid (t':=s.toks) (o:=.lst vs) (fun b o q=>PyProof.Rows.sortedAll_old q) (Nat.le_succ _) ⟨by rw [sizeLine_eq];omega,its,e,vx,he⟩,rfl,q _ (I.hok.fresh (Nat.le_succ _))⟩
theorem call_dictD:Cs X (.type "dict") (fun xs H Q=>∃ a kvs,xs=[.ref a]/\Rd H a (.dK kvs)/\∀ l,H l=none->Q (.ref l) (upd H l (.dK kvs))):=by
 intro pins s σ H xs us Q I r h
 obtain ⟨a,kvs,rfl,ha,q⟩:=h
 obtain ⟨u,rfl,rx⟩:=vals1 r
 cases rx
 exact d_copyOf I ha fun p s' hp I'=>⟨.ref p,_,I',rfl,q p hp⟩
end
end L2
namespace PySem
open PyProof.Rows (IsTup)
namespace Rv
section
variable {prog:Program} {w:World} {A:Around} {E:Value->Shared->Prop} {s:Shared}
theorem extend_rv {R:Result->Shared->Prop} {I t S:Addr} {items:Array Value} {res:Value} {c₀:Nat} (hh:A.handled=none) (hne:t≠I) (hz:items.size<=sizeLine) (hit:Is s.heap I t ((items.size:Int) - 1)) (ht:IsTup s.heap t items) (hSf:S∉[I,t])
  (hS:s.heap.get? S=some { cls:=.type "list",data:=.seq #[] c₀ })
  (hR:∀ s' acc' c',(∀ b o,b≠I->b≠S->s.heap.get? b=some o->s'.heap.get? b=some o)->s'.gens=s.gens->s'.drawn=s.drawn->s'.os=s.os->s'.heap.get? S=some { cls:=.type "list",dict:=none,data:=.seq acc' c',slots:=#[] }->ItemsOf (fun i v=>items[items.size - 1 - i]?=some v) acc' items.size->R (.ok (.ret res)) s') :
  wpAny (model prog w) A.in1 (Builtin.List.listExtendWith (.ref S) (.ref I) res)
   (fun fin s'=>match fin with | .done f=>R (.ok f) s' | .again c'=>c'.quiet=true/\codeAny (model prog w) A c' R s') (fun e s'=>R (.error e) s') s:=by
 have W:=(walks (prog:=prog) (w:=w) (A:=A.in1) hh I t hne items hz).toS
 have hSI:S≠I:=fun e=>hSf (by simp [e])
 have hSt:t≠S:=fun e=>hSf (by simp [e])
 have h1:Builtin.List.listSameRef (.ref S) (.ref I)=false:=by simp [Builtin.List.listSameRef,hSI]
 have h2:(Value.type "reversed" == Value.type "list")=false:=by decide
 have h3:(Value.type "reversed" == Value.type "tuple")=false:=by decide
 unfold Builtin.List.listExtendWith
 refine wpAny_bind (wpAny_typeOf (Is.typeIs hit) ?_)
 simp only [h1,h2,h3,Bool.or_false,Bool.false_eq_true,if_false]
 refine wpAny_bind (Hc hit ?_)
 refine wpAny_bind (wpAny_holding (hint hit ht hz fun b tk htk=>?_))
 have e0:(items.size:Int) - 1 - ((0:Nat):Int)=(items.size:Int) - 1:=by simp
 have key:∀ (h:Heap) (c₁:Nat),(∀ b o,b≠S->s.heap.get? b=some o->h.get? b=some o) ->
   h.get? S=some { cls:=.type "list",data:=.seq #[] c₁ }->codeAny (model prog w) A (.builtin "list.extend.loop" ⟨[.ref S,.ref I,res],[]⟩) R { s with heap:=h,toks:=tk }:=by
  intro h c₁ hk hS₁
  refine codeAny_extend_loopS W hz _ hSf _ items.size 0 _ _ _ rfl (Nat.zero_le _) ⟨Nat.zero_le _,?_,tupAt ht fun o e=>hk _ o hSt e⟩ hS₁ (ItemsOf.nil _) fun s' acc' c' hm hS' hacc=>hR s' acc' c' (fun b o hb hb2 e=>?_) hm.gens hm.drawn hm.os hS' hacc
  ·rw [e0]
   exact hit.at fun o e=>hk _ o (Ne.symm hSI) e
  ·refine hm.heap b o (fun hmem=>?_) (hk b o hb2 e)
   rcases List.mem_cons.mp hmem with q | q
   ·exact hb2 q
   ·exact hb (List.mem_singleton.mp q)
 refine wpAny_ite_split (fun _=>?_) (fun _=>wpAny_pure ⟨plainId_quiet F.plain_extend_loop _,key _ _ (fun b o _ e=>e) hS⟩)
 refine wpAny_bind (wpAny_rule ?_)
 refine wpAny_bind ?_
 show wpAny _ _ (updateSeq S (·.push .none) >>= fun _=>updateSeq S (·.pop)) _ _ _
 refine wpAny_bind (wpAny_updateSeq hS rfl ?_)
 have hS₂:=Heap.get?_update_self (Obj.mapSeq (·.push Value.none)) hS rfl
 refine wpAny_updateSeq (hz:=by seq_fits) hS₂ rfl ?_
 have hS₃:=Heap.get?_update_self (Obj.mapSeq (·.pop)) hS₂ rfl
 refine wpAny_pure ⟨plainId_quiet F.plain_extend_loop _,key _ _ (fun b o hb e=>?_) hS₃⟩
 exact (Heap.get?_update_other _ _ (Ne.symm hb)).trans ((Heap.get?_update_other _ _ (Ne.symm hb)).trans e)
theorem GZ {R:Result->Shared->Prop} {I t S:Addr} {items:Array Value} (hh:A.handled=none) (hne:t≠I) (hz:items.size<=sizeLine) (hit:Is s.heap I t ((items.size:Int) - 1)) (ht:IsTup s.heap t items) (hSf:S∉[I,t])
  (hS:s.heap.get? S=some { cls:=.type "list",data:=.seq #[] })
  (hR:∀ s' acc' c',(∀ b o,b≠I->b≠S->s.heap.get? b=some o->s'.heap.get? b=some o)->s'.gens=s.gens->s'.drawn=s.drawn->s'.os=s.os->s'.heap.get? S=some { cls:=.type "list",dict:=none,data:=.seq acc' c',slots:=#[] }->ItemsOf (fun i v=>items[items.size - 1 - i]?=some v) acc' items.size->R (.ok (.ret .none)) s') :
  wpAny (model prog w) A.in1 (Builtin.«list.__init__» ⟨[.ref S,.ref I],[]⟩)
   (fun fin s'=>match fin with | .done f=>R (.ok f) s' | .again c'=>c'.quiet=true/\codeAny (model prog w) A c' R s') (fun e s'=>R (.error e) s') s:=by
 have hSI:S≠I:=fun e=>hSf (by simp [e])
 have hSt:t≠S:=fun e=>hSf (by simp [e])
 show wpAny _ A.in1 (do let old <- Builtin.List.listItems (.ref S);Builtin.List.listUpdate (.ref S) (fun _=>#[]);letGo old.toList.reverse;Builtin.List.listExtendWith (.ref S) (.ref I) .none) _ _ s
 refine wpAny_bind ?_
 unfold Builtin.List.listItems
 refine wpAny_bind (wpAny_seqItems hS rfl (wpAny_pure ?_))
 show wpAny _ A.in1 (updateSeq S (fun _=>#[]) >>= fun _=>letGo (#[]:Array Value).toList.reverse >>= fun _=>Builtin.List.listExtendWith (.ref S) (.ref I) .none) _ _ s
 refine wpAny_bind (wpAny_updateSeq hS rfl ?_)
 have hS₂:=Heap.get?_update_self (Obj.mapSeq (fun _=>(#[]:Array Value))) hS rfl
 have oth:∀ b o,b≠S->s.heap.get? b=some o->(s.heap.update S (Obj.mapSeq (fun _=>(#[]:Array Value)))).get? b=some o :=
  fun b o hb e=>(Heap.get?_update_other _ _ (Ne.symm hb)).trans e
 refine wpAny_bind (wpAny_letGo ?_)
 exact extend_rv (s:={ s with heap:=s.heap.update S (Obj.mapSeq (fun _=>(#[]:Array Value))) }) hh hne hz (hit.at fun o e=>oth _ o (Ne.symm hSI) e) (tupAt ht fun o e=>oth _ o hSt e) hSf hS₂ fun s' acc' c' hk h1 h2 h3 h4 h5=>hR s' acc' c' (fun b o hb hb2 e=>hk b o hb hb2 (oth b o hb2 e)) h1 h2 h3 h4 h5
theorem call_list {it t:Addr} {items:Array Value} {Q:Value->Shared->Prop} (hh:A.handled=none) (hz:items.size<=sizeLine) (hne:t≠it) (hit:Is s.heap it t ((items.size:Int) - 1)) (ht:IsTup s.heap t items)
  (hQ:∀ h' tk acc' c',(∀ b o,b≠it->s.heap.get? b=some o->h'.get? b=some o) ->
   h'.get? s.heap.objs.size=some { cls:=.type "list",dict:=none,data:=.seq acc' c',slots:=#[] }->ItemsOf (fun i v=>items[items.size - 1 - i]?=some v) acc' items.size->Q (.ref s.heap.objs.size) { s with heap:=h',toks:=tk }) :
  wpAny (model prog w) A (call (.type "list") [.ref it]) Q E s:=by
 refine callType_codes (Q₁:=fun obj s₁=>obj=.ref s.heap.objs.size/\s₁={ s with heap:=s.heap.push { cls:=.type "list",data:=.seq #[] } }) F.called_list (F.typeCall_list_1 _) F.entry_list_init
  (code_list_new _ ⟨rfl,rfl⟩) fun obj s₁ h₁=>?_
 obtain ⟨rfl,rfl⟩:=h₁
 have hS:(s.heap.push { cls:=.type "list",data:=.seq #[] }).get? s.heap.objs.size=some { cls:=.type "list",data:=.seq #[] }:=Heap.get?_push_size _ rfl
 have hlt:it < s.heap.objs.size:=by obtain ⟨o,e,_⟩:=hit;exact Heap.lt_size e
 have hlt2:t < s.heap.objs.size:=ht.lt
 refine ⟨⟨_,hS,rfl⟩,F.args_list_init_2 _ _,GZ (A:=A.in1) hh hne hz (hit.at fun o e=>Heap.get?_push_of_some _ e) (tupAt ht fun o e=>Heap.get?_push_of_some _ e) ?_ hS (fun s' acc' c' hk h1 h2 h3 hS' hacc=>?_)⟩
 ·intro hm
  rcases List.mem_cons.mp hm with e | hm
  ·exact absurd hlt (by rw [e];exact Nat.lt_irrefl _)
  ·exact absurd hlt2 (by rw [List.mem_singleton.mp hm];exact Nat.lt_irrefl _)
 ·obtain ⟨h',g',d',tk',os'⟩:=s'
  have e1:g'=s.gens:=h1
  have e2:d'=s.drawn:=h2
  have e3:os'=s.os:=h3
  subst e1 e2 e3
  exact ⟨rfl,hQ h' tk' acc' c' (fun b o hb e=>hk b o hb (Nat.ne_of_lt (Heap.lt_size e)) (Heap.get?_push_of_some _ e)) hS' hacc⟩
end
end Rv
end PySem
namespace L2
open PySem PySem.Spec PyProof.Rows
def tListRevT (K:PySem.W.Frag) (ta:TE):TE:=fun σ H Q=>ta σ H fun x H1=>∃ t ys,x=.ref t/\SqT K H1 t ys/\∀ d,H1 d=none->Q (.ref d) (upd H1 d (.lst ys.reverse))
theorem HL {X:Cx} {a:Expr} {ta:TE} {p1 p2 pos1 pos2:Pos} (hc:X.calm=true) (hm1:X.mg "list"=none) (hm2:X.mg "reversed"=none) (ha:PE X a ta) (hg1:Gl X "list":=by rfl) (hg2:Gl X "reversed":=by rfl)
  (he:starEach [(.Call (.Name "reversed" p2) [a] [] pos2:Expr)] X.env=[(false,eval (.Call (.Name "reversed" p2) [a] [] pos2) X.env)]:=by rfl) (he2:starEach [a] X.env=[(false,eval a X.env)]:=by rfl) :
  PE X (.Call (.Name "list" p1) [.Call (.Name "reversed" p2) [a] [] pos2] [] pos1) (tListRevT X.K ta):=by
 intro pins s σ H Q I h
 refine wpAny_Call_Name_kw (Dl I hg1 hm1 boot_list ?_)
 refine PyProof.Rows.callWith_type1 ?_ he rfl
 rw [he]
 refine Calls.spliced_cons ?_
 refine wpAny_Call_Name_kw (Dl I hg2 hm2 boot_reversed ?_)
 refine PyProof.Rows.callWith_type1 ?_ he2 rfl
 rw [he2]
 refine Calls.spliced_cons (thn (ha pins s σ H _ I h) fun u s1 ⟨x,H1,I1,r1,t,ys,ex,hq,q⟩=>?_)
 subst ex
 cases r1
 obtain ⟨its,rv,pt,hz⟩:=I1.tuple hq
 have hlen:=rv.length
 have hz2:its.toArray.size<=sizeLine:=by rw [List.size_toArray];omega
 refine Calls.spliced_nil (Rv.call_new hz2 pt fun tk=>?_)
 refine Calls.spliced_nil ?_
 have I2:Inv X pins σ H1 { s1 with heap:=s1.heap.push (Rv.obj t ((its.toArray.size:Int) - 1)),toks:=tk }:=I1.kept (t':=tk) fun b o e=>Heap.get?_push_of_some _ e
 have hf:FpOk X pins H1 s1.heap.objs.size:=I1.fpOk (Nat.le_refl _) (I1.hok.fresh (Nat.le_refl _))
 have hlt:t < s1.heap.objs.size:=pt.lt
 refine Rv.call_list (s:={ s1 with heap:=s1.heap.push (Rv.obj t ((its.toArray.size:Int) - 1)),toks:=tk }) (t:=t) (items:=its.toArray) (I.ok.hd hc) hz2 (Nat.ne_of_lt hlt) ⟨_,Heap.get?_push_size _ rfl,rfl,rfl⟩ (Rv.tupAt pt fun o e=>Heap.get?_push_of_some _ e) fun h' tk' acc c kp e hacc=>?_
 refine ⟨.ref _,_,I2.Hr (n:=c) hf (Nat.le_refl _) kp (by rw [List.length_reverse];exact hz) (vals_rev rv hacc) (by simpa using e),rfl,q _ (I2.hok.fresh (Nat.le_refl _))⟩
end L2
namespace L2
open PySem PySem.Spec
section
variable {X:Cx} {tg:Expr}
def iDictU (td:TE):TI:=fun σ H R=>td σ H fun x H1=>∃ a kvs,x=.ref a/\((H1 a=some (.dK kvs)/\∀ o,R (Itd a o kvs) (upd H1 a (.frz o (.dK kvs))))∨∃ o,H1 a=some (.frz o (.dK kvs))/\R (Itd a o kvs) H1)
theorem pi_dictU {l:Expr} {td:TE} (hl:PE X l td):PI X tg l (iDictU td):=by
 intro pins s σ H R I h
 refine thn (hl pins s σ H _ I h) fun v s1 ⟨x,H1,I1,r1,q1⟩=>?_
 obtain ⟨a,kvs,e,hq⟩:=q1
 subst e
 cases r1
 suffices key:∃ (o:Obj) (H2:Hp),Inv X pins σ H2 s1/\H2 a=some (.frz o (.dK kvs))/\R (Itd a o kvs) H2 by
  obtain ⟨o,H2,I2,h2,q⟩:=key
  obtain ⟨hd,vs,rel,da⟩:=I2.frzd h2
  have hlen:=rel.length
  refine wpAny_pyIter_dict hd da ?_
  refine ⟨s1.heap.objs.size,[s1.heap.objs.size],_,_,_,rfl,I2.kept (t':=s1.toks) fun b o e=>Heap.get?_push_of_some _ e,turn_dict a _ o kvs,⟨_,Heap.get?_push_size _ rfl,rfl,by rw [hlen];rfl⟩,fun b hb=>?_,q⟩
  have e:b=s1.heap.objs.size:=by simpa using hb
  subst e
  exact I2.fpOk (Nat.le_refl _) (I2.hok.fresh (Nat.le_refl _))
 rcases hq with ⟨hq,q⟩ | ⟨o,hq,q⟩
 ·obtain ⟨o,I2⟩:=I1.freeze hq
  exact ⟨o,_,I2,Av,q o⟩
 ·exact ⟨o,H1,I1,hq,q⟩
def tFrz (td:TE):TE:=fun σ H Q=>td σ H fun x H1=>∃ a kvs,x=.ref a/\H1 a=some (.dK kvs)/\∀ o,Q (.ref a) (upd H1 a (.frz o (.dK kvs)))
theorem pe_frz {e:Expr} {td:TE} (h:PE X e td):PE X e (tFrz td):=by
 intro pins s σ H Q I q
 refine thn (h pins s σ H _ I q) fun v s1 ⟨x,H1,I1,r1,a,kvs,ex,hq,q⟩=>?_
 subst ex
 cases r1
 obtain ⟨o,I2⟩:=I1.freeze hq
 exact ⟨.ref a,_,I2,rfl,q o⟩
end
end L2
namespace FL
open PySem PySem.Spec L2
inductive T where
 | non | bl (b:Bool) | int (i:Int) | str (x:Str)
 | tup (ts:List T) | lst (ts:List T)
 | scr (ts:List T)
 | dK (ks:List Key) (ts:List T) | dT (ks:List (List Key)) (ts:List T)
 | ins (C:Addr) (fs:List Str) (ts:List T)
 | dF (ks:List Key) (ts:List T)
inductive FO where
 | lst (ts:List T) | dK (ks:List Key) (ts:List T) | dT (ks:List (List Key)) (ts:List T)
 | ins (C:Addr) (fs:List Str) (os:List FO) | val (t:T)
inductive Sl where
 | val (t:T) | own (o:FO) | bor (o:FO)
abbrev FS:=List (Option Sl)
inductive Rv where
 | t (t:T) | nw (o:FO) | rf (i:Nat)
inductive Out (α:Type) where
 | ok (a:α) (fs:FS) | exc (c:Str) (fs:FS) | bad
inductive SO where
 | nx (fs:FS) | ret (r:Rv) (fs:FS) | brk (fs:FS) | cnt (fs:FS) | exc (c:Str) (fs:FS) | bad
structure Wd where
 f:Addr->Prop
 p:Addr->Prop
instance:CoeFun Wd fun _=>Addr->Prop:=⟨Wd.f⟩
structure Le (F:Wd) (H:Hp) (F':Wd) (H':Hp):Prop where
 f:∀ a,F a->F' a/\H' a=H a
 p:∀ a,F.p a->F'.p a/\H' a=H a
theorem Le.refl {F:Wd} {H:Hp}:Le F H F H:=⟨fun _ h=>⟨h,rfl⟩,fun _ h=>⟨h,rfl⟩⟩
theorem Le.trans {F F1 F2:Wd} {H H1 H2:Hp} (x:Le F H F1 H1) (y:Le F1 H1 F2 H2):Le F H F2 H2 :=
 ⟨fun a h=>let ⟨p,q⟩:=x.f a h;let ⟨p2,q2⟩:=y.f a p;⟨p2,q2.trans q⟩,fun a h=>let ⟨p,q⟩:=x.p a h;let ⟨p2,q2⟩:=y.p a p;⟨p2,q2.trans q⟩⟩
section
variable (K:PySem.W.Frag)
def KL (a:Addr) (vs:List V):Prop:=∃ (o:Obj) (its:Array Value) (n:Nat),K.lookup a=some o/\o.cls=.type "list"/\o.dict=none/\o.data=.seq its n/\its.size<=sizeLine/\Vals vs its.toList
def StL (F:Wd) (H:Hp) (a:Addr) (vs:List V):Prop:=(F a/\Rd H a (.lst vs))∨KL K a vs
def StT (F:Wd) (H:Hp) (a:Addr) (vs:List V):Prop:=K=K/\F a/\H a=some (.tup vs)
end
section
variable {K:PySem.W.Frag} {F F':Wd} {H H':Hp} {a:Addr} {vs:List V}
theorem StL.sq (h:StL K F H a vs):SqL K H a vs:=by
 rcases h with ⟨_,h⟩ | h
 ·exact .inl h
 ·exact .inr h
theorem StT.sq (h:StT K F H a vs):SqT K H a vs:=SqT.of h.2.2
theorem Rd.same {u:HO} (h:Rd H a u) (e:H' a=H a):Rd H' a u:=by
 unfold Rd at *
 rw [e]
 exact h
theorem StL.le (h:StL K F H a vs) (l:Le F H F' H'):StL K F' H' a vs:=by
 rcases h with ⟨f,h⟩ | h
 ·exact .inl ⟨(l.f a f).1,FL.Rd.same h (l.f a f).2⟩
 ·exact .inr h
theorem StT.le (h:StT K F H a vs) (l:Le F H F' H'):StT K F' H' a vs:=⟨rfl,(l.f a h.2.1).1,(l.f a h.2.1).2.trans h.2.2⟩
end
section
variable (K:PySem.W.Frag) (F:Wd) (H:Hp)
mutual
def AB:T->V->Prop
 | .non,v=>v=.non
 | .bl b,v=>v=.bl b
 | .int i,v=>v=.int i
 | .str x,v=>v=.str x
 | .tup ts,v=>∃ a vs,v=.ref a/\StT K F H a vs/\Ac ts vs
 | .lst ts,v=>∃ a vs,v=.ref a/\F a/\H a=some (.lst vs)/\Ac ts vs
 | .scr ts,v=>∃ a vs,v=.ref a/\StL K F H a vs/\Ac ts vs
 | .dK ks ts,v=>∃ a kvs,v=.ref a/\F a/\Rd H a (.dK kvs)/\kvs.map (·.1)=ks/\Ac ts (kvs.map (·.2))
 | .dT ks ts,v=>∃ a kvs,v=.ref a/\F a/\H a=some (.dT kvs)/\kvs.map (·.1)=ks/\Ac ts (kvs.map (·.2))
 | .ins C fs ts,v=>∃ a dx kvs,v=.ref a/\F a/\H a=some (.ins C dx kvs)/\kvs.map (·.1)=fs/\Ac ts (kvs.map (·.2))
 | .dF ks ts,v=>∃ a kvs,v=.ref a/\F a/\(∃ o,H a=some (.frz o (.dK kvs)))/\kvs.map (·.1)=ks/\Ac ts (kvs.map (·.2))
def Ac:List T->List V->Prop
 | [],vs=>vs=[]
 | t :: ts,vs=>∃ v r,vs=v :: r/\AB t v/\Ac ts r
end
mutual
def AO:FO->V->List Addr->Prop
 | .val t,v,L=>L=[]/\AB K F H t v
 | .lst ts,v,L=>∃ a vs,v=.ref a/\H a=some (.lst vs)/\Ac K F H ts vs/\L=[a]
 | .dK ks ts,v,L=>∃ a kvs,v=.ref a/\H a=some (.dK kvs)/\kvs.map (·.1)=ks/\Ac K F H ts (kvs.map (·.2))/\L=[a]
 | .dT ks ts,v,L=>∃ a kvs,v=.ref a/\H a=some (.dT kvs)/\kvs.map (·.1)=ks/\Ac K F H ts (kvs.map (·.2))/\L=[a]
 | .ins C fs os,v,L=>∃ a dx kvs L',v=.ref a/\H a=some (.ins C dx kvs)/\kvs.map (·.1)=fs/\BM os (kvs.map (·.2)) L'/\L=a :: L'
def BM:List FO->List V->List Addr->Prop
 | [],vs,L=>vs=[]/\L=[]
 | o :: os,vs,L=>∃ v r L1 L2,vs=v :: r/\AO o v L1/\BM os r L2/\L=L1++L2
end
mutual
def toT:FO->T
 | .val t=>t
 | .lst ts=>.lst ts
 | .dK ks ts=>.dK ks ts
 | .dT ks ts=>.dT ks ts
 | .ins C fs os=>.ins C fs (toTs os)
def toTs:List FO->List T
 | []=>[]
 | o :: os=>toT o :: toTs os
end
def Ao:FS->St->List Addr->Prop
 | [],σ,L=>σ=[]/\L=[]
 | none :: r,σ,L=>∃ v σ',σ=v :: σ'/\Ao r σ' L
 | some (.val t) :: r,σ,L=>∃ v σ',σ=some v :: σ'/\AB K F H t v/\Ao r σ' L
 | some (.own o) :: r,σ,L=>∃ v σ' L1 L2,σ=some v :: σ'/\AO K F H o v L1/\Ao r σ' L2/\L=L1++L2
 | some (.bor o) :: r,σ,L=>∃ v σ' L1 L2,σ=some v :: σ'/\AO K F H o v L1/\Ao r σ' L2/\L=L1++L2
end
section
variable {K:PySem.W.Frag} {F F':Wd} {H H':Hp}
mutual
theorem AB.le (l:Le F H F' H'):∀ {t:T} {v:V},AB K F H t v->AB K F' H' t v
 | .non,_,h=>h
 | .bl _,_,h=>h
 | .int _,_,h=>h
 | .str _,_,h=>h
 | .tup ts,_,h=>by
  simp only [AB] at h ⊢
  obtain ⟨a,vs,e,s,r⟩:=h
  exact ⟨a,vs,e,s.le l,Ac.le l r⟩
 | .lst ts,_,h=>by
  simp only [AB] at h ⊢
  obtain ⟨a,vs,e,f,s,r⟩:=h
  exact ⟨a,vs,e,(l.f a f).1,(l.f a f).2.trans s,Ac.le l r⟩
 | .scr ts,_,h=>by
  simp only [AB] at h ⊢
  obtain ⟨a,vs,e,s,r⟩:=h
  exact ⟨a,vs,e,s.le l,Ac.le l r⟩
 | .dK ks ts,_,h=>by
  simp only [AB] at h ⊢
  obtain ⟨a,kvs,e,f,s,k,r⟩:=h
  exact ⟨a,kvs,e,(l.f a f).1,FL.Rd.same s (l.f a f).2,k,Ac.le l r⟩
 | .dT ks ts,_,h=>by
  simp only [AB] at h ⊢
  obtain ⟨a,kvs,e,f,s,k,r⟩:=h
  exact ⟨a,kvs,e,(l.f a f).1,(l.f a f).2.trans s,k,Ac.le l r⟩
 | .ins C fs ts,_,h=>by
  simp only [AB] at h ⊢
  obtain ⟨a,dx,kvs,e,f,s,k,r⟩:=h
  exact ⟨a,dx,kvs,e,(l.f a f).1,(l.f a f).2.trans s,k,Ac.le l r⟩
 | .dF ks ts,_,h=>by
  simp only [AB] at h ⊢
  obtain ⟨a,kvs,e,f,⟨o,s⟩,k,r⟩:=h
  exact ⟨a,kvs,e,(l.f a f).1,⟨o,(l.f a f).2.trans s⟩,k,Ac.le l r⟩
theorem Ac.le (l:Le F H F' H'):∀ {ts:List T} {vs:List V},Ac K F H ts vs->Ac K F' H' ts vs
 | [],_,h=>h
 | t :: ts,_,h=>by
  simp only [Ac] at h ⊢
  obtain ⟨v,r,e,h1,h2⟩:=h
  exact ⟨v,r,e,AB.le l h1,Ac.le l h2⟩
end
theorem Ac.len:∀ {ts:List T} {vs:List V},Ac K F H ts vs->vs.length=ts.length
 | [],_,h=>by simp only [Ac] at h;subst h;rfl
 | t :: ts,_,h=>by
  simp only [Ac] at h
  obtain ⟨v,r,rfl,_,h2⟩:=h
  simp [Ac.len h2]
theorem Ac.at:∀ {ts:List T} {vs:List V} {i:Nat} {t:T},Ac K F H ts vs->ts[i]?=some t->∃ v,vs[i]?=some v/\AB K F H t v
 | [],_,_,_,_,e=>by simp at e
 | t :: ts,_,0,_,h,e=>by
  simp only [Ac] at h
  obtain ⟨v,r,rfl,h1,_⟩:=h
  simp at e;subst e
  exact ⟨v,rfl,h1⟩
 | t :: ts,_,i+1,_,h,e=>by
  simp only [Ac] at h
  obtain ⟨v,r,rfl,_,h2⟩:=h
  obtain ⟨u,e1,e2⟩:=Ac.at (i:=i) h2 (by simpa using e)
  exact ⟨u,by simpa using e1,e2⟩
theorem Ac.app:∀ {ts us:List T} {vs ws:List V},Ac K F H ts vs->Ac K F H us ws->Ac K F H (ts++us) (vs++ws)
 | [],_,_,_,h,h'=>by simp only [Ac] at h;subst h;exact h'
 | t :: ts,us,_,ws,h,h'=>by
  simp only [Ac] at h
  obtain ⟨v,r,rfl,h1,h2⟩:=h
  show Ac K F H (t :: (ts++us)) (v :: (r++ws))
  simp only [Ac]
  exact ⟨v,r++ws,rfl,h1,Ac.app h2 h'⟩
theorem Ac.one {t:T} {v:V} (h:AB K F H t v):Ac K F H [t] [v]:=by
 simp only [Ac]
 exact ⟨v,[],rfl,h,rfl⟩
theorem Ac.take:∀ {ts:List T} {vs:List V} (n:Nat),Ac K F H ts vs->Ac K F H (ts.take n) (vs.take n)
 | [],_,n,h=>by simp only [Ac] at h;subst h;simp [Ac]
 | t :: ts,_,0,h=>by simp [Ac]
 | t :: ts,_,n+1,h=>by
  simp only [Ac] at h
  obtain ⟨v,r,rfl,h1,h2⟩:=h
  simp only [List.take_succ_cons,Ac]
  exact ⟨v,_,rfl,h1,Ac.take n h2⟩
theorem Ac.drop:∀ {ts:List T} {vs:List V} (n:Nat),Ac K F H ts vs->Ac K F H (ts.drop n) (vs.drop n)
 | [],_,n,h=>by simp only [Ac] at h;subst h;simp [Ac]
 | t :: ts,_,0,h=>by simpa using h
 | t :: ts,_,n+1,h=>by
  simp only [Ac] at h
  obtain ⟨v,r,rfl,h1,h2⟩:=h
  simp only [List.drop_succ_cons]
  exact Ac.drop n h2
theorem Ac.set {t:T} {v:V} (q:AB K F H t v):∀ {ts:List T} {vs:List V} (n:Nat),Ac K F H ts vs->Ac K F H (ts.set n t) (vs.set n v)
 | [],_,n,h=>by simp only [Ac] at h;subst h;simp [Ac]
 | u :: ts,_,0,h=>by
  simp only [Ac] at h
  obtain ⟨w,r,rfl,h1,h2⟩:=h
  simp only [List.set_cons_zero,Ac]
  exact ⟨v,r,rfl,q,h2⟩
 | u :: ts,_,n+1,h=>by
  simp only [Ac] at h
  obtain ⟨w,r,rfl,h1,h2⟩:=h
  simp only [List.set_cons_succ,Ac]
  exact ⟨w,_,rfl,h1,Ac.set q n h2⟩
theorem Ac.rev:∀ {ts:List T} {vs:List V},Ac K F H ts vs->Ac K F H ts.reverse vs.reverse
 | [],_,h=>by simp only [Ac] at h;subst h;simp [Ac]
 | t :: ts,_,h=>by
  simp only [Ac] at h
  obtain ⟨v,r,rfl,h1,h2⟩:=h
  rw [List.reverse_cons,List.reverse_cons]
  exact Ac.app (Ac.rev h2) (Ac.one h1)
mutual
theorem AO.le (l:Le F H F' H'):∀ {o:FO} {v:V} {L:List Addr},(∀ a∈L,H' a=H a)->AO K F H o v L->AO K F' H' o v L
 | .val t,_,L,k,h=>by
  simp only [AO] at h ⊢
  exact ⟨h.1,h.2.le l⟩
 | .lst ts,_,L,k,h=>by
  simp only [AO] at h ⊢
  obtain ⟨a,vs,e,s,r,rfl⟩:=h
  exact ⟨a,vs,e,(k a (by simp)).trans s,r.le l,rfl⟩
 | .dK ks ts,_,L,k,h=>by
  simp only [AO] at h ⊢
  obtain ⟨a,vs,e,s,q,r,rfl⟩:=h
  exact ⟨a,vs,e,(k a (by simp)).trans s,q,r.le l,rfl⟩
 | .dT ks ts,_,L,k,h=>by
  simp only [AO] at h ⊢
  obtain ⟨a,vs,e,s,q,r,rfl⟩:=h
  exact ⟨a,vs,e,(k a (by simp)).trans s,q,r.le l,rfl⟩
 | .ins C fs os,_,L,k,h=>by
  simp only [AO] at h ⊢
  obtain ⟨a,dx,kvs,L',e,s,q,r,rfl⟩:=h
  exact ⟨a,dx,kvs,L',e,(k a (by simp)).trans s,q,BM.le l (fun b hb=>k b (List.mem_cons_of_mem _ hb)) r,rfl⟩
theorem BM.le (l:Le F H F' H'):∀ {os:List FO} {vs:List V} {L:List Addr},(∀ a∈L,H' a=H a)->BM K F H os vs L->BM K F' H' os vs L
 | [],_,L,k,h=>h
 | o :: os,_,L,k,h=>by
  simp only [BM] at h ⊢
  obtain ⟨v,r,L1,L2,e,h1,h2,rfl⟩:=h
  exact ⟨v,r,L1,L2,e,AO.le l (fun a ha=>k a (List.mem_append_left _ ha)) h1,BM.le l (fun a ha=>k a (List.mem_append_right _ ha)) h2,rfl⟩
end
mutual
theorem AO.def:∀ {o:FO} {v:V} {L:List Addr},AO K F H o v L->∀ a∈L,H a≠none
 | .val t,_,L,h,a,m=>by
  simp only [AO] at h
  rw [h.1] at m
  cases m
 | .lst ts,_,L,h,a,m=>by
  simp only [AO] at h
  obtain ⟨b,vs,e,s,r,rfl⟩:=h
  rw [List.mem_singleton.mp m,s]
  simp
 | .dK ks ts,_,L,h,a,m=>by
  simp only [AO] at h
  obtain ⟨b,vs,e,s,q,r,rfl⟩:=h
  rw [List.mem_singleton.mp m,s]
  simp
 | .dT ks ts,_,L,h,a,m=>by
  simp only [AO] at h
  obtain ⟨b,vs,e,s,q,r,rfl⟩:=h
  rw [List.mem_singleton.mp m,s]
  simp
 | .ins C fs os,_,L,h,a,m=>by
  simp only [AO] at h
  obtain ⟨b,dx,kvs,L',e,s,q,r,rfl⟩:=h
  rcases List.mem_cons.mp m with m | m
  ·rw [m,s]
   simp
  ·exact BM.def r a m
theorem BM.def:∀ {os:List FO} {vs:List V} {L:List Addr},BM K F H os vs L->∀ a∈L,H a≠none
 | [],_,L,h,a,m=>by
  simp only [BM] at h
  rw [h.2] at m
  cases m
 | o :: os,_,L,h,a,m=>by
  simp only [BM] at h
  obtain ⟨v,r,L1,L2,e,h1,h2,rfl⟩:=h
  rcases List.mem_append.mp m with m | m
  ·exact AO.def h1 a m
  ·exact BM.def h2 a m
end
mutual
theorem AO.frz (l:Le F H F' H):∀ {o:FO} {v:V} {L:List Addr},(∀ a∈L,F' a)->AO K F H o v L->AB K F' H (toT o) v
 | .val t,_,L,k,h=>by
  simp only [AO] at h
  exact AB.le l h.2
 | .lst ts,_,L,k,h=>by
  simp only [AO] at h
  obtain ⟨a,vs,e,s,r,rfl⟩:=h
  simp only [toT,AB]
  exact ⟨a,vs,e,k a (by simp),s,Ac.le l r⟩
 | .dK ks ts,_,L,k,h=>by
  simp only [AO] at h
  obtain ⟨a,vs,e,s,q,r,rfl⟩:=h
  simp only [toT,AB]
  exact ⟨a,vs,e,k a (by simp),.inl s,q,Ac.le l r⟩
 | .dT ks ts,_,L,k,h=>by
  simp only [AO] at h
  obtain ⟨a,vs,e,s,q,r,rfl⟩:=h
  simp only [toT,AB]
  exact ⟨a,vs,e,k a (by simp),s,q,Ac.le l r⟩
 | .ins C fs os,_,L,k,h=>by
  simp only [AO] at h
  obtain ⟨a,dx,kvs,L',e,s,q,r,rfl⟩:=h
  simp only [toT,AB]
  exact ⟨a,dx,kvs,e,k a (by simp),s,q,BM.frz l (fun b hb=>k b (List.mem_cons_of_mem _ hb)) r⟩
theorem BM.frz (l:Le F H F' H):∀ {os:List FO} {vs:List V} {L:List Addr},(∀ a∈L,F' a)->BM K F H os vs L->Ac K F' H (toTs os) vs
 | [],_,L,k,h=>by
  simp only [BM] at h
  simp only [toTs,Ac]
  exact h.1
 | o :: os,_,L,k,h=>by
  simp only [BM] at h
  obtain ⟨v,r,L1,L2,e,h1,h2,rfl⟩:=h
  simp only [toTs,Ac]
  exact ⟨v,r,e,AO.frz l (fun a ha=>k a (List.mem_append_left _ ha)) h1,BM.frz l (fun a ha=>k a (List.mem_append_right _ ha)) h2⟩
end
theorem Ao.len:∀ {fs:FS} {σ:St} {L:List Addr},Ao K F H fs σ L->σ.length=fs.length
 | [],_,_,h=>by simp only [Ao] at h;rw [h.1];rfl
 | none :: r,_,_,h=>by
  simp only [Ao] at h
  obtain ⟨v,σ',rfl,h⟩:=h
  simp [Ao.len h]
 | some (.val t) :: r,_,_,h=>by
  simp only [Ao] at h
  obtain ⟨v,σ',rfl,_,h⟩:=h
  simp [Ao.len h]
 | some (.own t) :: r,_,_,h=>by
  simp only [Ao] at h
  obtain ⟨v,σ',L1,L2,rfl,_,h,_⟩:=h
  simp [Ao.len h]
 | some (.bor t) :: r,_,_,h=>by
  simp only [Ao] at h
  obtain ⟨v,σ',L1,L2,rfl,_,h,_⟩:=h
  simp [Ao.len h]
theorem Ao.le (l:Le F H F' H'):∀ {fs:FS} {σ:St} {L:List Addr},(∀ a∈L,H' a=H a)->Ao K F H fs σ L->Ao K F' H' fs σ L
 | [],_,_,k,h=>h
 | none :: r,_,_,k,h=>by
  simp only [Ao] at h ⊢
  obtain ⟨v,σ',e,h⟩:=h
  exact ⟨v,σ',e,Ao.le l k h⟩
 | some (.val t) :: r,_,_,k,h=>by
  simp only [Ao] at h ⊢
  obtain ⟨v,σ',e,q,h⟩:=h
  exact ⟨v,σ',e,q.le l,Ao.le l k h⟩
 | some (.own t) :: r,_,_,k,h=>by
  simp only [Ao] at h ⊢
  obtain ⟨v,σ',L1,L2,e,q,h,rfl⟩:=h
  exact ⟨v,σ',L1,L2,e,q.le l fun a ha=>k a (List.mem_append_left _ ha),Ao.le l (fun a ha=>k a (List.mem_append_right _ ha)) h,rfl⟩
 | some (.bor t) :: r,_,_,k,h=>by
  simp only [Ao] at h ⊢
  obtain ⟨v,σ',L1,L2,e,q,h,rfl⟩:=h
  exact ⟨v,σ',L1,L2,e,q.le l fun a ha=>k a (List.mem_append_left _ ha),Ao.le l (fun a ha=>k a (List.mem_append_right _ ha)) h,rfl⟩
theorem Ao.def:∀ {fs:FS} {σ:St} {L:List Addr},Ao K F H fs σ L->∀ a∈L,H a≠none
 | [],_,_,h,a,m=>by simp only [Ao] at h;rw [h.2] at m;cases m
 | none :: r,_,_,h,a,m=>by
  simp only [Ao] at h
  obtain ⟨v,σ',e,h⟩:=h
  exact Ao.def h a m
 | some (.val t) :: r,_,_,h,a,m=>by
  simp only [Ao] at h
  obtain ⟨v,σ',e,q,h⟩:=h
  exact Ao.def h a m
 | some (.own t) :: r,_,_,h,a,m=>by
  simp only [Ao] at h
  obtain ⟨v,σ',L1,L2,e,q,h,rfl⟩:=h
  rcases List.mem_append.mp m with m | m
  ·exact q.def a m
  ·exact Ao.def h a m
 | some (.bor t) :: r,_,_,h,a,m=>by
  simp only [Ao] at h
  obtain ⟨v,σ',L1,L2,e,q,h,rfl⟩:=h
  rcases List.mem_append.mp m with m | m
  ·exact q.def a m
  ·exact Ao.def h a m
def SlOk (K:PySem.W.Frag) (F:Wd) (H:Hp):Option Sl->Option V->List Addr->Prop
 | none,_,L=>L=[]
 | some (.val t),v,L=>∃ u,v=some u/\AB K F H t u/\L=[]
 | some (.own o),v,L=>∃ u,v=some u/\AO K F H o u L
 | some (.bor o),v,L=>∃ u,v=some u/\AO K F H o u L
theorem Ao.cons {s:Option Sl} {r:FS} {v:Option V} {σ:St} {L1 L2:List Addr} (h1:SlOk K F H s v L1) (h2:Ao K F H r σ L2):Ao K F H (s :: r) (v :: σ) (L1++L2):=by
 cases s with
 | none =>
  simp only [SlOk] at h1
  subst h1
  simp only [Ao]
  exact ⟨v,σ,rfl,h2⟩
 | some s =>
  cases s with
  | val t =>
   simp only [SlOk] at h1
   obtain ⟨u,rfl,q,rfl⟩:=h1
   simp only [Ao]
   exact ⟨u,σ,rfl,q,h2⟩
  | own o =>
   simp only [SlOk] at h1
   obtain ⟨u,rfl,q⟩:=h1
   simp only [Ao]
   exact ⟨u,σ,L1,L2,rfl,q,h2,rfl⟩
  | bor o =>
   simp only [SlOk] at h1
   obtain ⟨u,rfl,q⟩:=h1
   simp only [Ao]
   exact ⟨u,σ,L1,L2,rfl,q,h2,rfl⟩
theorem Ao.uncons {s:Option Sl} {r:FS} {σ:St} {L:List Addr} (h:Ao K F H (s :: r) σ L):∃ v σ' L1 L2,σ=v :: σ'/\SlOk K F H s v L1/\Ao K F H r σ' L2/\L=L1++L2:=by
 cases s with
 | none =>
  simp only [Ao] at h
  obtain ⟨v,σ',rfl,h⟩:=h
  exact ⟨v,σ',[],L,rfl,rfl,h,rfl⟩
 | some s =>
  cases s with
  | val t =>
   simp only [Ao] at h
   obtain ⟨v,σ',rfl,q,h⟩:=h
   exact ⟨some v,σ',[],L,rfl,⟨v,rfl,q,rfl⟩,h,rfl⟩
  | own o =>
   simp only [Ao] at h
   obtain ⟨v,σ',L1,L2,rfl,q,h,rfl⟩:=h
   exact ⟨some v,σ',L1,L2,rfl,⟨v,rfl,q⟩,h,rfl⟩
  | bor o =>
   simp only [Ao] at h
   obtain ⟨v,σ',L1,L2,rfl,q,h,rfl⟩:=h
   exact ⟨some v,σ',L1,L2,rfl,⟨v,rfl,q⟩,h,rfl⟩
theorem Ao.pick:∀ {fs:FS} {σ:St} {L:List Addr} {i:Nat} {s:Option Sl},Ao K F H fs σ L->fs[i]?=some s->∃ v L1 L2 L3,σ[i]?=some v/\L=L1++(L2++L3)/\SlOk K F H s v L2 /\
  ∀ (F':Wd) (H':Hp) (s':Option Sl) (v':Option V) (L2':List Addr),Le F H F' H'->(∀ a∈L1++L3,H' a=H a)->SlOk K F' H' s' v' L2'->Ao K F' H' (fs.set i s') (σ.set i v') (L1++(L2'++L3))
 | [],_,_,_,_,_,e=>by simp at e
 | s :: r,_,_,0,_,h,e=>by
  obtain ⟨v,σ',L1,L2,rfl,h1,h2,rfl⟩:=h.uncons
  simp at e
  subst e
  refine ⟨v,[],L1,L2,rfl,rfl,h1,fun F' H' s' v' L2' l k q=>?_⟩
  have h3:=Ao.cons q (h2.le l fun a ha=>k a (by simpa using ha))
  exact h3
 | s :: r,_,_,i+1,_,h,e=>by
  obtain ⟨v,σ',L1,L2,rfl,h1,h2,rfl⟩:=h.uncons
  obtain ⟨w,M1,M2,M3,e1,rfl,h3,h4⟩:=Ao.pick (i:=i) h2 (by simpa using e)
  refine ⟨w,L1++M1,M2,M3,by simpa using e1,by simp,h3,fun F' H' s' v' L2' l k q=>?_⟩
  have h5:=h4 F' H' s' v' L2' l (fun a ha=>k a (by simp at ha ⊢;rcases ha with ha | ha;exact .inr (.inl ha);exact .inr (.inr ha))) q
  have h6:SlOk K F' H' s v L1:=by
   cases s with
   | none=>exact h1
   | some s =>
    cases s with
    | val t =>
     obtain ⟨u,e,q,z⟩:=h1
     exact ⟨u,e,q.le l,z⟩
    | own o =>
     obtain ⟨u,e,q⟩:=h1
     exact ⟨u,e,q.le l fun a ha=>k a (by simp [ha])⟩
    | bor o =>
     obtain ⟨u,e,q⟩:=h1
     exact ⟨u,e,q.le l fun a ha=>k a (by simp [ha])⟩
  have h7:=Ao.cons h6 h5
  simpa using h7
mutual
theorem AB.wp {p:Addr->Prop}:∀ {t:T} {v:V},AB K F H t v->AB K ⟨F.f,p⟩ H t v
 | .non,_,h=>h
 | .bl _,_,h=>h
 | .int _,_,h=>h
 | .str _,_,h=>h
 | .tup ts,_,h=>by
  simp only [AB] at h ⊢
  obtain ⟨a,vs,e,s,r⟩:=h
  exact ⟨a,vs,e,s,Ac.wp r⟩
 | .lst ts,_,h=>by
  simp only [AB] at h ⊢
  obtain ⟨a,vs,e,f,s,r⟩:=h
  exact ⟨a,vs,e,f,s,Ac.wp r⟩
 | .scr ts,_,h=>by
  simp only [AB] at h ⊢
  obtain ⟨a,vs,e,s,r⟩:=h
  exact ⟨a,vs,e,s,Ac.wp r⟩
 | .dK ks ts,_,h=>by
  simp only [AB] at h ⊢
  obtain ⟨a,kvs,e,f,s,k,r⟩:=h
  exact ⟨a,kvs,e,f,s,k,Ac.wp r⟩
 | .dT ks ts,_,h=>by
  simp only [AB] at h ⊢
  obtain ⟨a,kvs,e,f,s,k,r⟩:=h
  exact ⟨a,kvs,e,f,s,k,Ac.wp r⟩
 | .ins C fs ts,_,h=>by
  simp only [AB] at h ⊢
  obtain ⟨a,dx,kvs,e,f,s,k,r⟩:=h
  exact ⟨a,dx,kvs,e,f,s,k,Ac.wp r⟩
 | .dF ks ts,_,h=>by
  simp only [AB] at h ⊢
  obtain ⟨a,kvs,e,f,s,k,r⟩:=h
  exact ⟨a,kvs,e,f,s,k,Ac.wp r⟩
theorem Ac.wp {p:Addr->Prop}:∀ {ts:List T} {vs:List V},Ac K F H ts vs->Ac K ⟨F.f,p⟩ H ts vs
 | [],_,h=>h
 | t :: ts,_,h=>by
  simp only [Ac] at h ⊢
  obtain ⟨v,r,e,h1,h2⟩:=h
  exact ⟨v,r,e,AB.wp h1,Ac.wp h2⟩
end
mutual
theorem AO.wp {p:Addr->Prop}:∀ {o:FO} {v:V} {L:List Addr},AO K F H o v L->AO K ⟨F.f,p⟩ H o v L
 | .val t,_,L,h=>by
  simp only [AO] at h ⊢
  exact ⟨h.1,h.2.wp⟩
 | .lst ts,_,L,h=>by
  simp only [AO] at h ⊢
  obtain ⟨a,vs,e,s,r,q⟩:=h
  exact ⟨a,vs,e,s,r.wp,q⟩
 | .dK ks ts,_,L,h=>by
  simp only [AO] at h ⊢
  obtain ⟨a,vs,e,s,q,r,z⟩:=h
  exact ⟨a,vs,e,s,q,r.wp,z⟩
 | .dT ks ts,_,L,h=>by
  simp only [AO] at h ⊢
  obtain ⟨a,vs,e,s,q,r,z⟩:=h
  exact ⟨a,vs,e,s,q,r.wp,z⟩
 | .ins C fs os,_,L,h=>by
  simp only [AO] at h ⊢
  obtain ⟨a,dx,kvs,L',e,s,q,r,z⟩:=h
  exact ⟨a,dx,kvs,L',e,s,q,BM.wp r,z⟩
theorem BM.wp {p:Addr->Prop}:∀ {os:List FO} {vs:List V} {L:List Addr},BM K F H os vs L->BM K ⟨F.f,p⟩ H os vs L
 | [],_,L,h=>h
 | o :: os,_,L,h=>by
  simp only [BM] at h ⊢
  obtain ⟨v,r,L1,L2,e,h1,h2,z⟩:=h
  exact ⟨v,r,L1,L2,e,AO.wp h1,BM.wp h2,z⟩
end
theorem Ao.wp {p:Addr->Prop}:∀ {fs:FS} {σ:St} {L:List Addr},Ao K F H fs σ L->Ao K ⟨F.f,p⟩ H fs σ L
 | [],_,_,h=>h
 | none :: r,_,_,h=>by
  simp only [Ao] at h ⊢
  obtain ⟨v,σ',e,h⟩:=h
  exact ⟨v,σ',e,Ao.wp h⟩
 | some (.val t) :: r,_,_,h=>by
  simp only [Ao] at h ⊢
  obtain ⟨v,σ',e,q,h⟩:=h
  exact ⟨v,σ',e,q.wp,Ao.wp h⟩
 | some (.own t) :: r,_,_,h=>by
  simp only [Ao] at h ⊢
  obtain ⟨v,σ',L1,L2,e,q,h,z⟩:=h
  exact ⟨v,σ',L1,L2,e,q.wp,Ao.wp h,z⟩
 | some (.bor t) :: r,_,_,h=>by
  simp only [Ao] at h ⊢
  obtain ⟨v,σ',L1,L2,e,q,h,z⟩:=h
  exact ⟨v,σ',L1,L2,e,q.wp,Ao.wp h,z⟩
theorem SlOk.le (l:Le F H F' H') {s:Option Sl} {v:Option V} {L:List Addr} (k:∀ a∈L,H' a=H a) (h:SlOk K F H s v L):SlOk K F' H' s v L:=by
 cases s with
 | none=>exact h
 | some s =>
  cases s with
  | val t =>
   obtain ⟨u,e,q,z⟩:=h
   exact ⟨u,e,q.le l,z⟩
  | own o =>
   obtain ⟨u,e,q⟩:=h
   exact ⟨u,e,q.le l k⟩
  | bor o =>
   obtain ⟨u,e,q⟩:=h
   exact ⟨u,e,q.le l k⟩
end
end FL
namespace FL
open PySem PySem.Spec L2
def E6 (B:Nat->Option V) (fs:FS) (σ:St):Prop:=∀ (i:Nat) (o:FO),fs[i]?=some (some (.bor o))->∃ v,σ[i]?=some (some v)/\B i=some v
structure Ok (K:PySem.W.Frag) (F:Wd) (B:Nat->Option V) (H:Hp) (fs:FS) (σ:St) (L:List Addr):Prop where
 sl:Ao K F H fs σ L
 nd:L.Nodup
 nf:∀ a∈L,¬ F a
 fd:∀ a,F a->H a≠none
 bo:E6 B fs σ
 pd:∀ a,F.p a->H a≠none
 pf:∀ a,F a->¬ F.p a
 pl:∀ a∈L,¬ F.p a
def Okk (K:PySem.W.Frag) (F:Wd) (B:Nat->Option V) (H:Hp) (fs:FS) (σ:St):Prop:=∃ L,Ok K F B H fs σ L
structure Xp where
 p:Wd->(Nat->Option V)->Hp->Str->FS->Prop
 mono:∀ {F:Wd} {B:Nat->Option V} {H:Hp} {c:Str} {fs:FS} {F':Wd} {H':Hp},p F B H c fs->Le F H F' H'->p F' B H' c fs
def Xp.no:Xp:=⟨fun _ _ _ _ _=>False,fun h _=>h⟩
def sat (Z:Xp) (B:Nat->Option V) {α β:Type} (R:Wd->Hp->FS->α->β->Prop) (F:Wd) (H:Hp) (o:Out α) (Q:β->Hp->Prop):Prop :=
 match o with
 | .ok a fs=>∀ F' H' b,Le F H F' H'->R F' H' fs a b->Q b H'
 | .exc c fs=>Z.p F B H c fs
 | .bad=>False
theorem sat.le {Z:Xp} {B:Nat->Option V} {α β:Type} {R:Wd->Hp->FS->α->β->Prop} {F F':Wd} {H H':Hp} {o:Out α} {Q:β->Hp->Prop} (h:sat Z B R F H o Q) (l:Le F H F' H'):sat Z B R F' H' o Q:=by
 cases o with
 | ok a fs=>exact fun F2 H2 b l2 r=>h F2 H2 b (l.trans l2) r
 | exc c fs=>exact Z.mono h l
 | bad=>exact h
def Out.bind {α β:Type} (o:Out α) (k:α->FS->Out β):Out β:=match o with
 | .ok a fs=>k a fs
 | .exc c fs=>.exc c fs
 | .bad=>.bad
theorem AD {Z:Xp} {B:Nat->Option V} {α β γ δ:Type} {R1:Wd->Hp->FS->α->β->Prop} {R2:Wd->Hp->FS->γ->δ->Prop} {F:Wd} {H:Hp} {o:Out α} {k:α->FS->Out γ} {Q:δ->Hp->Prop} {Q':β->Hp->Prop}
  (h:sat Z B R2 F H (o.bind k) Q) (hk:∀ a fs F' H' b,Le F H F' H'->R1 F' H' fs a b->sat Z B R2 F' H' (k a fs) Q->Q' b H'):sat Z B R1 F H o Q':=by
 cases o with
 | ok a fs=>exact fun F2 H2 b l r=>hk a fs F2 H2 b l r (sat.le h l)
 | exc c fs=>exact h
 | bad=>exact h
def RelR (K:PySem.W.Frag) (F:Wd) (H:Hp) (σ:St):Rv->V->List Addr->Prop
 | .t t,v,L=>L=[]/\AB K F H t v
 | .nw o,v,L=>AO K F H o v L
 | .rf i,v,L=>L=[]/\σ[i]?=some (some v)
def RR (K:PySem.W.Frag) (B:Nat->Option V) (σ:St):Wd->Hp->FS->Rv->V->Prop:=fun F H fs r u=>∃ L L',Ok K F B H fs σ L/\RelR K F H σ r u L'/\(L++L').Nodup/\∀ a∈L',¬ F a/\¬ F.p a
def BF (K:PySem.W.Frag) (F:Wd) (H:Hp) (σ:St):Rv->V->Prop
 | .t t,v=>AB K F H t v
 | .nw _,_=>False
 | .rf i,v=>σ[i]?=some (some v)
def Out.bnd {α:Type} (o:Out Rv) (k:Rv->FS->Out α):Out α:=o.bind fun r fs=>match r with
 | .nw _=>.bad
 | .t t=>k (.t t) fs
 | .rf i=>k (.rf i) fs
section
variable {K:PySem.W.Frag} {Z:Xp} {B:Nat->Option V} {F F':Wd} {H H':Hp} {σ:St} {fs:FS} {r:Rv} {u:V}
theorem BF.le (h:BF K F H σ r u) (l:Le F H F' H'):BF K F' H' σ r u:=by
 cases r with
 | t t=>exact AB.le l h
 | nw o=>exact h
 | rf i=>exact h
theorem RR.of (h:Okk K F B H fs σ) (q:BF K F H σ r u):RR K B σ F H fs r u:=by
 obtain ⟨L,h⟩:=h
 refine ⟨L,[],h,?_,by simpa using h.nd,(fun _ m=>nomatch m)⟩
 cases r with
 | t t=>exact ⟨rfl,q⟩
 | nw o=>exact q.elim
 | rf i=>exact ⟨rfl,q⟩
theorem RR.ok (h:RR K B σ F H fs r u):Okk K F B H fs σ:=let ⟨L,_,h,_⟩:=h;⟨L,h⟩
theorem AU {γ δ:Type} {R2:Wd->Hp->FS->γ->δ->Prop} {o:Out Rv} {k:Rv->FS->Out γ} {Q:δ->Hp->Prop} {Q':V->Hp->Prop}
  (h:sat Z B R2 F H (o.bnd k) Q) (hk:∀ r fs F' H' u,Le F H F' H'->Okk K F' B H' fs σ->BF K F' H' σ r u->sat Z B R2 F' H' (k r fs) Q->Q' u H'):sat Z B (RR K B σ) F H o Q':=by
 refine AD h fun r fs F' H' u l q s=>?_
 cases r with
 | t t =>
  obtain ⟨L,L',q1,q2,_⟩:=q
  exact hk (.t t) fs F' H' u l ⟨L,q1⟩ q2.2 s
 | nw o=>exact s.elim
 | rf i =>
  obtain ⟨L,L',q1,q2,_⟩:=q
  exact hk (.rf i) fs F' H' u l ⟨L,q1⟩ q2.2 s
end
def tF (K:PySem.W.Frag) (Z:Xp) (f:FS->Out Rv):TE:=fun σ H Q=>∃ F B fs,Okk K F B H fs σ/\sat Z B (RR K B σ) F H (f fs) Q
def RB (K:PySem.W.Frag) (B:Nat->Option V) (σ:St):Wd->Hp->FS->Bool->Bool->Prop:=fun F H fs b b'=>Okk K F B H fs σ/\b'=b
def tT (K:PySem.W.Frag) (Z:Xp) (f:FS->Out Bool):TT:=fun σ H Q=>∃ F B fs,Okk K F B H fs σ/\sat Z B (RB K B σ) F H (f fs) Q
def RelFs (K:PySem.W.Frag) (F:Wd) (H:Hp) (σ:St):List Rv->List V->Prop
 | [],vs=>vs=[]
 | r :: rs,vs=>∃ v w,vs=v :: w/\BF K F H σ r v/\RelFs K F H σ rs w
def RA (K:PySem.W.Frag) (B:Nat->Option V) (σ:St):Wd->Hp->FS->List Rv->List V->Prop:=fun F H fs rs vs=>Okk K F B H fs σ/\RelFs K F H σ rs vs
def tA (K:PySem.W.Frag) (Z:Xp) (f:FS->Out (List Rv)):TA:=fun σ H Q=>∃ F B fs,Okk K F B H fs σ/\sat Z B (RA K B σ) F H (f fs) Q
def FE (X:Cx) (Z:Xp) (e:Expr) (f:FS->Out Rv):Prop:=PE X e (tF X.K Z f)
def FT (X:Cx) (Z:Xp) (e:Expr) (f:FS->Out Bool):Prop:=PT X e (tT X.K Z f)
def FA (X:Cx) (Z:Xp) (es:List Expr) (f:FS->Out (List Rv)):Prop:=PA X es (tA X.K Z f)
theorem A3 {X:Cx} {e:Expr} {t t':TE} (h:PE X e t) (i:∀ σ H Q,t' σ H Q->t σ H Q):PE X e t':=fun pins s σ H Q I q=>h pins s σ H Q I (i _ _ _ q)
theorem pt_imp {X:Cx} {e:Expr} {t t':TT} (h:PT X e t) (i:∀ σ H Q,t' σ H Q->t σ H Q):PT X e t':=fun pins s σ H Q I q=>h pins s σ H Q I (i _ _ _ q)
theorem pa_imp {X:Cx} {e:List Expr} {t t':TA} (h:PA X e t) (i:∀ σ H Q,t' σ H Q->t σ H Q):PA X e t':=fun pos pins s σ H Q I q=>h pos pins s σ H Q I (i _ _ _ q)
theorem Dk {X:Cx} {e:Stmt} {t t':TS} (h:PS X e t) (i:∀ D σ H,t' D σ H->t D σ H):PS X e t':=fun pins s σ H D I q=>h pins s σ H D I (i _ _ _ q)
theorem pss_imp {X:Cx} {e:List Stmt} {t t':TS} (h:PSs X e t) (i:∀ D σ H,t' D σ H->t D σ H):PSs X e t':=fun pins s σ H D I q=>h pins s σ H D I (i _ _ _ q)
section
variable {K:PySem.W.Frag} {B:Nat->Option V} {F:Wd} {H:Hp} {σ:St} {fs:FS} {p:Addr} {o:HO}
def addF (F:Wd) (p:Addr):Wd:=⟨fun a=>F a∨a=p,F.p⟩
theorem Br (h:Okk K F B H fs σ) (hp:H p=none):Le F H (addF F p) (upd H p o) :=
 let ⟨_,h⟩:=h
 ⟨fun a f=>⟨.inl f,Ap fun e=>h.fd a f (e▸hp)⟩,fun a f=>⟨f,Ap fun e=>h.pd a f (e▸hp)⟩⟩
theorem AM (h:Okk K F B H fs σ) (hp:H p=none):Le F H F (upd H p o) :=
 let ⟨_,h⟩:=h
 ⟨fun a f=>⟨f,Ap fun e=>h.fd a f (e▸hp)⟩,fun a f=>⟨f,Ap fun e=>h.pd a f (e▸hp)⟩⟩
theorem CI {a:Addr} (h:H a≠none):upd H p o a≠none:=by
 by_cases e:a=p
 ·subst e
  rw [Av]
  simp
 ·rw [Ap e]
  exact h
theorem Ok.keepL {L:List Addr} (h:Ok K F B H fs σ L) (hp:H p=none):∀ a∈L,(upd H p o) a=H a:=fun a m=>Ap fun e=>h.sl.def a m (e▸hp)
theorem Okk.fd (h:Okk K F B H fs σ):∀ a,F a->H a≠none:=let ⟨_,h⟩:=h;h.fd
theorem Okk.alloc (h:Okk K F B H fs σ) (hp:H p=none):Okk K (addF F p) B (upd H p o) fs σ:=by
 obtain ⟨L,h⟩:=h
 refine ⟨L,h.sl.le (Br ⟨L,h⟩ hp) (h.keepL hp),h.nd,fun a m q=>?_,fun a q=>?_,h.bo,fun a q=>CI (h.pd a q),fun a q z=>?_,h.pl⟩
 rotate_left 2
 ·rcases q with q | q
  ·exact h.pf a q z
  ·exact h.pd a z (q▸hp)
 ·rcases q with q | q
  ·exact h.nf a m q
  ·exact h.sl.def a m (q▸hp)
 ·rcases q with q | q
  ·exact CI (h.fd a q)
  ·rw [q,Av]
   simp
theorem RR.alloc {ob:FO} (h:Okk K F B H fs σ) (hp:H p=none) (q:AO K F (upd H p o) ob (.ref p) [p]):RR K B σ F (upd H p o) fs (.nw ob) (.ref p):=by
 obtain ⟨L,h⟩:=h
 refine ⟨L,[p],⟨h.sl.le (AM ⟨L,h⟩ hp) (h.keepL hp),h.nd,h.nf,fun a q=>CI (h.fd a q),h.bo,fun a q=>CI (h.pd a q),h.pf,h.pl⟩,q,?_,fun a m=>?_⟩
 ·rw [List.nodup_append]
  exact ⟨h.nd,by simp,fun a ma b mb e=>h.sl.def a ma (by rw [e,List.mem_singleton.mp mb];exact hp)⟩
 ·rw [List.mem_singleton.mp m]
  exact ⟨fun f=>h.fd p f hp,fun f=>h.pd p f hp⟩
end
def Sl.put:Sl->FO->Sl
 | .own _,o=>.own o
 | .bor _,o=>.bor o
 | .val t,_=>.val t
def AE (fs:FS) (i:Nat):Option FO:=match fs[i]? with
 | some (some (.own o))=>some o
 | some (some (.bor o))=>some o
 | _=>none
def putAt (fs:FS) (i:Nat) (o:FO):FS:=match fs[i]? with
 | some (some s)=>fs.set i (some (s.put o))
 | _=>fs
section
variable {K:PySem.W.Frag} {B:Nat->Option V} {F F':Wd} {H H':Hp} {σ:St} {fs:FS} {i:Nat} {ob:FO}
theorem E6.put {s:Option Sl} {v:Option V} (h:E6 B fs σ) (hs:∀ o,s=some (.bor o)->∃ u,v=some u/\B i=some u) (hl:σ.length=fs.length):E6 B (fs.set i s) (σ.set i v):=by
 intro j o e
 by_cases hj:i=j
 ·subst hj
  have hi:i < fs.length:=by
   have:=(List.getElem?_eq_some_iff.mp e).1
   simpa using this
  rw [List.getElem?_set_self hi] at e
  obtain ⟨u,e1,e2⟩:=hs o (by simpa using e)
  exact ⟨u,by rw [List.getElem?_set_self (by omega),e1],e2⟩
 ·rw [List.getElem?_set_ne hj] at e
  obtain ⟨v,e1,e2⟩:=h j o e
  exact ⟨v,by rw [List.getElem?_set_ne hj];exact e1,e2⟩
theorem BD {α:Type} {l:List α} {i:Nat} {x:α} (h:l[i]?=some x):l.set i x=l:=by
 apply List.ext_getElem?
 intro j
 by_cases hj:i=j
 ·subst hj
  rw [List.getElem?_set_self (List.getElem?_eq_some_iff.mp h).1,h]
 ·rw [List.getElem?_set_ne hj]
theorem BU {L1 L2 L3 M:List Addr} (h:(L1++(L2++L3)).Nodup) (hm:M.Nodup) (d:∀ a∈M,a∉L1++L3):(L1++(M++L3)).Nodup:=by
 rw [List.nodup_append] at h ⊢
 obtain ⟨h1,h2,h3⟩:=h
 rw [List.nodup_append] at h2
 obtain ⟨h4,h5,h6⟩:=h2
 refine ⟨h1,?_,fun a ha b hb e=>?_⟩
 ·rw [List.nodup_append]
  exact ⟨hm,h5,fun a ha b hb e=>d a ha (by rw [e];exact List.mem_append_right _ hb)⟩
 ·rcases List.mem_append.mp hb with hb | hb
  ·exact d b hb (by rw [<- e];exact List.mem_append_left _ ha)
  ·exact h3 a ha b (List.mem_append_right _ hb) e
theorem Okk.own (h:Okk K F B H fs σ) (e:AE fs i=some ob):∃ v L2,σ[i]?=some (some v)/\AO K F H ob v L2/\(∀ a∈L2,¬ F a/\¬ F.p a)/\L2.Nodup /\
  ∀ ob' H',(∀ a,a∉L2->H a≠none->H' a=H a)->AO K F H' ob' v L2->Okk K F B H' (putAt fs i ob') σ/\Le F H F H':=by
 obtain ⟨L,h⟩:=h
 have key:∀ s:Sl,fs[i]?=some (some s)->(s=.own ob∨s=.bor ob)->∃ v L2,σ[i]?=some (some v)/\AO K F H ob v L2/\(∀ a∈L2,¬ F a/\¬ F.p a)/\L2.Nodup /\
  ∀ ob' H',(∀ a,a∉L2->H a≠none->H' a=H a)->AO K F H' ob' v L2->Okk K F B H' (fs.set i (some (s.put ob'))) σ/\Le F H F H':=by
  intro s es ho
  obtain ⟨v,L1,L2,L3,e1,rfl,h1,h2⟩:=h.sl.pick es
  obtain ⟨u,rfl,q⟩:∃ u,v=some u/\AO K F H ob u L2:=by
   rcases ho with rfl | rfl
   ·exact h1
   ·exact h1
  have nd:=h.nd
  have dis:∀ a∈L1++L3,a∉L2:=fun a ha hb=>by
   rw [List.nodup_append] at nd
   rcases List.mem_append.mp ha with ha | ha
   ·exact nd.2.2 a ha a (List.mem_append_left _ hb) rfl
   ·have:=(List.nodup_append.mp nd.2.1).2.2
    exact this a hb a ha rfl
  refine ⟨u,L2,e1,q,fun a m=>⟨h.nf a (by simp [m]),h.pl a (by simp [m])⟩,?_,fun ob' H' k q'=>?_⟩
  ·rw [List.nodup_append] at nd
   exact (List.nodup_append.mp nd.2.1).1
  ·have l:Le F H F H':=⟨fun a f=>⟨f,k a (fun m=>h.nf a (by simp [m]) f) (h.fd a f)⟩,fun a f=>⟨f,k a (fun m=>h.pl a (by simp [m]) f) (h.pd a f)⟩⟩
   refine ⟨⟨L1++(L2++L3),?_,nd,h.nf,fun a f=>by rw [(l.f a f).2];exact h.fd a f,?_,fun a f=>by rw [(l.p a f).2];exact h.pd a f,h.pf,h.pl⟩,l⟩
   ·have hL:∀ a∈L1++L3,H' a=H a:=fun a m=>k a (dis a m) (h.sl.def a (by
      rcases List.mem_append.mp m with m | m
      ·simp [m]
      ·simp [m]))
    have h3:=h2 F H' (some (s.put ob')) (some u) L2 l hL (by
     rcases ho with rfl | rfl
     ·exact ⟨u,rfl,q'⟩
     ·exact ⟨u,rfl,q'⟩)
    rwa [BD e1] at h3
   ·have:=E6.put (i:=i) (s:=some (s.put ob')) (v:=some u) h.bo (fun o eo=>by
     rcases ho with rfl | rfl
     ·cases eo
     ·obtain ⟨w,e3,e4⟩:=h.bo i ob es
      rw [e1] at e3
      have e5:u=w:=by simpa using e3
      exact ⟨u,rfl,by rw [e5];exact e4⟩) h.sl.len
    rwa [BD e1] at this
 unfold AE at e
 split at e
 ·rename_i o es
  cases e
  obtain ⟨v,L2,a1,a2,a3,a4,a5⟩:=key _ es (.inl rfl)
  refine ⟨v,L2,a1,a2,a3,a4,fun ob' H' k q=>?_⟩
  have:=a5 ob' H' k q
  unfold putAt
  rw [es]
  exact this
 ·rename_i o es
  cases e
  obtain ⟨v,L2,a1,a2,a3,a4,a5⟩:=key _ es (.inr rfl)
  refine ⟨v,L2,a1,a2,a3,a4,fun ob' H' k q=>?_⟩
  have:=a5 ob' H' k q
  unfold putAt
  rw [es]
  exact this
 ·cases e
end
def Aa (i:Nat):FS->Out Rv:=fun fs=>match fs[i]? with
 | some (some (.val t))=>.ok (.t t) fs
 | some (some (.own _))=>.ok (.rf i) fs
 | some (some (.bor _))=>.ok (.rf i) fs
 | _=>.bad
def gc (t:T):FS->Out Rv:=fun fs=>.ok (.t t) fs
section
variable {X:Cx} {Z:Xp} {e:Expr}
theorem Ar (i:Nat) {x:Str} {pos:Pos} (hN:X.N[i]?=some x:=by rfl) (hv:Vis X.env.scope x:=by first | exact Or.inl rfl | exact Or.inr (Or.inl rfl) | exact Or.inr (Or.inr rfl)) (hd:(x == ("__debug__":Str))=false:=by decide)
  (hcd:(x == ("__classdict__":Str))=false:=by decide):FE X Z (.Name x pos) (Aa i):=by
 refine A3 (pv i hN hv hd hcd) fun σ H Q h=>?_
 obtain ⟨F,B,fs,ok,s⟩:=h
 obtain ⟨L,o⟩:=id ok
 unfold Aa at s
 split at s
 ·rename_i t es
  obtain ⟨v,L1,L2,L3,e1,_,h1,_⟩:=o.sl.pick es
  obtain ⟨u,rfl,q,_⟩:=h1
  exact ⟨u,e1,s F H u Le.refl (RR.of ok q)⟩
 ·rename_i t es
  obtain ⟨v,L1,L2,L3,e1,_,h1,_⟩:=o.sl.pick es
  obtain ⟨u,rfl,q⟩:=h1
  exact ⟨u,e1,s F H u Le.refl (RR.of ok e1)⟩
 ·rename_i t es
  obtain ⟨v,L1,L2,L3,e1,_,h1,_⟩:=o.sl.pick es
  obtain ⟨u,rfl,q⟩:=h1
  exact ⟨u,e1,s F H u Le.refl (RR.of ok e1)⟩
 ·exact s.elim
theorem fe_c {v:V} (t:T) (h:PE X e (tC v)) (r:∀ K F H,AB K F H t v):FE X Z e (gc t) :=
 A3 h fun σ H Q ⟨F,B,fs,ok,s⟩=>s F H v Le.refl (RR.of ok (r _ _ _))
theorem Ag {i j pos}:FE X Z (.Constant (.int i) j pos) (gc (.int i)):=fe_c _ pe_int fun _ _ _=>rfl
theorem fe_bl {b j pos}:FE X Z (.Constant (.bool b) j pos) (gc (.bl b)):=fe_c _ pe_bl fun _ _ _=>rfl
theorem BZ {x j pos}:FE X Z (.Constant (.str x) j pos) (gc (.str x)):=fe_c _ pe_str fun _ _ _=>rfl
end
def fz (f:FS->Out Rv):FS->Out Rv:=fun fs=>(f fs).bind fun r fs=>match r with
 | .t t=>.ok (.t t) fs
 | .nw o=>.ok (.t (toT o)) fs
 | .rf i=>match fs[i]? with
  | some (some (.own o))=>.ok (.t (toT o)) (fs.set i (some (.val (toT o))))
  | _=>.bad
section
variable {X:Cx} {Z:Xp} {e:Expr} {f:FS->Out Rv}
def Gv (F:Wd) (L:List Addr):Wd:=⟨fun a=>F a∨a∈L,F.p⟩
theorem orF {F:Wd} {L:List Addr} {H:Hp}:Le F H (Gv F L) H:=⟨fun _ f=>⟨.inl f,rfl⟩,fun _ f=>⟨f,rfl⟩⟩
theorem Ax (h:FE X Z e f):FE X Z e (fz f):=by
 refine A3 h fun σ H Q ⟨F,B,fs,ok,s⟩=>⟨F,B,fs,ok,?_⟩
 refine AD s fun r fs F' H' u l q s=>?_
 cases r with
 | t t=>exact s F' H' u Le.refl q
 | nw o =>
  obtain ⟨L,L',o1,q,nd,nf⟩:=q
  refine s (Gv F' L') H' u orF (RR.of ⟨L,?_⟩ (AO.frz orF (fun a m=>.inr m) q))
  refine ⟨o1.sl.le orF fun _ _=>rfl,o1.nd,fun a m z=>?_,fun a z=>?_,o1.bo,o1.pd,fun a z=>?_,o1.pl⟩
  ·rcases z with z | z
   ·exact o1.nf a m z
   ·exact (List.nodup_append.mp nd).2.2 a m a z rfl
  ·rcases z with z | z
   ·exact o1.fd a z
   ·exact AO.def q a z
  ·rcases z with z | z
   ·exact o1.pf a z
   ·exact (nf a z).2
 | rf i =>
  dsimp only at s
  split at s
  ·rename_i o es
   obtain ⟨L,L',o1,⟨_,q⟩,nd,nf⟩:=q
   obtain ⟨v,L1,L2,L3,e1,rfl,h1,h2⟩:=o1.sl.pick es
   obtain ⟨w,rfl,q2⟩:=h1
   rw [e1] at q
   have eu:w=u:=by simpa using q
   subst eu
   have l2:Le F' H' (Gv F' L2) H':=orF
   have r2:AB X.K (Gv F' L2) H' (toT o) w:=AO.frz orF (fun a m=>.inr m) q2
   refine s (Gv F' L2) H' w l2 (RR.of ⟨L1++([]++L3),?_⟩ r2)
   have h3:=h2 (Gv F' L2) H' (some (.val (toT o))) (some w) [] l2 (fun _ _=>rfl) ⟨w,rfl,r2,rfl⟩
   rw [BD e1] at h3
   have nd1:=o1.nd
   refine ⟨h3,BU nd1 List.nodup_nil (fun _ m=>nomatch m),fun a m z=>?_,fun a z=>?_,?_,o1.pd,fun a z=>?_,fun a m=>o1.pl a ?_⟩
   ·have m':a∈L1∨a∈L3:=by simpa using m
    rcases z with z | z
    ·exact o1.nf a (by rcases m' with m | m <;> simp [m]) z
    ·rw [List.nodup_append] at nd1
     rcases m' with m | m
     ·exact nd1.2.2 a m a (List.mem_append_left _ z) rfl
     ·exact (List.nodup_append.mp nd1.2.1).2.2 a z a m rfl
   ·rcases z with z | z
    ·exact o1.fd a z
    ·exact AO.def q2 a z
   ·have:=E6.put (i:=i) (s:=some (.val (toT o))) (v:=some w) o1.bo (fun o eo=>by cases eo) o1.sl.len
    rwa [BD e1] at this
   ·rcases z with z | z
    ·exact o1.pf a z
    ·exact o1.pl a (by simp [z])
   ·have m':a∈L1∨a∈L3:=by simpa using m
    rcases m' with m | m <;> simp [m]
  ·exact s.elim
end
end FL
namespace FL
open PySem PySem.Spec L2
def big:Nat:=1000000
theorem CP:big<=sizeLine:=by rw [sizeLine_eq];decide
theorem big_lt:big < sizeLine:=by rw [sizeLine_eq];decide
def Cd (fs:FS):Rv->Option (List T)
 | .t (.lst ts)=>some ts
 | .t (.scr ts)=>some ts
 | .rf i=>match AE fs i with
  | some (.lst ts)=>some ts
  | _=>none
 | _=>none
def seqT:Rv->Option (List T)
 | .t (.tup ts)=>some ts
 | _=>none
section
variable {K:PySem.W.Frag} {B:Nat->Option V} {F F':Wd} {H H':Hp} {σ:St} {fs:FS} {x:Rv} {u:V} {ts:List T}
theorem Bk (h:Okk K F B H fs σ) (r:BF K F H σ x u) (e:Cd fs x=some ts):∃ a vs,u=.ref a/\SqL K H a vs/\Ac K F H ts vs:=by
 unfold Cd at e
 split at e
 ·cases e
  simp only [BF,AB] at r
  obtain ⟨a,vs,e,f,s,q⟩:=r
  exact ⟨a,vs,e,SqL.of s,q⟩
 ·cases e
  simp only [BF,AB] at r
  obtain ⟨a,vs,e,s,q⟩:=r
  exact ⟨a,vs,e,s.sq,q⟩
 ·rename_i i
  split at e
  ·rename_i ts' eo
   cases e
   obtain ⟨v,L2,e1,q,_⟩:=h.own eo
   have e2:σ[i]?=some (some u):=r
   rw [e1] at e2
   have e3:v=u:=by simpa using e2
   subst e3
   simp only [AO] at q
   obtain ⟨a,vs,e,s,q,_⟩:=q
   exact ⟨a,vs,e,SqL.of s,q⟩
  ·cases e
 ·cases e
theorem Bx (r:BF K F H σ x u) (e:seqT x=some ts):∃ a vs,u=.ref a/\SqT K H a vs/\Ac K F H ts vs:=by
 unfold seqT at e
 split at e
 ·cases e
  simp only [BF,AB] at r
  obtain ⟨a,vs,e,s,q⟩:=r
  exact ⟨a,vs,e,s.sq,q⟩
 ·cases e
theorem atI_rel {vs:List V} {i:Int} {t:T} (r:Ac K F H ts vs) (e:atI ts i=some t):∃ v,atI vs i=some v/\AB K F H t v:=by
 unfold atI at e ⊢
 rw [r.len]
 cases q:ixN ts.length i with
 | none=>rw [q] at e;cases e
 | some j =>
  rw [q] at e
  exact r.at e
theorem Ac.ints:∀ {ns:List Int} {vs:List V},Ac K F H (ns.map T.int) vs->vs=ns.map V.int
 | [],_,h=>by simpa [Ac] using h
 | n :: ns,_,h=>by
  simp only [List.map_cons,Ac,AB] at h
  obtain ⟨v,r,rfl,rfl,h⟩:=h
  rw [List.map_cons,Ac.ints h]
theorem Ac.strs:∀ {ns:List Str} {vs:List V},Ac K F H (ns.map T.str) vs->vs=ns.map V.str
 | [],_,h=>by simpa [Ac] using h
 | n :: ns,_,h=>by
  simp only [List.map_cons,Ac,AB] at h
  obtain ⟨v,r,rfl,rfl,h⟩:=h
  rw [List.map_cons,Ac.strs h]
end
def BL:List T->Option (List Int)
 | []=>some []
 | .int i :: r=>(BL r).map (i :: ·)
 | _=>none
def BP:List T->Option (List Str)
 | []=>some []
 | .str i :: r=>(BP r).map (i :: ·)
 | _=>none
theorem E5:∀ {ts:List T} {ns:List Int},BL ts=some ns->ts=ns.map T.int
 | [],_,e=>by cases e;rfl
 | .int i :: r,_,e=>by
  simp only [BL,Option.map_eq_some_iff] at e
  obtain ⟨ns,e,rfl⟩:=e
  rw [List.map_cons,<- E5 e]
 | .non :: r,_,e=>by simp [BL] at e
 | .bl _ :: r,_,e=>by simp [BL] at e
 | .str _ :: r,_,e=>by simp [BL] at e
 | .tup _ :: r,_,e=>by simp [BL] at e
 | .lst _ :: r,_,e=>by simp [BL] at e
 | .scr _ :: r,_,e=>by simp [BL] at e
 | .dK _ _ :: r,_,e=>by simp [BL] at e
 | .dT _ _ :: r,_,e=>by simp [BL] at e
 | .ins _ _ _ :: r,_,e=>by simp [BL] at e
 | .dF _ _ :: r,_,e=>by simp [BL] at e
theorem HB:∀ {ts:List T} {ns:List Str},BP ts=some ns->ts=ns.map T.str
 | [],_,e=>by cases e;rfl
 | .str i :: r,_,e=>by
  simp only [BP,Option.map_eq_some_iff] at e
  obtain ⟨ns,e,rfl⟩:=e
  rw [List.map_cons,<- HB e]
 | .non :: r,_,e=>by simp [BP] at e
 | .int _ :: r,_,e=>by simp [BP] at e
 | .bl _ :: r,_,e=>by simp [BP] at e
 | .tup _ :: r,_,e=>by simp [BP] at e
 | .lst _ :: r,_,e=>by simp [BP] at e
 | .scr _ :: r,_,e=>by simp [BP] at e
 | .dK _ _ :: r,_,e=>by simp [BP] at e
 | .dT _ _ :: r,_,e=>by simp [BP] at e
 | .ins _ _ _ :: r,_,e=>by simp [BP] at e
 | .dF _ _ :: r,_,e=>by simp [BP] at e
def Ae (g:Rv->Rv->FS->Out Rv) (fa fb:FS->Out Rv):FS->Out Rv:=fun fs=>(fa fs).bnd fun x fs=>(fb fs).bnd fun y fs=>g x y fs
def OpF (K:PySem.W.Frag) (Z:Xp) (r:R2) (g:Rv->Rv->FS->Out Rv):Prop:=∀ (F:Wd) (B:Nat->Option V) (H:Hp) (σ:St) (fs:FS) (x y:Rv) (u w:V) (Q:VK),Okk K F B H fs σ->BF K F H σ x u->BF K F H σ y w ->
 sat Z B (RR K B σ) F H (g x y fs) Q->r u w H Q
def asB (f:FS->Out Rv):FS->Out Bool:=fun fs=>(f fs).bind fun r fs=>match r with
 | .t (.bl b)=>.ok b fs
 | _=>.bad
section
variable {X:Cx} {K:PySem.W.Frag} {Z:Xp} {a b c:Expr} {fa fb fc f:FS->Out Rv} {r r':R2} {g g':Rv->Rv->FS->Out Rv} {pos:Pos} {σ:St} {H:Hp}
theorem Em {Q:VK} (hg:OpF K Z r g) (h:tF K Z (Ae g fa fb) σ H Q):tOp r (tF K Z fa) (tF K Z fb) σ H Q:=by
 obtain ⟨F,B,fs,ok,s⟩:=h
 exact ⟨F,B,fs,ok,AU s fun x fs1 F1 H1 u l ok1 rx s1=>⟨F1,B,fs1,ok1,AU s1 fun y fs2 F2 H2 w l2 ok2 ry s2=>hg F2 B H2 σ fs2 x y u w Q ok2 (rx.le l2) ry s2⟩⟩
theorem asB_tF {Q:Bool->Hp->Prop} (h:tT K Z (asB f) σ H Q):tF K Z f σ H fun x H'=>∃ k,x=.bl k/\Q k H':=by
 obtain ⟨F,B,fs,ok,s⟩:=h
 refine ⟨F,B,fs,ok,AD s fun r fs1 F1 H1 u l q s1=>?_⟩
 split at s1
 ·rename_i b
  obtain ⟨L,L',o1,⟨_,q⟩,_⟩:=q
  exact ⟨b,q,s1 F1 H1 b Le.refl ⟨⟨L,o1⟩,rfl⟩⟩
 ·exact s1.elim
theorem fe_op {op:Operator} (hg:OpF X.K Z r g) (ho:OpR X (binaryOp op) r) (ha:FE X Z a fa) (hb:FE X Z b fb):FE X Z (.BinOp a op b pos) (Ae g fa fb) :=
 A3 (pe_op ho ha hb) fun _ _ _ h=>Em hg h
theorem fe_cmp {op:CmpOp} (hg:OpF X.K Z r g) (ho:OpR X (compareOp op) r) (ha:FE X Z a fa) (hb:FE X Z b fb) (hm:behindInMarks op b=false):FE X Z (.Compare a [op] [b] pos) (Ae g fa fb) :=
 A3 (pe_cmpR ho ha hb hm) fun _ _ _ h=>Em hg h
theorem Hk {op:CmpOp} (hg:OpF X.K Z r g) (ho:OpR X (compareOp op) r) (ha:FE X Z a fa) (hb:FE X Z b fb) (hm:behindInMarks op b=false):FT X Z (.Compare a [op] [b] pos) (asB (Ae g fa fb)) :=
 pt_imp (pt_cmpR ho ha hb hm) fun _ _ _ h=>Em hg (asB_tF h)
theorem fe_ix (hg:OpF X.K Z r g) (hr:IxR X r) (ha:FE X Z a fa) (hb:FE X Z b fb) (hs:PlainIx b):FE X Z (.Subscript a b pos) (Ae g fa fb) :=
 A3 (pe_ix hr ha hb hs) fun _ _ _ h=>Em hg h
end
theorem mul_bits {a b:Int} (ha:Builtin.Int.intBits a<=2 ^ 26) (hb:Builtin.Int.intBits b<=2 ^ 26):IntMulOk a b:=by
 intro h
 rw [Bool.and_eq_true] at h
 have h2:=of_decide_eq_true (show decide _=true from h.2)
 have e:bitsLine=134217728:=rfl
 rw [e] at h2
 omega
def gI (g:Int->Int->FS->Out Rv):Rv->Rv->FS->Out Rv
 | .t (.int i),.t (.int j),fs=>g i j fs
 | _,_,_=>.bad
def okT (t:T) (fs:FS):Out Rv:=.ok (.t t) fs
def gAdd:=gI fun i j=>okT (.int (i+j))
def Gh:=gI fun i j=>okT (.int (i - j))
def gMul:=gI fun i j fs=>if (decide (-(2 ^ 64) < i/\i < 2 ^ 64) || decide (-(2 ^ 64) < j/\j < 2 ^ 64) || (decide (Builtin.Int.intBits i<=2 ^ 26) && decide (Builtin.Int.intBits j<=2 ^ 26)))=true then okT (.int (i * j)) fs else .bad
def Bo:=gI fun i j fs=>if 0 < j then okT (.int (i % j)) fs else .bad
def CH:=gI fun i j fs=>if 0 < j/\j < 1073741824 then okT (.int (i / j)) fs else .bad
def gLt:=gI fun i j=>okT (.bl (decide (i < j)))
def gGt:=gI fun i j=>okT (.bl (decide (j < i)))
section
variable {K:PySem.W.Frag} {Z:Xp}
theorem opf_I {g:Int->Int->FS->Out Rv} {C:Int->Int->Prop} {v:Int->Int->V} {t:Int->Int->T} (hv:∀ K F H i j,AB K F H (t i j) (v i j)) (hg:∀ i j fs,g i j fs=.bad∨(C i j/\g i j fs=okT (t i j) fs)):OpF K Z (rI C v) (gI g):=by
 intro F B H σ fs x y u w Q ok rx ry s
 unfold gI at s
 split at s
 ·rename_i i j
  simp only [BF,AB] at rx ry
  rcases hg i j fs with e | ⟨c,e⟩
  ·rw [e] at s
   exact s.elim
  ·rw [e] at s
   exact ⟨i,j,rx,ry,c,s F H _ Le.refl (RR.of ok (hv _ _ _ _ _))⟩
 ·exact s.elim
theorem opf_I0 {v:Int->Int->V} {t:Int->Int->T} (hv:∀ K F H i j,AB K F H (t i j) (v i j)):OpF K Z (rI0 v) (gI fun i j=>okT (t i j)):=by
 intro F B H σ fs x y u w Q ok rx ry s
 unfold gI at s
 split at s
 ·rename_i i j
  simp only [BF,AB] at rx ry
  exact ⟨i,j,rx,ry,s F H _ Le.refl (RR.of ok (hv _ _ _ _ _))⟩
 ·exact s.elim
theorem of_add:OpF K Z (rI0 fun i j=>.int (i+j)) gAdd:=opf_I0 fun _ _ _ _ _=>rfl
theorem of_sub:OpF K Z (rI0 fun i j=>.int (i - j)) Gh:=opf_I0 fun _ _ _ _ _=>rfl
theorem of_lt:OpF K Z (rI0 fun i j=>.bl (decide (i < j))) gLt:=opf_I0 fun _ _ _ _ _=>rfl
theorem of_gt:OpF K Z (rI0 fun i j=>.bl (decide (j < i))) gGt:=opf_I0 fun _ _ _ _ _=>rfl
theorem of_mod:OpF K Z (rI (fun _ j=>0 < j) fun i j=>.int (i % j)) Bo:=opf_I (t:=fun i j=>.int (i % j)) (fun _ _ _ _ _=>rfl) fun i j fs=>by
 by_cases h:0 < j
 ·exact .inr ⟨h,if_pos h⟩
 ·exact .inl (if_neg h)
theorem of_div:OpF K Z (rI CDiv fun i j=>.int (i / j)) CH:=opf_I (t:=fun i j=>.int (i / j)) (fun _ _ _ _ _=>rfl) fun i j fs=>by
 by_cases h:0 < j/\j < 1073741824
 ·exact .inr ⟨h,if_pos h⟩
 ·exact .inl (if_neg h)
theorem of_mul:OpF K Z (rI IntMulOk fun i j=>.int (i * j)) gMul:=opf_I (t:=fun i j=>.int (i * j)) (fun _ _ _ _ _=>rfl) fun i j fs=>by
 by_cases h:(decide (-(2 ^ 64) < i/\i < 2 ^ 64) || decide (-(2 ^ 64) < j/\j < 2 ^ 64) || (decide (Builtin.Int.intBits i<=2 ^ 26) && decide (Builtin.Int.intBits j<=2 ^ 26)))=true
 ·refine .inr ⟨?_,if_pos h⟩
  rw [Bool.or_eq_true,Bool.or_eq_true,Bool.and_eq_true] at h
  rcases h with (h | h) | ⟨h1,h2⟩
  ·exact CMul.ok (.inl (of_decide_eq_true h))
  ·exact CMul.ok (.inr (of_decide_eq_true h))
  ·exact mul_bits (of_decide_eq_true h1) (of_decide_eq_true h2)
 ·exact .inl (if_neg h)
end
def plV:T->Option V
 | .non=>some .non
 | .bl b=>some (.bl b)
 | .int i=>some (.int i)
 | .str x=>some (.str x)
 | _=>none
theorem Bz {K:PySem.W.Frag} {F:Wd} {H:Hp} {t:T} {u v:V} (e:plV t=some v) (r:AB K F H t u):u=v:=by
 cases t with
 | non=>cases e;exact r
 | bl b=>cases e;exact r
 | int i=>cases e;exact r
 | str x=>cases e;exact r
 | tup ts=>cases e
 | lst ts=>cases e
 | scr ts=>cases e
 | dK ks ts=>cases e
 | dT ks ts=>cases e
 | ins C fs ts=>cases e
 | dF ks ts=>cases e
def gEq (neg:Bool):Rv->Rv->FS->Out Rv
 | .t x,.t y,fs=>match plV x,plV y with
  | some u,some w=>if scal u w=true then okT (.bl (if neg then !decide (u=w) else decide (u=w))) fs else .bad
  | _,_=>.bad
 | _,_,_=>.bad
def plVs:List T->Option (List V)
 | []=>some []
 | t :: r=>(plV t).bind fun v=>(plVs r).map (v :: ·)
theorem FV {K:PySem.W.Frag} {F:Wd} {H:Hp}:∀ {ts:List T} {us vs:List V},plVs ts=some vs->Ac K F H ts us->us=vs/\vs.all DL=true
 | [],_,_,e,r=>by
  cases e
  simp only [Ac] at r
  exact ⟨r,rfl⟩
 | t :: ts,_,_,e,r=>by
  simp only [Ac] at r
  obtain ⟨v,w,rfl,r1,r2⟩:=r
  simp only [plVs,Option.bind_eq_some_iff,Option.map_eq_some_iff] at e
  obtain ⟨v',e1,ws,e2,rfl⟩:=e
  obtain ⟨rfl,h⟩:=FV e2 r2
  have:=Bz e1 r1
  subst this
  refine ⟨rfl,?_⟩
  rw [List.all_cons,h,Bool.and_true]
  cases t <;> first | (cases e1;rfl) | cases e1
theorem Cf {t:T} {v:V} (e:plV t=some v):DL v=true:=by
 cases t <;> first | (cases e;rfl) | cases e
def gIn (neg:Bool):Rv->Rv->FS->Out Rv
 | .t x,y,fs=>match plV x with
  | some v=>match (match Cd fs y with
    | some ts=>plVs ts
    | none=>(seqT y).bind plVs) with
   | some vs=>okT (.bl (if neg then !inV v vs else inV v vs)) fs
   | none=>.bad
  | none=>.bad
 | _,_,_=>.bad
def gInStr (neg:Bool):Rv->Rv->FS->Out Rv
 | .t (.str i),.t (.str j),fs=>okT (.bl (if neg then !(!(Builtin.Str.occurrences j i 0 j.length 1).isEmpty) else !(Builtin.Str.occurrences j i 0 j.length 1).isEmpty)) fs
 | _,_,_=>.bad
section
variable {K:PySem.W.Frag} {Z:Xp}
theorem of_eq:OpF K Z rEq (gEq false):=by
 intro F B H σ fs x y u w Q ok rx ry s
 unfold gEq at s
 split at s
 ·split at s
  ·rename_i e1 e2
   split at s
   ·rename_i hs
    have h1:=Bz e1 rx
    have h2:=Bz e2 ry
    subst h1 h2
    exact ⟨hs,s F H _ Le.refl (RR.of ok rfl)⟩
   ·exact s.elim
  ·exact s.elim
 ·exact s.elim
theorem of_ne:OpF K Z rNe (gEq true):=by
 intro F B H σ fs x y u w Q ok rx ry s
 unfold gEq at s
 split at s
 ·split at s
  ·rename_i e1 e2
   split at s
   ·rename_i hs
    have h1:=Bz e1 rx
    have h2:=Bz e2 ry
    subst h1 h2
    exact ⟨hs,s F H _ Le.refl (RR.of ok rfl)⟩
   ·exact s.elim
  ·exact s.elim
 ·exact s.elim
theorem of_in (neg:Bool):OpF K Z (rIn K neg) (gIn neg):=by
 intro F B H σ fs x y u w Q ok rx ry s
 unfold gIn at s
 split at s
 ·split at s
  ·rename_i v e1
   split at s
   ·rename_i vs e2
    have h1:=Bz e1 rx
    subst h1
    split at e2
    ·rename_i ts e3
     obtain ⟨a,us,rfl,hs,q⟩:=Bk ok ry e3
     obtain ⟨rfl,hf⟩:=FV e2 q
     exact ⟨a,us,rfl,.inl hs,Cf e1,hf,s F H _ Le.refl (RR.of ok rfl)⟩
    ·rw [Option.bind_eq_some_iff] at e2
     obtain ⟨ts,e3,e2⟩:=e2
     obtain ⟨a,us,rfl,hs,q⟩:=Bx ry e3
     obtain ⟨rfl,hf⟩:=FV e2 q
     exact ⟨a,us,rfl,.inr hs,Cf e1,hf,s F H _ Le.refl (RR.of ok rfl)⟩
   ·exact s.elim
  ·exact s.elim
 ·exact s.elim
theorem HP:OpF K Z (fun x y H Q=>∃ i j,x=.str i/\y=.str j/\Q (.bl (!(!(Builtin.Str.occurrences j i 0 j.length 1).isEmpty))) H) (gInStr true):=by
 intro F B H σ fs x y u w Q ok rx ry s
 unfold gInStr at s
 split at s
 ·rename_i i j
  exact ⟨i,j,rx,ry,s F H _ Le.refl (RR.of ok rfl)⟩
 ·exact s.elim
end
def gIx:Rv->Rv->FS->Out Rv
 | x,.t (.int i),fs=>match Cd fs x with
  | some ts=>match atI ts i with
   | some t=>okT t fs
   | none=>.bad
  | none=>match x with
   | .t (.tup ts)=>match atI ts i with
    | some t=>okT t fs
    | none=>.bad
   | .t (.str z)=>if z.length<=big then match atI z.cps.toList i with
     | some c=>okT (.str ⟨#[c]⟩) fs
     | none=>.bad
    else .bad
   | _=>.bad
 | _,_,_=>.bad
section
variable {K:PySem.W.Frag} {Z:Xp}
theorem of_ix:OpF K Z (rIx K) gIx:=by
 intro F B H σ fs x y u w Q ok rx ry s
 unfold gIx at s
 split at s
 ·rename_i i
  split at s
  ·rename_i ts e
   split at s
   ·rename_i t et
    obtain ⟨a,vs,rfl,hs,q⟩:=Bk ok rx e
    obtain ⟨v,ev,rv⟩:=atI_rel q et
    exact .inl ⟨a,vs,i,v,rfl,ry,hs,ev,s F H v Le.refl (RR.of ok rv)⟩
   ·exact s.elim
  ·split at s
   ·rename_i ts _
    split at s
    ·rename_i t et
     obtain ⟨a,vs,rfl,hs,q⟩:=Bx (ts:=ts) rx rfl
     obtain ⟨v,ev,rv⟩:=atI_rel q et
     exact .inr (.inl ⟨a,vs,i,v,rfl,ry,hs,ev,s F H v Le.refl (RR.of ok rv)⟩)
    ·exact s.elim
   ·rename_i z _
    split at s
    ·rename_i hz
     split at s
     ·rename_i c ec
      exact .inr (.inr ⟨z,i,c,rx,ry,Nat.le_trans hz CP,ec,s F H _ Le.refl (RR.of ok rfl)⟩)
     ·exact s.elim
    ·exact s.elim
   ·exact s.elim
 ·exact s.elim
end
def gAddS:Rv->Rv->FS->Out Rv
 | .t (.str i),.t (.str j),fs=>if i.length+j.length<=big then okT (.str (i++j)) fs else .bad
 | _,_,_=>.bad
def gMulS:Rv->Rv->FS->Out Rv
 | .t (.str z),.t (.int n),fs=>if z.length=1/\1<=n/\n<=1000 then okT (.str (Txt.mul z n)) fs else .bad
 | _,_,_=>.bad
theorem mul_ok1 {z:Str} {n:Int} (hz:z.length=1) (h0:1<=n) (h1:n<=1000):MulOk z n:=by
 refine ⟨?_,fun _ _=>?_,fun _ _=>?_⟩
 ·rw [Bool.or_eq_false_iff]
  exact ⟨decide_eq_false (by omega),decide_eq_false (by omega)⟩
 ·have h:(n:Int)<=2 ^ 63 - 1:=by omega
  have h2:1<=((2:Int) ^ 63 - 1) / n:=(Int.le_ediv_iff_mul_le (by omega)).mpr (by omega)
  rw [hz]
  show ¬ ((1:Nat):Int) > _
  omega
 ·unfold Builtin.Str.tooLong
  have:n.toNat<=1000:=by omega
  refine decide_eq_false ?_
  rw [hz]
  have h3:(1000:Nat)<=sizeLine:=by rw [sizeLine_eq];decide
  omega
section
variable {K:PySem.W.Frag} {Z:Xp}
theorem of_addS:OpF K Z (fun x y H Q=>∃ i j,x=.str i/\y=.str j/\i.length+j.length<=sizeLine/\Q (.str (i++j)) H) gAddS:=by
 intro F B H σ fs x y u w Q ok rx ry s
 unfold gAddS at s
 split at s
 ·rename_i i j
  split at s
  ·rename_i h
   exact ⟨i,j,rx,ry,Nat.le_trans h CP,s F H _ Le.refl (RR.of ok rfl)⟩
  ·exact s.elim
 ·exact s.elim
theorem of_mulS:OpF K Z (fun x y H Q=>∃ z n,x=.str z/\y=.int n/\MulOk z n/\Q (.str (Txt.mul z n)) H) gMulS:=by
 intro F B H σ fs x y u w Q ok rx ry s
 unfold gMulS at s
 split at s
 ·rename_i i j
  split at s
  ·rename_i h
   exact ⟨i,j,rx,ry,mul_ok1 h.1 h.2.1 h.2.2,s F H _ Le.refl (RR.of ok rfl)⟩
  ·exact s.elim
 ·exact s.elim
end
end FL
namespace FL
open PySem PySem.Spec L2
def truR (fs:FS):Rv->Option Bool
 | .t .non=>some false
 | .t (.bl b)=>some b
 | .t (.int i)=>some (i != 0)
 | .t (.str x)=>if x.length<=big then some ((x.length:Int) != 0) else none
 | .t (.lst ts)=>some !ts.isEmpty
 | .t (.tup ts)=>some !ts.isEmpty
 | .rf i=>match AE fs i with
  | some (.lst ts)=>some !ts.isEmpty
  | some (.dK ks _)=>some !ks.isEmpty
  | _=>none
 | _=>none
def DB (f:FS->Out Rv):FS->Out Bool:=fun fs=>(f fs).bnd fun r fs=>match truR fs r with
 | some b=>.ok b fs
 | none=>.bad
def EB (f:FS->Out Bool):FS->Out Bool:=fun fs=>(f fs).bind fun b fs=>.ok (!b) fs
def andT (f g:FS->Out Bool):FS->Out Bool:=fun fs=>(f fs).bind fun b fs=>if b=true then g fs else .ok false fs
def orT (f g:FS->Out Bool):FS->Out Bool:=fun fs=>(f fs).bind fun b fs=>if b=true then .ok true fs else g fs
def ifV (c:FS->Out Bool) (f g:FS->Out Rv):FS->Out Rv:=fun fs=>(c fs).bind fun b fs=>if b=true then f fs else g fs
theorem Cv {α β:Type} {xs:List α} {ys:List β} (h:ys.length=xs.length):(!ys.isEmpty)=!xs.isEmpty:=by
 cases xs <;> cases ys <;> simp_all
section
variable {K:PySem.W.Frag} {B:Nat->Option V} {F:Wd} {H:Hp} {σ:St} {fs:FS} {x:Rv} {u:V}
theorem truR_ok {b:Bool} (h:Okk K F B H fs σ) (r:BF K F H σ x u) (e:truR fs x=some b):TruV K u H b:=by
 unfold truR at e
 split at e
 ·cases e;cases r;rfl
 ·cases e;cases r;rfl
 ·cases e;cases r;rfl
 ·split at e
  ·rename_i hz
   cases e;cases r
   exact ⟨Nat.le_trans hz CP,rfl⟩
  ·cases e
 ·cases e
  obtain ⟨a,vs,rfl,hs,q⟩:=Bk h r rfl
  exact .inl ⟨vs,hs,(Cv q.len).symm⟩
 ·cases e
  obtain ⟨a,vs,rfl,hs,q⟩:=Bx r rfl
  exact .inr (.inl ⟨vs,hs,(Cv q.len).symm⟩)
 ·rename_i i
  split at e
  ·rename_i ts eo
   cases e
   obtain ⟨a,vs,rfl,hs,q⟩:=Bk (ts:=ts) h r (by simp [Cd,eo])
   exact .inl ⟨vs,hs,(Cv q.len).symm⟩
  ·rename_i ks ts eo
   cases e
   obtain ⟨v,L2,e1,q,_⟩:=h.own eo
   have e2:σ[i]?=some (some u):=r
   rw [e1] at e2
   have e3:v=u:=by simpa using e2
   subst e3
   simp only [AO] at q
   obtain ⟨a,kvs,rfl,hd,rfl,_⟩:=q
   exact .inr (.inr ⟨kvs,hd,(Cv (by simp))⟩)
  ·cases e
 ·cases e
end
section
variable {X:Cx} {Z:Xp} {a b c:Expr} {fa fb:FS->Out Rv} {ga gb:FS->Out Bool} {pos:Pos} {rest:List Expr}
theorem Cw (ha:FE X Z a fa) (he:∀ whole,isTrue a X.env whole=(do let v <- whole;standAt a.pos;holding [v] (truthy v))):FT X Z a (DB fa):=by
 refine pt_imp (pt_truth ha he) fun σ H Q ⟨F,B,fs,ok,s⟩=>⟨F,B,fs,ok,AU s fun r fs1 F1 H1 u l ok1 rx s1=>?_⟩
 split at s1
 ·rename_i b e
  exact ⟨b,truR_ok ok1 rx e,s1 F1 H1 b Le.refl ⟨ok1,rfl⟩⟩
 ·exact s1.elim
theorem Fx (ha:FT X Z a ga):FT X Z (.UnaryOp .Not a pos) (EB ga):=by
 refine pt_imp (pt_not ha) fun σ H Q ⟨F,B,fs,ok,s⟩=>⟨F,B,fs,ok,AD s fun b fs1 F1 H1 b' l q s1=>?_⟩
 obtain ⟨ok1,rfl⟩:=q
 exact s1 F1 H1 _ Le.refl ⟨ok1,rfl⟩
def FW (X:Cx) (Z:Xp) (e:Expr) (f:FS->Out Bool):Prop:=PW X e (tT X.K Z f)
theorem FW.ft (h:FW X Z a ga):FT X Z a ga:=PW.pt h
theorem pw_imp {e:Expr} {t t':TT} (h:PW X e t) (i:∀ σ H Q,t' σ H Q->t σ H Q):PW X e t':=fun whole pins s σ H Q I q=>h whole pins s σ H Q I (i _ _ _ q)
theorem fw_and1 (ha:FT X Z a ga):FW X Z (.BoolOp .And [a] pos) ga:=pw_and1 ha
theorem Fw (ha:FT X Z a ga):FW X Z (.BoolOp .Or [a] pos) ga:=pw_or1 ha
theorem fw_and (ha:FT X Z a ga) (hb:FW X Z (.BoolOp .And (b :: rest) pos) gb):FW X Z (.BoolOp .And (a :: b :: rest) pos) (andT ga gb):=by
 refine pw_imp (pw_and ha hb) fun σ H Q ⟨F,B,fs,ok,s⟩=>⟨F,B,fs,ok,AD s fun b fs1 F1 H1 b' l q s1=>?_⟩
 obtain ⟨ok1,rfl⟩:=q
 cases b' with
 | true =>
  rw [if_pos rfl] at s1 ⊢
  exact ⟨F1,B,fs1,ok1,s1⟩
 | false =>
  rw [if_neg (by decide)] at s1 ⊢
  exact s1 F1 H1 _ Le.refl ⟨ok1,rfl⟩
theorem Hj (ha:FT X Z a ga) (hb:FW X Z (.BoolOp .Or (b :: rest) pos) gb):FW X Z (.BoolOp .Or (a :: b :: rest) pos) (orT ga gb):=by
 refine pw_imp (pw_or ha hb) fun σ H Q ⟨F,B,fs,ok,s⟩=>⟨F,B,fs,ok,AD s fun b fs1 F1 H1 b' l q s1=>?_⟩
 obtain ⟨ok1,rfl⟩:=q
 cases b' with
 | true =>
  rw [if_pos rfl] at s1 ⊢
  exact s1 F1 H1 _ Le.refl ⟨ok1,rfl⟩
 | false =>
  rw [if_neg (by decide)] at s1 ⊢
  exact ⟨F1,B,fs1,ok1,s1⟩
theorem fe_if (hc:FT X Z c ga) (ha:FE X Z a fa) (hb:FE X Z b fb):FE X Z (.IfExp c a b pos) (ifV ga fa fb):=by
 refine A3 (pe_ifExp hc ha hb) fun σ H Q ⟨F,B,fs,ok,s⟩=>⟨F,B,fs,ok,AD s fun b fs1 F1 H1 b' l q s1=>?_⟩
 obtain ⟨ok1,rfl⟩:=q
 cases b' with
 | true =>
  rw [if_pos rfl] at s1 ⊢
  exact ⟨F1,B,fs1,ok1,s1⟩
 | false =>
  rw [if_neg (by decide)] at s1 ⊢
  exact ⟨F1,B,fs1,ok1,s1⟩
end
section
variable {X:Cx} {Z:Xp} {a b c:Expr} {fa fb fc:FS->Out Rv} {r r':R2} {g g':Rv->Rv->FS->Out Rv} {pos:Pos}
end
def Al:FS->Out (List Rv):=fun fs=>.ok [] fs
def Ad (f:FS->Out Rv) (g:FS->Out (List Rv)):FS->Out (List Rv):=fun fs=>(f fs).bnd fun r fs=>(g fs).bind fun rs fs=>.ok (r :: rs) fs
def allT:List Rv->Option (List T)
 | []=>some []
 | .t t :: r=>(allT r).map (t :: ·)
 | _=>none
theorem Er {K:PySem.W.Frag} {F:Wd} {H:Hp} {σ:St}:∀ {rs:List Rv} {vs:List V} {ts:List T},RelFs K F H σ rs vs->allT rs=some ts->Ac K F H ts vs
 | [],_,_,h,e=>by cases e;exact h
 | .t t :: r,_,_,h,e=>by
  simp only [allT,Option.map_eq_some_iff] at e
  obtain ⟨ts,e,rfl⟩:=e
  obtain ⟨v,w,rfl,h1,h2⟩:=h
  simp only [Ac]
  exact ⟨v,w,rfl,h1,Er h2 e⟩
 | .nw _ :: r,_,_,h,e=>by simp [allT] at e
 | .rf _ :: r,_,_,h,e=>by simp [allT] at e
def AJ (g:List T->FS->Out Rv) (f:FS->Out (List Rv)):FS->Out Rv:=fun fs=>(f fs).bind fun rs fs=>match allT rs with
 | some ts=>if ts.length<=big then g ts fs else .bad
 | none=>.bad
def BI (ts:List T) (fs:FS):Out Rv:=.ok (.t (.tup ts)) fs
def Cb (ts:List T) (fs:FS):Out Rv:=.ok (.t (.lst ts)) fs
def Dp (ts:List T) (fs:FS):Out Rv:=.ok (.nw (.lst ts)) fs
section
variable {X:Cx} {Z:Xp} {e:Expr} {es:List Expr} {f:FS->Out Rv} {g:FS->Out (List Rv)} {pos:Pos}
theorem Au:FA X Z [] Al:=pa_imp pa_nil fun σ H Q ⟨F,B,fs,ok,s⟩=>s F H [] Le.refl ⟨ok,rfl⟩
theorem Ah (ha:FE X Z e f) (hr:FA X Z es g) (hs:starEach (e :: es) X.env=(false,eval e X.env) :: starEach es X.env:=by rfl):FA X Z (e :: es) (Ad f g):=by
 refine pa_imp (DG ha hr hs) fun σ H Q ⟨F,B,fs,ok,s⟩=>⟨F,B,fs,ok,AU s fun r fs1 F1 H1 u l ok1 rx s1=>⟨F1,B,fs1,ok1,AD s1 fun rs fs2 F2 H2 us l2 q s2=>?_⟩⟩
 exact s2 F2 H2 (u :: us) Le.refl ⟨q.1,u,us,rfl,rx.le l2,q.2⟩
theorem D1 {x1} (h:FA X Z es g):FE X Z (.Tuple es x1 pos) (AJ BI g):=by
 refine A3 (pe_tup h) fun σ H Q ⟨F,B,fs,ok,s⟩=>⟨F,B,fs,ok,AD s fun rs fs1 F1 H1 us l q s1=>?_⟩
 obtain ⟨ok1,q⟩:=q
 split at s1
 ·rename_i ts e
  have r:=Er q e
  split at s1
  ·rename_i hl
   refine ⟨by rw [r.len];exact Nat.le_trans hl CP,fun p hp=>s1 (addF F1 p) (upd H1 p (.tup us)) (.ref p) (Br ok1 hp) (RR.of (ok1.alloc hp) ?_)⟩
   simp only [BF,AB]
   exact ⟨p,us,rfl,⟨rfl,.inr rfl,Av⟩,r.le (Br ok1 hp)⟩
  ·exact s1.elim
 ·exact s1.elim
theorem ER (h:FA X Z es g):FE X Z (.List es pos) (AJ Cb g):=by
 refine A3 (pe_lst h) fun σ H Q ⟨F,B,fs,ok,s⟩=>⟨F,B,fs,ok,AD s fun rs fs1 F1 H1 us l q s1=>?_⟩
 obtain ⟨ok1,q⟩:=q
 split at s1
 ·rename_i ts e
  have r:=Er q e
  split at s1
  ·rename_i hl
   refine ⟨by rw [r.len];exact Nat.le_trans hl CP,fun p hp=>s1 (addF F1 p) (upd H1 p (.lst us)) (.ref p) (Br ok1 hp) (RR.of (ok1.alloc hp) ?_)⟩
   simp only [BF,AB]
   exact ⟨p,us,rfl,.inr rfl,Av,r.le (Br ok1 hp)⟩
  ·exact s1.elim
 ·exact s1.elim
theorem Ce {K:PySem.W.Frag} {F:Wd} {H:Hp} {p:Addr} {ts:List T} {us:List V} (h:H p=some (.lst us)) (r:Ac K F H ts us):AO K F H (.lst ts) (.ref p) [p]:=by
 simp only [AO]
 exact ⟨p,us,rfl,h,r,rfl⟩
theorem EO (h:FA X Z es g):FE X Z (.List es pos) (AJ Dp g):=by
 refine A3 (pe_lst h) fun σ H Q ⟨F,B,fs,ok,s⟩=>⟨F,B,fs,ok,AD s fun rs fs1 F1 H1 us l q s1=>?_⟩
 obtain ⟨ok1,q⟩:=q
 split at s1
 ·rename_i ts e
  have r:=Er q e
  split at s1
  ·rename_i hl
   exact ⟨by rw [r.len];exact Nat.le_trans hl CP,fun p hp=>s1 F1 (upd H1 p (.lst us)) (.ref p) (AM ok1 hp) (RR.alloc ok1 hp (Ce Av (r.le (AM ok1 hp))))⟩
  ·exact s1.elim
 ·exact s1.elim
def Fe:FS->Out Rv:=fun fs=>.ok (.nw (.dK [] [])) fs
theorem Ei:FE X Z (.Dict [] [] pos) Fe:=by
 refine A3 pe_dnewK fun σ H Q ⟨F,B,fs,ok,s⟩ p hp=>s F (upd H p (.dK [])) (.ref p) (AM ok hp) (RR.alloc ok hp ?_)
 simp only [AO,Ac]
 exact ⟨p,[],rfl,Av,rfl,rfl,rfl⟩
end
def CT (K:PySem.W.Frag) (Z:Xp) (r:List V->Hp->VK->Prop) (g:List Rv->FS->Out Rv):Prop:=∀ (F:Wd) (B:Nat->Option V) (H:Hp) (σ:St) (fs:FS) (rs:List Rv) (vs:List V) (Q:VK),Okk K F B H fs σ->RelFs K F H σ rs vs ->
 sat Z B (RR K B σ) F H (g rs fs) Q->r vs H Q
def Ak (g:List Rv->FS->Out Rv) (f:FS->Out (List Rv)):FS->Out Rv:=fun fs=>(f fs).bind fun rs fs=>g rs fs
section
variable {X:Cx} {Z:Xp} {e:Expr} {es:List Expr} {fa:FS->Out (List Rv)} {g:List Rv->FS->Out Rv} {r:List V->Hp->VK->Prop} {pos p:Pos} {x:Str} {id Ty:String}
theorem Ej (hg':CT X.K Z r g) (hc:Cs X (.builtin id) r) (hm:X.mg x=none) (hv:bootBuiltins x=some (.builtin id)) (ha:FA X Z (e :: es) fa) (hg:Gl X x:=by rfl) (hn:x≠"__name__":=by decide) (hdb:(x == ("__debug__":Str))=false:=by decide)
  (he:starEach (e :: es) X.env=(false,eval e X.env) :: starEach es X.env:=by rfl) (hpl:(backTo pos (starEach es X.env)).any (·.1)=false:=by rfl):FE X Z (.Call (.Name x p) (e :: es) [] pos) (Ak g fa) :=
 A3 (FY hc hg hm hv ha hn hdb he hpl) fun σ H Q ⟨F,B,fs,ok,s⟩=>⟨F,B,fs,ok,AD s fun rs fs1 F1 H1 us l q s1=>hg' F1 B H1 σ fs1 rs us Q q.1 q.2 s1⟩
theorem ET (hg':CT X.K Z r g) (hc:Cs X (.type Ty) r) (hm:X.mg x=none) (hv:bootBuiltins x=some (.type Ty)) (ha:FA X Z (e :: es) fa) (hg:Gl X x:=by rfl) (hn:x≠"__name__":=by decide) (hdb:(x == ("__debug__":Str))=false:=by decide)
  (he:starEach (e :: es) X.env=(false,eval e X.env) :: starEach es X.env:=by rfl) (hpl:(backTo pos (starEach es X.env)).any (·.1)=false:=by rfl):FE X Z (.Call (.Name x p) (e :: es) [] pos) (Ak g fa) :=
 A3 (pe_callTy hc hg hm hv ha hn hdb he hpl) fun σ H Q ⟨F,B,fs,ok,s⟩=>⟨F,B,fs,ok,AD s fun rs fs1 F1 H1 us l q s1=>hg' F1 B H1 σ fs1 rs us Q q.1 q.2 s1⟩
end
def gLen:List Rv->FS->Out Rv
 | [x],fs=>match Cd fs x with
  | some ts=>okT (.int ts.length) fs
  | none=>match seqT x with
   | some ts=>okT (.int ts.length) fs
   | none=>.bad
 | _,_=>.bad
def gLenS:List Rv->FS->Out Rv
 | [.t (.str z)],fs=>if z.length<=big then okT (.int z.length) fs else .bad
 | _,_=>.bad
def Hf:List Rv->FS->Out Rv
 | [.t (.int i),.t (.int j)],fs=>okT (.int (if j < i then j else i)) fs
 | _,_=>.bad
def gSum:List Rv->FS->Out Rv
 | [x],fs=>match (Cd fs x).bind BL with
  | some ns=>okT (.int ns.sum) fs
  | none=>.bad
 | _,_=>.bad
def Dn:List Rv->FS->Out Rv
 | [x],fs=>match Cd fs x with
  | some ts=>okT (.tup ts) fs
  | none=>match seqT x with
   | some ts=>okT (.tup ts) fs
   | none=>.bad
 | _,_=>.bad
def keyT:Key->T
 | .inl i=>.int i
 | .inr x=>.str x
section
variable {K:PySem.W.Frag} {Z:Xp}
theorem Bq {F:Wd} {H:Hp} {σ:St} {x:Rv} {vs:List V} (h:RelFs K F H σ [x] vs):∃ v,vs=[v]/\BF K F H σ x v:=by
 obtain ⟨v,w,rfl,h1,h2⟩:=h
 have:w=[]:=h2
 subst this
 exact ⟨v,rfl,h1⟩
theorem cf_len:CT K Z (fun xs H Q=>∃ p ys,xs=[.ref p]/\(SqL K H p ys∨SqT K H p ys)/\Q (.int ys.length) H) gLen:=by
 intro F B H σ fs rs vs Q ok q s
 unfold gLen at s
 split at s
 ·obtain ⟨v,rfl,qq⟩:=Bq q
  have q:=qq
  split at s
  ·rename_i ts e
   obtain ⟨a,us,rfl,hs,r⟩:=Bk ok q e
   exact ⟨a,us,rfl,.inl hs,by rw [r.len];exact s F H _ Le.refl (RR.of ok rfl)⟩
  ·split at s
   ·rename_i ts e
    obtain ⟨a,us,rfl,hs,r⟩:=Bx q e
    exact ⟨a,us,rfl,.inr hs,by rw [r.len];exact s F H _ Le.refl (RR.of ok rfl)⟩
   ·exact s.elim
 ·exact s.elim
theorem cf_lenS:CT K Z (fun xs H Q=>∃ z,xs=[.str z]/\z.length<=sizeLine/\Q (.int z.length) H) gLenS:=by
 intro F B H σ fs rs vs Q ok q s
 unfold gLenS at s
 split at s
 ·rename_i z
  obtain ⟨v,rfl,qq⟩:=Bq q
  have q:=qq
  cases q
  split at s
  ·rename_i hz
   exact ⟨z,rfl,Nat.le_trans hz CP,s F H _ Le.refl (RR.of ok rfl)⟩
  ·exact s.elim
 ·exact s.elim
theorem cf_min2:CT K Z (fun xs H Q=>∃ i j,xs=[.int i,.int j]/\Q (.int (if j < i then j else i)) H) Hf:=by
 intro F B H σ fs rs vs Q ok q s
 unfold Hf at s
 split at s
 ·rename_i i j
  obtain ⟨v,w,rfl,q1,v2,w2,rfl,q2,q3⟩:=q
  cases q1
  cases q2
  cases q3
  exact ⟨i,j,rfl,s F H _ Le.refl (RR.of ok rfl)⟩
 ·exact s.elim
theorem cf_sum:CT K Z (fun xs H Q=>∃ (l:Addr) (ns:List Int),xs=[.ref l]/\SqL K H l (ns.map V.int)/\Q (.int ns.sum) H) gSum:=by
 intro F B H σ fs rs vs Q ok q s
 unfold gSum at s
 split at s
 ·obtain ⟨v,rfl,qq⟩:=Bq q
  have q:=qq
  split at s
  ·rename_i ns e
   rw [Option.bind_eq_some_iff] at e
   obtain ⟨ts,e1,e2⟩:=e
   obtain ⟨a,us,rfl,hs,r⟩:=Bk ok q e1
   rw [E5 e2] at r
   rw [Ac.ints r] at hs
   exact ⟨a,ns,rfl,hs,s F H _ Le.refl (RR.of ok rfl)⟩
  ·exact s.elim
 ·exact s.elim
theorem DF {F:Wd} {H:Hp} {ts:List T} {us:List V} {p:Addr} {σ:St} {B:Nat->Option V} {fs:FS} (ok:Okk K F B H fs σ) (hp:H p=none) (r:Ac K F H ts us):RR K B σ (addF F p) (upd H p (.tup us)) fs (.t (.tup ts)) (.ref p):=by
 refine RR.of (ok.alloc hp) ?_
 simp only [BF,AB]
 exact ⟨p,us,rfl,⟨rfl,.inr rfl,Av⟩,r.le (Br ok hp)⟩
theorem rel_newLst {F:Wd} {H:Hp} {ts:List T} {us:List V} {p:Addr} {σ:St} {B:Nat->Option V} {fs:FS} (ok:Okk K F B H fs σ) (hp:H p=none) (r:Ac K F H ts us):RR K B σ (addF F p) (upd H p (.lst us)) fs (.t (.lst ts)) (.ref p):=by
 refine RR.of (ok.alloc hp) ?_
 simp only [BF,AB]
 exact ⟨p,us,rfl,.inr rfl,Av,r.le (Br ok hp)⟩
theorem cf_tuple:CT K Z (fun xs H Q=>∃ p ys,xs=[.ref p]/\((SqL K H p ys/\∀ l,H l=none->Q (.ref l) (upd H l (.tup ys)))∨(SqT K H p ys/\Q (.ref p) H))) Dn:=by
 intro F B H σ fs rs vs Q ok q s
 unfold Dn at s
 split at s
 ·rename_i x
  obtain ⟨v,rfl,qq⟩:=Bq q
  have q:=qq
  split at s
  ·rename_i ts e
   obtain ⟨a,us,rfl,hs,r⟩:=Bk ok q e
   exact ⟨a,us,rfl,.inl ⟨hs,fun p hp=>s _ _ (.ref p) (Br ok hp) (DF ok hp r)⟩⟩
  ·split at s
   ·rename_i ts e
    obtain ⟨a,us,rfl,hs,r⟩:=Bx q e
    have ex:x=.t (.tup ts):=by
     unfold seqT at e
     split at e
     ·cases e;rfl
     ·cases e
    rw [ex] at q
    exact ⟨a,us,rfl,.inr ⟨hs,s F H _ Le.refl (RR.of ok q)⟩⟩
   ·exact s.elim
 ·exact s.elim
theorem Ge {F:Wd} {H:Hp}:∀ ks:List Key,Ac K F H (ks.map keyT) (ks.map kV)
 | []=>by simp [Ac]
 | .inl i :: r=>by
  simp only [List.map_cons,Ac]
  exact ⟨_,_,rfl,rfl,Ge r⟩
 | .inr i :: r=>by
  simp only [List.map_cons,Ac]
  exact ⟨_,_,rfl,rfl,Ge r⟩
end
end FL
namespace FL
open PySem PySem.Spec L2
def MtF (K:PySem.W.Frag) (Z:Xp) (r:V->List V->Hp->VK->Prop) (g:Rv->List Rv->FS->Out Rv):Prop:=∀ (F:Wd) (B:Nat->Option V) (H:Hp) (σ:St) (fs:FS) (x:Rv) (rs:List Rv) (u:V) (vs:List V) (Q:VK),Okk K F B H fs σ->BF K F H σ x u->RelFs K F H σ rs vs ->
 sat Z B (RR K B σ) F H (g x rs fs) Q->r u vs H Q
def AL (g:Rv->List Rv->FS->Out Rv) (fo:FS->Out Rv) (fa:FS->Out (List Rv)):FS->Out Rv:=fun fs=>(fo fs).bnd fun x fs=>if (Cd fs x).isSome=true then (fa fs).bind fun rs fs=>g x rs fs else .bad
def D8 (g:Rv->List Rv->FS->Out Rv) (fo:FS->Out Rv) (fa:FS->Out (List Rv)):FS->Out Rv:=fun fs=>(fo fs).bnd fun x fs=>match x with
 | .t (.str _)=>(fa fs).bind fun rs fs=>g x rs fs
 | _=>.bad
section
variable {X:Cx} {Z:Xp} {o e:Expr} {es:List Expr} {fo:FS->Out Rv} {fa:FS->Out (List Rv)} {g:Rv->List Rv->FS->Out Rv} {r:V->List V->Hp->VK->Prop} {apos cpos:Pos} {name:Str} {id:String}
theorem fe_bm (hg:MtF X.K Z r g) (slot:Slot "list" name id) (hty:typeOf (.builtin id)=pure (.type "method_descriptor")) (hm:MtR X id r) (ho:FE X Z o fo) (ha:FA X Z (e :: es) fa)
  (hbase:attributeBase o name X.env (eval o X.env)=eval o X.env:=by rfl)
  (hfew:((backTo cpos (starEach (e :: es) X.env)).all (fun x=>!x.1) && (backToKw cpos (keywordEach [] X.env)).all (fun x=>x.1.isSome)
   && decide ((e :: es).length+([]:List Keyword).length+(if ([]:List Keyword).isEmpty then 0 else 1) < 30))=true:=by rfl)
  (hline:(apos.endLine == cpos.line)=true:=by rfl) (hs:starEach (e :: es) X.env=(false,eval e X.env) :: starEach es X.env:=by rfl) (hplain:(backTo cpos (starEach es X.env)).any (·.1)=false:=by rfl) :
  FE X Z (.Call (.Attribute o name apos) (e :: es) [] cpos) (AL g fo fa):=by
 refine A3 (pe_bm PySem.F.plainAttrs_list slot hty hm ho ha hbase hfew hline hs hplain) fun σ H Q ⟨F,B,fs,ok,s⟩=>⟨F,B,fs,ok,AU s fun x fs1 F1 H1 u l ok1 rx s1=>?_⟩
 split at s1
 ·rename_i he
  obtain ⟨ts,ets⟩:=Option.isSome_iff_exists.mp he
  obtain ⟨a,vs,rfl,hs,q⟩:=Bk ok1 rx ets
  exact ⟨.inl ⟨rfl,vs,hs⟩,F1,B,fs1,ok1,AD s1 fun rs fs2 F2 H2 us l2 q2 s2=>hg F2 B H2 σ fs2 x rs _ us Q q2.1 (rx.le l2) q2.2 s2⟩
 ·exact s1.elim
theorem fe_bm0 (hg:MtF X.K Z r g) (slot:Slot "list" name id) (hty:typeOf (.builtin id)=pure (.type "method_descriptor")) (hm:MtR X id r) (ho:FE X Z o fo)
  (hbase:attributeBase o name X.env (eval o X.env)=eval o X.env:=by rfl) (hline:(apos.endLine == cpos.line)=true:=by rfl):FE X Z (.Call (.Attribute o name apos) [] [] cpos) (AL g fo Al):=by
 refine A3 (pe_bm0 PySem.F.plainAttrs_list slot hty hm ho hbase hline) fun σ H Q ⟨F,B,fs,ok,s⟩=>⟨F,B,fs,ok,AU s fun x fs1 F1 H1 u l ok1 rx s1=>?_⟩
 split at s1
 ·rename_i he
  obtain ⟨ts,ets⟩:=Option.isSome_iff_exists.mp he
  obtain ⟨a,vs,rfl,hs,q⟩:=Bk ok1 rx ets
  exact ⟨.inl ⟨rfl,vs,hs⟩,hg F1 B H1 σ fs1 x [] _ [] Q ok1 rx rfl s1⟩
 ·exact s1.elim
theorem fe_bmS (hg:MtF X.K Z r g) (slot:Slot "str" name id) (hty:typeOf (.builtin id)=pure (.type "method_descriptor")) (hm:MtR X id r) (ho:FE X Z o fo) (ha:FA X Z (e :: es) fa)
  (hbase:attributeBase o name X.env (eval o X.env)=eval o X.env:=by rfl)
  (hfew:((backTo cpos (starEach (e :: es) X.env)).all (fun x=>!x.1) && (backToKw cpos (keywordEach [] X.env)).all (fun x=>x.1.isSome)
   && decide ((e :: es).length+([]:List Keyword).length+(if ([]:List Keyword).isEmpty then 0 else 1) < 30))=true:=by rfl)
  (hline:(apos.endLine == cpos.line)=true:=by rfl) (hs:starEach (e :: es) X.env=(false,eval e X.env) :: starEach es X.env:=by rfl) (hplain:(backTo cpos (starEach es X.env)).any (·.1)=false:=by rfl) :
  FE X Z (.Call (.Attribute o name apos) (e :: es) [] cpos) (D8 g fo fa):=by
 refine A3 (pe_bm PySem.F.plainAttrs_str slot hty hm ho ha hbase hfew hline hs hplain) fun σ H Q ⟨F,B,fs,ok,s⟩=>⟨F,B,fs,ok,AU s fun x fs1 F1 H1 u l ok1 rx s1=>?_⟩
 split at s1
 ·have rx2:=rx
  cases rx
  exact ⟨rfl,F1,B,fs1,ok1,AD s1 fun rs fs2 F2 H2 us l2 q2 s2=>hg F2 B H2 σ fs2 _ rs _ us Q q2.1 (BF.le rx2 l2) q2.2 s2⟩
 ·exact s1.elim
end
def DA:Rv->List Rv->FS->Out Rv
 | .rf i,[.t t],fs=>match AE fs i with
  | some (.lst ts)=>if ts.length < big then .ok (.t .non) (putAt fs i (.lst (ts++[t]))) else .bad
  | _=>.bad
 | _,_,_=>.bad
def He:Rv->List Rv->FS->Out Rv
 | .rf i,[],fs=>match AE fs i with
  | some (.lst ts)=>match ts.getLast? with
   | some t=>.ok (.t t) (putAt fs i (.lst ts.dropLast))
   | none=>.bad
  | _=>.bad
 | _,_,_=>.bad
def gExt:Rv->List Rv->FS->Out Rv
 | .rf i,[.t (.lst us)],fs=>match AE fs i with
  | some (.lst ts)=>if ts.length+us.length<=big then .ok (.t .non) (putAt fs i (.lst (ts++us))) else .bad
  | _=>.bad
 | _,_,_=>.bad
def EL:Rv->List Rv->FS->Out Rv
 | .t (.str z),[x],fs=>match (Cd fs x).bind BP with
  | some ys=>if (ys.map (·.length)).sum+ys.length * z.length<=big then okT (.str (Txt.join z ys)) fs else .bad
  | none=>.bad
 | _,_,_=>.bad
section
variable {K:PySem.W.Frag} {Z:Xp} {B:Nat->Option V} {F:Wd} {H:Hp} {σ:St} {fs:FS} {i:Nat} {u:V} {ts:List T}
theorem Ac.last {vs:List V} {t:T} (r:Ac K F H ts vs) (e:ts.getLast?=some t):∃ z,vs=vs.dropLast++[z]/\AB K F H t z/\Ac K F H ts.dropLast vs.dropLast:=by
 have hl:=r.len
 rw [List.getLast?_eq_getElem?] at e
 obtain ⟨z,ez,rz⟩:=r.at e
 have hpos:0 < ts.length:=by
  have:=(List.getElem?_eq_some_iff.mp e).1
  omega
 refine ⟨z,?_,rz,?_⟩
 ·have hne:vs≠[]:=by intro q;rw [q] at hl;simp at hl;omega
  have h1:=(List.dropLast_concat_getLast hne).symm
  have h2:vs.getLast hne=z:=by
   rw [List.getLast_eq_getElem]
   have:=(List.getElem?_eq_some_iff.mp ez)
   obtain ⟨h3,h4⟩:=this
   rw [<- h4]
   congr 1
   rw [hl]
  rw [h2] at h1
  exact h1
 ·rw [List.dropLast_eq_take,List.dropLast_eq_take,hl]
  exact r.take _
theorem Okk.list (h:Okk K F B H fs σ) (r:σ[i]?=some (some u)) (e:AE fs i=some (.lst ts)):∃ a vs,u=.ref a/\H a=some (.lst vs)/\Ac K F H ts vs /\
  ∀ ts' vs',Ac K F H ts' vs'->Okk K F B (upd H a (.lst vs')) (putAt fs i (.lst ts')) σ/\Le F H F (upd H a (.lst vs')):=by
 obtain ⟨v,L2,e1,q,nf,_,k⟩:=h.own e
 rw [e1] at r
 have e3:v=u:=by simpa using r
 subst e3
 simp only [AO] at q
 obtain ⟨a,vs,rfl,hs,q,rfl⟩:=q
 refine ⟨a,vs,rfl,hs,q,fun ts' vs' q'=>?_⟩
 have l:Le F H F (upd H a (.lst vs')):=⟨fun b f=>⟨f,Ap fun z=>(nf a (by simp)).1 (z▸f)⟩,fun b f=>⟨f,Ap fun z=>(nf a (by simp)).2 (z▸f)⟩⟩
 exact k _ _ (fun b hb _=>Ap (by simpa using hb)) (Ce Av (q'.le l))
theorem Fq:MtF K Z rAppend DA:=by
 intro F B H σ fs x rs u vs Q ok rx q s
 unfold DA at s
 split at s
 ·rename_i i t
  obtain ⟨v,rfl,qq⟩:=Bq q
  have q:=qq
  split at s
  ·rename_i ts e
   split at s
   ·rename_i hl
    obtain ⟨a,us,rfl,hs,r,k⟩:=ok.list rx e
    obtain ⟨ok',l⟩:=k (ts++[t]) (us++[v]) (r.app (Ac.one q))
    exact ⟨a,us,v,rfl,rfl,hs,by rw [r.len];exact Nat.lt_trans hl big_lt,s F _ _ l (RR.of ok' rfl)⟩
   ·exact s.elim
  ·exact s.elim
 ·exact s.elim
theorem mf_pop:MtF K Z (fun x vs H Q=>∃ l e z,x=.ref l/\vs=[]/\H l=some (.lst (e++[z]))/\Q z (upd H l (.lst e))) He:=by
 intro F B H σ fs x rs u vs Q ok rx q s
 unfold He at s
 split at s
 ·have:vs=[]:=q
  subst this
  split at s
  ·rename_i ts e
   split at s
   ·rename_i t et
    obtain ⟨a,us,rfl,hs,r,k⟩:=ok.list rx e
    obtain ⟨z,ez,rz,rd⟩:=r.last et
    obtain ⟨ok',l⟩:=k _ _ rd
    refine ⟨a,us.dropLast,z,rfl,rfl,by rw [<- ez];exact hs,s F _ z l (RR.of ok' (AB.le l rz))⟩
   ·exact s.elim
  ·exact s.elim
 ·exact s.elim
theorem mf_ext:MtF K Z FU gExt:=by
 intro F B H σ fs x rs u vs Q ok rx q s
 unfold gExt at s
 split at s
 ·rename_i i ws
  obtain ⟨v,rfl,qq⟩:=Bq q
  have q:=qq
  split at s
  ·rename_i ts e
   split at s
   ·rename_i hl
    obtain ⟨a,us,rfl,hs,r,k⟩:=ok.list rx e
    simp only [BF,AB] at q
    obtain ⟨b,zs,rfl,f,hb,rz⟩:=q
    obtain ⟨ok',l⟩:=k _ _ (r.app rz)
    exact ⟨a,b,us,zs,rfl,rfl,hs,hb,by rw [r.len,rz.len];exact Nat.le_trans hl CP,s F _ _ l (RR.of ok' rfl)⟩
   ·exact s.elim
  ·exact s.elim
 ·exact s.elim
theorem mf_join:MtF K Z (fun x xs H Q=>∃ (z:Str) (l:Addr) (ys:List Str),x=.str z/\xs=[.ref l]/\SqL K H l (ys.map V.str)/\(ys.map (·.length)).sum+ys.length * z.length<=16777216/\Q (.str (Txt.join z ys)) H) EL:=by
 intro F B H σ fs x rs u vs Q ok rx q s
 unfold EL at s
 split at s
 ·rename_i z x
  obtain ⟨v,rfl,qq⟩:=Bq q
  have q:=qq
  cases rx
  split at s
  ·rename_i ys e
   rw [Option.bind_eq_some_iff] at e
   obtain ⟨ts,e1,e2⟩:=e
   split at s
   ·rename_i hl
    obtain ⟨a,us,rfl,hs,r⟩:=Bk ok q e1
    rw [HB e2] at r
    rw [Ac.strs r] at hs
    exact ⟨z,a,ys,rfl,rfl,hs,Nat.le_trans hl (by decide),s F H _ Le.refl (RR.of ok rfl)⟩
   ·exact s.elim
  ·exact s.elim
 ·exact s.elim
end
def tKey:T->Option Key
 | .int i=>some (.inl i)
 | .str x=>some (.inr x)
 | _=>none
def HH:List T->Option (List Key)
 | []=>some []
 | t :: r=>(tKey t).bind fun k=>(HH r).map (k :: ·)
theorem FJ {K:PySem.W.Frag} {F:Wd} {H:Hp} {t:T} {u:V} {k:Key} (e:tKey t=some k) (r:AB K F H t u):u=kV k:=by
 unfold tKey at e
 split at e
 ·cases e;exact r
 ·cases e;exact r
 ·cases e
theorem Et {K:PySem.W.Frag} {F:Wd} {H:Hp}:∀ {ts:List T} {us:List V} {ks:List Key},HH ts=some ks->Ac K F H ts us->us=ks.map kV
 | [],_,_,e,r=>by cases e;exact r
 | t :: ts,_,_,e,r=>by
  simp only [HH,Option.bind_eq_some_iff,Option.map_eq_some_iff] at e
  obtain ⟨k,e1,ks,e2,rfl⟩:=e
  simp only [Ac] at r
  obtain ⟨v,w,rfl,r1,r2⟩:=r
  rw [List.map_cons,Et e2 r2,FJ e1 r1]
def E9 {κ:Type} [DecidableEq κ]:List κ->List T->κ->Option T
 | k :: ks,t :: ts,j=>if k=j then some t else E9 ks ts j
 | _,_,_=>none
def HE {κ:Type} [DecidableEq κ] (ks:List κ) (ts:List T) (j:κ) (v:T):List κ×List T :=
 if (ks.any fun k=>decide (k=j))=true then (ks,List.zipWith (fun k t=>if k=j then v else t) ks ts) else (ks++[j],ts++[v])
section
variable {K:PySem.W.Frag} {F:Wd} {H:Hp} {κ:Type} [DecidableEq κ]
theorem Ef:∀ {kvs:List (κ×V)} {ts:List T} {j:κ},Ac K F H ts (kvs.map (·.2))->(E9 (kvs.map (·.1)) ts j=none/\valV kvs j=none)∨∃ t v,E9 (kvs.map (·.1)) ts j=some t/\valV kvs j=some v/\AB K F H t v
 | [],ts,j,r=>by
  have h:=r.len
  cases ts with
  | nil=>exact .inl ⟨rfl,rfl⟩
  | cons t ts=>simp at h
 | (k,v) :: kvs,ts,j,r=>by
  cases ts with
  | nil =>
   have h:=r.len
   simp at h
  | cons t ts =>
   simp only [List.map_cons,Ac] at r
   obtain ⟨v',w,e,r1,r2⟩:=r
   cases e
   by_cases hk:k=j
   ·refine .inr ⟨t,v,?_,Ed hk,r1⟩
    simp only [List.map_cons,E9]
    rw [if_pos hk]
   ·have e1:E9 (((k,v) :: kvs).map (·.1)) (t :: ts) j=E9 (kvs.map (·.1)) ts j:=by
     simp only [List.map_cons,E9]
     rw [if_neg hk]
    rw [e1,Ee (p:=(k,v)) hk]
    exact Ef r2
theorem zip_rel {j:κ} {t:T} {w:V} (q:AB K F H t w):∀ {kvs:List (κ×V)} {ts:List T},Ac K F H ts (kvs.map (·.2)) ->
  Ac K F H (List.zipWith (fun k t'=>if k=j then t else t') (kvs.map (·.1)) ts) ((kvs.map fun kv=>if kv.1=j then (kv.1,w) else kv).map (·.2))
 | [],ts,r=>by
  have h:=r.len
  cases ts with
  | cons t ts=>simp at h
  | nil=>exact rfl
 | (k,v) :: kvs,ts,r=>by
  cases ts with
  | nil =>
   have h:=r.len
   simp at h
  | cons t' ts =>
   simp only [List.map_cons,Ac] at r
   obtain ⟨v',w',e,r1,r2⟩:=r
   cases e
   have ih:=zip_rel q (j:=j) r2
   simp only [List.map_cons,List.zipWith_cons_cons,Ac]
   by_cases hk:k=j
   ·rw [if_pos hk,if_pos hk]
    exact ⟨w,_,rfl,q,ih⟩
   ·rw [if_neg hk,if_neg hk]
    exact ⟨v,_,rfl,r1,ih⟩
theorem putT_rel {j:κ} {t:T} {w:V} (q:AB K F H t w) {kvs:List (κ×V)} {ts:List T} (r:Ac K F H ts (kvs.map (·.2))) :
  (putK kvs j w).map (·.1)=(HE (kvs.map (·.1)) ts j t).1/\Ac K F H (HE (kvs.map (·.1)) ts j t).2 ((putK kvs j w).map (·.2)):=by
 have e:((kvs.map (·.1)).any fun k=>decide (k=j))=(kvs.any fun kv=>decide (kv.1=j)):=by rw [List.any_map];rfl
 unfold putK HE
 rw [e]
 by_cases h:(kvs.any fun kv=>decide (kv.1=j))=true
 ·rw [if_pos h,if_pos h]
  refine ⟨?_,zip_rel q r⟩
  rw [List.map_map]
  refine List.map_congr_left fun p hp=>?_
  show (if p.1=j then (p.1,w) else p).1=p.1
  split <;> rfl
 ·rw [if_neg h,if_neg h]
  refine ⟨by rw [List.map_append];rfl,?_⟩
  rw [List.map_append]
  exact r.app (Ac.one q)
end
def dget (fs:FS):Rv->T->Option (Option T)
 | .t (.dK ks ts),y=>(tKey y).map fun k=>E9 ks ts k
 | .t (.dF ks ts),y=>(tKey y).map fun k=>E9 ks ts k
 | .t (.dT ks ts),.tup y=>(HH y).map fun k=>E9 ks ts k
 | .rf i,y=>match AE fs i with
  | some (.dK ks ts)=>(tKey y).map fun k=>E9 ks ts k
  | some (.dT ks ts)=>match y with
   | .tup y=>(HH y).map fun k=>E9 ks ts k
   | _=>none
  | _=>none
 | _,_=>none
section
variable {K:PySem.W.Frag} {B:Nat->Option V} {F:Wd} {H:Hp} {σ:St} {fs:FS} {x:Rv} {y:T} {u w:V}
theorem dget_ok {o:Option T} (h:Okk K F B H fs σ) (rx:BF K F H σ x u) (ry:AB K F H y w) (e:dget fs x y=some o) :
  ∃ a o',u=.ref a/\DGet H a w o'/\((o=none/\o'=none)∨∃ t v,o=some t/\o'=some v/\AB K F H t v):=by
 have key:∀ {a:Addr} {kvs:List (Key×V)} {ts:List T},Rd H a (.dK kvs)->Ac K F H ts (kvs.map (·.2))->(tKey y).map (fun k=>E9 (kvs.map (·.1)) ts k)=some o ->
   ∃ o',DGet H a w o'/\((o=none/\o'=none)∨∃ t v,o=some t/\o'=some v/\AB K F H t v):=by
  intro a kvs ts hd r e
  rw [Option.map_eq_some_iff] at e
  obtain ⟨k,ek,eo⟩:=e
  have:=FJ ek ry
  subst this
  refine ⟨_,.inl ⟨kvs,k,hd,rfl,rfl⟩,?_⟩
  rcases Ef (j:=k) r with ⟨h1,h2⟩ | ⟨t,v,h1,h2,h3⟩
  ·exact .inl ⟨eo.symm.trans h1,h2⟩
  ·exact .inr ⟨t,v,eo.symm.trans h1,h2,h3⟩
 have keyT:∀ {a:Addr} {kvs:List (List Key×V)} {ts ys:List T},H a=some (.dT kvs)->Ac K F H ts (kvs.map (·.2))->y=.tup ys->(HH ys).map (fun k=>E9 (kvs.map (·.1)) ts k)=some o ->
   ∃ o',DGet H a w o'/\((o=none/\o'=none)∨∃ t v,o=some t/\o'=some v/\AB K F H t v):=by
  intro a kvs ts ys hd r ey e
  rw [Option.map_eq_some_iff] at e
  obtain ⟨k,ek,eo⟩:=e
  subst ey
  simp only [AB] at ry
  obtain ⟨b,vs,rfl,hb,rb⟩:=ry
  have:=Et ek rb
  subst this
  refine ⟨_,DGet.t hd hb.2.2,?_⟩
  rcases Ef (j:=k) r with ⟨h1,h2⟩ | ⟨t,v,h1,h2,h3⟩
  ·exact .inl ⟨eo.symm.trans h1,h2⟩
  ·exact .inr ⟨t,v,eo.symm.trans h1,h2,h3⟩
 unfold dget at e
 split at e
 ·simp only [BF,AB] at rx
  obtain ⟨a,kvs,rfl,f,hd,rfl,r⟩:=rx
  obtain ⟨o',h1,h2⟩:=key hd r e
  exact ⟨a,o',rfl,h1,h2⟩
 ·simp only [BF,AB] at rx
  obtain ⟨a,kvs,rfl,f,⟨ob,hd⟩,rfl,r⟩:=rx
  obtain ⟨o',h1,h2⟩:=key (.inr ⟨ob,hd⟩) r e
  exact ⟨a,o',rfl,h1,h2⟩
 ·simp only [BF,AB] at rx
  obtain ⟨a,kvs,rfl,f,hd,rfl,r⟩:=rx
  obtain ⟨o',h1,h2⟩:=keyT hd r rfl e
  exact ⟨a,o',rfl,h1,h2⟩
 ·rename_i y' i
  have e2:σ[i]?=some (some u):=rx
  split at e
  ·rename_i eo
   obtain ⟨v,L2,e1,q,_⟩:=h.own eo
   rw [e1] at e2
   have e3:v=u:=by simpa using e2
   subst e3
   simp only [AO] at q
   obtain ⟨a,kvs,rfl,hd,rfl,r,_⟩:=q
   obtain ⟨o',h1,h2⟩:=key (.inl hd) r e
   exact ⟨a,o',rfl,h1,h2⟩
  ·rename_i eo
   split at e
   ·obtain ⟨v,L2,e1,q,_⟩:=h.own eo
    rw [e1] at e2
    have e3:v=u:=by simpa using e2
    subst e3
    simp only [AO] at q
    obtain ⟨a,kvs,rfl,hd,rfl,r,_⟩:=q
    obtain ⟨o',h1,h2⟩:=keyT hd r rfl e
    exact ⟨a,o',rfl,h1,h2⟩
   ·cases e
  ·cases e
 ·cases e
end
def gDGet:Rv->Rv->FS->Out Rv
 | x,.t y,fs=>match dget fs x y with
  | some (some t)=>okT t fs
  | _=>.bad
 | _,_,_=>.bad
def gDIn (neg:Bool):Rv->Rv->FS->Out Rv
 | .t y,x,fs=>match dget fs x y with
  | some o=>okT (.bl (if neg then !o.isSome else o.isSome)) fs
  | _=>.bad
 | _,_,_=>.bad
section
variable {X:Cx} {Z:Xp} {o i:Expr} {fo fi:FS->Out Rv} {pos:Pos}
end
section
variable {X:Cx} {Z:Xp} {o:Expr} {fo:FS->Out Rv} {pos:Pos} {C:Addr} {f:Str}
end
end FL
namespace FL
open PySem PySem.Spec L2
def Fm (K:PySem.W.Frag) (Z:Xp) (B:Nat->Option V) (F:Wd) (H:Hp) (o:SO) (D:Ends):Prop:=match o with
 | .nx fs=>∀ F' H' σ,Le F H F' H'->Okk K F' B H' fs σ->D.nx σ H'
 | .ret r fs=>∀ F' H' σ u,Le F H F' H'->RR K B σ F' H' fs r u->D.rt u H'
 | .brk fs=>∀ F' H' σ,Le F H F' H'->Okk K F' B H' fs σ->D.bk σ H'
 | .cnt fs=>∀ F' H' σ,Le F H F' H'->Okk K F' B H' fs σ->D.ct σ H'
 | .exc c fs=>Z.p F B H c fs
 | .bad=>False
def tSt (K:PySem.W.Frag) (Z:Xp) (g:FS->SO):TS:=fun D σ H=>∃ F B fs,Okk K F B H fs σ/\Fm K Z B F H (g fs) D
def GS (X:Cx) (Z:Xp) (st:Stmt) (g:FS->SO):Prop:=PS X st (tSt X.K Z g)
def GSs (X:Cx) (Z:Xp) (sts:List Stmt) (g:FS->SO):Prop:=PSs X sts (tSt X.K Z g)
theorem Fm.le {K:PySem.W.Frag} {Z:Xp} {B:Nat->Option V} {F F':Wd} {H H':Hp} {o:SO} {D:Ends} (h:Fm K Z B F H o D) (l:Le F H F' H'):Fm K Z B F' H' o D:=by
 cases o with
 | nx fs=>exact fun F2 H2 σ l2 k=>h F2 H2 σ (l.trans l2) k
 | ret r fs=>exact fun F2 H2 σ u l2 k=>h F2 H2 σ u (l.trans l2) k
 | brk fs=>exact fun F2 H2 σ l2 k=>h F2 H2 σ (l.trans l2) k
 | cnt fs=>exact fun F2 H2 σ l2 k=>h F2 H2 σ (l.trans l2) k
 | exc c fs=>exact Z.mono h l
 | bad=>exact h
def nxS:FS->SO:=fun fs=>.nx fs
def A2 (g h:FS->SO):FS->SO:=fun fs=>match g fs with
 | .nx fs=>h fs
 | o=>o
def SO.of {α:Type} (o:Out α) (k:α->FS->SO):SO:=match o with
 | .ok a fs=>k a fs
 | .exc c fs=>.exc c fs
 | .bad=>.bad
theorem CM {K:PySem.W.Frag} {Z:Xp} {B:Nat->Option V} {F:Wd} {H:Hp} {α β:Type} {R:Wd->Hp->FS->α->β->Prop} {o:Out α} {k:α->FS->SO} {D:Ends} {Q:β->Hp->Prop} (h:Fm K Z B F H (SO.of o k) D)
  (hk:∀ a fs F' H' b,Le F H F' H'->R F' H' fs a b->Fm K Z B F' H' (k a fs) D->Q b H'):sat Z B R F H o Q:=by
 cases o with
 | ok a fs=>exact fun F2 H2 b l r=>hk a fs F2 H2 b l r (Fm.le h l)
 | exc c fs=>exact h
 | bad=>exact h
def putSl (i:Nat) (r:Rv) (fs:FS):Option FS:=match r with
 | .t t=>some (fs.set i (some (.val t)))
 | .nw o=>some (fs.set i (some (.own o)))
 | .rf _=>none
def GC (i:Nat) (r:Rv) (fs:FS):Option FS:=match fs[i]? with
 | none=>none
 | some (some (.bor _))=>none
 | some _=>putSl i r fs
theorem stSl_ok {K:PySem.W.Frag} {B:Nat->Option V} {σ:St} {F:Wd} {H:Hp} {fs fs':FS} {r:Rv} {u:V} {i:Nat} (h:RR K B σ F H fs r u) (e:GC i r fs=some fs'):Okk K F B H fs' (σ.set i (some u)):=by
 obtain ⟨L,L',ok,q,nd,nf⟩:=h
 have key:∀ s:Option Sl,fs[i]?=some s->(∀ o,s≠some (.bor o))->putSl i r fs=some fs'->Okk K F B H fs' (σ.set i (some u)):=by
  intro s es hb e
  obtain ⟨v,L1,L2,L3,e1,rfl,h1,h2⟩:=ok.sl.pick es
  have dis:∀ a∈L',a∉L1++L3:=fun a m m2=>(List.nodup_append.mp nd).2.2 a (by
   rcases List.mem_append.mp m2 with m2 | m2
   ·simp [m2]
   ·simp [m2]) a m rfl
  have nf3:∀ a∈L1++(L'++L3),¬ F a/\¬ F.p a:=fun a m=>by
   rcases List.mem_append.mp m with m | m
   ·exact ⟨ok.nf a (by simp [m]),ok.pl a (by simp [m])⟩
   ·rcases List.mem_append.mp m with m | m
    ·exact nf a m
    ·exact ⟨ok.nf a (by simp [m]),ok.pl a (by simp [m])⟩
  cases r with
  | t t =>
   cases e
   obtain ⟨rfl,q⟩:=q
   refine ⟨L1++([]++L3),h2 F H (some (.val t)) (some u) [] Le.refl (fun _ _=>rfl) ⟨u,rfl,q,rfl⟩,BU ok.nd List.nodup_nil (fun _ m=>nomatch m),fun a m=>(nf3 a m).1,ok.fd,?_,ok.pd,ok.pf,fun a m=>(nf3 a m).2⟩
   exact E6.put ok.bo (fun o eo=>by cases eo) ok.sl.len
  | nw o =>
   cases e
   refine ⟨L1++(L'++L3),h2 F H (some (.own o)) (some u) L' Le.refl (fun _ _=>rfl) ⟨u,rfl,q⟩,BU ok.nd (List.nodup_append.mp nd).2.1 dis,fun a m=>(nf3 a m).1,ok.fd,?_,ok.pd,ok.pf,fun a m=>(nf3 a m).2⟩
   exact E6.put ok.bo (fun o eo=>by cases eo) ok.sl.len
  | rf j=>cases e
 unfold GC at e
 split at e
 ·cases e
 ·cases e
 ·rename_i s hb es
  exact key s es (fun o z=>hb o z) e
def AX (i:Nat) (f:FS->Out Rv):FS->SO:=fun fs=>SO.of (f fs) fun r fs=>match GC i r fs with
 | some fs=>.nx fs
 | none=>.bad
def Bp (f:FS->Out Rv):FS->SO:=fun fs=>SO.of (f fs) fun _ fs=>.nx fs
def retS (f:FS->Out Rv):FS->SO:=fun fs=>SO.of (f fs) fun r fs=>.ret r fs
def ifS (c:FS->Out Bool) (g h:FS->SO):FS->SO:=fun fs=>SO.of (c fs) fun b fs=>if b=true then g fs else h fs
section
variable {X:Cx} {Z:Xp} {st:Stmt} {rest a b:List Stmt} {e c:Expr} {f:FS->Out Rv} {fc:FS->Out Bool} {g h:FS->SO} {pos:Pos}
theorem Bl:GSs X Z [] nxS:=pss_imp pss_nil fun D σ H ⟨F,B,fs,ok,s⟩=>s F H σ Le.refl ok
theorem Af (h1:GS X Z st g) (h2:GSs X Z rest h):GSs X Z (st :: rest) (A2 g h):=by
 refine pss_imp (pss_cons h1 h2) fun D σ H ⟨F,B,fs,ok,s⟩=>⟨F,B,fs,ok,?_⟩
 unfold A2 at s
 cases e:g fs with
 | nx fs1 =>
  rw [e] at s
  exact fun F1 H1 σ1 l k=>⟨F1,B,fs1,k,Fm.le s l⟩
 | ret r fs1=>rw [e] at s;exact s
 | brk fs1=>rw [e] at s;exact s
 | cnt fs1=>rw [e] at s;exact s
 | exc c fs1=>rw [e] at s;exact s
 | bad=>rw [e] at s;exact s
theorem As (h1:GS X Z st g):GSs X Z [st] g:=pss_one h1
theorem Dc (he:FE X Z e f) (hs:swapsWith e none pos.line X.env=pure false:=by rfl):GS X Z (.Expr e pos) (Bp f) :=
 Dk (ps_expr he hs) fun D σ H ⟨F,B,fs,ok,s⟩=>⟨F,B,fs,ok,CM s fun r fs1 F1 H1 u l q s1=>s1 F1 H1 σ Le.refl q.ok⟩
theorem Bb (he:FE X Z e f):GS X Z (.Return (some e) pos) (retS f) :=
 Dk (ps_ret he) fun D σ H ⟨F,B,fs,ok,s⟩=>⟨F,B,fs,ok,CM s fun r fs1 F1 H1 u l q s1=>s1 F1 H1 σ u Le.refl q⟩
theorem C3 (hc:FT X Z c fc) (ha:GSs X Z a g) (hb:GSs X Z b h):GS X Z (.If c a b pos) (ifS fc g h):=by
 refine Dk (ps_if hc ha hb) fun D σ H ⟨F,B,fs,ok,s⟩=>⟨F,B,fs,ok,CM s fun r fs1 F1 H1 u l q s1=>?_⟩
 obtain ⟨ok1,rfl⟩:=q
 cases u with
 | true =>
  rw [if_pos rfl] at s1 ⊢
  exact ⟨F1,B,fs1,ok1,s1⟩
 | false =>
  rw [if_neg (by decide)] at s1 ⊢
  exact ⟨F1,B,fs1,ok1,s1⟩
theorem set_t {i:Nat} {D:Ends} {σ:St} {H:Hp} {K:PySem.W.Frag} (s:tSt K Z (AX i f) D σ H):tAsg (tF K Z f) (gName i) D σ H:=by
 obtain ⟨F,B,fs,ok,s⟩:=s
 refine ⟨F,B,fs,ok,CM s fun r fs1 F1 H1 u l q s1=>?_⟩
 split at s1
 ·rename_i fs2 e2
  exact s1 F1 H1 _ Le.refl (stSl_ok q e2)
 ·exact s1.elim
theorem AI (i:Nat) {x:Str} {pos':Pos} (hN:X.N.Nodup) (hx:Loc X.env.scope x) (he:FE X Z e f) (hi:X.N[i]?=some x:=by rfl) (hs:swapsWith e (some (.Name x pos')) pos.line X.env=pure false:=by rfl) (hf:X.fn x=true∨X.env.scope.names.lookup x=some .local:=by first | exact .inl rfl | exact .inr rfl | assumption) :
  GS X Z (.Assign [.Name x pos'] e pos) (AX i f) :=
 Dk (ps_set hN hi hx he hs hf) fun _ _ _ s=>set_t s
end
def tG (K:PySem.W.Frag) (gt:T->FS->Option FS):TG:=fun v σ H Q=>∃ F B fs t,Okk K F B H fs σ/\AB K F H t v/\match gt t fs with
 | some fs'=>∀ F' H' σ',Le F H F' H'->Okk K F' B H' fs' σ'->Q σ' H'
 | none=>False
def tGs (K:PySem.W.Frag) (gt:List T->FS->Option FS):TGs:=fun vs σ H Q=>∃ F B fs ts,Okk K F B H fs σ/\Ac K F H ts vs/\match gt ts fs with
 | some fs'=>∀ F' H' σ',Le F H F' H'->Okk K F' B H' fs' σ'->Q σ' H'
 | none=>False
def GT (X:Cx) (tg:Expr) (gt:T->FS->Option FS):Prop:=PG X tg (tG X.K gt)
def GTs (X:Cx) (tgs:List Expr) (gt:List T->FS->Option FS):Prop:=PGs X tgs (tGs X.K gt)
theorem pg_imp {X:Cx} {e:Expr} {t t':TG} (h:PG X e t) (i:∀ v σ H Q,t' v σ H Q->t v σ H Q):PG X e t':=fun pins s σ H v u Q I r q=>h pins s σ H v u Q I r (i _ _ _ _ q)
theorem pgs_imp {X:Cx} {e:List Expr} {t t':TGs} (h:PGs X e t) (i:∀ v σ H Q,t' v σ H Q->t v σ H Q):PGs X e t':=fun pins s σ H v u Q I r q=>h pins s σ H v u Q I r (i _ _ _ _ q)
def tgN (i:Nat):T->FS->Option FS:=fun t fs=>GC i (.t t) fs
def FH:List T->FS->Option FS
 | [],fs=>some fs
 | _,_=>none
def A8 (g:T->FS->Option FS) (h:List T->FS->Option FS):List T->FS->Option FS
 | t :: ts,fs=>(g t fs).bind fun fs=>h ts fs
 | _,_=>none
def GA (n:Nat) (h:List T->FS->Option FS):T->FS->Option FS
 | .tup ts,fs=>if ts.length=n then h ts fs else none
 | _,_=>none
section
variable {X:Cx} {e:Expr} {es:List Expr} {g:T->FS->Option FS} {h:List T->FS->Option FS} {pos:Pos}
theorem A0 (i:Nat) {x:Str} (hN:X.N.Nodup) (hx:Loc X.env.scope x) (hi:X.N[i]?=some x:=by rfl) (hf:X.fn x=true∨X.env.scope.names.lookup x=some .local:=by first | exact .inl rfl | exact .inr rfl | assumption):GT X (.Name x pos) (tgN i):=by
 refine pg_imp (pg_name hN hi hx hf) fun v σ H Q ⟨F,B,fs,t,ok,r,s⟩=>?_
 split at s
 ·rename_i fs' e
  exact s F H _ Le.refl (stSl_ok (RR.of (r:=.t t) ok r) e)
 ·exact s.elim
theorem gts_nil:GTs X [] FH:=by
 refine pgs_imp pgs_nil fun v σ H Q ⟨F,B,fs,ts,ok,r,s⟩=>?_
 cases ts with
 | nil=>exact ⟨r,s F H σ Le.refl ok⟩
 | cons t ts=>exact s.elim
theorem Gf (h1:GT X e g) (h2:GTs X es h)
  (hc:∀ {t:TG} {u:TGs},PG X e t->PGs X es u->PGs X (e :: es) (gCons t u)):GTs X (e :: es) (A8 g h):=by
 refine pgs_imp (hc h1 h2) fun v σ H Q ⟨F,B,fs,ts,ok,r,s⟩=>?_
 cases ts with
 | nil=>exact s.elim
 | cons t ts =>
  simp only [Ac] at r
  obtain ⟨v',w,rfl,r1,r2⟩:=r
  refine ⟨v',w,rfl,F,B,fs,t,ok,r1,?_⟩
  simp only [A8] at s
  cases e1:g t fs with
  | none=>rw [e1] at s;exact s.elim
  | some fs1 =>
   rw [e1] at s
   exact fun F1 H1 σ1 l k=>⟨F1,B,fs1,ts,k,r2.le l,by
    simp only [Option.bind_some] at s
    split at s
    ·exact fun F2 H2 σ2 l2 k2=>s F2 H2 σ2 (l.trans l2) k2
    ·exact s.elim⟩
theorem gt_tup {k n:Nat} (hc:X.calm=true) (h1:GTs X es h) (hn:(assignEach es X.env).length=n:=by rfl) (hst:(assignEach es X.env).findIdx? (·.1)=none:=by rfl):GT X (.Tuple es k pos) (GA n h):=by
 refine pg_imp (pg_tup hc h1 hn hst) fun v σ H Q ⟨F,B,fs,t,ok,r,s⟩=>?_
 unfold GA at s
 split at s
 ·rename_i fs' e
  split at e
  ·rename_i ts
   split at e
   ·rename_i hl
    simp only [AB] at r
    obtain ⟨a,vs,rfl,hs,r⟩:=r
    refine ⟨a,vs,rfl,hs.sq,by rw [r.len];exact hl,F,B,fs,ts,ok,r,?_⟩
    rw [e]
    exact s
   ·cases e
  ·cases e
 ·exact s.elim
end
def asgS (f:FS->Out Rv) (g:T->FS->Option FS):FS->SO:=fun fs=>SO.of (f fs) fun r fs=>match r with
 | .t t=>match g t fs with
  | some fs=>.nx fs
  | none=>.bad
 | _=>.bad
section
variable {X:Cx} {Z:Xp} {e tg:Expr} {f:FS->Out Rv} {g:T->FS->Option FS} {pos:Pos}
theorem gs_asg (he:FE X Z e f) (hg:GT X tg g) (hs:swapsWithSole [tg] e pos.line X.env=pure false:=by rfl) (hw:swappedStores [tg] e X.env=pure none:=by rfl)
  (h1:(assignEach [tg] X.env).map (·.2)=[assign tg X.env]:=by rfl):GS X Z (.Assign [tg] e pos) (asgS f g):=by
 refine Dk (ps_asg he hg hs hw h1) fun D σ H ⟨F,B,fs,ok,s⟩=>⟨F,B,fs,ok,CM s fun r fs1 F1 H1 u l q s1=>?_⟩
 split at s1
 ·rename_i t
  obtain ⟨L,L',o1,⟨_,q⟩,_⟩:=q
  refine ⟨F1,B,fs1,t,⟨L,o1⟩,q,?_⟩
  split at s1
  ·rename_i fs2 e2
   exact fun F2 H2 σ2 l2 k2=>s1 F2 H2 σ2 l2 k2
  ·exact s1.elim
 ·exact s1.elim
end
def Nw (K:PySem.W.Frag) (F:Wd) (H:Hp) (F':Wd) (H':Hp):Prop:=Le F H F' H'/\∀ B fs σ,Okk K F B H fs σ->Okk K F' B H' fs σ
theorem Nw.refl {K:PySem.W.Frag} {F:Wd} {H:Hp}:Nw K F H F H:=⟨Le.refl,fun _ _ _ h=>h⟩
def JOk (K:PySem.W.Frag) (F:Wd) (H:Hp) (J:It) (ts:List T):Prop:=∀ (F':Wd) (H':Hp),(∀ a,F a->F' a/\H' a=H a)->(∃ B fs σ,Okk K F' B H' fs σ)->∀ i,(∀ t,ts[i]?=some t->J.go i H'/\∀ x H'',J.yld i H' x H''->∃ F'',Nw K F' H' F'' H''/\AB K F'' H'' t x)/\(ts.length<=i->J.stop i H')
theorem JOk.within {K:PySem.W.Frag} {F:Wd} {p:Addr->Prop} {H:Hp} {J:It} {ts:List T} (h:JOk K F H J ts):JOk K ⟨F.f,p⟩ H J ts:=fun F2 H2 l2=>h F2 H2 l2
theorem Ac.lf {K:PySem.W.Frag} {F F':Wd} {H H':Hp} {ts:List T} {vs:List V} (l:∀ a,F a->F' a/\H' a=H a) (r:Ac K F H ts vs):Ac K F' H' ts vs :=
 Ac.le (F:=⟨F.f,fun _=>False⟩) ⟨l,fun _ z=>z.elim⟩ (Ac.wp r)
theorem StL.lf {K:PySem.W.Frag} {F F':Wd} {H H':Hp} {a:Addr} {vs:List V} (l:∀ a,F a->F' a/\H' a=H a) (r:StL K F H a vs):StL K F' H' a vs:=by
 rcases r with ⟨f,h⟩ | h
 ·exact .inl ⟨(l a f).1,FL.Rd.same h (l a f).2⟩
 ·exact .inr h
theorem stays {K:PySem.W.Frag} {F:Wd} {H H':Hp} {t:T} {x:V} (e:H'=H) (r:AB K F H t x):∃ F',Nw K F H F' H'/\AB K F' H' t x:=by subst e;exact ⟨F,Nw.refl,r⟩
def RJ (K:PySem.W.Frag) (B:Nat->Option V) (σ:St):Wd->Hp->FS->List T->It->Prop:=fun F H fs ts J=>Okk K F B H fs σ/\JOk K F H J ts
def tI (K:PySem.W.Frag) (Z:Xp) (f:FS->Out (List T)):TI:=fun σ H R=>∃ F B fs,Okk K F B H fs σ/\sat Z B (RJ K B σ) F H (f fs) R
def FI (X:Cx) (Z:Xp) (tg iter:Expr) (f:FS->Out (List T)):Prop:=PI X tg iter (tI X.K Z f)
theorem pi_imp {X:Cx} {tg e:Expr} {t t':TI} (h:PI X tg e t) (i:∀ σ H Q,t' σ H Q->t σ H Q):PI X tg e t':=fun pins s σ H Q I q=>h pins s σ H Q I (i _ _ _ q)
def signs (z:Str):List T:=z.cps.toList.map fun c=>T.str ⟨#[c]⟩
def upTo (lo:Int) (n:Nat):List T:=(List.range n).map fun i=>T.int (lo+(i:Nat))
def upBy (lo st:Int) (n:Nat):List T:=(List.range n).map fun i=>T.int (lo+(i:Nat) * st)
def itR1 (f:FS->Out (List Rv)):FS->Out (List T):=fun fs=>(f fs).bind fun rs fs=>match rs with
 | [.t (.int j)]=>if -(2 ^ 62)<=j/\j < 2 ^ 62 then .ok (upTo 0 j.toNat) fs else .bad
 | _=>.bad
def itR3 (f:FS->Out (List Rv)):FS->Out (List T):=fun fs=>(f fs).bind fun rs fs=>match rs with
 | [.t (.int i),.t (.int j),.t (.int c)]=>if 0 < c/\c < 1073741824/\Builtin.Range.small i j c=true/\0<=Builtin.Range.rangeSize i j c then .ok (upBy i c (Builtin.Range.rangeSize i j c).toNat) fs else .bad
 | _=>.bad
section
variable {X:Cx} {Z:Xp} {tg l a b c:Expr} {f:FS->Out Rv} {fa:FS->Out (List Rv)} {p pos:Pos} {K:PySem.W.Frag} {F:Wd} {H:Hp}
theorem jok_list {a:Addr} {vs:List V} {ts:List T} (hs:∀ (F':Wd) H',(∀ a,F a->F' a/\H' a=H a)->SqL K H' a vs) (r:Ac K F H ts vs):JOk K F H (Itl K a) ts:=by
 intro F' H' l _ i
 have r':=Ac.lf l r
 refine ⟨fun t et=>?_,fun hl=>⟨vs,hs F' H' l,by rw [r.len];exact hl⟩⟩
 obtain ⟨v,ev,rv⟩:=r'.at et
 refine ⟨⟨vs,v,hs F' H' l,ev⟩,fun x H'' hy=>stays hy.1 ?_⟩
 have:=hy.2 vs (hs F' H' l)
 rw [ev] at this
 cases this
 exact rv
theorem jok_tup {a:Addr} {vs:List V} {ts:List T} (hs:∀ (F':Wd) H',(∀ a,F a->F' a/\H' a=H a)->SqT K H' a vs) (r:Ac K F H ts vs):JOk K F H (Itt K a) ts:=by
 intro F' H' l _ i
 have r':=Ac.lf l r
 refine ⟨fun t et=>?_,fun hl=>⟨vs,hs F' H' l,by rw [r.len];exact hl⟩⟩
 obtain ⟨v,ev,rv⟩:=r'.at et
 refine ⟨⟨vs,v,hs F' H' l,ev⟩,fun x H'' hy=>stays hy.1 ?_⟩
 have:=hy.2 vs (hs F' H' l)
 rw [ev] at this
 cases this
 exact rv
theorem jok_range {lo:Int} {n:Nat}:JOk K F H (Itr lo n) (upTo lo n):=by
 intro F' H' l _ i
 refine ⟨fun t et=>?_,fun hl=>by unfold upTo at hl;simpa [Itr] using hl⟩
 unfold upTo at et
 rw [List.getElem?_map] at et
 have hi:i < n:=by
  by_cases h:i < n
  ·exact h
  ·rw [List.getElem?_eq_none (by simpa using h)] at et;cases et
 rw [List.getElem?_range hi] at et
 cases et
 exact ⟨hi,fun x H'' hy=>stays hy.1 hy.2⟩
theorem jok_ranges {lo st:Int} {n:Nat}:JOk K F H (Itrs lo st n) (upBy lo st n):=by
 intro F' H' l _ i
 refine ⟨fun t et=>?_,fun hl=>by unfold upBy at hl;simpa [Itrs] using hl⟩
 unfold upBy at et
 rw [List.getElem?_map] at et
 have hi:i < n:=by
  by_cases h:i < n
  ·exact h
  ·rw [List.getElem?_eq_none (by simpa using h)] at et;cases et
 rw [List.getElem?_range hi] at et
 cases et
 exact ⟨hi,fun x H'' hy=>stays hy.1 hy.2⟩
theorem jok_str {z:Str}:JOk K F H (Its z) (signs z):=by
 intro F' H' l _ i
 refine ⟨fun t et=>?_,fun hl=>by unfold signs at hl;simpa [Its] using hl⟩
 unfold signs at et
 rw [List.getElem?_map,Option.map_eq_some_iff] at et
 obtain ⟨c,ec,rfl⟩:=et
 have hi:i < z.cps.size:=by
  have:=(List.getElem?_eq_some_iff.mp ec).1
  simpa using this
 refine ⟨hi,fun x H'' hy=>stays hy.1 ?_⟩
 obtain ⟨c',e1,e2⟩:=hy.2
 rw [Array.getElem?_toList] at ec
 rw [ec] at e1
 cases e1
 exact e2
theorem Cq (hm:X.mg "range"=none) (ha:FA X Z [a] fa) (hg:Gl X "range":=by rfl) (hs:starEach [a] X.env=[(false,eval a X.env)]:=by rfl):FI X Z tg (.Call (.Name "range" p) [a] [] pos) (itR1 fa):=by
 refine pi_imp (pi_range1 hg hm ha hs) fun σ H Q ⟨F,B,fs,ok,s⟩=>⟨F,B,fs,ok,AD s fun rs fs1 F1 H1 us l q s1=>?_⟩
 obtain ⟨ok1,q⟩:=q
 split at s1
 ·rename_i j
  split at s1
  ·rename_i hj
   obtain ⟨v,rfl,qq⟩:=Bq q
   have q:=qq
   cases q
   exact ⟨j,rfl,hj.1,hj.2,s1 F1 H1 _ Le.refl ⟨ok1,jok_range⟩⟩
  ·exact s1.elim
 ·exact s1.elim
theorem fi_range3 (ha:FA X Z [a,b,c] fa)
  (h:∀ {ta:TA},PA X [a,b,c] ta->PI X tg (.Call (.Name "range" p) [a,b,c] [] pos) (iRng3 ta)):FI X Z tg (.Call (.Name "range" p) [a,b,c] [] pos) (itR3 fa):=by
 refine pi_imp (h ha) fun σ H Q ⟨F,B,fs,ok,s⟩=>⟨F,B,fs,ok,AD s fun rs fs1 F1 H1 us l q s1=>?_⟩
 obtain ⟨ok1,q⟩:=q
 split at s1
 ·rename_i i j k
  split at s1
  ·rename_i hj
   obtain ⟨v,w,rfl,q1,v2,w2,rfl,q2,v3,w3,rfl,q3,q4⟩:=q
   cases q1
   cases q2
   cases q3
   cases q4
   exact ⟨i,j,k,rfl,hj.1,hj.2.1,hj.2.2.1,hj.2.2.2,s1 F1 H1 _ Le.refl ⟨ok1,jok_ranges⟩⟩
  ·exact s1.elim
 ·exact s1.elim
end
def Dt (gt:T->FS->Option FS) (body:FS->SO):List T->FS->SO
 | [],fs=>.nx fs
 | t :: ts,fs=>match gt t fs with
  | none=>.bad
  | some fs=>match body fs with
   | .nx fs=>Dt gt body ts fs
   | .cnt fs=>Dt gt body ts fs
   | .brk fs=>.nx fs
   | o=>o
def Ds (src:FS->Out (List T)) (gt:T->FS->Option FS) (body:FS->SO):FS->SO:=fun fs=>SO.of (src fs) fun ts fs=>Dt gt body ts fs
section
variable {X:Cx} {Z:Xp} {tg iter c:Expr} {src:FS->Out (List T)} {gt:T->FS->Option FS} {g:FS->SO} {body:List Stmt} {pos:Pos} {fc:FS->Out Bool}
theorem Dm (hp:PassesOwn (model X.prog X.w) X.A X.env X.xe) (hc:X.calm=true) (hi:FI X Z tg iter src) (hg:GT X tg gt) (hb:GSs X Z body g)
  (hs:∀ x,foldedSetIterable iter X.env x=pure x:=by intro _;rfl):GS X Z (.For tg iter body [] pos) (Ds src gt g):=by
 refine Dk (ps_for hp hc hi hg hb hs) fun D σ H ⟨F,B,fs,ok,s⟩=>⟨F,B,fs,ok,CM s fun ts fs1 F1 H1 J l q s1=>?_⟩
 obtain ⟨ok1,jk⟩:=q
 refine ⟨fun i m σ H=>m=ts.length - i/\∃ F' fs',Le F1 H1 F' H/\Okk X.K F' B H fs' σ/\Fm X.K Z B F' H (Dt gt g (ts.drop i) fs') D,⟨ts.length,rfl,F1,fs1,Le.refl,ok1,s1⟩,?_⟩
 rintro i m σ H ⟨rfl,F2,fs2,l2,ok2,s2⟩
 by_cases hi:i < ts.length
 ·refine .inr ?_
  have ei:ts[i]?=some ts[i]:=List.getElem?_eq_getElem hi
  have ed:ts.drop i=ts[i] :: ts.drop (i+1):=List.drop_eq_getElem_cons hi
  rw [ed] at s2
  obtain ⟨j1,j2⟩:=(jk F2 H l2.f ⟨_,_,_,ok2⟩ i).1 _ ei
  refine ⟨j1,fun σ' H'=>∃ F' fs',Le F1 H1 F' H'/\Okk X.K F' B H' fs' σ'/\Fm X.K Z B F' H' (Dt gt g (ts.drop (i+1)) fs') D,fun σ' H' h=>⟨ts.length - (i+1),by omega,rfl,h⟩,fun x H' hy=>?_⟩
  obtain ⟨F2',⟨l22,nw⟩,rx⟩:=j2 x H' hy
  replace l2:=l2.trans l22
  replace s2:=Fm.le s2 l22
  replace ok2:=nw _ _ _ ok2
  refine ⟨F2',B,fs2,ts[i],ok2,rx,?_⟩
  simp only [Dt] at s2
  cases eg:gt ts[i] fs2 with
  | none=>rw [eg] at s2;exact s2.elim
  | some fs3 =>
   rw [eg] at s2
   intro F3 H3 σ3 l3 ok3
   refine ⟨F3,B,fs3,ok3,?_⟩
   have s3:=Fm.le s2 l3
   simp only at s3
   cases eb:g fs3 with
   | nx fs4 =>
    rw [eb] at s3
    exact fun F4 H4 σ4 l4 ok4=>⟨F4,fs4,(l2.trans l3).trans l4,ok4,Fm.le s3 l4⟩
   | cnt fs4 =>
    rw [eb] at s3
    exact fun F4 H4 σ4 l4 ok4=>⟨F4,fs4,(l2.trans l3).trans l4,ok4,Fm.le s3 l4⟩
   | brk fs4=>rw [eb] at s3;exact s3
   | ret r fs4=>rw [eb] at s3;exact s3
   | exc c fs4=>rw [eb] at s3;exact s3
   | bad=>rw [eb] at s3;exact s3
 ·refine .inl ⟨(jk F2 H l2.f ⟨_,_,_,ok2⟩ i).2 (by omega),?_⟩
  rw [List.drop_eq_nil_of_le (by omega)] at s2
  exact s2 F2 H σ Le.refl ok2
def CA (c:FS->Out Bool) (body:FS->SO):Nat->FS->SO
 | 0,_=>.bad
 | n+1,fs=>SO.of (c fs) fun b fs=>if b=true then (match body fs with
   | .nx fs=>CA c body n fs
   | .cnt fs=>CA c body n fs
   | .brk fs=>.nx fs
   | o=>o) else .nx fs
theorem gs_while (n:Nat) (hp:PassesOwn (model X.prog X.w) X.A X.env X.xe) (hc:FT X Z c fc) (hb:GSs X Z body g):GS X Z (.While c body [] pos) (CA fc g n):=by
 refine Dk (ps_while hp hc hb) fun D σ H ⟨F,B,fs,ok,s⟩=>?_
 refine ⟨fun m σ' H'=>∃ F' fs',Le F H F' H'/\Okk X.K F' B H' fs' σ'/\Fm X.K Z B F' H' (CA fc g m fs') D,⟨n,F,fs,Le.refl,ok,s⟩,?_⟩
 rintro m σ1 H1 ⟨F1,fs1,l1,ok1,s1⟩
 cases m with
 | zero=>exact s1.elim
 | succ m =>
  refine ⟨F1,B,fs1,ok1,CM s1 fun b fs2 F2 H2 b' l2 q s2=>?_⟩
  obtain ⟨ok2,rfl⟩:=q
  cases b' with
  | false =>
   rw [if_neg (by decide)] at s2 ⊢
   exact s2 F2 H2 σ1 Le.refl ok2
  | true =>
   rw [if_pos rfl] at s2 ⊢
   refine ⟨fun σ' H'=>∃ F' fs',Le F H F' H'/\Okk X.K F' B H' fs' σ'/\Fm X.K Z B F' H' (CA fc g m fs') D,fun σ' H' h=>⟨m,by omega,h⟩,F2,B,fs2,ok2,?_⟩
   cases eb:g fs2 with
   | nx fs4 =>
    rw [eb] at s2
    exact fun F4 H4 σ4 l4 ok4=>⟨F4,fs4,(l1.trans l2).trans l4,ok4,Fm.le s2 l4⟩
   | cnt fs4 =>
    rw [eb] at s2
    exact fun F4 H4 σ4 l4 ok4=>⟨F4,fs4,(l1.trans l2).trans l4,ok4,Fm.le s2 l4⟩
   | brk fs4=>rw [eb] at s2;exact s2
   | ret r fs4=>rw [eb] at s2;exact s2
   | exc c fs4=>rw [eb] at s2;exact s2
   | bad=>rw [eb] at s2;exact s2
end
end FL
namespace FL
open PySem PySem.Spec L2
section
variable {K:PySem.W.Frag} {F F':Wd} {H H':Hp} {B:Nat->Option V} {fs:FS} {σ:St} {L:List Addr}
theorem Ao.toP:∀ {fs:FS} {σ:St} {L:List Addr},Ao K F H fs σ L->∃ ℓ:Nat->List Addr,(∀ i s,fs[i]?=some s->∃ v,σ[i]?=some v/\SlOk K F H s v (ℓ i))/\(∀ i a,a∈ℓ i->a∈L) /\
  (L.Nodup->(∀ i,(ℓ i).Nodup)/\∀ i j a,i≠j->a∈ℓ i->a∉ℓ j)/\∀ i,fs.length<=i->ℓ i=[]
 | [],σ,L,h=>⟨fun _=>[],(fun i s e=>by simp at e),(fun i a m=>nomatch m),(fun _=>⟨fun _=>List.nodup_nil,(fun _ _ _ _ m=>nomatch m)⟩),fun _ _=>rfl⟩
 | s :: r,σ,L,h=>by
  obtain ⟨v,σ',L1,L2,rfl,h1,h2,rfl⟩:=h.uncons
  obtain ⟨ℓ,q1,q2,q3,q4⟩:=Ao.toP h2
  refine ⟨fun i=>match i with | 0=>L1 | i+1=>ℓ i,fun i s' e=>?_,fun i a m=>?_,fun nd=>?_,fun i hi=>?_⟩
  ·cases i with
   | zero =>
    simp at e
    subst e
    exact ⟨v,rfl,h1⟩
   | succ i =>
    obtain ⟨w,e1,e2⟩:=q1 i s' (by simpa using e)
    exact ⟨w,by simpa using e1,e2⟩
  ·cases i with
   | zero=>exact List.mem_append_left _ m
   | succ i=>exact List.mem_append_right _ (q2 i a m)
  ·rw [List.nodup_append] at nd
   obtain ⟨n1,n2,n3⟩:=nd
   obtain ⟨m1,m2⟩:=q3 n2
   refine ⟨fun i=>?_,fun i j a hij hi hj=>?_⟩
   ·cases i with
    | zero=>exact n1
    | succ i=>exact m1 i
   ·cases i with
    | zero =>
     cases j with
     | zero=>exact hij rfl
     | succ j=>exact n3 a hi a (q2 j a hj) rfl
    | succ i =>
     cases j with
     | zero=>exact n3 a hj a (q2 i a hi) rfl
     | succ j=>exact m2 i j a (fun e=>hij (by rw [e])) hi hj
  ·cases i with
   | zero=>simp at hi
   | succ i=>exact q4 i (by simpa using hi)
theorem Ao.ofP:∀ {fs:FS} {σ:St} (ℓ:Nat->List Addr),σ.length=fs.length->(∀ i s,fs[i]?=some s->∃ v,σ[i]?=some v/\SlOk K F H s v (ℓ i))->(∀ i,(ℓ i).Nodup)->(∀ i j a,i≠j->a∈ℓ i->a∉ℓ j) ->
  ∃ L,Ao K F H fs σ L/\L.Nodup/\∀ a∈L,∃ i,i < fs.length/\a∈ℓ i
 | [],σ,ℓ,hl,h,nd,dj=>by
  have:σ=[]:=List.eq_nil_of_length_eq_zero (by simpa using hl)
  subst this
  exact ⟨[],⟨rfl,rfl⟩,List.nodup_nil,fun _ m=>nomatch m⟩
 | s :: r,[],ℓ,hl,h,nd,dj=>by simp at hl
 | s :: r,v :: σ,ℓ,hl,h,nd,dj=>by
  obtain ⟨L,h1,h2,h3⟩:=Ao.ofP (fs:=r) (σ:=σ) (fun i=>ℓ (i+1)) (by simpa using hl) (fun i s' e=>by
   obtain ⟨w,e1,e2⟩:=h (i+1) s' (by simpa using e)
   exact ⟨w,by simpa using e1,e2⟩) (fun i=>nd (i+1)) (fun i j a hij=>dj (i+1) (j+1) a (by omega))
  obtain ⟨w,e1,e2⟩:=h 0 s rfl
  simp at e1
  subst e1
  refine ⟨ℓ 0++L,Ao.cons e2 h1,?_,fun a m=>?_⟩
  ·rw [List.nodup_append]
   refine ⟨nd 0,h2,fun a ha b hb e=>?_⟩
   obtain ⟨i,_,hi⟩:=h3 b hb
   exact dj 0 (i+1) a (by omega) ha (by rw [e];exact hi)
  ·rcases List.mem_append.mp m with m | m
   ·exact ⟨0,by simp,m⟩
   ·obtain ⟨i,hi,q⟩:=h3 a m
    exact ⟨i+1,by simp;exact hi,q⟩
theorem Ok.take (h:Ok K F B H fs σ L) (n:Nat):∃ L',Ok K F B H (fs.take n) (σ.take n) L'/\∀ a∈L',a∈L:=by
 obtain ⟨ℓ,q1,q2,q3,q4⟩:=h.sl.toP
 obtain ⟨n1,n2⟩:=q3 h.nd
 have hl:(σ.take n).length=(fs.take n).length:=by rw [List.length_take,List.length_take,h.sl.len]
 obtain ⟨L',p1,p2,p3⟩:=Ao.ofP (K:=K) (F:=F) (H:=H) (fs:=fs.take n) (σ:=σ.take n) ℓ hl (fun i s e=>by
  have hi:i < n:=by
   have:=(List.getElem?_eq_some_iff.mp e).1
   rw [List.length_take] at this
   omega
  rw [List.getElem?_take_of_lt hi] at e ⊢
  exact q1 i s e) n1 n2
 have sub:∀ a∈L',a∈L:=fun a m=>let ⟨i,_,q⟩:=p3 a m;q2 i a q
 refine ⟨L',⟨p1,p2,fun a m=>h.nf a (sub a m),h.fd,fun i o e=>?_,h.pd,h.pf,fun a m=>h.pl a (sub a m)⟩,sub⟩
 have hi:i < n:=by
  have:=(List.getElem?_eq_some_iff.mp e).1
  rw [List.length_take] at this
  omega
 rw [List.getElem?_take_of_lt hi] at e ⊢
 exact h.bo i o e
theorem RR.take {r:Rv} {u:V} (h:RR K B σ F H fs r u) (n:Nat) (hr:∀ i,r≠.rf i):RR K B (σ.take n) F H (fs.take n) r u:=by
 obtain ⟨L,L',ok,q,nd,nf⟩:=h
 obtain ⟨L2,ok2,sub⟩:=ok.take n
 refine ⟨L2,L',ok2,?_,?_,nf⟩
 ·cases r with
  | t t=>exact q
  | nw o=>exact q
  | rf i=>exact (hr i rfl).elim
 ·rw [List.nodup_append] at nd ⊢
  exact ⟨ok2.nd,nd.2.1,fun a ha b hb=>nd.2.2 a (sub a ha) b hb⟩
theorem Ok.more (h:Ok K F B H fs σ L) (n:Nat):Ok K F B H (fs++List.replicate n none) (σ++List.replicate n none) L:=by
 have key:∀ n:Nat,Ao K F H (List.replicate n none) (List.replicate n none) []:=by
  intro n
  induction n with
  | zero=>exact ⟨rfl,rfl⟩
  | succ n ih =>
   rw [List.replicate_succ,List.replicate_succ]
   simp only [Ao]
   exact ⟨none,_,rfl,ih⟩
 have app:∀ {fs gs:FS} {σ τ:St} {L M:List Addr},Ao K F H fs σ L->Ao K F H gs τ M->Ao K F H (fs++gs) (σ++τ) (L++M):=by
  intro fs
  induction fs with
  | nil =>
   intro gs σ τ L M h1 h2
   simp only [Ao] at h1
   obtain ⟨rfl,rfl⟩:=h1
   exact h2
  | cons s r ih =>
   intro gs σ τ L M h1 h2
   obtain ⟨v,σ',L1,L2,rfl,q1,q2,rfl⟩:=h1.uncons
   have:=Ao.cons q1 (ih q2 h2)
   simpa using this
 refine ⟨by simpa using app h.sl (key n),h.nd,h.nf,h.fd,fun i o e=>?_,h.pd,h.pf,h.pl⟩
 by_cases hi:i < fs.length
 ·rw [List.getElem?_append_left hi] at e
  obtain ⟨v,e1,e2⟩:=h.bo i o e
  exact ⟨v,by rw [List.getElem?_append_left (by rw [h.sl.len];exact hi)];exact e1,e2⟩
 ·rw [List.getElem?_append_right (by omega)] at e
  have:=List.mem_of_getElem? e
  simp at this
theorem RR.mv {u:V} {i:Nat} {o:FO} (q:RR K B σ F H fs (.rf i) u) (es:fs[i]?=some (some (.own o))):RR K B σ F H (fs.set i none) (.nw o) u:=by
 obtain ⟨L,L',o1,⟨_,q⟩,nd,nf⟩:=q
 obtain ⟨v,L1,L2,L3,e1,rfl,h1,h2⟩:=o1.sl.pick es
 obtain ⟨w,rfl,q2⟩:=h1
 rw [e1] at q
 have eu:w=u:=by simpa using q
 subst eu
 have h3:=h2 F H none (some w) [] Le.refl (fun _ _=>rfl) rfl
 rw [BD e1] at h3
 have nd1:=o1.nd
 refine ⟨L1++([]++L3),L2,⟨h3,BU nd1 List.nodup_nil (fun _ m=>nomatch m),fun a m=>o1.nf a ?_,o1.fd,?_,o1.pd,o1.pf,fun a m=>o1.pl a ?_⟩,q2,?_,fun a m=>⟨o1.nf a (by simp [m]),o1.pl a (by simp [m])⟩⟩
 ·have m':a∈L1∨a∈L3:=by simpa using m
  rcases m' with m | m <;> simp [m]
 ·have:=E6.put (i:=i) (s:=none) (v:=some w) o1.bo (fun o eo=>by cases eo) o1.sl.len
  rwa [BD e1] at this
 ·have m':a∈L1∨a∈L3:=by simpa using m
  rcases m' with m | m <;> simp [m]
 ·have p:(L1++(L2++L3)).Perm ((L1++([]++L3))++L2):=by
   rw [List.nil_append,List.append_assoc]
   exact List.Perm.append_left _ List.perm_append_comm
  exact p.nodup_iff.mp nd1
end
inductive Ini where
 | no | val (t:T) | slot (j:Nat) | new (o:FO)
def ini1 (fs:FS):Ini->Option Sl
 | .no=>none
 | .val t=>some (.val t)
 | .new o=>some (.bor o)
 | .slot j=>match fs[j]? with
  | some (some (.val t))=>some (.val t)
  | some (some (.own o))=>some (.bor o)
  | some (some (.bor o))=>some (.bor o)
  | _=>none
def D9 (fs:FS) (is:List Ini):FS:=is.map (ini1 fs)
def Cg (fs:FS):Ini->Option Nat
 | .slot j=>if (AE fs j).isSome=true then some j else none
 | _=>none
def Ct (fs:FS) (is:List Ini):List Nat:=is.filterMap (Cg fs)
def placeOf (fs:FS) (j:Nat):List Ini->Nat->Option Nat
 | [],_=>none
 | i :: r,k=>if Cg fs i=some j then some k else placeOf fs j r (k+1)
def back1 (fs:FS) (is:List Ini) (τ:FS) (j:Nat) (s:Option Sl):Option (Option Sl):=match placeOf fs j is 0 with
 | none=>some s
 | some k=>match τ[k]?,s with
  | some (some (.bor o)),some s=>some (some (s.put o))
  | _,_=>none
def backL (fs:FS) (is:List Ini) (τ:FS):Nat->FS->Option FS
 | _,[]=>some []
 | j,s :: r=>match back1 fs is τ j s,backL fs is τ (j+1) r with
  | some s',some r'=>some (s' :: r')
  | _,_=>none
def HA (is:List Ini) (τ fs:FS):Option FS:=backL fs is τ 0 fs
theorem placeOf_some {fs:FS} {j:Nat}:∀ {is:List Ini} {k k':Nat},placeOf fs j is k=some k'->k<=k'/\∃ i,is[k' - k]?=some i/\Cg fs i=some j
 | [],_,_,e=>by simp [placeOf] at e
 | i :: r,k,k',e=>by
  simp only [placeOf] at e
  split at e
  ·rename_i h
   cases e
   exact ⟨Nat.le_refl _,i,by simp,h⟩
  ·obtain ⟨h1,i',h2,h3⟩:=placeOf_some e
   refine ⟨by omega,i',?_,h3⟩
   rw [show k' - k=(k' - (k+1))+1 by omega]
   simpa using h2
theorem placeOf_none {fs:FS} {j:Nat}:∀ {is:List Ini} {k:Nat},placeOf fs j is k=none->j∉Ct fs is
 | [],_,_,h=>by simp [Ct] at h
 | i :: r,k,e,h=>by
  simp only [placeOf] at e
  split at e
  ·cases e
  ·rename_i hn
   unfold Ct at h
   rw [List.filterMap_cons] at h
   cases q:Cg fs i with
   | none =>
    rw [q] at h
    exact placeOf_none e h
   | some j' =>
    rw [q] at h
    rcases List.mem_cons.mp h with h | h
    ·exact hn (by rw [q,h])
    ·exact placeOf_none e h
theorem Ha {fs:FS}:∀ {is:List Ini} {k k':Nat} {i i':Ini} {j:Nat},(Ct fs is).Nodup->is[k]?=some i->is[k']?=some i'->Cg fs i=some j->Cg fs i'=some j->k=k'
 | [],_,_,_,_,_,_,e,_,_,_=>by simp at e
 | i0 :: r,k,k',i,i',j,nd,e,e',h,h'=>by
  have mem:∀ {m:Nat} {x:Ini},r[m]?=some x->Cg fs x=some j->j∈Ct fs r:=fun hm hx=>List.mem_filterMap.mpr ⟨_,List.mem_of_getElem? hm,hx⟩
  unfold Ct at nd
  rw [List.filterMap_cons] at nd
  cases k with
  | zero =>
   simp at e
   subst e
   rw [h] at nd
   have nd':(j :: Ct fs r).Nodup:=nd
   cases k' with
   | zero=>rfl
   | succ k'=>exact ((List.nodup_cons.mp nd').1 (mem (by simpa using e') h')).elim
  | succ k =>
   cases k' with
   | zero =>
    simp at e'
    subst e'
    rw [h'] at nd
    have nd':(j :: Ct fs r).Nodup:=nd
    exact ((List.nodup_cons.mp nd').1 (mem (by simpa using e) h)).elim
   | succ k' =>
    have nd':(Ct fs r).Nodup:=by
     cases q:Cg fs i0 with
     | none=>rw [q] at nd;exact nd
     | some j'=>rw [q] at nd;exact (List.nodup_cons.mp nd).2
    exact congrArg (·+1) (Ha (k:=k) (k':=k') nd' (by simpa using e) (by simpa using e') h h')
theorem backL_at {fs:FS} {is:List Ini} {τ:FS}:∀ {r r':FS} {j:Nat},backL fs is τ j r=some r'->r'.length=r.length/\∀ i s,r[i]?=some s->∃ s',r'[i]?=some s'/\back1 fs is τ (j+i) s=some s'
 | [],_,_,e=>by
  simp only [backL] at e
  cases e
  exact ⟨rfl,fun i s q=>by simp at q⟩
 | s :: r,_,j,e=>by
  simp only [backL] at e
  split at e
  ·rename_i s' r' h1 h2
   cases e
   obtain ⟨q1,q2⟩:=backL_at h2
   refine ⟨by simp [q1],fun i s0 q=>?_⟩
   cases i with
   | zero =>
    simp at q
    subst q
    exact ⟨s',rfl,h1⟩
   | succ i =>
    obtain ⟨s1,e1,e2⟩:=q2 i s0 (by simpa using q)
    exact ⟨s1,by simpa using e1,by rw [show j+(i+1)=j+1+i by omega];exact e2⟩
  ·cases e
def IniOk (K:PySem.W.Frag) (F:Wd) (H:Hp) (σ:St) (i:Ini) (v:Option V) (M:List Addr):Prop:=match i with
 | .no=>True
 | .val t=>∃ u,v=some u/\AB K F H t u
 | .slot j=>σ[j]?=some v
 | .new o=>∃ u,v=some u/\AO K F H o u M
structure Mu (F:Wd) (H:Hp) (L:List Addr) (μ:Nat->List Addr):Prop where
 out:∀ k a,a∈μ k->¬ F a/\¬ F.p a/\a∉L/\H a≠none
 nd:∀ k,(μ k).Nodup
 dj:∀ k k' a,k≠k'->a∈μ k->a∉μ k'
theorem Mu.no {F:Wd} {H:Hp} {L:List Addr}:Mu F H L (fun _=>[]):=⟨(fun _ _ m=>nomatch m),fun _=>List.nodup_nil,(fun _ _ _ _ m=>nomatch m)⟩
theorem lend {K:PySem.W.Frag} {F:Wd} {H:Hp} {B:Nat->Option V} {fs:FS} {σ σi:St} {is:List Ini} {L:List Addr} {μ:Nat->List Addr} (ok:Ok K F B H fs σ L) (hl:σi.length=is.length) (hi:∀ (k:Nat) (i:Ini) (v:Option V),is[k]?=some i->σi[k]?=some v->IniOk K F H σ i v (μ k)) (nd:(Ct fs is).Nodup) (hμ:Mu F H L μ) :
  ∃ P:Addr->Prop,(∀ a,F.p a->P a)/\Okk K ⟨F.f,P⟩ (fun k=>(σi[k]?).join) H (D9 fs is) σi/\(∀ a,P a->H a≠none) /\
   ∀ (F2:Wd) (H2:Hp) (τ:FS) (σ2:St) (Li:List Addr) (fs':FS),Le ⟨F.f,P⟩ H F2 H2->Ok K F2 (fun k=>(σi[k]?).join) H2 τ σ2 Li->HA is τ fs=some fs' ->
    Le F H ⟨F2.f,F.p⟩ H2/\∃ L,Ok K ⟨F2.f,F.p⟩ B H2 fs' σ L/\∀ a∈L,a∈Li∨P a:=by
 obtain ⟨ℓ,q1,q2,q3,q4⟩:=ok.sl.toP
 obtain ⟨n1,n2⟩:=q3 ok.nd
 have objSl:∀ j,(AE fs j).isSome=true->∃ o s,AE fs j=some o/\fs[j]?=some (some s)/\(s=.own o∨s=.bor o):=by
  intro j hj
  unfold AE at hj ⊢
  split at hj
  ·rename_i o es
   exact ⟨o,_,rfl,es,.inl rfl⟩
  ·rename_i o es
   exact ⟨o,_,rfl,es,.inr rfl⟩
  ·cases hj
 refine ⟨fun a=>F.p a∨∃ j,a∈ℓ j/\j∉Ct fs is,fun a p=>.inl p,?_,fun a p=>?_,?_⟩
 ·
  obtain ⟨L',p1,p2,p3⟩:=Ao.ofP (K:=K) (F:=⟨F.f,fun a=>F.p a∨∃ j,a∈ℓ j/\j∉Ct fs is⟩) (H:=H) (fs:=D9 fs is) (σ:=σi) (fun k=>match is[k]? with | some i=>(match Cg fs i with | some j=>ℓ j | none=>(match i with | .new _=>μ k | _=>[])) | none=>[]) (by unfold D9;rw [List.length_map];exact hl)
   (fun k s e=>by
    unfold D9 at e
    rw [List.getElem?_map,Option.map_eq_some_iff] at e
    obtain ⟨i,ei,rfl⟩:=e
    have hk:k < σi.length:=by rw [hl];exact (List.getElem?_eq_some_iff.mp ei).1
    refine ⟨σi[k],List.getElem?_eq_getElem hk,?_⟩
    have io:=hi k i _ ei (List.getElem?_eq_getElem hk)
    simp only [ei]
    have lw:∀ (t:T) (u:V),AB K F H t u->AB K ⟨F.f,fun a=>F.p a∨∃ j,a∈ℓ j/\j∉Ct fs is⟩ H t u:=fun t u r=>AB.wp r
    cases i with
    | no=>rfl
    | val t =>
     obtain ⟨u,eu,r⟩:=io
     exact ⟨u,eu,lw t u r,rfl⟩
    | new o =>
     obtain ⟨u,eu,r⟩:=io
     exact ⟨u,eu,AO.wp r⟩
    | slot j =>
     have ej:σ[j]?=some σi[k]:=io
     simp only [ini1,Cg]
     cases es:fs[j]? with
     | none =>
      have:AE fs j=none:=by unfold AE;rw [es]
      rw [this]
      rfl
     | some s =>
      obtain ⟨v,e1,e2⟩:=q1 j s es
      rw [ej] at e1
      cases e1
      cases s with
      | none =>
       have:AE fs j=none:=by unfold AE;rw [es]
       rw [this]
       rfl
      | some s =>
       cases s with
       | val t =>
        have:AE fs j=none:=by unfold AE;rw [es]
        rw [this]
        obtain ⟨u,eu,r,_⟩:=e2
        exact ⟨u,eu,lw t u r,rfl⟩
       | own o =>
        have:AE fs j=some o:=by unfold AE;rw [es]
        rw [this]
        obtain ⟨u,eu,r⟩:=e2
        exact ⟨u,eu,AO.wp r⟩
       | bor o =>
        have:AE fs j=some o:=by unfold AE;rw [es]
        rw [this]
        obtain ⟨u,eu,r⟩:=e2
        exact ⟨u,eu,AO.wp r⟩)
   (fun k=>by
    try dsimp only
    split
    ·split
     ·exact n1 _
     ·split
      ·exact hμ.nd _
      ·exact List.nodup_nil
    ·exact List.nodup_nil)
   (fun k k' a hk ha hb=>by
    try dsimp only at ha hb
    split at ha
    ·rename_i i ei
     split at ha
     ·rename_i j ej
      split at hb
      ·rename_i i' ei'
       split at hb
       ·rename_i j' ej'
        by_cases e:j=j'
        ·subst e
         exact hk (Ha nd ei ei' ej ej')
        ·exact n2 j j' a e ha hb
       ·split at hb
        ·exact (hμ.out _ a hb).2.2.1 (q2 j a ha)
        ·cases hb
      ·cases hb
     ·split at ha
      ·split at hb
       ·split at hb
        ·rename_i j' ej'
         exact (hμ.out _ a ha).2.2.1 (q2 j' a hb)
        ·split at hb
         ·exact hμ.dj k k' a hk ha hb
         ·cases hb
       ·cases hb
      ·cases ha
    ·cases ha)
  have mem:∀ a∈L',(∃ j,j∈Ct fs is/\a∈ℓ j)∨∃ k,a∈μ k:=fun a m=>by
   obtain ⟨k,_,q⟩:=p3 a m
   try dsimp only at q
   split at q
   ·rename_i i ei
    split at q
    ·rename_i j ej
     exact .inl ⟨j,List.mem_filterMap.mpr ⟨i,List.mem_of_getElem? ei,ej⟩,q⟩
    ·split at q
     ·exact .inr ⟨k,q⟩
     ·cases q
   ·cases q
  refine ⟨L',p1,p2,fun a m=>?_,ok.fd,fun k o e=>?_,fun a p=>?_,fun a f p=>?_,fun a m p=>?_⟩
  ·rcases mem a m with ⟨j,_,q⟩ | ⟨k,q⟩
   ·exact ok.nf a (q2 j a q)
   ·exact (hμ.out k a q).1
  ·unfold D9 at e
   rw [List.getElem?_map,Option.map_eq_some_iff] at e
   obtain ⟨i,ei,e⟩:=e
   have hk:k < σi.length:=by rw [hl];exact (List.getElem?_eq_some_iff.mp ei).1
   cases i with
   | no=>cases e
   | val t=>cases e
   | new o' =>
    obtain ⟨u,eu,_⟩:=hi k _ _ ei (List.getElem?_eq_getElem hk)
    exact ⟨u,by rw [List.getElem?_eq_getElem hk,eu],by show (σi[k]?).join=some u;rw [List.getElem?_eq_getElem hk,eu];rfl⟩
   | slot j =>
    have ej:σ[j]?=some σi[k]:=hi k _ _ ei (List.getElem?_eq_getElem hk)
    simp only [ini1] at e
    have:∃ o s,fs[j]?=some (some s)/\(s=.own o∨s=.bor o):=by
     split at e
     ·cases e
     ·rename_i o' es
      exact ⟨o',_,es,.inl rfl⟩
     ·rename_i o' es
      exact ⟨o',_,es,.inr rfl⟩
     ·cases e
    obtain ⟨o',s,es,hs⟩:=this
    obtain ⟨v,e1,e2⟩:=q1 j _ es
    rw [ej] at e1
    cases e1
    obtain ⟨u,eu⟩:∃ u,σi[k]=some u:=by
     rcases hs with rfl | rfl
     ·exact ⟨_,e2.choose_spec.1⟩
     ·exact ⟨_,e2.choose_spec.1⟩
    exact ⟨u,by rw [List.getElem?_eq_getElem hk,eu],by show (σi[k]?).join=some u;rw [List.getElem?_eq_getElem hk,eu];rfl⟩
  ·rcases p with p | ⟨j,p,_⟩
   ·exact ok.pd a p
   ·exact ok.sl.def a (q2 j a p)
  ·rcases p with p | ⟨j,p,_⟩
   ·exact ok.pf a f p
   ·exact ok.nf a (q2 j a p) f
  ·rcases mem a m with ⟨j,hj,q⟩ | ⟨k,q⟩
   ·rcases p with p | ⟨j',p,hj'⟩
    ·exact ok.pl a (q2 j a q) p
    ·by_cases e:j=j'
     ·subst e
      exact hj' hj
     ·exact n2 j j' a e q p
   ·rcases p with p | ⟨j',p,hj'⟩
    ·exact (hμ.out k a q).2.1 p
    ·exact (hμ.out k a q).2.2.1 (q2 j' a p)
 ·rcases p with p | ⟨j,p,_⟩
  ·exact ok.pd a p
  ·exact ok.sl.def a (q2 j a p)
 ·
  intro F2 H2 τ σ2 Li fs' l ok2 eb
  have le:Le F H ⟨F2.f,F.p⟩ H2:=⟨fun a f=>l.f a f,fun a f=>⟨f,(l.p a (.inl f)).2⟩⟩
  obtain ⟨ℓ2,r1,r2,r3,r4⟩:=ok2.sl.toP
  obtain ⟨m1,m2⟩:=r3 ok2.nd
  obtain ⟨b1,b2⟩:=backL_at eb
  have restP:∀ j a,a∈ℓ j->j∉Ct fs is->F2.p a/\H2 a=H a:=fun j a q hj=>l.p a (.inr ⟨j,q,hj⟩)
  refine ⟨le,?_⟩
  obtain ⟨L',p1,p2,p3⟩:=Ao.ofP (K:=K) (F:=⟨F2.f,F.p⟩) (H:=H2) (fs:=fs') (σ:=σ) (fun j=>match placeOf fs j is 0 with | some k=>ℓ2 k | none=>ℓ j) (by rw [b1];exact ok.sl.len)
   (fun j s' e=>by
    have hj:j < fs.length:=by rw [<- b1];exact (List.getElem?_eq_some_iff.mp e).1
    obtain ⟨s1,e1,e2⟩:=b2 j fs[j] (List.getElem?_eq_getElem hj)
    rw [e] at e1
    cases e1
    rw [Nat.zero_add] at e2
    obtain ⟨v,e3,e4⟩:=q1 j fs[j] (List.getElem?_eq_getElem hj)
    refine ⟨v,e3,?_⟩
    unfold back1 at e2
    cases ep:placeOf fs j is 0 with
    | none =>
     rw [ep] at e2
     cases e2
     have hn:=placeOf_none ep
     exact SlOk.le le (fun a m=>(restP j a m hn).2) e4
    | some k =>
     rw [ep] at e2
     obtain ⟨_,i,ei,hlo⟩:=placeOf_some ep
     rw [Nat.sub_zero] at ei
     dsimp only at e2 ⊢
     split at e2
     ·rename_i o s et es
      cases e2
      obtain ⟨w,e5,e6⟩:=r1 k _ et
      obtain ⟨u,e7,e8⟩:=ok2.bo k o et
      rw [e5] at e7
      cases e7
      have ij:i=.slot j:=by
       cases i with
       | no=>cases hlo
       | val t=>cases hlo
       | new o=>cases hlo
       | slot j' =>
        simp only [Cg] at hlo
        split at hlo
        ·cases hlo;rfl
        ·cases hlo
      subst ij
      have hk:k < σi.length:=by rw [hl];exact (List.getElem?_eq_some_iff.mp ei).1
      have io:σ[j]?=some σi[k]:=hi k _ _ ei (List.getElem?_eq_getElem hk)
      rw [e3] at io
      cases io
      have e9:(σi[k]?).join=some u:=e8
      rw [List.getElem?_eq_getElem hk] at e9
      have e10:σi[k]=some u:=by simpa using e9
      rw [e10]
      obtain ⟨u',eu,ro⟩:=e6
      cases eu
      have ob:∃ o0,s=.own o0∨s=.bor o0:=by
       simp only [Cg] at hlo
       split at hlo
       ·rename_i hob
        obtain ⟨o0,s0,_,es0,hs0⟩:=objSl j hob
        rw [List.getElem?_eq_getElem hj,es] at es0
        cases es0
        exact ⟨o0,hs0⟩
       ·cases hlo
      obtain ⟨o0,ob⟩:=ob
      have ro':AO K ⟨F2.f,F.p⟩ H2 o u (ℓ2 k):=AO.wp ro
      rcases ob with rfl | rfl
      ·exact ⟨u,rfl,ro'⟩
      ·exact ⟨u,rfl,ro'⟩
     ·cases e2)
   (fun j=>by
    try dsimp only
    split
    ·exact m1 _
    ·exact n1 _)
   (fun j j' a hj ha hb=>by
    try dsimp only at ha hb
    split at ha
    ·rename_i k ek
     split at hb
     ·rename_i k' ek'
      by_cases e:k=k'
      ·subst e
       obtain ⟨_,i,ei,h1⟩:=placeOf_some ek
       obtain ⟨_,i',ei',h2⟩:=placeOf_some ek'
       rw [ei] at ei'
       cases ei'
       rw [h1] at h2
       cases h2
       exact hj rfl
      ·exact m2 k k' a e ha hb
     ·rename_i ek'
      exact ok2.pl a (r2 k a ha) (restP j' a hb (placeOf_none ek')).1
    ·rename_i ek
     split at hb
     ·rename_i k' ek'
      exact ok2.pl a (r2 k' a hb) (restP j a ha (placeOf_none ek)).1
     ·exact n2 j j' a hj ha hb)
  have src:∀ a∈L',(a∈Li/\¬ F2.p a)∨∃ j,a∈ℓ j/\j∉Ct fs is:=fun a m=>by
   obtain ⟨j,_,q⟩:=p3 a m
   try dsimp only at q
   split at q
   ·rename_i k ek
    exact .inl ⟨r2 k a q,ok2.pl a (r2 k a q)⟩
   ·rename_i ek
    exact .inr ⟨j,q,placeOf_none ek⟩
  refine ⟨L',⟨p1,p2,fun a m f=>?_,fun a f=>ok2.fd a f,fun j o e=>?_,fun a p=>?_,fun a f p=>?_,fun a m p=>?_⟩,fun a m=>?_⟩
  ·rcases src a m with ⟨q,_⟩ | ⟨j,q,hj⟩
   ·exact ok2.nf a q f
   ·exact ok2.pf a f (restP j a q hj).1
  ·have hj:j < fs.length:=by rw [<- b1];exact (List.getElem?_eq_some_iff.mp e).1
   obtain ⟨s1,e1,e2⟩:=b2 j fs[j] (List.getElem?_eq_getElem hj)
   rw [e] at e1
   cases e1
   rw [Nat.zero_add] at e2
   have:∃ o',fs[j]?=some (some (.bor o')):=by
    unfold back1 at e2
    split at e2
    ·exact ⟨o,by rw [List.getElem?_eq_getElem hj];exact e2⟩
    ·split at e2
     ·rename_i o1 s et es
      cases s with
      | val t=>cases e2
      | own o2=>cases e2
      | bor o2=>exact ⟨o2,by rw [List.getElem?_eq_getElem hj,es]⟩
     ·cases e2
   obtain ⟨o',eo⟩:=this
   exact ok.bo j o' eo
  ·rw [(l.p a (.inl p)).2]
   exact ok.pd a p
  ·exact ok2.pf a f (l.p a (.inl p)).1
  ·rcases src a m with ⟨_,q⟩ | ⟨j,q,hj⟩
   ·exact q (l.p a (.inl p)).1
   ·exact ok.pl a (q2 j a q) p
  ·rcases src a m with ⟨q,_⟩ | ⟨j,q,hj⟩
   ·exact .inl q
   ·exact .inr (.inr ⟨j,q,hj⟩)
end FL
namespace FL
open PySem PySem.Spec L2
def Bof (σ:St):Nat->Option V:=fun k=>(σ[k]?).join
def spF (K:PySem.W.Frag) (p:Nat) (Fn:FS->Out Rv):Sp:=fun vs H Q _=>vs.length=p/\∃ F fs0,Okk K F (Bof (vs.map some)) H fs0 (vs.map some)/\match Fn fs0 with
 | .ok r τ=>∀ F' H' u σ',Le F H F' H'->RR K (Bof (vs.map some)) σ' F' H' τ r u->Q u H'
 | _=>False
def D7 (n:Nat) (g:FS->SO):FS->Out Rv:=fun args=>match g (args++List.replicate n none) with
 | .nx τ=>.ok (.t .non) (τ.take args.length)
 | .ret (.t t) τ=>.ok (.t t) (τ.take args.length)
 | .ret (.nw o) τ=>.ok (.nw o) (τ.take args.length)
 | .ret (.rf i) τ=>match τ[i]? with
  | some (some (.own o))=>.ok (.nw o) ((τ.set i none).take args.length)
  | _=>.bad
 | .exc c τ=>.exc c (τ.take args.length)
 | _=>.bad
section
variable {P:Program} {w:World} {K:PySem.W.Frag} {mg:Str->Option Value} {base:Heap}
theorem Eb {x qual:Str} {st:Stmt} {f:Addr} {fd:FuncData} {N ps:List Str} {k:Nat} {g:FS->SO} (Fu:Fun K x qual st f fd) (S:Bh N ps (Aq st)) (p n:Nat) (hp:ps.length=p) (hn:N.length=p+n)
  (hb:∀ cdv (A:Around) outer (s:Shared) H E,E8 k (A.deeper (PyProof.Rows.envOfC qual (Aq st) s.heap.objs.size f cdv))->GSs (cxOf CX0 P w K mg base N qual (Aq st) f cdv A outer s H E).nox Xp.no (A1 st) g):Dh P w K mg base CX0 (k+1) f fd ps (spF K p (D7 n g)):=by
 refine Fu.ok S (fun vs H Q E h=>by rw [h.1,hp]) (fun cdv A outer s H vs Q E hr h=>⟨_,hb cdv A outer s H E hr,?_⟩)
 obtain ⟨hl,F,fs0,⟨L,ok⟩,h⟩:=h
 have hfl:fs0.length=p:=by rw [<- ok.sl.len,List.length_map];exact hl
 have es:L2.start N vs=vs.map some++List.replicate n none:=by
  unfold L2.start
  rw [hl,hn,Nat.add_sub_cancel_left]
 rw [es]
 refine ⟨F,Bof (vs.map some),fs0++List.replicate n none,⟨L,ok.more n⟩,?_⟩
 unfold D7 at h
 cases e:g (fs0++List.replicate n none) with
 | nx τ =>
  rw [e] at h
  intro F' H' σ' l k
  exact h F' H' .non (σ'.take fs0.length) l (RR.take (RR.of (r:=.t .non) k rfl) _ (fun i z=>nomatch z))
 | ret r τ =>
  rw [e] at h
  intro F' H' σ' u l k
  cases r with
  | t t=>exact h F' H' u (σ'.take fs0.length) l (RR.take k _ (fun i z=>nomatch z))
  | nw o=>exact h F' H' u (σ'.take fs0.length) l (RR.take k _ (fun i z=>nomatch z))
  | rf i =>
   dsimp only at h
   split at h
   ·rename_i r' τ' e2
    split at e2
    ·rename_i o eo
     cases e2
     exact h F' H' u (σ'.take fs0.length) l (RR.take (RR.mv k eo) _ (fun i z=>nomatch z))
    ·cases e2
   ·exact h.elim
 | brk τ=>rw [e] at h;exact h.elim
 | cnt τ=>rw [e] at h;exact h.elim
 | exc c τ=>rw [e] at h;exact h.elim
 | bad=>rw [e] at h;exact h.elim
end
def C8:Rv->Ini
 | .t t=>.val t
 | .rf i=>.slot i
 | .nw o=>.new o
def callR (Fn:FS->Out Rv) (rs:List Rv) (fs:FS):Out Rv :=
 if (Ct fs (rs.map C8)).Nodup then (match Fn (D9 fs (rs.map C8)) with
  | .ok (.t t) τ=>(match HA (rs.map C8) τ fs with
   | some fs'=>.ok (.t t) fs'
   | none=>.bad)
  | .ok (.nw o) τ=>(match HA (rs.map C8) τ fs with
   | some fs'=>.ok (.nw o) fs'
   | none=>.bad)
  | _=>.bad) else .bad
def DU (K:PySem.W.Frag) (F:Wd) (H:Hp) (σ:St):List Rv->List V->List Addr->Prop
 | [],vs,L=>vs=[]/\L=[]
 | r :: rs,vs,L=>∃ v w L1 L2,vs=v :: w/\RelR K F H σ r v L1/\DU K F H σ rs w L2/\L=L1++L2
def RAn (K:PySem.W.Frag) (B:Nat->Option V) (σ:St):Wd->Hp->FS->List Rv->List V->Prop:=fun F H fs rs vs=>∃ L M,Ok K F B H fs σ L/\DU K F H σ rs vs M/\(L++M).Nodup/\∀ a∈M,¬ F a/\¬ F.p a
def tAn (K:PySem.W.Frag) (Z:Xp) (f:FS->Out (List Rv)):TA:=fun σ H Q=>∃ F B fs,Okk K F B H fs σ/\sat Z B (RAn K B σ) F H (f fs) Q
def FAn (X:Cx) (Z:Xp) (es:List Expr) (f:FS->Out (List Rv)):Prop:=PA X es (tAn X.K Z f)
def Aj (f:FS->Out Rv) (g:FS->Out (List Rv)):FS->Out (List Rv):=fun fs=>(f fs).bind fun r fs=>(g fs).bind fun rs fs=>.ok (r :: rs) fs
section
variable {K:PySem.W.Frag} {F F':Wd} {H H':Hp} {B:Nat->Option V} {fs:FS} {σ:St} {rs:List Rv} {vs:List V} {Z:Xp} {Q:VK} {Fn:FS->Out Rv} {E:XK}
theorem DU.len:∀ {rs:List Rv} {vs:List V} {M:List Addr},DU K F H σ rs vs M->vs.length=rs.length
 | [],_,_,h=>by obtain ⟨rfl,_⟩:=h;rfl
 | r :: rs,_,_,h=>by
  obtain ⟨v,w,L1,L2,rfl,_,h,_⟩:=h
  simp [DU.len h]
theorem RelR.def {r:Rv} {v:V} {L:List Addr} (h:RelR K F H σ r v L):∀ a∈L,H a≠none:=by
 cases r with
 | t t=>obtain ⟨rfl,_⟩:=h;exact fun a m=>nomatch m
 | nw o=>exact AO.def h
 | rf i=>obtain ⟨rfl,_⟩:=h;exact fun a m=>nomatch m
theorem RelR.lf {r:Rv} {v:V} {L:List Addr} (l:∀ a,F a->F' a/\H' a=H a) (k:∀ a∈L,H' a=H a) (h:RelR K F H σ r v L):RelR K F' H' σ r v L:=by
 cases r with
 | t t=>exact ⟨h.1,AB.le (F:=⟨F.f,fun _=>False⟩) ⟨l,fun _ z=>z.elim⟩ (AB.wp h.2)⟩
 | nw o=>exact AO.le (F:=⟨F.f,fun _=>False⟩) ⟨l,fun _ z=>z.elim⟩ k (AO.wp h)
 | rf i=>exact h
theorem DU.lf (l:∀ a,F a->F' a/\H' a=H a):∀ {rs:List Rv} {vs:List V} {M:List Addr},(∀ a∈M,H' a=H a)->DU K F H σ rs vs M->DU K F' H' σ rs vs M
 | [],_,_,_,h=>h
 | r :: rs,_,_,k,h=>by
  obtain ⟨v,w,L1,L2,e,h1,h2,rfl⟩:=h
  exact ⟨v,w,L1,L2,e,h1.lf l fun a m=>k a (List.mem_append_left _ m),DU.lf l (fun a m=>k a (List.mem_append_right _ m)) h2,rfl⟩
theorem DU.toP:∀ {rs:List Rv} {vs:List V} {M:List Addr},DU K F H σ rs vs M->∃ μ:Nat->List Addr,(∀ k r,rs[k]?=some r->∃ v,vs[k]?=some v/\RelR K F H σ r v (μ k))/\(∀ k a,a∈μ k->a∈M/\H a≠none) /\
  (M.Nodup->(∀ k,(μ k).Nodup)/\∀ i j a,i≠j->a∈μ i->a∉μ j)
 | [],_,_,h=>⟨fun _=>[],(fun k r e=>by simp at e),(fun _ _ m=>nomatch m),fun _=>⟨fun _=>List.nodup_nil,(fun _ _ _ _ m=>nomatch m)⟩⟩
 | r :: rs,_,_,h=>by
  obtain ⟨v,w,L1,L2,rfl,h1,h2,rfl⟩:=h
  obtain ⟨μ,q1,q2,q3⟩:=DU.toP h2
  refine ⟨fun i=>match i with | 0=>L1 | i+1=>μ i,fun k r' e=>?_,fun k a m=>?_,fun nd=>?_⟩
  ·cases k with
   | zero =>
    simp at e
    subst e
    exact ⟨v,rfl,h1⟩
   | succ k =>
    obtain ⟨u,e1,e2⟩:=q1 k r' (by simpa using e)
    exact ⟨u,by simpa using e1,e2⟩
  ·cases k with
   | zero=>exact ⟨List.mem_append_left _ m,h1.def a m⟩
   | succ k=>exact ⟨List.mem_append_right _ (q2 k a m).1,(q2 k a m).2⟩
  ·rw [List.nodup_append] at nd
   obtain ⟨n1,n2,n3⟩:=nd
   obtain ⟨m1,m2⟩:=q3 n2
   refine ⟨fun i=>?_,fun i j a hij hi hj=>?_⟩
   ·cases i with
    | zero=>exact n1
    | succ i=>exact m1 i
   ·cases i with
    | zero =>
     cases j with
     | zero=>exact hij rfl
     | succ j=>exact n3 a hi a (q2 j a hj).1 rfl
    | succ i =>
     cases j with
     | zero=>exact n3 a hj a (q2 i a hi).1 rfl
     | succ j=>exact m2 i j a (fun e=>hij (by rw [e])) hi hj
theorem ini_ok (q:RAn K B σ F H fs rs vs):∃ L μ,Ok K F B H fs σ L/\Mu F H L μ/\(vs.map some).length=(rs.map C8).length/\∀ (k:Nat) (i:Ini) (v:Option V),(rs.map C8)[k]?=some i->(vs.map some)[k]?=some v->IniOk K F H σ i v (μ k):=by
 obtain ⟨L,M,ok,q,nd,nf⟩:=q
 obtain ⟨μ,q1,q2,q3⟩:=q.toP
 rw [List.nodup_append] at nd
 obtain ⟨m1,m2⟩:=q3 nd.2.1
 refine ⟨L,μ,ok,⟨fun k a m=>⟨(nf a (q2 k a m).1).1,(nf a (q2 k a m).1).2,fun z=>nd.2.2 a z a (q2 k a m).1 rfl,(q2 k a m).2⟩,m1,m2⟩,by simp [q.len],fun k i v e1 e2=>?_⟩
 rw [List.getElem?_map,Option.map_eq_some_iff] at e1 e2
 obtain ⟨r,er,rfl⟩:=e1
 obtain ⟨u,eu,rfl⟩:=e2
 obtain ⟨u',e3,rr⟩:=q1 k r er
 rw [eu] at e3
 cases e3
 cases r with
 | t t=>exact ⟨u,rfl,rr.2⟩
 | nw o=>exact ⟨u,rfl,rr⟩
 | rf i=>exact rr.2
theorem RAn.len (q:RAn K B σ F H fs rs vs):vs.length=rs.length:=by
 obtain ⟨L,M,ok,q,_⟩:=q
 exact q.len
theorem callR_ok (q:RAn K B σ F H fs rs vs) (s:sat Z B (RR K B σ) F H (callR Fn rs fs) Q):spF K rs.length Fn vs H Q E:=by
 unfold callR at s
 split at s
 ·rename_i nd
  obtain ⟨L9,μ,ok,hμ,hl,hi⟩:=ini_ok q
  obtain ⟨Pp,p1,p2,p3,p4⟩:=lend ok hl hi nd hμ
  refine ⟨q.len,⟨F.f,Pp⟩,D9 fs (rs.map C8),p2,?_⟩
  split at s
  ·rename_i t τ e
   rw [e]
   split at s
   ·rename_i fs' eb
    intro F' H' u σ' l k
    obtain ⟨Li,L',o1,⟨_,r⟩,_⟩:=k
    obtain ⟨le,L,o2,_⟩:=p4 F' H' τ σ' Li fs' l o1 eb
    exact s ⟨F'.f,F.p⟩ H' u le (RR.of ⟨L,o2⟩ (AB.wp r))
   ·exact s.elim
  ·rename_i o τ e
   rw [e]
   split at s
   ·rename_i fs' eb
    intro F' H' u σ' l k
    obtain ⟨Li,L',o1,r,nd,nf⟩:=k
    obtain ⟨le,L,o2,sub⟩:=p4 F' H' τ σ' Li fs' l o1 eb
    refine s ⟨F'.f,F.p⟩ H' u le ⟨L,L',o2,AO.wp r,?_,fun a m=>⟨(nf a m).1,fun p=>(nf a m).2 (l.p a (p1 a p)).1⟩⟩
    rw [List.nodup_append] at nd ⊢
    refine ⟨o2.nd,nd.2.1,fun a ha b hb e=>?_⟩
    rcases sub a ha with z | z
    ·exact nd.2.2 a z b hb e
    ·exact (nf b hb).2 (l.p b (e▸z)).1
   ·exact s.elim
  ·exact s.elim
 ·exact s.elim
end
section
variable {X:Cx} {Z:Xp} {e:Expr} {es:List Expr} {f:FS->Out Rv} {g:FS->Out (List Rv)}
theorem AV:FAn X Z [] Al:=pa_imp pa_nil fun σ H Q ⟨F,B,fs,⟨L,ok⟩,s⟩=>s F H [] Le.refl ⟨L,[],ok,⟨rfl,rfl⟩,by simpa using ok.nd,(fun _ m=>nomatch m)⟩
theorem Am (ha:FE X Z e f) (hr:FAn X Z es g) (hs:starEach (e :: es) X.env=(false,eval e X.env) :: starEach es X.env:=by rfl):FAn X Z (e :: es) (Aj f g):=by
 refine pa_imp (DG ha hr hs) fun σ H Q ⟨F,B,fs,ok,s⟩=>⟨F,B,fs,ok,AD s fun r fs1 F1 H1 u l q s1=>?_⟩
 obtain ⟨L,L1,o1,r1,nd,nf⟩:=q
 have nda:=List.nodup_append.mp nd
 have le1:Le F1 H1 ⟨F1.f,fun a=>F1.p a∨a∈L1⟩ H1:=⟨fun a f=>⟨f,rfl⟩,fun a f=>⟨.inl f,rfl⟩⟩
 refine ⟨⟨F1.f,fun a=>F1.p a∨a∈L1⟩,B,fs1,⟨L,o1.sl.le le1 fun _ _=>rfl,o1.nd,o1.nf,o1.fd,o1.bo,fun a p=>?_,fun a f p=>?_,fun a m p=>?_⟩,?_⟩
 ·rcases p with p | p
  ·exact o1.pd a p
  ·exact r1.def a p
 ·rcases p with p | p
  ·exact o1.pf a f p
  ·exact (nf a p).1 f
 ·rcases p with p | p
  ·exact o1.pl a m p
  ·exact nda.2.2 a m a p rfl
 ·cases eg:g fs1 with
  | bad=>rw [eg] at s1;exact s1.elim
  | exc c t=>rw [eg] at s1;exact Z.mono s1 le1
  | ok rs fs2 =>
   rw [eg] at s1
   intro F2 H2 us l2 q2
   obtain ⟨L2,M2,o2,r2,nd2,nf2⟩:=q2
   have le2:Le F1 H1 ⟨F2.f,F1.p⟩ H2:=⟨fun a f=>l2.f a f,fun a f=>⟨f,(l2.p a (.inl f)).2⟩⟩
   have hp:∀ a∈L1,F2.p a/\H2 a=H1 a:=fun a m=>l2.p a (.inr m)
   have nd2':=List.nodup_append.mp nd2
   refine s1 ⟨F2.f,F1.p⟩ H2 (u :: us) le2 ⟨L2,L1++M2,⟨Ao.wp o2.sl,o2.nd,o2.nf,o2.fd,o2.bo,fun a f=>by rw [(le2.p a f).2];exact o1.pd a f,fun a f p=>o2.pf a f (l2.p a (.inl p)).1,fun a m p=>o2.pl a m (l2.p a (.inl p)).1⟩,⟨u,us,L1,M2,rfl,RelR.lf (F:=F1) (F':=⟨F2.f,F1.p⟩) (H:=H1) (H':=H2) (fun a f=>l2.f a f) (fun a m=>(hp a m).2) r1,DU.lf (F:=F2) (F':=⟨F2.f,F1.p⟩) (fun a f=>⟨f,rfl⟩) (fun _ _=>rfl) r2,rfl⟩,?_,fun a m=>?_⟩
   ·rw [List.nodup_append]
    refine ⟨o2.nd,?_,fun a ha b hb e=>?_⟩
    ·rw [List.nodup_append]
     exact ⟨nda.2.1,nd2'.2.1,fun a ha b hb e=>(nf2 b hb).2 (e▸(hp a ha).1)⟩
    ·rcases List.mem_append.mp hb with hb | hb
     ·exact o2.pl a ha (e▸(hp b hb).1)
     ·exact nd2'.2.2 a ha b hb e
   ·rcases List.mem_append.mp m with m | m
    ·exact ⟨fun f=>o2.pf a f (hp a m).1,(nf a m).2⟩
    ·exact ⟨(nf2 a m).1,fun p=>(nf2 a m).2 (l2.p a (.inl p)).1⟩
end
section
variable {X:Cx} {Z:Xp} {x:Str} {k p:Nat} {ps:List Str} {Fn:FS->Out Rv} {e o:Expr} {es:List Expr} {fa:FS->Out (List Rv)} {fo:FS->Out Rv} {pp pos apos:Pos} {C:Addr} {m:Str}
def Ay (p:Nat) (Fn:FS->Out Rv):List Rv->FS->Out Rv:=fun rs fs=>if rs.length=p then callR Fn rs fs else .bad
theorem Cc (G:FnAt X.prog X.w X.K X.mg X.base CX0 x k ps (spF X.K p Fn)) (hr:E8 k X.A) (ha:FAn X Z (e :: es) fa) (hg:Gl X x:=by rfl) (hdb:(x == ("__debug__":Str))=false:=by decide)
  (he:starEach (e :: es) X.env=(false,eval e X.env) :: starEach es X.env:=by rfl) (hpl:(backTo pos (starEach es X.env)).any (·.1)=false:=by rfl):FE X Z (.Call (.Name x pp) (e :: es) [] pos) (Ak (Ay p Fn) fa):=by
 refine A3 (pe_fn G hr pass0 ha hg hdb he hpl) fun σ H Q ⟨F,B,fs,ok,s⟩=>⟨F,B,fs,ok,AD s fun rs fs1 F1 H1 us l q s1=>?_⟩
 unfold Ay at s1
 split at s1
 ·rename_i hp
  rw [List.append_nil,<- hp]
  exact callR_ok q s1
 ·exact s1.elim
end
def CO (gt:T->FS->Option FS) (ft:FS->Out Bool) (fe:FS->Out Rv):List T->FS->List T->Option (List T×FS)
 | [],τ,acc=>some (acc,τ)
 | t :: ts,τ,acc=>match gt t τ with
  | none=>none
  | some τ=>match ft τ with
   | .ok true τ=>(match fe τ with
    | .ok (.t v) τ=>if acc.length < big then CO gt ft fe ts τ (acc++[v]) else none
    | _=>none)
   | .ok false τ=>CO gt ft fe ts τ acc
   | _=>none
def Gw:FS->Out Bool:=fun fs=>.ok true fs
def Ca (new:Bool) (src:List (Option Nat)) (fi:FS->Out (List T)) (gt:T->FS->Option FS) (ft:FS->Out Bool) (fe:FS->Out Rv):FS->Out Rv:=fun fs=>(fi fs).bind fun ts fs =>
 if (Ct fs (src.map fun o=>o.elim Ini.no Ini.slot)).Nodup/\(src.all fun o=>o.elim true fun j=>decide (j < fs.length))=true then (match CO gt ft fe ts (D9 fs (src.map fun o=>o.elim Ini.no Ini.slot)) [] with
  | some (vs,τ)=>(match HA (src.map fun o=>o.elim Ini.no Ini.slot) τ fs with
   | some fs'=>if new=true then .ok (.nw (.lst vs)) fs' else .ok (.t (.lst vs)) fs'
   | none=>.bad)
  | none=>.bad) else .bad
def FIf (X:Cx) (ifs:List Expr) (ft:FS->Out Bool):Prop:=PIfs X ifs (tT X.K Xp.no ft)
theorem pifs_imp {X:Cx} {e:List Expr} {t t':TT} (h:PIfs X e t) (i:∀ σ H Q,t' σ H Q->t σ H Q):PIfs X e t':=fun pins s σ H Q I q=>h pins s σ H Q I (i _ _ _ q)
theorem EM {X:Cx}:FIf X [] Gw:=pifs_imp pifs_nil fun σ H Q ⟨F,B,fs,ok,s⟩=>s F H true Le.refl ⟨ok,rfl⟩
theorem fif_one {X:Cx} {c:Expr} {ft:FS->Out Bool} (h:FT X Xp.no c ft):FIf X [c] ft:=pifs_one h
section
variable {K:PySem.W.Frag} {F:Wd} {H:Hp} {B:Nat->Option V} {fs:FS} {σ:St}
theorem Okk.hide {p:Addr} {o:HO} (h:Okk K F B H fs σ) (hp:H p=none):Okk K ⟨F.f,fun a=>F.p a∨a=p⟩ B (upd H p o) fs σ:=by
 obtain ⟨L,h⟩:=h
 have l:Le F H ⟨F.f,fun a=>F.p a∨a=p⟩ (upd H p o):=⟨fun a f=>⟨f,Ap fun e=>h.fd a f (e▸hp)⟩,fun a f=>⟨.inl f,Ap fun e=>h.pd a f (e▸hp)⟩⟩
 refine ⟨L,h.sl.le l (h.keepL hp),h.nd,h.nf,fun a q=>CI (h.fd a q),h.bo,fun a q=>?_,fun a f q=>?_,fun a m q=>?_⟩
 ·rcases q with q | q
  ·exact CI (h.pd a q)
  ·rw [q,Av];simp
 ·rcases q with q | q
  ·exact h.pf a f q
  ·exact h.fd a f (q▸hp)
 ·rcases q with q | q
  ·exact h.pl a m q
  ·exact h.sl.def a m (q▸hp)
theorem Okk.upP {p:Addr} {o:HO} (h:Okk K F B H fs σ) (hp:F.p p):Okk K F B (upd H p o) fs σ:=by
 obtain ⟨L,h⟩:=h
 have hf:∀ a,F a->(upd H p o) a=H a:=fun a f=>Ap fun e=>h.pf a f (e▸hp)
 have l:Le ⟨F.f,fun _=>False⟩ H ⟨F.f,F.p⟩ (upd H p o):=⟨fun a f=>⟨f,hf a f⟩,fun a f=>f.elim⟩
 have sl:Ao K ⟨F.f,fun _=>False⟩ H fs σ L:=Ao.wp h.sl
 refine ⟨L,sl.le l fun a m=>Ap fun e=>h.pl a m (e▸hp),h.nd,h.nf,fun a q=>CI (h.fd a q),h.bo,fun a q=>CI (h.pd a q),h.pf,h.pl⟩
theorem Ac.upP {p:Addr} {o:HO} {ts:List T} {vs:List V} (h:Okk K F B H fs σ) (hp:F.p p) (r:Ac K F H ts vs):Ac K F (upd H p o) ts vs:=by
 obtain ⟨L,h⟩:=h
 have l:Le ⟨F.f,fun _=>False⟩ H ⟨F.f,F.p⟩ (upd H p o):=⟨fun a f=>⟨f,Ap fun e=>h.pf a f (e▸hp)⟩,fun a f=>f.elim⟩
 exact Ac.le l (Ac.wp r)
end
section
variable {X:Cx} {Z:Xp} {N:List Str} {sc:Scope} {tg iter elt:Expr} {ifs:List Expr} {fi:FS->Out (List T)} {gt:T->FS->Option FS} {ft:FS->Out Bool} {fe:FS->Out Rv} {pos:Pos} {K:PySem.W.Frag}
theorem comp_t {new:Bool} {src:List (Option Nat)} {σ:St} {H:Hp} {Q:VK} (h:tF K Z (Ca new src fi gt ft fe) σ H Q):tComp src (tI K Z fi) (tG K gt) (tT K Xp.no ft) (tF K Xp.no fe) σ H Q:=by
 obtain ⟨F,B,fs,ok,s⟩:=h
 refine ⟨F,B,fs,ok,AD s fun ts fs1 F1 H1 J l q s1=>?_⟩
 obtain ⟨ok1,jk⟩:=q
 split at s1
 ·rename_i hnd
  obtain ⟨nd,hall⟩:=hnd
  have hsrc:∀ j,some j∈src->j < σ.length:=fun j m=>by
   obtain ⟨L1,o1⟩:=ok1
   rw [o1.sl.len]
   have:=List.all_eq_true.mp hall _ m
   exact of_decide_eq_true this
  have hl:(C4 σ src).length=(src.map fun o=>o.elim Ini.no Ini.slot).length:=by unfold C4;simp
  have hi:∀ (k:Nat) (i:Ini) (v:Option V),(src.map fun o=>o.elim Ini.no Ini.slot)[k]?=some i->(C4 σ src)[k]?=some v->IniOk K F1 H1 σ i v []:=fun k i v e1 e2=>by
   unfold C4 at e2
   rw [List.getElem?_map,Option.map_eq_some_iff] at e1 e2
   obtain ⟨o,eo,rfl⟩:=e1
   obtain ⟨o',eo',rfl⟩:=e2
   rw [eo] at eo'
   cases eo'
   cases o with
   | none=>exact trivial
   | some j =>
    have hj:=hsrc j (List.mem_of_getElem? eo)
    show σ[j]?=some ((σ[j]?).join)
    rw [List.getElem?_eq_getElem hj]
    rfl
  obtain ⟨L9,ok9⟩:=id ok1
  obtain ⟨Pp,p1,p2,p3,p4⟩:=lend (μ:=fun _=>[]) ok9 hl hi nd Mu.no
  have jI:JOk K ⟨F1.f,Pp⟩ H1 J ts:=jk.within
  split at s1
  ·rename_i vs τe ec
   split at s1
   ·rename_i fs' eb
    intro D hD
    have nP:¬ Pp D:=fun z=>p3 D z hD
    refine ⟨fun i m τσ H2=>m=ts.length - i/\∃ F2 τ acc ys,Le ⟨F1.f,Pp⟩ H1 F2 H2/\F2.p D/\Okk K F2 (Bof (C4 σ src)) H2 τ τσ/\H2 D=some (.lst ys)/\Ac K F2 H2 acc ys/\CO gt ft fe (ts.drop i) τ acc=some (vs,τe),
     ⟨ts.length,rfl,⟨F1.f,fun a=>Pp a∨a=D⟩,_,[],[],⟨fun a f=>⟨f,Ap fun e=>p2.fd a f (e▸hD)⟩,fun a f=>⟨.inl f,Ap fun e=>nP (e▸f)⟩⟩,.inr rfl,p2.hide hD,Av,rfl,ec⟩,?_⟩
    rintro i m τσ H2 ⟨rfl,F2,τ,acc,ys,l2,pD,ok2,hD2,racc,ec2⟩
    by_cases hit:i < ts.length
    ·refine .inr ?_
     have ei:ts[i]?=some ts[i]:=List.getElem?_eq_getElem hit
     rw [List.drop_eq_getElem_cons hit] at ec2
     simp only [CO] at ec2
     obtain ⟨j1,j2⟩:=(jI F2 H2 l2.f ⟨_,_,_,ok2⟩ i).1 _ ei
     refine ⟨j1,fun τσ' H'=>∃ F3 τ acc ys,Le ⟨F1.f,Pp⟩ H1 F3 H'/\F3.p D/\Okk K F3 (Bof (C4 σ src)) H' τ τσ'/\H' D=some (.lst ys)/\Ac K F3 H' acc ys/\CO gt ft fe (ts.drop (i+1)) τ acc=some (vs,τe),fun τσ' H' h=>⟨ts.length - (i+1),by omega,rfl,h⟩,fun x H3 hy=>?_⟩
     obtain ⟨F3,⟨l23,nw⟩,rx⟩:=j2 x H3 hy
     replace hD2:=(l23.p D pD).2.trans hD2
     replace pD:=(l23.p D pD).1
     replace l2:=l2.trans l23
     replace ok2:=nw _ _ _ ok2
     replace racc:=racc.le l23
     refine ⟨F3,Bof (C4 σ src),τ,ts[i],ok2,rx,?_⟩
     cases eg:gt ts[i] τ with
     | none=>rw [eg] at ec2;cases ec2
     | some τ1 =>
      rw [eg] at ec2
      intro F4 H4 τσ4 l4 ok4
      refine ⟨F4,Bof (C4 σ src),τ1,ok4,?_⟩
      dsimp only at ec2
      cases et:ft τ1 with
      | exc c τ2=>rw [et] at ec2;cases ec2
      | bad=>rw [et] at ec2;cases ec2
      | ok b τ2 =>
       rw [et] at ec2
       intro F5 H5 b' l5 q5
       obtain ⟨ok5,rfl⟩:=q5
       cases b' with
       | false =>
        rw [if_neg (by decide)]
        exact ⟨F5,τ2,acc,ys,(l2.trans l4).trans l5,(l5.p D (l4.p D pD).1).1,ok5,((l5.p D (l4.p D pD).1).2.trans (l4.p D pD).2).trans hD2,(racc.le l4).le l5,ec2⟩
       | true =>
        rw [if_pos rfl]
        refine ⟨F5,Bof (C4 σ src),τ2,ok5,?_⟩
        dsimp only at ec2
        cases ee:fe τ2 with
        | exc c τ3=>rw [ee] at ec2;cases ec2
        | bad=>rw [ee] at ec2;cases ec2
        | ok r τ3 =>
         rw [ee] at ec2
         cases r with
         | nw o=>cases ec2
         | rf o=>cases ec2
         | t v =>
          dsimp only at ec2
          split at ec2
          ·rename_i hlen
           intro F6 H6 y l6 q6
           obtain ⟨L6,L6',o6,⟨_,rv⟩,_⟩:=q6
           have p5:=(l5.p D (l4.p D pD).1)
           have p6:=l6.p D p5.1
           have hD6:H6 D=some (.lst ys):=(p6.2.trans (p5.2.trans (l4.p D pD).2)).trans hD2
           have racc6:=((racc.le l4).le l5).le l6
           refine ⟨ys,hD6,by rw [racc.len];exact Nat.lt_trans hlen big_lt,F6,τ3,acc++[v],ys++[y],?_,p6.1,Okk.upP ⟨L6,o6⟩ p6.1,Av,Ac.upP ⟨L6,o6⟩ p6.1 (racc6.app (Ac.one rv)),ec2⟩
           have l16:=((l2.trans l4).trans l5).trans l6
           exact ⟨fun a f=>⟨(l16.f a f).1,by rw [Ap fun e=>o6.pf a (l16.f a f).1 (by rw [e];exact p6.1)];exact (l16.f a f).2⟩,fun a f=>⟨(l16.p a f).1,by rw [Ap fun e=>nP (by rw [<- e];exact f)];exact (l16.p a f).2⟩⟩
          ·cases ec2
    ·refine .inl ⟨?_,?_⟩
     ·exact (jI F2 H2 l2.f ⟨_,_,_,ok2⟩ i).2 (by omega)
     ·rw [List.drop_eq_nil_of_le (by omega)] at ec2
      simp only [CO] at ec2
      cases ec2
      obtain ⟨Li,o2⟩:=ok2
      obtain ⟨le,L,o3,sub⟩:=p4 F2 H2 τe τσ Li fs' l2 o2 eb
      have nL:D∉L:=fun m=>by
       rcases sub D m with z | z
       ·exact o2.pl D z pD
       ·exact nP z
      have nF:¬ F2 D:=fun f=>o2.pf D f pD
      have np:¬ F1.p D:=fun z=>nP (p1 D z)
      cases new with
      | true =>
       rw [if_pos rfl] at s1
       refine s1 ⟨F2.f,F1.p⟩ H2 (.ref D) le ⟨L,[D],o3,Ce hD2 (Ac.wp racc),?_,fun a m=>?_⟩
       ·rw [List.nodup_append]
        exact ⟨o3.nd,by simp,fun a ha b hb e=>nL (by rw [<- List.mem_singleton.mp hb,<- e];exact ha)⟩
       ·rw [List.mem_singleton.mp m]
        exact ⟨nF,np⟩
      | false =>
       rw [if_neg (by decide)] at s1
       have l3:Le ⟨F2.f,F1.p⟩ H2 (Gv ⟨F2.f,F1.p⟩ [D]) H2:=orF
       refine s1 (Gv ⟨F2.f,F1.p⟩ [D]) H2 (.ref D) (le.trans l3) (RR.of ⟨L,?_⟩ ?_)
       ·refine ⟨o3.sl.le l3 fun _ _=>rfl,o3.nd,fun a m z=>?_,fun a z=>?_,o3.bo,o3.pd,fun a z=>?_,o3.pl⟩
        ·rcases z with z | z
         ·exact o3.nf a m z
         ·exact nL (by rw [<- List.mem_singleton.mp z];exact m)
        ·rcases z with z | z
         ·exact o3.fd a z
         ·rw [List.mem_singleton.mp z,hD2];simp
        ·rcases z with z | z
         ·exact o3.pf a z
         ·rw [List.mem_singleton.mp z];exact np
       ·simp only [BF,AB]
        exact ⟨D,ys,rfl,.inr (by simp),hD2,Ac.le l3 (Ac.wp racc)⟩
   ·exact s1.elim
  ·exact s1.elim
 ·exact s1.elim
theorem DM (new:Bool) (N:List Str) (src:List (Option Nat)) (hcalm:X.calm=true) (hi:FI X Z tg iter fi) (hg:∀ cl C s H fp,GT (BB X N sc cl C s H fp) tg gt) (ht:∀ cl C s H fp,FIf (BB X N sc cl C s H fp) ifs ft)
  (he:∀ cl C s H fp,FE (BB X N sc cl C s H fp) Xp.no elt fe) (hS:Fy X.env.scope sc=true:=by rfl) (hcap:DP X.N sc N src=true:=by rfl)
  (hs:∀ x,foldedSetIterable iter X.env x=pure x:=by intro _;rfl):FE X Z (.ListComp elt [⟨tg,iter,ifs,0⟩] sc pos) (Ca new src fi gt ft fe) :=
 A3 (pe_comp (g:=tG X.K gt) (tt:=tT X.K Xp.no ft) (te:=tF X.K Xp.no fe) N src hcalm hi hg ht he hS hcap hs) fun _ _ _ h=>comp_t h
theorem gs_setComp (new:Bool) (i:Nat) {y:Str} {pos' spos:Pos} (N:List Str) (src:List (Option Nat)) (hcalm:X.calm=true) (hN:X.N.Nodup) (hy:Loc X.env.scope y) (hi:FI X Z tg iter fi) (hg:∀ cl C s H fp,GT (BB X N sc cl C s H fp) tg gt) (ht:∀ cl C s H fp,FIf (BB X N sc cl C s H fp) ifs ft)
  (he:∀ cl C s H fp,FE (BB X N sc cl C s H fp) Xp.no elt fe) (hiy:X.N[i]?=some y:=by rfl) (hS:Fy X.env.scope sc=true:=by rfl) (hcap:DP X.N sc N src=true:=by rfl)
  (hs:∀ x,foldedSetIterable iter X.env x=pure x:=by intro _;rfl) (hsw:swapsWith (.ListComp elt [⟨tg,iter,ifs,0⟩] sc pos) (some (.Name y pos')) spos.line X.env=pure true:=by rfl)
  (hf:X.fn y=true∨X.env.scope.names.lookup y=some .local:=by first | exact .inl rfl | exact .inr rfl | assumption) :
  GS X Z (.Assign [.Name y pos'] (.ListComp elt [⟨tg,iter,ifs,0⟩] sc pos) spos) (AX i (Ca new src fi gt ft fe)) :=
 Dk (ps_setComp (g:=tG X.K gt) (tt:=tT X.K Xp.no ft) (te:=tF X.K Xp.no fe) N src hcalm hN hiy hy hi hg ht he hS hcap hs hsw hf) fun _ _ _ s=>comp_t (set_t s)
end
end FL
namespace FL
open PySem PySem.Spec L2
def orG (g g':Rv->Rv->FS->Out Rv):Rv->Rv->FS->Out Rv:=fun x y fs=>match g x y fs with
 | .bad=>g' x y fs
 | o=>o
theorem OpF.or {K:PySem.W.Frag} {Z:Xp} {r r':R2} {g g':Rv->Rv->FS->Out Rv} (h:OpF K Z r g) (h':OpF K Z r' g'):OpF K Z (orR r r') (orG g g'):=by
 intro F B H σ fs x y u w Q ok rx ry s
 unfold orG at s
 cases e:g x y fs with
 | ok a t=>rw [e] at s;exact .inl (h F B H σ fs x y u w Q ok rx ry (by rw [e];exact s))
 | exc c t=>rw [e] at s;exact .inl (h F B H σ fs x y u w Q ok rx ry (by rw [e];exact s))
 | bad=>rw [e] at s;exact .inr (h' F B H σ fs x y u w Q ok rx ry s)
def orC (g g':List Rv->FS->Out Rv):List Rv->FS->Out Rv:=fun x fs=>match g x fs with
 | .bad=>g' x fs
 | o=>o
theorem CT.or {K:PySem.W.Frag} {Z:Xp} {r r':List V->Hp->VK->Prop} {g g':List Rv->FS->Out Rv} (h:CT K Z r g) (h':CT K Z r' g'):CT K Z (orCall r r') (orC g g'):=by
 intro F B H σ fs x u Q ok rx s
 unfold orC at s
 cases e:g x fs with
 | ok a t=>rw [e] at s;exact .inl (h F B H σ fs x u Q ok rx (by rw [e];exact s))
 | exc c t=>rw [e] at s;exact .inl (h F B H σ fs x u Q ok rx (by rw [e];exact s))
 | bad=>rw [e] at s;exact .inr (h' F B H σ fs x u Q ok rx s)
def exL (fs:FS):Rv->Option (List T)
 | .t (.lst ts)=>some ts
 | .rf i=>match AE fs i with
  | some (.lst ts)=>some ts
  | _=>none
 | _=>none
theorem exL_ok {K:PySem.W.Frag} {B:Nat->Option V} {F:Wd} {H:Hp} {σ:St} {fs:FS} {x:Rv} {u:V} {ts:List T} (h:Okk K F B H fs σ) (r:BF K F H σ x u) (e:exL fs x=some ts):∃ a vs,u=.ref a/\H a=some (.lst vs)/\Ac K F H ts vs:=by
 unfold exL at e
 split at e
 ·cases e
  simp only [BF,AB] at r
  obtain ⟨a,vs,e,f,s,q⟩:=r
  exact ⟨a,vs,e,s,q⟩
 ·rename_i i
  split at e
  ·rename_i ts' eo
   cases e
   obtain ⟨v,L2,e1,q,_⟩:=h.own eo
   have e2:σ[i]?=some (some u):=r
   rw [e1] at e2
   have e3:v=u:=by simpa using e2
   subst e3
   simp only [AO] at q
   obtain ⟨a,vs,e,s,q,_⟩:=q
   exact ⟨a,vs,e,s,q⟩
  ·cases e
 ·cases e
def gCatL:Rv->Rv->FS->Out Rv:=fun x y fs=>match exL fs x,exL fs y with
 | some ts,some us=>if ts.length+us.length<=big then .ok (.nw (.lst (ts++us))) fs else .bad
 | _,_=>.bad
def gCatT:Rv->Rv->FS->Out Rv
 | .t (.tup ts),.t (.tup us),fs=>if ts≠[]/\ts.length+us.length<=big then okT (.tup (ts++us)) fs else .bad
 | _,_,_=>.bad
section
variable {K:PySem.W.Frag} {Z:Xp}
theorem of_catL:OpF K Z rCat gCatL:=by
 intro F B H σ fs x y u w Q ok rx ry s
 unfold gCatL at s
 split at s
 ·rename_i ts us e1 e2
  split at s
  ·rename_i hl
   obtain ⟨a,vs,rfl,hs,r⟩:=exL_ok ok rx e1
   obtain ⟨b,ws,rfl,hs2,r2⟩:=exL_ok ok ry e2
   exact ⟨a,b,vs,ws,rfl,rfl,hs,hs2,by rw [r.len,r2.len];exact Nat.le_trans hl CP,fun p hp=>s F _ (.ref p) (AM ok hp) (RR.alloc ok hp (Ce Av ((r.app r2).le (AM ok hp))))⟩
  ·exact s.elim
 ·exact s.elim
theorem of_catT:OpF K Z (rCatT K) gCatT:=by
 intro F B H σ fs x y u w Q ok rx ry s
 unfold gCatT at s
 split at s
 ·rename_i ts us
  split at s
  ·rename_i hl
   obtain ⟨a,vs,rfl,hs,r⟩:=Bx (ts:=ts) rx rfl
   obtain ⟨b,ws,rfl,hs2,r2⟩:=Bx (ts:=us) ry rfl
   refine ⟨a,b,vs,ws,rfl,rfl,hs,hs2,fun z=>hl.1 ?_,by rw [r.len,r2.len];exact Nat.le_trans hl.2 CP,fun z=>?_,fun _ p hp=>s _ _ (.ref p) (Br ok hp) (DF ok hp (r.app r2))⟩
   ·have:=r.len
    rw [z] at this
    exact List.eq_nil_of_length_eq_zero this.symm
   ·have e:us=[]:=by
     have:=r2.len
     rw [z] at this
     exact List.eq_nil_of_length_eq_zero this.symm
    subst e
    rw [List.append_nil] at s
    exact s F H _ Le.refl (RR.of ok rx)
  ·exact s.elim
 ·exact s.elim
def gCatT0:Rv->Rv->FS->Out Rv
 | .t (.tup []),.t (.tup us),fs=>okT (.tup us) fs
 | _,_,_=>.bad
theorem of_catT0:OpF K Z (rCatT0 K) gCatT0:=by
 intro F B H σ fs x y u w Q ok rx ry s
 unfold gCatT0 at s
 split at s
 ·rename_i us
  obtain ⟨a,vs,rfl,hs,r⟩:=Bx (ts:=[]) rx rfl
  obtain ⟨b,ws,rfl,hs2,r2⟩:=Bx (ts:=us) ry rfl
  have e:vs=[]:=by simpa [Ac] using r
  subst e
  exact ⟨a,b,ws,rfl,rfl,hs,hs2,s F H _ Le.refl (RR.of ok ry)⟩
 ·exact s.elim
theorem of_dget:OpF K Z rDGet gDGet:=by
 intro F B H σ fs x y u w Q ok rx ry s
 unfold gDGet at s
 split at s
 ·split at s
  ·rename_i t e
   obtain ⟨a,o',rfl,hd,h⟩:=dget_ok ok rx ry e
   rcases h with ⟨h1,_⟩ | ⟨t',v,h1,h2,h3⟩
   ·cases h1
   ·cases h1
    subst h2
    exact ⟨a,v,rfl,hd,s F H v Le.refl (RR.of ok h3)⟩
  ·exact s.elim
 ·exact s.elim
theorem of_din (neg:Bool):OpF K Z (rDIn neg) (gDIn neg):=by
 intro F B H σ fs y x w u Q ok ry rx s
 unfold gDIn at s
 split at s
 ·split at s
  ·rename_i t e
   obtain ⟨a,o',rfl,hd,h⟩:=dget_ok ok rx ry e
   refine ⟨a,o',rfl,hd,?_⟩
   have:o'.isSome=t.isSome:=by
    rcases h with ⟨h1,h2⟩ | ⟨t',v,h1,h2,h3⟩
    ·rw [h1,h2];rfl
    ·rw [h1,h2];rfl
   rw [this]
   exact s F H _ Le.refl (RR.of ok rfl)
  ·exact s.elim
 ·exact s.elim
end
def AA:=orG gAdd (orG gAddS (orG gCatL (orG gCatT gCatT0)))
def Bi:=orG gMul gMulS
def AF:=orG gIx gDGet
def gInU (neg:Bool):=orG (gDIn neg) (orG (gInStr neg) (gIn neg))
def gLenD:List Rv->FS->Out Rv
 | [.t (.dK ks _)],fs=>okT (.int ks.length) fs
 | [.rf i],fs=>match AE fs i with
  | some (.dK ks _)=>okT (.int ks.length) fs
  | _=>.bad
 | _,_=>.bad
def Cp:=orC gLen (orC gLenS gLenD)
section
variable {K:PySem.W.Frag} {Z:Xp}
theorem cf_lenD:CT K Z (fun xs H Q=>∃ a kvs,xs=[V.ref a]/\Rd H a (.dK kvs)/\Q (.int kvs.length) H) gLenD:=by
 intro F B H σ fs rs vs Q ok q s
 unfold gLenD at s
 split at s
 ·obtain ⟨v,rfl,qq⟩:=Bq q
  have q:=qq
  simp only [BF,AB] at q
  obtain ⟨a,kvs,rfl,f,hd,rfl,r⟩:=q
  rw [List.length_map] at s
  exact ⟨a,kvs,rfl,hd,s F H _ Le.refl (RR.of ok rfl)⟩
 ·rename_i i
  obtain ⟨v,rfl,qq⟩:=Bq q
  have q:=qq
  split at s
  ·rename_i eo
   obtain ⟨v',L2,e1,q2,_⟩:=ok.own eo
   have e2:σ[i]?=some (some v):=q
   rw [e1] at e2
   have e3:v'=v:=by simpa using e2
   subst e3
   simp only [AO] at q2
   obtain ⟨a,kvs,rfl,hd,rfl,_⟩:=q2
   rw [List.length_map] at s
   exact ⟨a,kvs,rfl,.inl hd,s F H _ Le.refl (RR.of ok rfl)⟩
  ·exact s.elim
 ·exact s.elim
end
section
variable {X:Cx} {Z:Xp} {a b:Expr} {fa fb:FS->Out Rv} {pos:Pos}
theorem BJ (ha:FE X Z a fa) (hb:FE X Z b fb):FE X Z (.BinOp a .Add b pos) (Ae AA fa fb) :=
 fe_op (OpF.or of_add (OpF.or of_addS (OpF.or of_catL (OpF.or of_catT of_catT0)))) (OpR.orR op_add (OpR.orR op_add_str (OpR.orR op_cat (OpR.orR op_catT op_catT0)))) ha hb
theorem fe_sub (ha:FE X Z a fa) (hb:FE X Z b fb):FE X Z (.BinOp a .Sub b pos) (Ae Gh fa fb):=fe_op of_sub op_sub ha hb
theorem EN (ha:FE X Z a fa) (hb:FE X Z b fb):FE X Z (.BinOp a .Mult b pos) (Ae Bi fa fb):=fe_op (OpF.or of_mul of_mulS) (OpR.orR op_mulK op_mulStr) ha hb
theorem Bm (ha:FE X Z a fa) (hb:FE X Z b fb):FE X Z (.BinOp a .Mod b pos) (Ae Bo fa fb):=fe_op of_mod op_mod ha hb
theorem CG (ha:FE X Z a fa) (hb:FE X Z b fb):FE X Z (.BinOp a .FloorDiv b pos) (Ae CH fa fb):=fe_op of_div op_fdiv ha hb
theorem Ba (hu:X.A.units+1 < cLine) (ha:FE X Z a fa) (hb:FE X Z b fb) (hs:PlainIx b):FE X Z (.Subscript a b pos) (Ae AF fa fb):=fe_ix (OpF.or of_ix of_dget) (IxR.orR ix_seq (ix_dict hu)) ha hb hs
theorem ft_lt (ha:FE X Z a fa) (hb:FE X Z b fb):FT X Z (.Compare a [.Lt] [b] pos) (asB (Ae gLt fa fb)):=Hk of_lt op_lt ha hb (GY _)
theorem ft_gt (ha:FE X Z a fa) (hb:FE X Z b fb):FT X Z (.Compare a [.Gt] [b] pos) (asB (Ae gGt fa fb)):=Hk of_gt op_gt ha hb (GY _)
theorem ft_notin (hu:X.A.units+1 < cLine) (ha:FE X Z a fa) (hb:FE X Z b fb) (hm:behindInMarks .NotIn b=false:=by rfl):FT X Z (.Compare a [.NotIn] [b] pos) (asB (Ae (gInU true) fa fb)) :=
 Hk (OpF.or (of_din true) (OpF.or HP (of_in true))) (OpR.orR (op_dnotin hu) (OpR.orR GQ GR)) ha hb hm
end
def itU (f:FS->Out Rv):FS->Out (List T):=fun fs=>(f fs).bnd fun r fs=>match r with
 | .t (.lst ts)=>.ok ts fs
 | .t (.scr ts)=>.ok ts fs
 | .t (.tup ts)=>.ok ts fs
 | .t (.str z)=>.ok (signs z) fs
 | _=>.bad
theorem DZ {X:Cx} {Z:Xp} {tg l:Expr} {f:FS->Out Rv} (hl:FE X Z l f):FI X Z tg l (itU f):=by
 refine pi_imp (pi_seq hl) fun σ H Q ⟨F,B,fs,ok,s⟩=>⟨F,B,fs,ok,AU s fun r fs1 F1 H1 u l ok1 rx s1=>?_⟩
 split at s1
 ·rename_i ts
  simp only [BF,AB] at rx
  obtain ⟨a,vs,rfl,ff,hs,r⟩:=rx
  exact .inl ⟨a,rfl,⟨vs,SqL.of hs⟩,s1 F1 H1 _ Le.refl ⟨ok1,jok_list (fun F' H' l=>SqL.of ((l a ff).2.trans hs)) r⟩⟩
 ·rename_i ts
  simp only [BF,AB] at rx
  obtain ⟨a,vs,rfl,hs,r⟩:=rx
  exact .inl ⟨a,rfl,⟨vs,hs.sq⟩,s1 F1 H1 _ Le.refl ⟨ok1,jok_list (fun F' H' l=>(StL.lf l hs).sq) r⟩⟩
 ·rename_i ts
  simp only [BF,AB] at rx
  obtain ⟨a,vs,rfl,hs,r⟩:=rx
  exact .inr (.inl ⟨a,rfl,⟨vs,hs.sq⟩,s1 F1 H1 _ Le.refl ⟨ok1,jok_tup (fun F' H' l=>SqT.of ((l a hs.2.1).2.trans hs.2.2)) r⟩⟩)
 ·rename_i z
  exact .inr (.inr ⟨z,rx,s1 F1 H1 _ Le.refl ⟨ok1,jok_str⟩⟩)
 ·exact s1.elim
def gSetL:Rv->Rv->Rv->FS->SO
 | .rf i,.t (.int k),.t t,fs=>match AE fs i with
  | some (.lst ts)=>match ixN ts.length k with
   | some j=>.nx (putAt fs i (.lst (ts.set j t)))
   | none=>.bad
  | _=>.bad
 | _,_,_,_=>.bad
def gSetD:Rv->Rv->Rv->FS->SO
 | .rf i,.t y,.t t,fs=>match AE fs i with
  | some (.dK ks ts)=>match tKey y with
   | some k=>if ks.length < big then .nx (putAt fs i (.dK (HE ks ts k t).1 (HE ks ts k t).2)) else .bad
   | none=>.bad
  | some (.dT ks ts)=>match y with
   | .tup ys=>match HH ys with
    | some k=>if ks.length < big then .nx (putAt fs i (.dT (HE ks ts k t).1 (HE ks ts k t).2)) else .bad
    | none=>.bad
   | _=>.bad
  | _=>.bad
 | _,_,_,_=>.bad
def gSetU:Rv->Rv->Rv->FS->SO:=fun o i v fs=>match gSetL o i v fs with
 | .bad=>gSetD o i v fs
 | s=>s
def CK (fv fo fi:FS->Out Rv):FS->SO:=fun fs=>SO.of ((fv fs).bnd fun v fs=>(fo fs).bnd fun o fs=>(fi fs).bnd fun i fs=>.ok (v,o,i) fs) fun (v,o,i) fs=>gSetU o i v fs
section
variable {K:PySem.W.Frag} {Z:Xp} {B:Nat->Option V} {F:Wd} {H:Hp} {σ:St} {fs:FS} {D:Ends}
theorem gSetL_ok {o i v:Rv} {uo ui uv:V} (ok:Okk K F B H fs σ) (ro:BF K F H σ o uo) (ri:BF K F H σ i ui) (rv:BF K F H σ v uv) (s:Fm K Z B F H (gSetL o i v fs) D):rSetL uo ui uv H (fun H3=>D.nx σ H3):=by
 unfold gSetL at s
 split at s
 ·rename_i i k t
  split at s
  ·rename_i ts e
   split at s
   ·rename_i j ej
    obtain ⟨a,us,rfl,hs,r,kk⟩:=ok.list ro e
    obtain ⟨ok',l⟩:=kk (ts.set j t) (us.set j uv) (Ac.set rv j r)
    exact ⟨a,us,k,j,rfl,ri,hs,by rw [r.len];exact ej,s F _ σ l ok'⟩
   ·exact s.elim
  ·exact s.elim
 ·exact s.elim
theorem gSetD_ok {o i v:Rv} {uo ui uv:V} (ok:Okk K F B H fs σ) (ro:BF K F H σ o uo) (ri:BF K F H σ i ui) (rv:BF K F H σ v uv) (s:Fm K Z B F H (gSetD o i v fs) D):rDPut uo ui uv H (fun H3=>D.nx σ H3):=by
 unfold gSetD at s
 split at s
 ·rename_i i y t
  split at s
  ·rename_i ks ts e
   split at s
   ·rename_i k ek
    split at s
    ·rename_i hl
     obtain ⟨v,L2,e1,q,nf,_,kk⟩:=ok.own e
     have e2:σ[i]?=some (some uo):=ro
     rw [e1] at e2
     have e3:v=uo:=by simpa using e2
     subst e3
     simp only [AO] at q
     obtain ⟨a,kvs,rfl,hs,rfl,q,rfl⟩:=q
     have:=FJ ek ri
     subst this
     refine ⟨a,_,rfl,DPut.k hs (by rw [List.length_map] at hl;exact Nat.lt_trans hl big_lt),?_⟩
     obtain ⟨h1,h2⟩:=putT_rel (j:=k) rv q
     have l:Le F H F (upd H a (.dK (putK kvs k uv))):=⟨fun b f=>⟨f,Ap fun z=>(nf a (by simp)).1 (z▸f)⟩,fun b f=>⟨f,Ap fun z=>(nf a (by simp)).2 (z▸f)⟩⟩
     obtain ⟨ok',l'⟩:=kk (.dK (HE (kvs.map (·.1)) ts k t).1 (HE (kvs.map (·.1)) ts k t).2) (upd H a (.dK (putK kvs k uv))) (fun b hb _=>Ap (by simpa using hb)) (by
      simp only [AO]
      exact ⟨a,_,rfl,Av,h1,h2.le l,rfl⟩)
     exact s F _ σ l' ok'
    ·exact s.elim
   ·exact s.elim
  ·rename_i ks ts e
   split at s
   ·rename_i ys
    split at s
    ·rename_i k ek
     split at s
     ·rename_i hl
      obtain ⟨v,L2,e1,q,nf,_,kk⟩:=ok.own e
      have e2:σ[i]?=some (some uo):=ro
      rw [e1] at e2
      have e3:v=uo:=by simpa using e2
      subst e3
      simp only [AO] at q
      obtain ⟨a,kvs,rfl,hs,rfl,q,rfl⟩:=q
      simp only [BF,AB] at ri
      obtain ⟨b,vs,rfl,hb,rb⟩:=ri
      have:=Et ek rb
      subst this
      refine ⟨a,_,rfl,DPut.t hs hb.2.2 (by rw [List.length_map] at hl;exact Nat.lt_trans hl big_lt),?_⟩
      obtain ⟨h1,h2⟩:=putT_rel (j:=k) rv q
      have l:Le F H F (upd H a (.dT (putK kvs k uv))):=⟨fun b f=>⟨f,Ap fun z=>(nf a (by simp)).1 (z▸f)⟩,fun b f=>⟨f,Ap fun z=>(nf a (by simp)).2 (z▸f)⟩⟩
      obtain ⟨ok',l'⟩:=kk (.dT (HE (kvs.map (·.1)) ts k t).1 (HE (kvs.map (·.1)) ts k t).2) (upd H a (.dT (putK kvs k uv))) (fun b hb _=>Ap (by simpa using hb)) (by
       simp only [AO]
       exact ⟨a,_,rfl,Av,h1,h2.le l,rfl⟩)
      exact s F _ σ l' ok'
     ·exact s.elim
    ·exact s.elim
   ·exact s.elim
  ·exact s.elim
 ·exact s.elim
end
theorem Gg {X:Cx} {Z:Xp} {o i e:Expr} {fv fo fi:FS->Out Rv} {tpos pos:Pos} (hu:X.A.units+1 < cLine) (he:FE X Z e fv) (ho:FE X Z o fo) (hi:FE X Z i fi)
  (h:∀ {te to ti:TE} {t:TSet},PE X e te->PE X o to->PE X i ti->PSet X t->PS X (.Assign [.Subscript o i tpos] e pos) (tAsg te (gSub to ti t))):GS X Z (.Assign [.Subscript o i tpos] e pos) (CK fv fo fi):=by
 refine Dk (h he ho hi (PSet.orR set_list (set_dict hu))) fun D σ H ⟨F,B,fs,ok,s⟩=>?_
 have s':sat Z B (RR X.K B σ) F H (fv fs) (fun v H1=>gSub (tF X.K Z fo) (tF X.K Z fi) (orSet rSetL rDPut) v σ H1 D.nx):=by
  have s1:=CM (R:=fun F' H' fs' (a:Rv×Rv×Rv) (b:V×V×V)=>Okk X.K F' B H' fs' σ/\BF X.K F' H' σ a.1 b.1/\BF X.K F' H' σ a.2.1 b.2.1/\BF X.K F' H' σ a.2.2 b.2.2) (Q:=fun b H3=>orSet rSetL rDPut b.2.1 b.2.2 b.1 H3 fun H4=>D.nx σ H4) s (fun a fs' F' H' b l q s2=>by
   obtain ⟨q1,q2,q3,q4⟩:=q
   obtain ⟨v,o,i⟩:=a
   dsimp only at s2 q2 q3 q4 ⊢
   unfold gSetU at s2
   split at s2
   ·exact .inr (gSetD_ok q1 q3 q4 q2 s2)
   ·exact .inl (gSetL_ok q1 q3 q4 q2 s2))
  refine AU s1 fun v fs1 F1 H1 uv l1 ok1 rv s2=>?_
  refine ⟨F1,B,fs1,ok1,AU s2 fun o fs2 F2 H2 uo l2 ok2 ro s3=>⟨F2,B,fs2,ok2,AU s3 fun i fs3 F3 H3 ui l3 ok3 ri s4=>?_⟩⟩
  exact s4 F3 H3 (uv,uo,ui) Le.refl ⟨ok3,(rv.le l2).le l3,ro.le l3,ri⟩
 exact ⟨F,B,fs,ok,s'⟩
end FL
namespace FL
open PySem PySem.Spec L2
section
variable {K:PySem.W.Frag} {B:Nat->Option V} {F F':Wd} {H H':Hp} {σ:St} {fs:FS} {i:Nat} {ob:FO} {r:Rv} {u:V}
end
end FL
namespace FL
open PySem PySem.Spec L2
section
variable {X:Cx} {Z:Xp} {e:Expr} {es:List Expr} {fa:FS->Out (List Rv)} {pos p:Pos}
theorem D3 (hm:X.mg "len"=none) (ha:FA X Z (e :: es) fa) (hg:Gl X "len":=by rfl) (he:starEach (e :: es) X.env=(false,eval e X.env) :: starEach es X.env:=by rfl) (hpl:(backTo pos (starEach es X.env)).any (·.1)=false:=by rfl) :
  FE X Z (.Call (.Name "len" p) (e :: es) [] pos) (Ak Cp fa):=Ej (CT.or cf_len (CT.or cf_lenS cf_lenD)) (Cs.orR Hv (Cs.orR Hu call_lenDR)) hm PySem.boot_len ha hg (by decide) (by decide) he hpl
theorem fe_min2 (hm:X.mg "min"=none) (ha:FA X Z (e :: es) fa) (hc:X.calm=true:=by rfl) (hg:Gl X "min":=by rfl) (he:starEach (e :: es) X.env=(false,eval e X.env) :: starEach es X.env:=by rfl) (hpl:(backTo pos (starEach es X.env)).any (·.1)=false:=by rfl) :
  FE X Z (.Call (.Name "min" p) (e :: es) [] pos) (Ak Hf fa):=Ej cf_min2 (call_min2 hc) hm PyProof.Rows.boot_min ha hg (by decide) (by decide) he hpl
theorem fe_sum (hm:X.mg "sum"=none) (ha:FA X Z (e :: es) fa) (hc:X.calm=true:=by rfl) (hg:Gl X "sum":=by rfl) (he:starEach (e :: es) X.env=(false,eval e X.env) :: starEach es X.env:=by rfl) (hpl:(backTo pos (starEach es X.env)).any (·.1)=false:=by rfl) :
  FE X Z (.Call (.Name "sum" p) (e :: es) [] pos) (Ak gSum fa):=Ej cf_sum (call_sum hc) hm PyProof.Rows.boot_sum ha hg (by decide) (by decide) he hpl
theorem Gn (hm:X.mg "tuple"=none) (ha:FA X Z (e :: es) fa) (hg:Gl X "tuple":=by rfl) (he:starEach (e :: es) X.env=(false,eval e X.env) :: starEach es X.env:=by rfl) (hpl:(backTo pos (starEach es X.env)).any (·.1)=false:=by rfl) :
  FE X Z (.Call (.Name "tuple" p) (e :: es) [] pos) (Ak Dn fa):=ET cf_tuple Gu hm PyProof.Rows.boot_tuple ha hg (by decide) (by decide) he hpl
end
def revF (f:FS->Out Rv):FS->Out Rv:=fun fs=>(f fs).bnd fun r fs=>match Cd fs r with
 | some ts=>.ok (.nw (.lst ts.reverse)) fs
 | none=>.bad
theorem fe_listRev {X:Cx} {Z:Xp} {a:Expr} {f:FS->Out Rv} {p1 p2 pos1 pos2:Pos} (hc:X.calm=true) (hm1:X.mg "list"=none) (hm2:X.mg "reversed"=none) (ha:FE X Z a f) (hg1:Gl X "list":=by rfl) (hg2:Gl X "reversed":=by rfl)
  (he:starEach [(.Call (.Name "reversed" p2) [a] [] pos2:Expr)] X.env=[(false,eval (.Call (.Name "reversed" p2) [a] [] pos2) X.env)]:=by rfl) (he2:starEach [a] X.env=[(false,eval a X.env)]:=by rfl) :
  FE X Z (.Call (.Name "list" p1) [.Call (.Name "reversed" p2) [a] [] pos2] [] pos1) (revF f):=by
 refine A3 (pe_listRev hc hm1 hm2 ha hg1 hg2 he he2) fun σ H Q ⟨F,B,fs,ok,s⟩=>⟨F,B,fs,ok,AU s fun r fs1 F1 H1 u l ok1 rx s1=>?_⟩
 split at s1
 ·rename_i ts ets
  obtain ⟨a,vs,rfl,hs,q⟩:=Bk ok1 rx ets
  exact ⟨a,vs,rfl,hs,fun d hd=>s1 F1 _ (.ref d) (AM ok1 hd) (RR.alloc ok1 hd (Ce Av ((q.rev).le (AM ok1 hd))))⟩
 ·exact s1.elim
def RP (K:PySem.W.Frag) (B:Nat->Option V) (σ:St):Wd->Hp->FS->Option Int->Option Int->Prop:=fun F H fs a b=>Okk K F B H fs σ/\b=a
def tP (K:PySem.W.Frag) (Z:Xp) (f:FS->Out (Option Int)):TO:=fun σ H Q=>∃ F B fs,Okk K F B H fs σ/\sat Z B (RP K B σ) F H (f fs) Q
def FP (X:Cx) (Z:Xp) (e:Option Expr) (f:FS->Out (Option Int)):Prop:=PO X e (tP X.K Z f)
theorem po_imp {X:Cx} {e:Option Expr} {t t':TO} (h:PO X e t) (i:∀ σ H Q,t' σ H Q->t σ H Q):PO X e t':=fun pins s σ H Q I q=>h pins s σ H Q I (i _ _ _ q)
def noP:FS->Out (Option Int):=fun fs=>.ok none fs
def Cu (f:FS->Out Rv):FS->Out (Option Int):=fun fs=>(f fs).bnd fun r fs=>match r with
 | .t (.int i)=>.ok (some i) fs
 | _=>.bad
def cutT (ts:List T) (lo hi:Option Int):List T:=(ts.drop (HT.sIx ts.length 0 lo)).take (HT.sIx ts.length ts.length hi - HT.sIx ts.length 0 lo)
theorem cutT_rel {K:PySem.W.Frag} {F:Wd} {H:Hp} {ts:List T} {vs:List V} {lo hi:Option Int} (r:Ac K F H ts vs):Ac K F H (cutT ts lo hi) (cutV vs lo hi):=by
 unfold cutT cutV
 rw [r.len]
 exact (r.drop _).take _
def gSlU:Rv->Option Int->Option Int->FS->Out Rv:=fun x lo hi fs=>match Cd fs x with
 | some ts=>okT (.lst (cutT ts lo hi)) fs
 | none=>match x with
  | .t (.tup ts)=>okT (.tup (cutT ts lo hi)) fs
  | _=>.bad
def slF (f:FS->Out Rv) (l h:FS->Out (Option Int)):FS->Out Rv:=fun fs=>(f fs).bnd fun x fs=>(l fs).bind fun lo fs=>(h fs).bind fun hi fs=>gSlU x lo hi fs
section
variable {X:Cx} {Z:Xp} {e:Expr} {lo hi:Option Expr} {f:FS->Out Rv} {l h:FS->Out (Option Int)} {pos p2:Pos}
theorem Gm:FP X Z none noP:=po_imp po_none fun σ H Q ⟨F,B,fs,ok,s⟩=>s F H none Le.refl ⟨ok,rfl⟩
theorem Gk (he:FE X Z e f):FP X Z (some e) (Cu f):=by
 refine po_imp (po_some he) fun σ H Q ⟨F,B,fs,ok,s⟩=>⟨F,B,fs,ok,AU s fun r fs1 F1 H1 u l ok1 rx s1=>?_⟩
 split at s1
 ·exact ⟨_,rx,s1 F1 H1 _ Le.refl ⟨ok1,rfl⟩⟩
 ·exact s1.elim
theorem fe_sl (he:FE X Z e f) (hl:FP X Z lo l) (hu:FP X Z hi h):FE X Z (.Subscript e (.Slice lo hi none p2) pos) (slF f l h):=by
 refine A3 (pe_slice (SlR.or sl_list (SlR.or sl_tup sl_all)) he hl hu) fun σ H Q ⟨F,B,fs,ok,s⟩=>⟨F,B,fs,ok,AU s fun x fs1 F1 H1 u l1 ok1 rx s1=>⟨F1,B,fs1,ok1,AD s1 fun lo fs2 F2 H2 lo' l2 q2 s2=>?_⟩⟩
 obtain ⟨ok2,rfl⟩:=q2
 refine ⟨F2,B,fs2,ok2,AD s2 fun hi fs3 F3 H3 hi' l3 q3 s3=>?_⟩
 obtain ⟨ok3,rfl⟩:=q3
 have rx3:=(rx.le l2).le l3
 unfold gSlU at s3
 split at s3
 ·rename_i ts e
  obtain ⟨a,vs,rfl,hs,r⟩:=Bk ok3 rx3 e
  exact .inl ⟨a,vs,rfl,hs,fun p hp=>s3 _ _ (.ref p) (Br ok3 hp) (rel_newLst ok3 hp (cutT_rel r))⟩
 ·split at s3
  ·rename_i ts _
   obtain ⟨a,vs,rfl,hs,r⟩:=Bx (ts:=ts) rx3 rfl
   by_cases hw:HT.sIx ts.length 0 lo'=0/\HT.sIx ts.length ts.length hi'=ts.length
   ·refine .inr (.inr ⟨a,vs,rfl,hs,by rw [r.len];exact hw,s3 F3 H3 _ Le.refl (RR.of ok3 ?_)⟩)
    have e:cutT ts lo' hi'=ts:=by
     unfold cutT
     rw [hw.1,hw.2]
     simp
    rw [e]
    exact rx3
   ·exact .inr (.inl ⟨a,vs,rfl,hs,by rw [r.len];exact hw,fun p hp=>s3 _ _ (.ref p) (Br ok3 hp) (DF ok3 hp (cutT_rel r))⟩)
  ·exact s3.elim
end
end FL
namespace FL
open PySem PySem.Spec L2
def tyT:T->Option String
 | .non=>some "NoneType"
 | .bl _=>some "bool"
 | .int _=>some "int"
 | .str _=>some "str"
 | .tup _=>some "tuple"
 | .lst _=>some "list"
 | .dT _ _=>some "dict"
 | _=>none
def Es:List String:=["NoneType","bool","int","str","tuple","list","dict"]
def HK (t T:String):Bool:=t == T || (t == "bool" && T == "int")
def Kit (K:PySem.W.Frag) (T:String):Prop:=∀ t,t∈Es->PySem.W.kitOne K (.type t) (.type T)=some (HK t T)
theorem tyT_ok {K:PySem.W.Frag} {F:Wd} {H:Hp} {t:T} {u:V} {n:String} (r:AB K F H t u) (e:tyT t=some n):TyOf K H u (.type n)/\n∈Es:=by
 cases t <;> simp only [tyT,Option.some.injEq,reduceCtorEq] at e <;> (try subst e) <;> (try simp only [AB] at r)
 ·subst r;exact ⟨.non,by decide⟩
 ·subst r;exact ⟨.bl _,by decide⟩
 ·subst r;exact ⟨.int _,by decide⟩
 ·subst r;exact ⟨.str _,by decide⟩
 ·obtain ⟨a,vs,rfl,hs,_⟩:=r;exact ⟨.tup hs.2.2,by decide⟩
 ·obtain ⟨a,vs,rfl,f,hs,_⟩:=r;exact ⟨.lst hs,by decide⟩
 ·obtain ⟨a,kvs,rfl,f,hs,_⟩:=r;exact ⟨.dT hs,by decide⟩
def isF (T:String) (f:FS->Out Rv):FS->Out Rv:=fun fs=>(f fs).bnd fun r fs=>match r with
 | .t t=>match tyT t with
  | some n=>.ok (.t (.bl (HK n T))) fs
  | none=>.bad
 | _=>.bad
theorem ES {X:Cx} {Z:Xp} {a:Expr} {f:FS->Out Rv} {p p2 pos:Pos} {x:Str} {T:String} (k:Kit X.K T) (hb:bootBuiltins x=some (.type T)) (hm:X.mg "isinstance"=none) (hm2:X.mg x=none) (ha:FE X Z a f) (hg:Gl X "isinstance":=by rfl) (hg2:Gl X x:=by rfl)
  (hn:x≠"__name__":=by decide) (hdb:(x == ("__debug__":Str))=false:=by decide)
  (hs:starEach [a,.Name x p2] X.env=(false,eval a X.env) :: starEach [.Name x p2] X.env:=by rfl) (hs2:starEach [.Name x p2] X.env=[(false,eval (.Name x p2) X.env)]:=by rfl) (hpl:(backTo pos (starEach [.Name x p2] X.env)).any (·.1)=false:=by rfl) :
  FE X Z (.Call (.Name "isinstance" p) [a,.Name x p2] [] pos) (isF T f):=by
 refine A3 (FY (E3 T) hg hm PyProof.Rows.boot_isinstance (DG ha (DG (pe_bltn (v:=.ty T) hg2 hm2 hb rfl hn hdb) pa_nil hs2) hs) (by decide) (by decide) hs hpl) fun σ H Q ⟨F,B,fs,ok,s⟩=>?_
 refine ⟨F,B,fs,ok,AU s fun r fs1 F1 H1 u l1 ok1 rx s1=>?_⟩
 split at s1
 ·rename_i t
  split at s1
  ·rename_i n e
   obtain ⟨ty,mem⟩:=tyT_ok rx e
   exact ⟨u,_,_,rfl,ty,k n mem,s1 F1 H1 _ Le.refl (RR.of ok1 rfl)⟩
  ·exact s1.elim
 ·exact s1.elim
section
variable {K:PySem.W.Frag}
theorem kit_str:Kit K "str":=fun t h=>by simp only [Es,List.mem_cons,List.not_mem_nil,or_false] at h;rcases h with rfl | rfl | rfl | rfl | rfl | rfl | rfl <;> rfl
theorem kit_list:Kit K "list":=fun t h=>by simp only [Es,List.mem_cons,List.not_mem_nil,or_false] at h;rcases h with rfl | rfl | rfl | rfl | rfl | rfl | rfl <;> rfl
theorem kit_tuple:Kit K "tuple":=fun t h=>by simp only [Es,List.mem_cons,List.not_mem_nil,or_false] at h;rcases h with rfl | rfl | rfl | rfl | rfl | rfl | rfl <;> rfl
end
def orM (g g':Rv->List Rv->FS->Out Rv):Rv->List Rv->FS->Out Rv:=fun x rs fs=>match g x rs fs with
 | .bad=>g' x rs fs
 | o=>o
theorem MtF.or {K:PySem.W.Frag} {Z:Xp} {r r':V->List V->Hp->VK->Prop} {g g':Rv->List Rv->FS->Out Rv} (h:MtF K Z r g) (h':MtF K Z r' g'):MtF K Z (orMt r r') (orM g g'):=by
 intro F B H σ fs x rs u vs Q ok rx q s
 unfold orM at s
 cases e:g x rs fs with
 | ok a t=>rw [e] at s;exact .inl (h F B H σ fs x rs u vs Q ok rx q (by rw [e];exact s))
 | exc c t=>rw [e] at s;exact .inl (h F B H σ fs x rs u vs Q ok rx q (by rw [e];exact s))
 | bad=>rw [e] at s;exact .inr (h' F B H σ fs x rs u vs Q ok rx q s)
def gExtT:Rv->List Rv->FS->Out Rv
 | .rf i,[.t (.tup us)],fs=>match AE fs i with
  | some (.lst ts)=>if ts.length+us.length<=big then .ok (.t .non) (putAt fs i (.lst (ts++us))) else .bad
  | _=>.bad
 | _,_,_=>.bad
theorem mf_extT {K:PySem.W.Frag} {Z:Xp}:MtF K Z (rExtT K) gExtT:=by
 intro F B H σ fs x rs u vs Q ok rx q s
 unfold gExtT at s
 split at s
 ·rename_i i ws
  obtain ⟨v,rfl,qq⟩:=Bq q
  have q:=qq
  split at s
  ·rename_i ts e
   split at s
   ·rename_i hl
    obtain ⟨a,us,rfl,hs,r,k⟩:=ok.list rx e
    simp only [BF,AB] at q
    obtain ⟨b,zs,rfl,hb,rz⟩:=q
    obtain ⟨ok',l⟩:=k _ _ (r.app rz)
    exact ⟨a,b,us,zs,rfl,rfl,hs,hb.sq,by rw [r.len,rz.len];exact Nat.le_trans hl CP,s F _ _ l (RR.of ok' rfl)⟩
   ·exact s.elim
  ·exact s.elim
 ·exact s.elim
def Hh:=orM gExt gExtT
theorem mf_extU {K:PySem.W.Frag} {Z:Xp}:MtF K Z (orMt FU (rExtT K)) Hh:=MtF.or mf_ext mf_extT
theorem mt_extU {X:Cx}:MtR X "list.extend" (orMt FU (rExtT X.K)):=MtR.orR mt_extend mt_extT
end FL
namespace FL
open PySem PySem.Spec L2
def isDR (fs:FS):Rv->Bool
 | .t (.dK _ _)=>true
 | .t (.dF _ _)=>true
 | .t (.dT _ _)=>true
 | .rf i=>match AE fs i with
  | some (.dK _ _)=>true
  | some (.dT _ _)=>true
  | _=>false
 | _=>false
def getF (fo fk fd:FS->Out Rv):FS->Out Rv:=fun fs=>(fo fs).bnd fun x fs=>if isDR fs x=true then (fk fs).bnd fun y fs=>(fd fs).bnd fun z fs=>match y,z with
 | .t y,.t z=>match dget fs x y with
  | some o=>okT (o.getD z) fs
  | none=>.bad
 | _,_=>.bad else .bad
section
variable {X:Cx} {Z:Xp} {o e f:Expr} {fo fk fd:FS->Out Rv} {apos cpos:Pos}
theorem isDR_ok {K:PySem.W.Frag} {B:Nat->Option V} {F:Wd} {H:Hp} {σ:St} {fs:FS} {x:Rv} {u:V} (h:Okk K F B H fs σ) (rx:BF K F H σ x u) (e:isDR fs x=true):∃ a,u=.ref a/\IsD H a:=by
 unfold isDR at e
 split at e
 ·simp only [BF,AB] at rx
  obtain ⟨a,kvs,rfl,f,hd,_⟩:=rx
  exact ⟨a,rfl,.inl ⟨kvs,hd⟩⟩
 ·simp only [BF,AB] at rx
  obtain ⟨a,kvs,rfl,f,⟨ob,hd⟩,_⟩:=rx
  exact ⟨a,rfl,.inl ⟨kvs,.inr ⟨ob,hd⟩⟩⟩
 ·simp only [BF,AB] at rx
  obtain ⟨a,kvs,rfl,f,hd,_⟩:=rx
  exact ⟨a,rfl,.inr ⟨kvs,.inl hd⟩⟩
 ·rename_i i
  have e2:σ[i]?=some (some u):=rx
  split at e
  ·rename_i eo
   obtain ⟨v,L2,e1,q,_⟩:=h.own eo
   rw [e1] at e2
   have e3:v=u:=by simpa using e2
   subst e3
   simp only [AO] at q
   obtain ⟨a,kvs,rfl,hd,_⟩:=q
   exact ⟨a,rfl,.inl ⟨kvs,.inl hd⟩⟩
  ·rename_i eo
   obtain ⟨v,L2,e1,q,_⟩:=h.own eo
   rw [e1] at e2
   have e3:v=u:=by simpa using e2
   subst e3
   simp only [AO] at q
   obtain ⟨a,kvs,rfl,hd,_⟩:=q
   exact ⟨a,rfl,.inr ⟨kvs,.inl hd⟩⟩
  ·cases e
 ·cases e
theorem fe_get (hu:X.A.units+1 < cLine) (ho:FE X Z o fo) (he:FE X Z e fk) (hf:FE X Z f fd) (m:M2 X o "get" apos e f cpos):FE X Z (.Call (.Attribute o "get" apos) [e,f] [] cpos) (getF fo fk fd):=by
 refine A3 (pe_dget2 hu ho he hf m) fun σ H Q ⟨F,B,fs,ok,s⟩=>⟨F,B,fs,ok,AU s fun x fs1 F1 H1 u l ok1 rx s1=>?_⟩
 by_cases hd:isDR fs1 x=true
 ·rw [if_pos hd] at s1
  obtain ⟨a,rfl,d⟩:=isDR_ok ok1 rx hd
  refine ⟨a,rfl,d,F1,B,fs1,ok1,AU s1 fun y fs2 F2 H2 w l2 ok2 ry s2=>⟨F2,B,fs2,ok2,AU s2 fun z fs3 F3 H3 w3 l3 ok3 rz s3=>?_⟩⟩
  split at s3
  ·split at s3
   ·rename_i y z t e
    obtain ⟨a',o',ea,hd',h⟩:=dget_ok ok3 ((rx.le l2).le l3) (AB.le l3 ry) e
    cases ea
    refine ⟨o',hd',?_⟩
    rcases h with ⟨h1,h2⟩ | ⟨t',v,h1,h2,h3⟩
    ·subst h1;subst h2
     exact s3 F3 H3 w3 Le.refl (RR.of ok3 rz)
    ·subst h1;subst h2
     exact s3 F3 H3 v Le.refl (RR.of ok3 h3)
   ·exact s3.elim
  ·exact s3.elim
 ·rw [if_neg hd] at s1
  exact s1.elim
end
def isG (T:String) (f:FS->Out Rv):FS->Out Rv:=fun fs=>(f fs).bnd fun r fs=>match r with
 | .t t=>match tyT t with
  | some n=>.ok (.t (.bl (HK n T))) fs
  | none=>.bad
 | .rf i=>match AE fs i with
  | some (.lst _)=>.ok (.t (.bl (HK "list" T))) fs
  | _=>.bad
 | _=>.bad
theorem fe_isinstG {X:Cx} {Z:Xp} {a:Expr} {f:FS->Out Rv} {p p2 pos:Pos} {x:Str} {T:String} (k:Kit X.K T) (hb:bootBuiltins x=some (.type T)) (hm:X.mg "isinstance"=none) (hm2:X.mg x=none) (ha:FE X Z a f) (hg:Gl X "isinstance":=by rfl) (hg2:Gl X x:=by rfl)
  (hn:x≠"__name__":=by decide) (hdb:(x == ("__debug__":Str))=false:=by decide)
  (hs:starEach [a,.Name x p2] X.env=(false,eval a X.env) :: starEach [.Name x p2] X.env:=by rfl) (hs2:starEach [.Name x p2] X.env=[(false,eval (.Name x p2) X.env)]:=by rfl) (hpl:(backTo pos (starEach [.Name x p2] X.env)).any (·.1)=false:=by rfl) :
  FE X Z (.Call (.Name "isinstance" p) [a,.Name x p2] [] pos) (isG T f):=by
 refine A3 (FY (E3 T) hg hm PyProof.Rows.boot_isinstance (DG ha (DG (pe_bltn (v:=.ty T) hg2 hm2 hb rfl hn hdb) pa_nil hs2) hs) (by decide) (by decide) hs hpl) fun σ H Q ⟨F,B,fs,ok,s⟩=>?_
 refine ⟨F,B,fs,ok,AU s fun r fs1 F1 H1 u l1 ok1 rx s1=>?_⟩
 split at s1
 ·rename_i t
  split at s1
  ·rename_i n e
   obtain ⟨ty,mem⟩:=tyT_ok rx e
   exact ⟨u,_,_,rfl,ty,k n mem,s1 F1 H1 _ Le.refl (RR.of ok1 rfl)⟩
  ·exact s1.elim
 ·rename_i i
  have e2:σ[i]?=some (some u):=rx
  split at s1
  ·rename_i eo
   obtain ⟨v,L2,e1,q,_⟩:=ok1.own eo
   rw [e1] at e2
   have e3:v=u:=by simpa using e2
   subst e3
   simp only [AO] at q
   obtain ⟨a',vs,rfl,hd,_⟩:=q
   exact ⟨.ref a',_,_,rfl,.lst hd,k "list" (by decide),s1 F1 H1 _ Le.refl (RR.of ok1 rfl)⟩
  ·exact s1.elim
 ·exact s1.elim
end FL
namespace FL
open PySem PySem.Spec L2
def D6:T->Option (List T)
 | .tup ts=>some ts
 | _=>none
theorem tupOf_eq {t:T} {ts:List T} (e:D6 t=some ts):t=.tup ts:=by
 cases t <;> first | (cases e;rfl) | cases e
def EV (f:T->T->Option Bool):List T->List T->Option Bool
 | x :: xs,y :: ys=>(f x y).bind fun b=>(EV f xs ys).map (b && ·)
 | _,_=>some true
def eqT:Nat->T->T->Option Bool
 | 0,x,y=>(plV x).bind fun u=>(plV y).map (eqV u)
 | n+1,x,y=>match D6 x with
  | some xs=>match D6 y with
   | some ys=>(EV (eqT n) xs ys).map (· && xs.length == ys.length)
   | none=>(plV y).map fun _=>false
  | none=>match D6 y with
   | some _=>(plV x).map fun _=>false
   | none=>(plV x).bind fun u=>(plV y).map (eqV u)
def eAt (f:T->T->Option Bool) (xs ys:List T) (j:Nat):Bool:=(f (xs.getD j .non) (ys.getD j .non)).getD false
theorem C1 {f:T->T->Option Bool}:∀ {xs ys:List T} {b:Bool},EV f xs ys=some b->b=(List.range (min xs.length ys.length)).all (eAt f xs ys)
 | [],_,_,e=>by cases e;simp
 | _ :: _,[],_,e=>by cases e;simp
 | x :: xs,y :: ys,b,e=>by
  simp only [EV,Option.bind_eq_some_iff,Option.map_eq_some_iff] at e
  obtain ⟨c,e1,d,e2,rfl⟩:=e
  have ih:=C1 e2
  rw [List.length_cons,List.length_cons,Nat.succ_min_succ,List.range_succ_eq_map,List.all_cons,List.all_map,ih]
  have h0:eAt f (x :: xs) (y :: ys) 0=c:=by simp [eAt,e1]
  rw [h0]
  congr 1
theorem eqTs_at {f:T->T->Option Bool}:∀ {xs ys:List T} {b:Bool},EV f xs ys=some b->∀ (j:Nat) (x y:T),xs[j]?=some x->ys[j]?=some y->f x y=some (eAt f xs ys j)
 | [],_,_,e=>by intro j x y h;simp at h
 | _ :: _,[],_,e=>by intro j x y _ h;simp at h
 | x :: xs,y :: ys,b,e=>by
  simp only [EV,Option.bind_eq_some_iff,Option.map_eq_some_iff] at e
  obtain ⟨c,e1,d,e2,rfl⟩:=e
  intro j x' y' h1 h2
  cases j with
  | zero =>
   simp only [List.getElem?_cons_zero,Option.some.injEq] at h1 h2
   subst h1 h2
   simp [eAt,e1]
  | succ j =>
   rw [List.getElem?_cons_succ] at h1 h2
   have:=eqTs_at e2 _ _ _ h1 h2
   rw [this]
   simp [eAt]
theorem eqV_self {v:V} (h:DL v=true):eqV v v=true:=by
 cases v <;> first | rfl | (simp [eqV];done) | (simp [DL] at h)
theorem plV_eq {K:PySem.W.Frag} {F:Wd} {H:Hp} {x y:T} {v:V} {b:Bool} (rx:AB K F H x v) (ry:AB K F H y v) (e:((plV x).bind fun u=>(plV y).map (eqV u))=some b):b=true:=by
 simp only [Option.bind_eq_some_iff,Option.map_eq_some_iff] at e
 obtain ⟨u,e1,w,e2,rfl⟩:=e
 have h1:=Bz e1 rx
 have h2:=Bz e2 ry
 subst h1 h2
 exact eqV_self (Cf e1)
theorem GN {K:PySem.W.Frag} {F:Wd} {H:Hp} {x:T} {v u:V} {a:Addr} (e:plV x=some u) (r:AB K F H x v):v≠.ref a:=by
 have h1:=Bz e r
 subst h1
 have:=Cf e
 intro h
 subst h
 cases this
theorem BV {K:PySem.W.Frag} {F:Wd} {H:Hp} {t:T} {ts:List T} {v:V} (e:D6 t=some ts) (r:AB K F H t v):∃ a vs,v=.ref a/\StT K F H a vs/\Ac K F H ts vs:=by
 cases tupOf_eq e
 simpa only [AB] using r
theorem eqT_same {K:PySem.W.Frag} {F:Wd} {H:Hp}:∀ {n:Nat} {x y:T} {v:V} {b:Bool},eqT n x y=some b->AB K F H x v->AB K F H y v->b=true
 | 0,x,y,v,b,e,rx,ry=>plV_eq rx ry e
 | n+1,x,y,v,b,e,rx,ry=>by
  unfold eqT at e
  cases e1:D6 x with
  | none =>
   rw [e1] at e
   cases e2:D6 y with
   | none=>rw [e2] at e;exact plV_eq rx ry e
   | some ys =>
    rw [e2] at e
    obtain ⟨a,vs,rfl,_⟩:=BV e2 ry
    obtain ⟨u,e3,_⟩:=Option.map_eq_some_iff.mp e
    exact absurd rfl (GN e3 rx)
  | some xs =>
   rw [e1] at e
   obtain ⟨a,vs,rfl,sx,rxs⟩:=BV e1 rx
   cases e2:D6 y with
   | none =>
    rw [e2] at e
    obtain ⟨u,e3,_⟩:=Option.map_eq_some_iff.mp e
    exact absurd rfl (GN e3 ry)
   | some ys =>
    rw [e2] at e
    obtain ⟨a',vs',ea,sy,rys⟩:=BV e2 ry
    cases ea
    have hv:vs=vs':=by
     have:=sx.2.2.symm.trans sy.2.2
     injection this with this
     injection this
    subst hv
    obtain ⟨c,e3,rfl⟩:=Option.map_eq_some_iff.mp e
    have hl:xs.length=ys.length:=by rw [<- rxs.len,<- rys.len]
    rw [Bool.and_eq_true]
    refine ⟨?_,by simp [hl]⟩
    rw [C1 e3,List.all_eq_true]
    intro j hj
    rw [List.mem_range] at hj
    have h1:j < xs.length:=by omega
    have h2:j < ys.length:=by omega
    have g1:xs[j]?=some xs[j]:=List.getElem?_eq_getElem h1
    have g2:ys[j]?=some ys[j]:=List.getElem?_eq_getElem h2
    obtain ⟨v1,q1,r1⟩:=rxs.at g1
    obtain ⟨v2,q2,r2⟩:=rys.at g2
    have:v1=v2:=by rw [q1] at q2;injection q2
    subst this
    exact eqT_same (eqTs_at e3 _ _ _ g1 g2) r1 r2
section
variable {X:Cx} {pins:List (Addr×Obj)} {σ:St} {H:Hp} {s:Shared} {F:Wd}
theorem flat_tup {A:Around} {l:Addr} {items:Array Value} {y:V} {u:Value} (hl:s.heap.IsTuple l items) (hu:A.units < cLine) (ry:RelV y u) (fy:DL y=true) :
  SeqAt.EqAt A s (.ref l) u false/\SeqAt.EqAt A s u (.ref l) false/\SeqAt.RcAt A s (.ref l) u false/\SeqAt.RcAt A s u (.ref l) false:=by
 cases y with
 | non=>cases ry;exact ⟨.tuple_none hl hu,.none_tuple hl hu,.tuple_none hl hu,.none_tuple hl hu⟩
 | bl b=>cases ry;exact ⟨.tuple_bool _ hl hu,.bool_tuple _ hl hu,.tuple_bool _ hl hu,.bool_tuple _ hl hu⟩
 | int b=>obtain ⟨t,rfl⟩:=ry;exact ⟨.tuple_int _ _ hl hu,.int_tuple _ _ hl hu,.tuple_int _ _ hl hu,.int_tuple _ _ hl hu⟩
 | str b=>obtain ⟨t,rfl⟩:=ry;exact ⟨.tuple_str _ _ hl hu,.str_tuple _ _ hl hu,.tuple_str _ _ hl hu,.str_tuple _ _ hl hu⟩
 | _=>cases fy
theorem plV_eqAt {A:Around} {x y:T} {v w:V} {u u':Value} {b:Bool} (rx:AB X.K F H x v) (ry:AB X.K F H y w) (qx:RelV v u) (qy:RelV w u') (e:((plV x).bind fun u=>(plV y).map (eqV u))=some b):SeqAt.EqAt A s u u' b:=by
 simp only [Option.bind_eq_some_iff,Option.map_eq_some_iff] at e
 obtain ⟨p,e1,q,e2,rfl⟩:=e
 have h1:=Bz e1 rx
 have h2:=Bz e2 ry
 subst h1 h2
 exact eqAt_V qx qy (Cf e1) (Cf e2)
theorem items_eqAt {A:Around} {xs ys:List T} {vs ws:List V} {us us':List Value} {f:T->T->Option Bool} {b:Bool} (e:EV f xs ys=some b) (rx:Ac X.K F H xs vs) (ry:Ac X.K F H ys ws) (qx:Vals vs us) (qy:Vals ws us')
  (ih:∀ {x y:T} {v w:V} {u u':Value} {b:Bool},f x y=some b->AB X.K F H x v->AB X.K F H y w->RelV v u->RelV w u'->SeqAt.EqAt A s u u' b) :
  ∀ j (h1:j < us.toArray.size) (h2:j < us'.toArray.size),SeqAt.EqAt A s us.toArray[j] us'.toArray[j] (eAt f xs ys j):=by
 intro j h1 h2
 have l1:=rx.len
 have l2:=ry.len
 have l3:=qx.length
 have l4:=qy.length
 rw [List.size_toArray] at h1 h2
 have g1:xs[j]?=some (xs[j]'(by omega)):=List.getElem?_eq_getElem (by omega)
 have g2:ys[j]?=some (ys[j]'(by omega)):=List.getElem?_eq_getElem (by omega)
 obtain ⟨v,q1,r1⟩:=rx.at g1
 obtain ⟨w,q2,r2⟩:=ry.at g2
 obtain ⟨u,p1,o1⟩:=qx.get q1
 obtain ⟨u',p2,o2⟩:=qy.get q2
 rw [List.getElem?_eq_getElem h1] at p1
 rw [List.getElem?_eq_getElem h2] at p2
 injection p1 with p1
 injection p2 with p2
 rw [show us.toArray[j]=us[j] by simp,show us'.toArray[j]=us'[j] by simp,p1,p2]
 exact ih (eqTs_at e _ _ _ g1 g2) r1 r2 o1 o2
theorem eqT_at (I:Inv X pins σ H s):∀ {n:Nat} {A:Around} {x y:T} {v w:V} {u u':Value} {b:Bool},A.units+n < cLine->eqT n x y=some b->AB X.K F H x v->AB X.K F H y w->RelV v u->RelV w u'->SeqAt.EqAt A s u u' b
 | 0,A,x,y,v,w,u,u',b,hu,e,rx,ry,qx,qy=>plV_eqAt rx ry qx qy e
 | n+1,A,x,y,v,w,u,u',b,hu,e,rx,ry,qx,qy=>by
  have e0:=e
  unfold eqT at e
  cases e1:D6 x with
  | none =>
   rw [e1] at e
   cases e2:D6 y with
   | none=>rw [e2] at e;exact plV_eqAt rx ry qx qy e
   | some ys =>
    rw [e2] at e
    obtain ⟨a,vs,rfl,st,_⟩:=BV e2 ry
    obtain ⟨p,e3,rfl⟩:=Option.map_eq_some_iff.mp e
    have h1:=Bz e3 rx
    subst h1
    cases qy
    obtain ⟨its,_,ht,_⟩:=I.tuple st.sq
    exact (flat_tup ht (by omega) qx (Cf e3)).2.1
  | some xs =>
   rw [e1] at e
   obtain ⟨a,vs,rfl,sx,rxs⟩:=BV e1 rx
   cases qx
   obtain ⟨its,vx,ht,_⟩:=I.tuple sx.sq
   cases e2:D6 y with
   | none =>
    rw [e2] at e
    obtain ⟨p,e3,rfl⟩:=Option.map_eq_some_iff.mp e
    have h1:=Bz e3 ry
    subst h1
    exact (flat_tup ht (by omega) qy (Cf e3)).1
   | some ys =>
    rw [e2] at e
    obtain ⟨a',vs',rfl,sy,rys⟩:=BV e2 ry
    cases qy
    obtain ⟨its',vx',ht',_⟩:=I.tuple sy.sq
    by_cases hab:a=a'
    ·subst hab
     rw [eqT_same e0 rx ry]
     exact SeqAt.EqAt.same _
    ·obtain ⟨c,e3,rfl⟩:=Option.map_eq_some_iff.mp e
     have l1:its.length=xs.length:=by rw [<- vx.length,rxs.len]
     have l2:its'.length=ys.length:=by rw [<- vx'.length,rys.len]
     have:=SeqAt.RcAt.tuples ht ht' (A:=A) (by omega) (items_eqAt e3 rxs rys vx vx' (fun h r1 r2 o1 o2=>eqT_at I (n:=n) (A:=A.in1) (by show A.units+1+n < _;omega) h r1 r2 o1 o2))
     rw [List.size_toArray,List.size_toArray,l1,l2,<- C1 e3] at this
     exact SeqAt.EqAt.of_refs hab this
end
def eqB (neg:Bool) (xs ys:List T) (fs:FS):Out Rv:=match EV (eqT 60) xs ys with
 | some b=>okT (.bl (if neg then !(b && xs.length == ys.length) else (b && xs.length == ys.length))) fs
 | none=>.bad
def gEqT (neg:Bool):Rv->Rv->FS->Out Rv:=fun x y fs=>match seqT x with
 | some xs=>match seqT y with
  | some ys=>eqB neg xs ys fs
  | none=>.bad
 | none=>match Cd fs x with
  | some xs=>match Cd fs y with
   | some ys=>eqB neg xs ys fs
   | none=>.bad
  | none=>.bad
def EqS (X:Cx) (neg:Bool) (H:Hp) (x y:V) (b:Bool):Prop:=∀ (pins:List (Addr×Obj)) (σ:St) (s:Shared) (u w:Value),Inv X pins σ H s->RelV x u->RelV y w ->
 if neg then SeqAt.RcNeAt X.A s u w (!b) else SeqAt.RcAt X.A s u w b
def rEqS (X:Cx) (neg:Bool):R2:=fun x y H Q=>∃ b,EqS X neg H x y b/\Q (.bl (if neg then !b else b)) H
theorem op_eqS {X:Cx}:OpR X (compareOp .Eq) (rEqS X false):=by
 intro pins s σ H x y v u Q I rx ry h
 obtain ⟨b,e,q⟩:=h
 have e:SeqAt.RcAt X.A s v u b:=e pins σ s v u I rx ry
 exact e X.prog X.w X.xe _ ⟨.bl b,H,I,rfl,q⟩
theorem op_neS {X:Cx}:OpR X (compareOp .NotEq) (rEqS X true):=by
 intro pins s σ H x y v u Q I rx ry h
 obtain ⟨b,e,q⟩:=h
 have e:SeqAt.RcNeAt X.A s v u (!b):=e pins σ s v u I rx ry
 exact e X.prog X.w X.xe _ ⟨.bl (!b),H,I,rfl,q⟩
theorem eqS_tup {X:Cx} {neg:Bool} {F:Wd} {H:Hp} {a a':Addr} {xs ys:List T} {vs ws:List V} {b:Bool} (hu:X.A.units+61 < cLine) (e:EV (eqT 60) xs ys=some b) (sx:SqT X.K H a vs) (sy:SqT X.K H a' ws) (rx:Ac X.K F H xs vs) (ry:Ac X.K F H ys ws) :
  EqS X neg H (.ref a) (.ref a') (b && xs.length == ys.length):=by
 intro pins σ s u w I qx qy
 cases qx
 cases qy
 obtain ⟨its,vx,ht,_⟩:=I.tuple sx
 obtain ⟨its',vx',ht',_⟩:=I.tuple sy
 have l1:its.length=xs.length:=by rw [<- vx.length,rx.len]
 have l2:its'.length=ys.length:=by rw [<- vx'.length,ry.len]
 have he:=items_eqAt (s:=s) (A:=X.A.in1) e rx ry vx vx' (fun h r1 r2 o1 o2=>eqT_at I (n:=60) (A:=X.A.in1) (by show X.A.units+1+60 < _;omega) h r1 r2 o1 o2)
 cases neg with
 | false =>
  have:=SeqAt.RcAt.tuples ht ht' (A:=X.A) (by omega) he
  rw [List.size_toArray,List.size_toArray,l1,l2,<- C1 e] at this
  exact this
 | true =>
  have:=SeqAt.RcNeAt.tuples ht ht' (A:=X.A) (by omega) he
  rw [List.size_toArray,List.size_toArray,l1,l2,<- C1 e] at this
  exact this
theorem eqS_lst {X:Cx} {neg:Bool} {F:Wd} {H:Hp} {a a':Addr} {xs ys:List T} {vs ws:List V} {b:Bool} (hu:X.A.units+61 < cLine) (e:EV (eqT 60) xs ys=some b) (sx:SqL X.K H a vs) (sy:SqL X.K H a' ws) (rx:Ac X.K F H xs vs) (ry:Ac X.K F H ys ws) :
  EqS X neg H (.ref a) (.ref a') (b && xs.length == ys.length):=by
 intro pins σ s u w I qx qy
 cases qx
 cases qy
 obtain ⟨its,vx,ht,_⟩:=I.list sx
 obtain ⟨its',vx',ht',_⟩:=I.list sy
 have l1:its.length=xs.length:=by rw [<- vx.length,rx.len]
 have l2:its'.length=ys.length:=by rw [<- vx'.length,ry.len]
 have he:=items_eqAt (s:=s) (A:=X.A.in1) e rx ry vx vx' (fun h r1 r2 o1 o2=>eqT_at I (n:=60) (A:=X.A.in1) (by show X.A.units+1+60 < _;omega) h r1 r2 o1 o2)
 by_cases hl:xs.length=ys.length
 ·have hs:its.toArray.size=its'.toArray.size:=by rw [List.size_toArray,List.size_toArray];omega
  have hb:(b && xs.length == ys.length)=(List.range its.toArray.size).all (eAt (eqT 60) xs ys):=by
   rw [C1 e,hl,Nat.min_self,List.size_toArray,l1,hl]
   simp
  rw [hb]
  cases neg with
  | false=>exact SeqAt.RcAt.lists ht.isList ht'.isList hs (A:=X.A) (by omega) he
  | true=>exact SeqAt.RcNeAt.lists ht.isList ht'.isList hs (A:=X.A) (by omega) he
 ·have hs:(its.toArray.size != its'.toArray.size)=true:=by rw [List.size_toArray,List.size_toArray,bne_iff_ne];omega
  have hb:(b && xs.length == ys.length)=false:=by simp [hl]
  rw [hb]
  cases neg with
  | false=>exact SeqAt.RcAt.lists_lengths ht.isList ht'.isList hs (A:=X.A) (by omega)
  | true=>exact SeqAt.RcNeAt.lists_lengths ht.isList ht'.isList hs (A:=X.A) (by omega)
theorem of_eqT {X:Cx} {Z:Xp} (neg:Bool) (hu:X.A.units+61 < cLine):OpF X.K Z (rEqS X neg) (gEqT neg):=by
 intro F B H σ fs x y u w Q ok rx ry s
 unfold gEqT at s
 cases e1:seqT x with
 | some xs =>
  rw [e1] at s
  cases e2:seqT y with
  | none=>rw [e2] at s;exact s.elim
  | some ys =>
   rw [e2] at s
   obtain ⟨a,vs,rfl,sx,r1⟩:=Bx rx e1
   obtain ⟨a',ws,rfl,sy,r2⟩:=Bx ry e2
   simp only [eqB] at s
   cases e3:EV (eqT 60) xs ys with
   | none=>rw [e3] at s;exact s.elim
   | some b =>
    rw [e3] at s
    exact ⟨_,eqS_tup hu e3 sx sy r1 r2,s F H _ Le.refl (RR.of ok rfl)⟩
 | none =>
  rw [e1] at s
  cases e2:Cd fs x with
  | none=>rw [e2] at s;exact s.elim
  | some xs =>
   rw [e2] at s
   cases e3:Cd fs y with
   | none=>rw [e3] at s;exact s.elim
   | some ys =>
    rw [e3] at s
    obtain ⟨a,vs,rfl,sx,r1⟩:=Bk ok rx e2
    obtain ⟨a',ws,rfl,sy,r2⟩:=Bk ok ry e3
    simp only [eqB] at s
    cases e4:EV (eqT 60) xs ys with
    | none=>rw [e4] at s;exact s.elim
    | some b =>
     rw [e4] at s
     exact ⟨_,eqS_lst hu e4 sx sy r1 r2,s F H _ Le.refl (RR.of ok rfl)⟩
section
variable {X:Cx} {Z:Xp} {a b:Expr} {fa fb:FS->Out Rv} {pos:Pos}
end
end FL
namespace FL
open PySem PySem.Spec L2
section
variable {X:Cx} {Z:Xp} {a b:Expr} {fa fb:FS->Out Rv} {pos:Pos}
end
end FL
namespace FL
open PySem PySem.Spec L2
def itD (f:FS->Out Rv):FS->Out (List T):=fun fs=>(f fs).bnd fun r fs=>match r with
 | .rf i=>match fs[i]? with
  | some (some (.own (.dK ks ts)))=>.ok (ks.map keyT) (fs.set i (some (.val (.dK ks ts))))
  | _=>.bad
 | .t (.dF ks ts)=>.ok (ks.map keyT) fs
 | _=>.bad
theorem Okk.frzD {K:PySem.W.Frag} {F:Wd} {B:Nat->Option V} {H:Hp} {fs:FS} {σ:St} {i:Nat} {ks:List Key} {ts:List T} {u:V} (h:Okk K F B H fs σ) (e:σ[i]?=some (some u)) (es:fs[i]?=some (some (.own (.dK ks ts)))) :
  ∃ a kvs,u=.ref a/\H a=some (.dK kvs)/\kvs.map (·.1)=ks/\∀ o,Le F H (Gv F [a]) (upd H a (.frz o (.dK kvs)))/\Okk K (Gv F [a]) B (upd H a (.frz o (.dK kvs))) (fs.set i (some (.val (.dK ks ts)))) σ:=by
 obtain ⟨L,o1⟩:=h
 obtain ⟨v,L1,L2,L3,e1,rfl,h1,h2⟩:=o1.sl.pick es
 obtain ⟨w,rfl,q2⟩:=h1
 rw [e1] at e
 have eu:w=u:=by simpa using e
 subst eu
 have q3:=q2
 simp only [AO] at q3
 obtain ⟨a,kvs,rfl,hd,rfl,q,rfl⟩:=q3
 refine ⟨a,kvs,rfl,hd,rfl,fun ob=>?_⟩
 have nd1:=o1.nd
 have na:∀ b∈L1++L3,b≠a:=fun b hb z=>by
  subst z
  rw [List.nodup_append] at nd1
  rcases List.mem_append.mp hb with m | m
  ·exact nd1.2.2 b m b (by simp) rfl
  ·exact (List.nodup_append.mp nd1.2.1).2.2 b (by simp) b m rfl
 have l2:Le F H (Gv F [a]) (upd H a (.frz ob (.dK kvs))):=⟨fun b f=>⟨.inl f,Ap fun z=>o1.nf b (by subst z;simp) f⟩,fun b f=>⟨f,Ap fun z=>o1.pl b (by subst z;simp) f⟩⟩
 have r2:AB K (Gv F [a]) (upd H a (.frz ob (.dK kvs))) (.dK (kvs.map (·.1)) ts) (.ref a):=by
  simp only [AB]
  exact ⟨a,kvs,rfl,.inr (by simp),.inr ⟨ob,Av⟩,rfl,q.le l2⟩
 refine ⟨l2,L1++([]++L3),?_⟩
 have h3:=h2 (Gv F [a]) (upd H a (.frz ob (.dK kvs))) (some (.val (.dK (kvs.map (·.1)) ts))) (some (.ref a)) [] l2 (fun b hb=>Ap (na b hb)) ⟨.ref a,rfl,r2,rfl⟩
 rw [BD e1] at h3
 refine ⟨h3,BU nd1 List.nodup_nil (fun _ m=>nomatch m),fun b m z=>?_,fun b z=>?_,?_,fun b z=>?_,fun b z=>?_,fun b m=>o1.pl b ?_⟩
 ·have m':b∈L1∨b∈L3:=by simpa using m
  rcases z with z | z
  ·exact o1.nf b (by rcases m' with m | m <;> simp [m]) z
  ·exact na b (by rcases m' with m | m <;> simp [m]) (by simpa using z)
 ·rcases z with z | z
  ·rw [Ap fun y=>o1.nf b (by subst y;simp) z]
   exact o1.fd b z
  ·have:b=a:=by simpa using z
   subst this
   rw [Av]
   exact fun y=>nomatch y
 ·have:=E6.put (i:=i) (s:=some (.val (.dK (kvs.map (·.1)) ts))) (v:=some (.ref a)) o1.bo (fun o eo=>by cases eo) o1.sl.len
  rwa [BD e1] at this
 ·rw [Ap fun y=>o1.pl b (by subst y;simp) z]
  exact o1.pd b z
 ·rcases z with z | z
  ·exact o1.pf b z
  ·have:b=a:=by simpa using z
   subst this
   exact o1.pl b (by simp)
 ·have m':b∈L1∨b∈L3:=by simpa using m
  rcases m' with m | m <;> simp [m]
theorem jok_dict {K:PySem.W.Frag} {F:Wd} {H:Hp} {a:Addr} {o:Obj} {kvs:List (Key×V)} (f:F a) (e:H a=some (.frz o (.dK kvs))):JOk K F H (Itd a o kvs) ((kvs.map (·.1)).map keyT):=by
 intro F' H' l _ i
 have e':H' a=some (.frz o (.dK kvs)):=(l a f).2.trans e
 refine ⟨fun t et=>?_,fun hl=>⟨e',by simpa using hl⟩⟩
 have hi:i < kvs.length:=by
  have:=(List.getElem?_eq_some_iff.mp et).1
  simpa using this
 refine ⟨⟨e',hi⟩,fun x H'' hy=>stays hy.1 ?_⟩
 obtain ⟨k,ek,rfl⟩:=hy.2
 rw [List.getElem?_map,ek] at et
 cases et
 cases k <;> rfl
theorem fi_dict {X:Cx} {Z:Xp} {tg l:Expr} {f:FS->Out Rv} (hl:FE X Z l f):FI X Z tg l (itD f):=by
 refine pi_imp (pi_dictU hl) fun σ H Q ⟨F,B,fs,ok,s⟩=>⟨F,B,fs,ok,AU s fun r fs1 F1 H1 u l ok1 rx s1=>?_⟩
 split at s1
 ·rename_i i
  split at s1
  ·rename_i ks ts es
   obtain ⟨a,kvs,rfl,hd,rfl,k⟩:=ok1.frzD rx es
   refine ⟨a,kvs,rfl,.inl ⟨hd,fun o=>?_⟩⟩
   obtain ⟨l2,ok2⟩:=k o
   exact s1 _ _ (Itd a o kvs) l2 ⟨ok2,jok_dict (.inr (by simp)) Av⟩
  ·exact s1.elim
 ·simp only [BF,AB] at rx
  obtain ⟨a,kvs,rfl,f,⟨o,hd⟩,rfl,r⟩:=rx
  exact ⟨a,kvs,rfl,.inr ⟨o,hd,s1 _ _ (Itd a o kvs) Le.refl ⟨ok1,jok_dict f hd⟩⟩⟩
 ·exact s1.elim
end FL
namespace FL
open PySem PySem.Spec L2
def Gr (fs:FS):Rv->Option (List Key×List T)
 | .t (.dK ks ts)=>some (ks,ts)
 | .t (.dF ks ts)=>some (ks,ts)
 | .rf i=>match AE fs i with
  | some (.dK ks ts)=>some (ks,ts)
  | _=>none
 | _=>none
theorem Ek {K:PySem.W.Frag} {B:Nat->Option V} {F:Wd} {H:Hp} {σ:St} {fs:FS} {x:Rv} {u:V} {ks:List Key} {ts:List T} (h:Okk K F B H fs σ) (rx:BF K F H σ x u) (e:Gr fs x=some (ks,ts)) :
  ∃ a kvs,u=.ref a/\Rd H a (.dK kvs)/\kvs.map (·.1)=ks/\Ac K F H ts (kvs.map (·.2)):=by
 unfold Gr at e
 split at e
 ·cases e
  simp only [BF,AB] at rx
  obtain ⟨a,kvs,rfl,f,hd,rfl,r⟩:=rx
  exact ⟨a,kvs,rfl,hd,rfl,r⟩
 ·cases e
  simp only [BF,AB] at rx
  obtain ⟨a,kvs,rfl,f,⟨ob,hd⟩,rfl,r⟩:=rx
  exact ⟨a,kvs,rfl,.inr ⟨ob,hd⟩,rfl,r⟩
 ·rename_i i
  have e2:σ[i]?=some (some u):=rx
  split at e
  ·rename_i eo
   cases e
   obtain ⟨v,L2,e1,q,_⟩:=h.own eo
   rw [e1] at e2
   have e3:v=u:=by simpa using e2
   subst e3
   simp only [AO] at q
   obtain ⟨a,kvs,rfl,hd,rfl,r,_⟩:=q
   exact ⟨a,kvs,rfl,.inl hd,rfl,r⟩
  ·cases e
 ·cases e
def eqD (ks':List Key) (ts':List T):List Key->List T->Option Bool
 | k :: ks,t :: ts=>match E9 ks' ts' k with
  | none=>some false
  | some t'=>(eqT 60 t t').bind fun b=>(eqD ks' ts' ks ts).map (b && ·)
 | _,_=>some true
def gEqD (neg:Bool):Rv->Rv->FS->Out Rv:=fun x y fs=>match Gr fs x with
 | some (ks,ts)=>match Gr fs y with
  | some (ks',ts')=>match eqD ks' ts' ks ts with
   | some r=>okT (.bl (if neg then !(ks.length == ks'.length && r) else (ks.length == ks'.length && r))) fs
   | none=>.bad
  | none=>.bad
 | none=>.bad
theorem hits_of {X:Cx} {pins:List (Addr×Obj)} {σ:St} {H:Hp} {s:Shared} {F:Wd} {A:Around} (I:Inv X pins σ H s) (hu:A.units+60 < cLine) {kvs':List (Key×V)} {vs':List (Key×Value)} {ts':List T} (rel':KV kvs' vs') (rt':Ac X.K F H ts' (kvs'.map (·.2))) :
  ∀ {kvs:List (Key×V)} {vs:List (Key×Value)} {ts:List T} {r:Bool},KV kvs vs->Ac X.K F H ts (kvs.map (·.2))->eqD (kvs'.map (·.1)) ts' (kvs.map (·.1)) ts=some r->PySem.W.KeqHits A s vs' vs r
 | [],[],[],r,_,_,e=>by cases e;exact .nil
 | [],[],t :: ts,r,_,rt,e=>by have:=rt.len;simp at this
 | (k,v) :: kvs,(k',u) :: vs,[],r,_,rt,e=>by have:=rt.len;simp at this
 | (k,v) :: kvs,(k',u) :: vs,t :: ts,r,rel,rt,e=>by
  cases rel with
  | cons h tl =>
   obtain ⟨h1,h2⟩:=h
   have h1:k=k':=h1
   have h2:RelV v u:=h2
   subst h1
   simp only [List.map_cons,Ac] at rt
   obtain ⟨v0,r0,e0,rt1,rt2⟩:=rt
   cases e0
   simp only [List.map_cons,eqD] at e
   have q:=rel'.val k
   rcases Ef (j:=k) rt' with ⟨g1,g2⟩ | ⟨t',v',g1,g2,g3⟩
   ·rw [g1] at e
    cases e
    rw [g2] at q
    refine .miss ?_
    cases hx:valueAt vs' k with
    | none=>rfl
    | some x=>rw [hx] at q;exact q.elim
   ·rw [g1] at e
    simp only [Option.bind_eq_some_iff,Option.map_eq_some_iff] at e
    obtain ⟨b,e1,r',e2,rfl⟩:=e
    rw [g2] at q
    cases hx:valueAt vs' k with
    | none=>rw [hx] at q;exact q.elim
    | some y =>
     rw [hx] at q
     exact .hit hx (eqT_at I hu e1 rt1 g3 h2 q) (hits_of I hu rel' rt' tl rt2 e2)
def EqO (X:Cx) (neg:Bool) (H:Hp) (x y:V) (b:Bool):Prop:=∀ (pins:List (Addr×Obj)) (σ:St) (s:Shared) (u w:Value) (Q:Value->Shared->Prop) (E:Value->Shared->Prop),Inv X pins σ H s->RelV x u->RelV y w->Q (.bool b) s ->
 wpAny (model X.prog X.w) X.A (compareOp (if neg then .NotEq else .Eq) u w) Q E s
def rEqO (X:Cx) (neg:Bool):R2:=fun x y H Q=>∃ b,EqO X neg H x y b/\Q (.bl b) H
theorem op_eqO {X:Cx}:OpR X (compareOp .Eq) (rEqO X false):=by
 intro pins s σ H x y v u Q I rx ry h
 obtain ⟨b,e,q⟩:=h
 exact e pins σ s v u _ _ I rx ry ⟨.bl b,H,I,rfl,q⟩
theorem op_neO {X:Cx}:OpR X (compareOp .NotEq) (rEqO X true):=by
 intro pins s σ H x y v u Q I rx ry h
 obtain ⟨b,e,q⟩:=h
 exact e pins σ s v u _ _ I rx ry ⟨.bl b,H,I,rfl,q⟩
theorem of_eqD {X:Cx} {Z:Xp} (neg:Bool) (hu:X.A.units+61 < cLine):OpF X.K Z (rEqO X neg) (gEqD neg):=by
 intro F B H σ fs x y u w Q ok rx ry s
 unfold gEqD at s
 cases e1:Gr fs x with
 | none=>rw [e1] at s;exact s.elim
 | some p =>
  obtain ⟨ks,ts⟩:=p
  rw [e1] at s
  cases e2:Gr fs y with
  | none=>rw [e2] at s;exact s.elim
  | some p =>
   obtain ⟨ks',ts'⟩:=p
   rw [e2] at s
   dsimp only at s
   cases e3:eqD ks' ts' ks ts with
   | none=>rw [e3] at s;exact s.elim
   | some r =>
    rw [e3] at s
    obtain ⟨a,kvs,rfl,hd,rfl,rt⟩:=Ek ok rx e1
    obtain ⟨a',kvs',rfl,hd',rfl,rt'⟩:=Ek ok ry e2
    refine ⟨_,?_,s F H _ Le.refl (RR.of ok rfl)⟩
    intro pins σ' sh u w Q' E' I qx qy q
    cases qx
    cases qy
    obtain ⟨z,hS,vs,rel,dd⟩:=EX I.hok hd
    obtain ⟨z',hS',vs',rel',dd'⟩:=EX I.hok hd'
    have l1:kvs.length=vs.length:=Paired.length rel
    have l2:kvs'.length=vs'.length:=Paired.length rel'
    rw [List.length_map,List.length_map,l1,l2] at q
    have hits:=hits_of (A:=X.A.in1) I (by show X.A.units+1+60 < _;omega) rel' rt' rel rt e3
    cases neg with
    | false=>exact PySem.W.keq_eq hS hS' dd dd' (by omega) (fun _=>hits) q
    | true=>exact PySem.W.keq_ne hS hS' dd dd' (by omega) (fun _=>hits) q
def Bf (neg:Bool):=orG (gEq neg) (orG (gEqT neg) (gEqD neg))
section
variable {X:Cx} {Z:Xp} {a b:Expr} {fa fb:FS->Out Rv} {pos:Pos}
theorem fe_eqV (hu:X.A.units+61 < cLine) (ha:FE X Z a fa) (hb:FE X Z b fb):FE X Z (.Compare a [.Eq] [b] pos) (Ae (Bf false) fa fb):=fe_cmp (OpF.or of_eq (OpF.or (of_eqT false hu) (of_eqD false hu))) (OpR.orR op_eq (OpR.orR op_eqS op_eqO)) ha hb (GY _)
theorem C5 (hu:X.A.units+61 < cLine) (ha:FE X Z a fa) (hb:FE X Z b fb):FT X Z (.Compare a [.Eq] [b] pos) (asB (Ae (Bf false) fa fb)):=Hk (OpF.or of_eq (OpF.or (of_eqT false hu) (of_eqD false hu))) (OpR.orR op_eq (OpR.orR op_eqS op_eqO)) ha hb (GY _)
theorem DY (hu:X.A.units+61 < cLine) (ha:FE X Z a fa) (hb:FE X Z b fb):FT X Z (.Compare a [.NotEq] [b] pos) (asB (Ae (Bf true) fa fb)):=Hk (OpF.or of_ne (OpF.or (of_eqT true hu) (of_eqD true hu))) (OpR.orR op_ne (OpR.orR op_neS op_neO)) ha hb (GY _)
end
theorem E7 {A:Around} {k:Nat} (hr:E8 k A):A.units+61 < cLine:=by have:=hr.units;omega
section
variable {X:Cx} {Z:Xp} {a b:Expr} {fa fb:FS->Out Rv} {pos:Pos}
end
end FL
namespace FL
open PySem PySem.Spec L2
def tupI (t:T):Option (List Int):=(D6 t).bind BL
def HG:List T->Option (List (List Int))
 | []=>some []
 | t :: r=>(tupI t).bind fun n=>(HG r).map (n :: ·)
theorem ints_rel {K:PySem.W.Frag} {F:Wd} {H:Hp}:∀ {ns:List Int} {vs:List V},Ac K F H (ns.map T.int) vs->vs=ns.map V.int
 | [],vs,r=>by simpa [Ac] using r
 | n :: ns,vs,r=>by
  simp only [List.map_cons,Ac,AB] at r
  obtain ⟨v,q,rfl,rfl,r2⟩:=r
  rw [ints_rel r2]
  rfl
theorem Gz {K:PySem.W.Frag} {F:Wd} {H:Hp}:∀ {ts:List T} {vs:List V} {ns:List (List Int)},HG ts=some ns->Ac K F H ts vs->TpV K H vs ns
 | [],vs,ns,e,r=>by
  cases e
  have:vs=[]:=by simpa [Ac] using r
  subst this
  trivial
 | t :: ts,vs,ns,e,r=>by
  simp only [HG,Option.bind_eq_some_iff,Option.map_eq_some_iff] at e
  obtain ⟨n,e1,m,e2,rfl⟩:=e
  simp only [Ac] at r
  obtain ⟨v,q,rfl,r1,r2⟩:=r
  refine ⟨?_,Gz e2 r2⟩
  unfold tupI at e1
  rw [Option.bind_eq_some_iff] at e1
  obtain ⟨us,e3,e4⟩:=e1
  obtain ⟨a,ws,rfl,st,rw'⟩:=BV e3 r1
  rw [E5 e4] at rw'
  rw [ints_rel rw'] at st
  exact ⟨a,rfl,st.sq⟩
def Fv:List Rv->FS->Out Rv
 | [x],fs=>match Cd fs x with
  | some ts=>match HG ts with
   | some ([] :: ns)=>if So.ord ([] :: ns)=true/\ts.length < 64 then .ok (.nw (.lst ts)) fs else .bad
   | _=>.bad
  | none=>.bad
 | _,_=>.bad
section
variable {K:PySem.W.Frag} {Z:Xp}
theorem cf_sortT:CT K Z (fun xs H Q=>∃ a vs ns,xs=[.ref a]/\SqL K H a vs/\TpV K H vs ([] :: ns)/\So.ord ([] :: ns)=true/\vs.length < 64/\∀ l,H l=none->Q (.ref l) (upd H l (.lst vs))) Fv:=by
 intro F B H σ fs rs vs Q ok q s
 unfold Fv at s
 split at s
 ·obtain ⟨v,rfl,qq⟩:=Bq q
  split at s
  ·rename_i ts e
   obtain ⟨a,us,rfl,hs,r⟩:=Bk ok qq e
   split at s
   ·rename_i ns e2
    by_cases c:So.ord ([] :: ns)=true/\ts.length < 64
    ·rw [if_pos c] at s
     exact ⟨a,us,ns,rfl,hs,Gz e2 r,c.1,by rw [r.len];exact c.2,fun p hp=>s F (upd H p (.lst us)) (.ref p) (AM ok hp) (RR.alloc ok hp (Ce Av (r.le (AM ok hp))))⟩
    ·rw [if_neg c] at s
     exact s.elim
   ·exact s.elim
  ·exact s.elim
 ·exact s.elim
def Hi:List Rv->FS->Out Rv
 | [x],fs=>match Gr fs x with
  | some p=>.ok (.nw (.dK p.1 p.2)) fs
  | none=>.bad
 | _,_=>.bad
theorem cf_dictC:CT K Z (fun xs H Q=>∃ a kvs,xs=[.ref a]/\Rd H a (.dK kvs)/\∀ l,H l=none->Q (.ref l) (upd H l (.dK kvs))) Hi:=by
 intro F B H σ fs rs vs Q ok q s
 unfold Hi at s
 split at s
 ·obtain ⟨v,rfl,qq⟩:=Bq q
  split at s
  ·rename_i p e
   obtain ⟨a,kvs,rfl,hd,ek,r⟩:=Ek (ks:=p.1) (ts:=p.2) ok qq e
   refine ⟨a,kvs,rfl,hd,fun l hl=>s F _ (.ref l) (AM ok hl) (RR.alloc ok hl ?_)⟩
   simp only [AO]
   exact ⟨l,kvs,rfl,Av,ek,r.le (AM ok hl),rfl⟩
  ·exact s.elim
 ·exact s.elim
def Hg:List Rv->FS->Out Rv
 | [x],fs=>match Gr fs x with
  | some p=>.ok (.nw (.lst (p.1.map keyT))) fs
  | none=>.bad
 | _,_=>.bad
theorem cf_listE:CT K Z (fun xs H Q=>∃ p kvs,xs=[.ref p]/\Rd H p (.dK kvs)/\∀ l,H l=none->Q (.ref l) (upd H l (.lst (kvs.map fun kv=>kV kv.1)))) Hg:=by
 intro F B H σ fs rs vs Q ok q s
 unfold Hg at s
 split at s
 ·obtain ⟨v,rfl,qq⟩:=Bq q
  split at s
  ·rename_i p e
   obtain ⟨a,kvs,rfl,hd,ek,r⟩:=Ek (ks:=p.1) (ts:=p.2) ok qq e
   refine ⟨a,kvs,rfl,hd,fun l hl=>s F _ (.ref l) (AM ok hl) (RR.alloc ok hl (Ce Av ?_))⟩
   have e:(kvs.map fun kv=>kV kv.1)=(kvs.map (·.1)).map kV:=by rw [List.map_map];rfl
   rw [e,<- ek]
   exact Ge _
  ·exact s.elim
 ·exact s.elim
end
section
variable {X:Cx} {Z:Xp} {a:Expr} {f:FS->Out Rv} {fa:FS->Out (List Rv)} {p p1 p2 pos pos1 pos2:Pos}
theorem fe_sortT (hu:X.A.units+61 < cLine) (hm:X.mg "sorted"=none) (ha:FA X Z [a] fa) (hg:Gl X "sorted":=by rfl) (he:starEach [a] X.env=[(false,eval a X.env)]:=by rfl):FE X Z (.Call (.Name "sorted" p) [a] [] pos) (Ak Fv fa) :=
 Ej cf_sortT (Ht (by omega)) hm PyProof.Rows.boot_sorted ha (hg:=hg) (he:=he)
theorem fe_dictC (hm:X.mg "dict"=none) (ha:FA X Z [a] fa) (hg:Gl X "dict":=by rfl) (he:starEach [a] X.env=[(false,eval a X.env)]:=by rfl):FE X Z (.Call (.Name "dict" p) [a] [] pos) (Ak Hi fa) :=
 ET cf_dictC call_dictD hm PyProof.Rows.boot_dict ha (hg:=hg) (he:=he)
theorem fe_listE (hc:X.calm=true) (hm:X.mg "list"=none) (ha:FA X Z [a] fa) (hg:Gl X "list":=by rfl) (he:starEach [a] X.env=[(false,eval a X.env)]:=by rfl):FE X Z (.Call (.Name "list" p) [a] [] pos) (Ak Hg fa) :=
 ET cf_listE (E2 hc) hm PyProof.Rows.boot_list ha (hg:=hg) (he:=he)
def revL (f:FS->Out Rv):FS->Out Rv:=fun fs=>(f fs).bnd fun r fs=>match seqT r with
 | some ts=>.ok (.nw (.lst ts.reverse)) fs
 | none=>.bad
theorem fe_listRevT (hc:X.calm=true) (hm1:X.mg "list"=none) (hm2:X.mg "reversed"=none) (ha:FE X Z a f) (hg1:Gl X "list":=by rfl) (hg2:Gl X "reversed":=by rfl)
  (he:starEach [(.Call (.Name "reversed" p2) [a] [] pos2:Expr)] X.env=[(false,eval (.Call (.Name "reversed" p2) [a] [] pos2) X.env)]:=by rfl) (he2:starEach [a] X.env=[(false,eval a X.env)]:=by rfl) :
  FE X Z (.Call (.Name "list" p1) [.Call (.Name "reversed" p2) [a] [] pos2] [] pos1) (revL f):=by
 refine A3 (HL hc hm1 hm2 ha hg1 hg2 he he2) fun σ H Q ⟨F,B,fs,ok,s⟩=>⟨F,B,fs,ok,AU s fun r fs1 F1 H1 u l ok1 rx s1=>?_⟩
 split at s1
 ·rename_i ts ets
  obtain ⟨a,vs,rfl,hs,q⟩:=Bx rx ets
  exact ⟨a,vs,rfl,hs,fun d hd=>s1 F1 _ (.ref d) (AM ok1 hd) (RR.alloc ok1 hd (Ce Av ((q.rev).le (AM ok1 hd))))⟩
 ·exact s1.elim
end
def fzD (f:FS->Out Rv):FS->Out Rv:=fun fs=>(f fs).bnd fun r fs=>match r with
 | .rf i=>match fs[i]? with
  | some (some (.own (.dK ks ts)))=>.ok (.t (.dF ks ts)) (fs.set i (some (.val (.dF ks ts))))
  | _=>.bad
 | _=>.bad
theorem Okk.frzF {K:PySem.W.Frag} {F:Wd} {B:Nat->Option V} {H:Hp} {fs:FS} {σ:St} {i:Nat} {ks:List Key} {ts:List T} {u:V} (h:Okk K F B H fs σ) (e:σ[i]?=some (some u)) (es:fs[i]?=some (some (.own (.dK ks ts)))) :
  ∃ a kvs,u=.ref a/\H a=some (.dK kvs)/\kvs.map (·.1)=ks/\∀ o,Le F H (Gv F [a]) (upd H a (.frz o (.dK kvs)))/\Okk K (Gv F [a]) B (upd H a (.frz o (.dK kvs))) (fs.set i (some (.val (.dF ks ts)))) σ/\AB K (Gv F [a]) (upd H a (.frz o (.dK kvs))) (.dF ks ts) (.ref a):=by
 obtain ⟨L,o1⟩:=h
 obtain ⟨v,L1,L2,L3,e1,rfl,h1,h2⟩:=o1.sl.pick es
 obtain ⟨w,rfl,q2⟩:=h1
 rw [e1] at e
 have eu:w=u:=by simpa using e
 subst eu
 have q3:=q2
 simp only [AO] at q3
 obtain ⟨a,kvs,rfl,hd,rfl,q,rfl⟩:=q3
 refine ⟨a,kvs,rfl,hd,rfl,fun ob=>?_⟩
 have nd1:=o1.nd
 have na:∀ b∈L1++L3,b≠a:=fun b hb z=>by
  subst z
  rw [List.nodup_append] at nd1
  rcases List.mem_append.mp hb with m | m
  ·exact nd1.2.2 b m b (by simp) rfl
  ·exact (List.nodup_append.mp nd1.2.1).2.2 b (by simp) b m rfl
 have l2:Le F H (Gv F [a]) (upd H a (.frz ob (.dK kvs))):=⟨fun b f=>⟨.inl f,Ap fun z=>o1.nf b (by subst z;simp) f⟩,fun b f=>⟨f,Ap fun z=>o1.pl b (by subst z;simp) f⟩⟩
 have r2:AB K (Gv F [a]) (upd H a (.frz ob (.dK kvs))) (.dF (kvs.map (·.1)) ts) (.ref a):=by
  simp only [AB]
  exact ⟨a,kvs,rfl,.inr (by simp),⟨ob,Av⟩,rfl,q.le l2⟩
 refine ⟨l2,⟨L1++([]++L3),?_⟩,r2⟩
 have h3:=h2 (Gv F [a]) (upd H a (.frz ob (.dK kvs))) (some (.val (.dF (kvs.map (·.1)) ts))) (some (.ref a)) [] l2 (fun b hb=>Ap (na b hb)) ⟨.ref a,rfl,r2,rfl⟩
 rw [BD e1] at h3
 refine ⟨h3,BU nd1 List.nodup_nil (fun _ m=>nomatch m),fun b m z=>?_,fun b z=>?_,?_,fun b z=>?_,fun b z=>?_,fun b m=>o1.pl b ?_⟩
 ·have m':b∈L1∨b∈L3:=by simpa using m
  rcases z with z | z
  ·exact o1.nf b (by rcases m' with m | m <;> simp [m]) z
  ·exact na b (by rcases m' with m | m <;> simp [m]) (by simpa using z)
 ·rcases z with z | z
  ·rw [Ap fun y=>o1.nf b (by subst y;simp) z]
   exact o1.fd b z
  ·have:b=a:=by simpa using z
   subst this
   rw [Av]
   exact fun y=>nomatch y
 ·have:=E6.put (i:=i) (s:=some (.val (.dF (kvs.map (·.1)) ts))) (v:=some (.ref a)) o1.bo (fun o eo=>by cases eo) o1.sl.len
  rwa [BD e1] at this
 ·rw [Ap fun y=>o1.pl b (by subst y;simp) z]
  exact o1.pd b z
 ·rcases z with z | z
  ·exact o1.pf b z
  ·have:b=a:=by simpa using z
   subst this
   exact o1.pl b (by simp)
 ·have m':b∈L1∨b∈L3:=by simpa using m
  rcases m' with m | m <;> simp [m]
theorem fe_fzD {X:Cx} {Z:Xp} {e:Expr} {f:FS->Out Rv} (h:FE X Z e f):FE X Z e (fzD f):=by
 refine A3 (pe_frz h) fun σ H Q ⟨F,B,fs,ok,s⟩=>⟨F,B,fs,ok,AU s fun r fs1 F1 H1 u l ok1 rx s1=>?_⟩
 split at s1
 ·rename_i i
  split at s1
  ·rename_i ks ts es
   obtain ⟨a,kvs,rfl,hd,rfl,k⟩:=ok1.frzF rx es
   refine ⟨a,kvs,rfl,hd,fun o=>?_⟩
   obtain ⟨l2,ok2,r2⟩:=k o
   exact s1 _ _ (.ref a) l2 (RR.of ok2 r2)
  ·exact s1.elim
 ·exact s1.elim
end FL
namespace Sy
open PySem PySem.Spec L2 FL
def top (i:Nat):Stmt:=PySem.Challenge.pw_stairsay_k32_put_ins.main.body.getD i (.Pass ⟨0,0,0,0⟩)
structure Tx (K:PySem.W.Frag) (mg:Str->Option Value):Prop where
 b_dict:mg "dict"=none
 b_isinstance:mg "isinstance"=none
 b_len:mg "len"=none
 b_list:mg "list"=none
 b_min:mg "min"=none
 b_range:mg "range"=none
 b_reversed:mg "reversed"=none
 b_sorted:mg "sorted"=none
 b_str:mg "str"=none
 b_sum:mg "sum"=none
 b_tuple:mg "tuple"=none
def Dz:FS->SO :=
  (A2 (AX 2 (gc (.str ("abcdefghijklmnopqrstuvwxyz":Str))))
  (A2 (AX 3 (Ae Bi (Ae AA (Ae AA (Ae Bi (Aa 0) (Aa 0)) (Aa 0)) (gc (.int 1))) (gc (.int 982451653))))
  (A2 (AX 4 (Ae AA (gc (.int 1)) (Ae Bo (Aa 3) (gc (.int 12)))))
  (A2 (AX 5 (Ae Bo (Ae CH (Aa 3) (gc (.int 12))) (Aa 4)))
  (A2 (AX 6 (Ca false [none,some 2,some 3] (itR1 (Ad (Aa 4) Al)) (tgN 0) Gw (Ae AF (Aa 1) (Ae Bo (Ae AA (Ae CH (Aa 2) (Ae AA (Aa 0) (gc (.int 5)))) (Ae Bi (Aa 0) (Aa 0))) (gc (.int 26))))))
  (A2 (AX 7 (Ae AF (AJ Cb (Ad (gc (.int 1)) (Ad (gc (.int 3)) (Ad (gc (.int 5)) (Ad (gc (.int 7)) (Ad (gc (.int 9)) (Ad (gc (.int 11)) Al))))))) (Ae Bo (Ae CH (Aa 3) (gc (.int 144))) (gc (.int 6)))))
  (A2 (AX 8 (AJ Dp Al))
  (A2 (Ds (itR1 (Ad (Aa 1) Al)) (tgN 9) (A2 (AX 10 (Ae AF (Aa 2) (Ae Bo (Ae AA (Ae CH (Aa 3) (gc (.int 864))) (Ae Bi (Aa 9) (Aa 7))) (gc (.int 26)))))
  (ifS (asB (Ae (Bf false) (Ae Bo (Ae CH (Aa 3) (gc (.int 900))) (gc (.int 3))) (gc (.int 1)))) (Bp (AL DA (Aa 8) (Ad (Ae Bi (Ae AF (Aa 6) (gc (.int 0))) (Ae AA (Ae Bo (Ae AA (Aa 9) (Ae CH (Aa 3) (gc (.int 7)))) (gc (.int 12))) (gc (.int 1)))) Al))) (Bp (AL DA (Aa 8) (Ad (Ae AA (Ae AA (fz (D8 EL (gc (.str ("":Str))) (Ad (slF (Aa 6) noP (Cu (Aa 5))) Al))) (Aa 10)) (fz (D8 EL (gc (.str ("":Str))) (Ad (slF (Aa 6) (Cu (Ae AA (Aa 5) (gc (.int 1)))) noP) Al)))) Al))))))
  (retS (Aa 8))))))))))
def Cy:FS->Out Rv:=D7 9 (Dz)
def Df (rec:FS->Out Rv):FS->SO :=
  (A2 (AX 3 (fz (AL He (Aa 1) Al)))
  (A2 (ifS (orT (asB (Ae (Bf false) (Aa 2) (gc (.int 0)))) (asB (Ae (Bf false) (Ae Bo (Aa 3) (gc (.int 5))) (gc (.int 0))))) (retS (AJ BI (Ad (gc (.str ("name":Str))) (Ad (Ae AF (Aa 0) (Ae Bo (Ae CH (Aa 3) (gc (.int 5))) (Ak Cp (Ad (Aa 0) Al)))) Al)))) nxS)
  (A2 (AX 4 (AJ Dp Al))
  (A2 (Ds (itR1 (Ad (Ae AF (AJ Cb (Ad (gc (.int 0)) (Ad (gc (.int 1)) (Ad (gc (.int 2)) (Ad (gc (.int 3)) (Ad (gc (.int 1)) (Ad (gc (.int 2)) Al))))))) (Ae Bo (Ae CH (Aa 3) (gc (.int 5))) (gc (.int 6)))) Al)) (tgN 5) (Bp (AL DA (Aa 4) (Ad (fz (Ak (Ay 3 rec) (Aj (fz (Aa 0)) (Aj (Aa 1) (Aj (Ae Gh (Aa 2) (gc (.int 1))) Al))))) Al))))
  (retS (AJ BI (Ad (Ae AF (AJ Cb (Ad (gc (.str ("make":Str))) (Ad (gc (.str ("call":Str))) Al))) (Ae Bo (Ae CH (Aa 3) (gc (.int 30))) (gc (.int 2)))) (Ad (Ae AF (Aa 0) (Ae Bo (Ae CH (Aa 3) (gc (.int 60))) (Ak Cp (Ad (Aa 0) Al)))) (Ad (Ak Dn (Ad (Aa 4) Al)) Al)))))))))
def Bc:Nat->FS->Out Rv
 | 0=>fun _=>.bad
 | n+1=>D7 3 (Df (Bc n))
def Eo (rec:FS->Out Rv):FS->SO :=
  (A2 (AX 1 (AJ Cb (Ad (AJ BI Al) Al)))
  (A2 (ifS (asB (Ae (Bf true) (Ae AF (Aa 0) (gc (.int 0))) (gc (.str ("name":Str))))) (Ds (itR1 (Ad (Ak Cp (Ad (Ae AF (Aa 0) (gc (.int 2))) Al)) Al)) (tgN 2) (AX 1 (fz (Ae AA (Aa 1) (Ca false [none,some 2] (itU (fz (Ak (Ay 1 rec) (Aj (Ae AF (Ae AF (Aa 0) (gc (.int 2))) (fz (Aa 2))) Al)))) (tgN 0) Gw (Ae AA (AJ BI (Ad (fz (Aa 1)) Al)) (Aa 0))))))) nxS)
  (retS (Aa 1))))
def A9:Nat->FS->Out Rv
 | 0=>fun _=>.bad
 | n+1=>D7 2 (Eo (A9 n))
def Dg:FS->SO :=
  (A2 (AX 1 (AJ Dp Al))
  (A2 (Ds (itU (fz (Ak Fv (Ad (fz (Ak (Ay 1 (A9 60)) (Aj (fz (Aa 0)) Al))) Al)))) (tgN 2) (A2 (AX 3 (fz (Aa 0)))
  (A2 (Ds (itU (fz (Aa 2))) (tgN 4) (AX 3 (Ae AF (Ae AF (Aa 3) (gc (.int 2))) (fz (Aa 4)))))
  (ifS (andT (asB (Ae (Bf false) (Ae AF (Aa 3) (gc (.int 0))) (gc (.str ("name":Str))))) (asB (Ae (gInU true) (Ae AF (Aa 3) (gc (.int 1))) (Aa 1)))) (Bp (AL DA (Aa 1) (Ad (Ae AF (Aa 3) (gc (.int 1))) Al))) nxS))))
  (retS (Aa 1))))
def BA:FS->Out Rv:=D7 4 (Dg)
def BE:FS->SO :=
  (retS (ifV (asB (Ae (Bf false) (Ae AF (Aa 0) (gc (.int 0))) (gc (.str ("name":Str))))) (AJ BI Al) (Ae AF (Aa 0) (gc (.int 2)))))
def AK:FS->Out Rv:=D7 0 (BE)
def DS:FS->SO :=
  (A2 (AX 1 Fe)
  (A2 (AX 2 (AJ Dp (Ad (fz (Aa 0)) Al)))
  (A2 (CA (DB (Aa 2)) (A2 (AX 3 (fz (AL He (Aa 2) Al)))
  (A2 (ifS (asB (Ae (Bf false) (Ae AF (Aa 3) (gc (.int 0))) (gc (.str ("name":Str))))) (CK (gc (.bl true)) (Aa 1) (Ae AF (Aa 3) (gc (.int 1)))) nxS)
  (Bp (AL Hh (Aa 2) (Ad (fz (revL (fz (Ak (Ay 1 AK) (Aj (fz (Aa 3)) Al))))) Al))))) 1000)
  (retS (Ak Hg (Ad (Aa 1) Al))))))
def Bn:FS->Out Rv:=D7 3 (DS)
def En (rec:FS->Out Rv):FS->SO :=
  (A2 (ifS (asB (Ae (Bf false) (Ae AF (Aa 0) (gc (.int 0))) (gc (.str ("name":Str))))) (retS (getF (Aa 1) (Ae AF (Aa 0) (gc (.int 1))) (fz (Aa 0)))) nxS)
  (A2 (asgS (fz (Aa 0)) (GA 3 (A8 (tgN 2) (A8 (tgN 3) (A8 (tgN 4) FH)))))
  (retS (AJ BI (Ad (fz (Aa 2)) (Ad (fz (Aa 3)) (Ad (Ak Dn (Ad (Ca false [none,some 1] (itU (fz (Aa 4))) (tgN 0) Gw (fz (Ak (Ay 2 rec) (Aj (fz (Aa 0)) (Aj (fz (Aa 1)) Al))))) Al)) Al)))))))
def AQ:Nat->FS->Out Rv
 | 0=>fun _=>.bad
 | n+1=>D7 3 (En (AQ n))
def Cr:FS->SO :=
  (A2 (ifS (asB (Ae gLt (Aa 1) (Ak Cp (Ad (Aa 0) Al)))) (retS (Ae AF (Aa 0) (fz (Aa 1)))) nxS)
  (retS (gc (.int 0))))
def AY:FS->Out Rv:=D7 0 (Cr)
def CS:FS->SO :=
  (A2 (AX 3 (Ak gSum (Ad (Ca false [none,some 0] (itR3 (Ad (Aa 1) (Ad (Ak Hf (Ad (Ak Cp (Ad (Aa 0) Al)) (Ad (gc (.int 63)) Al))) (Ad (Aa 2) Al)))) (tgN 0) Gw (Ae AF (Aa 1) (fz (Aa 0)))) Al)))
  (A2 (AX 4 (AJ Dp Al))
  (A2 (AX 5 (Ae Bo (Aa 3) (gc (.int 2147483629))))
  (A2 (AX 6 (Ae CH (Aa 3) (gc (.int 2))))
  (A2 (Ds (itR1 (Ad (gc (.int 150)) Al)) (tgN 7) (A2 (AX 5 (Ae Bo (Ae AA (Ae AA (Ae Bi (Aa 5) (Aa 5)) (Aa 3)) (Aa 7)) (gc (.int 2147483629))))
  (A2 (Bp (AL DA (Aa 4) (Ad (Ae Bo (Ae AF (AJ Cb (Ad (fz (Aa 6)) (Ad (Ae Bo (Ae Bi (Aa 5) (Aa 5)) (gc (.int 2147483587))) Al))) (Ae Bo (Aa 3) (gc (.int 2)))) (gc (.int 1000003))) Al)))
  (AX 6 (Ae CH (Aa 6) (gc (.int 1000003)))))))
  (retS (revF (Aa 4))))))))
def Bs:FS->Out Rv:=D7 5 (CS)
def Ep (rec:FS->Out Rv):FS->SO :=
  (A2 (ifS (orT (EB (DB (isF "tuple" (Aa 0)))) (orT (asB (Ae gLt (Ak Cp (Ad (Aa 0) Al)) (gc (.int 2)))) (asB (Ae (Bf true) (Ca false [none] (itU (slF (Aa 0) noP (Cu (gc (.int 2))))) (tgN 0) (EB (DB (isF "str" (Aa 0)))) (fz (Aa 0))) (AJ Cb Al))))) (retS (gc (.bl false))) nxS)
  (A2 (ifS (asB (Ae (Bf false) (Ae AF (Aa 0) (gc (.int 0))) (gc (.str ("name":Str))))) (retS (Ae (Bf false) (Ak Cp (Ad (Aa 0) Al)) (gc (.int 2)))) nxS)
  (A2 (ifS (orT (asB (Ae (Bf true) (Ak Cp (Ad (Aa 0) Al)) (gc (.int 3)))) (EB (DB (isF "tuple" (Ae AF (Aa 0) (gc (.int 2))))))) (retS (gc (.bl false))) nxS)
  (retS (Ae (Bf false) (Ca false [none] (itU (Ae AF (Aa 0) (gc (.int 2)))) (tgN 0) (EB (DB (fz (Ak (Ay 1 rec) (Aj (fz (Aa 0)) Al))))) (fz (Aa 0))) (AJ Cb Al))))))
def Be:Nat->FS->Out Rv
 | 0=>fun _=>.bad
 | n+1=>D7 0 (Ep (Be n))
def CQ (rec:FS->Out Rv):FS->SO :=
  (A2 (ifS (asB (Ae (Bf false) (Ae AF (Aa 0) (gc (.int 0))) (gc (.str ("name":Str))))) (A2 (Ds (itD (Aa 1)) (tgN 2) (ifS (asB (Ae (Bf false) (Aa 2) (Ae AF (Aa 0) (gc (.int 1))))) (retS (Ae AF (Aa 1) (fz (Aa 2)))) nxS))
  (retS (Aa 0))) nxS)
  (retS (AJ BI (Ad (Ae AF (Aa 0) (gc (.int 0))) (Ad (Ae AF (Aa 0) (gc (.int 1))) (Ad (Ak Dn (Ad (Ca false [none,some 1] (itU (Ae AF (Aa 0) (gc (.int 2)))) (tgN 0) Gw (fz (Ak (Ay 2 rec) (Aj (fz (Aa 0)) (Aj (fz (Aa 1)) Al))))) Al)) Al))))))
def AN:Nat->FS->Out Rv
 | 0=>fun _=>.bad
 | n+1=>D7 1 (CQ (AN n))
def b_law:FS->SO :=
  (A2 (AX 1 (fz (Ak (Ay 2 Cy) (Aj (fz (Ak (Ay 2 AY) (Aj (fz (Aa 0)) (Aj (gc (.int 0)) Al)))) (Aj (gc (.int 6)) Al)))))
  (A2 (AX 2 (Ae Bo (fz (Ak (Ay 2 AY) (Aj (fz (Aa 0)) (Aj (gc (.int 2)) Al)))) (gc (.int 2))))
  (A2 (AX 3 (fz (Ak (Ay 3 (Bc 60)) (Aj (slF (Aa 1) noP (Cu (gc (.int 5)))) (Aj (Ak (Ay 3 Bs) (Aj (fz (Aa 0)) (Aj (gc (.int 1)) (Aj (gc (.int 3)) Al)))) (Aj (Ae Gh (gc (.int 3)) (Aa 2)) Al))))))
  (A2 (AX 4 Fe)
  (A2 (Ds (itR1 (Ad (gc (.int 6)) Al)) (tgN 5) (A2 (AX 6 (Ak (Ay 3 Bs) (Aj (fz (Aa 0)) (Aj (fz (Aa 5)) (Aj (gc (.int 7)) Al)))))
  (ifS (asB (Ae gGt (Ae Bo (fz (AL He (Aa 6) Al)) (gc (.int 3))) (gc (.int 0)))) (CK (fz (Ak (Ay 3 (Bc 60)) (Aj (fz (Aa 1)) (Aj (Aa 6) (Aj (Ae AA (gc (.int 1)) (Aa 2)) Al))))) (Aa 4) (Ae AF (Aa 1) (Ae Bo (Ae AA (Aa 5) (gc (.int 2))) (gc (.int 6))))) nxS)))
  (A2 (AX 7 (fz (Ak (Ay 1 BA) (Aj (fz (Aa 3)) Al))))
  (A2 (AX 8 (fz (Ak Hi (Ad (Aa 4) Al))))
  (A2 (AX 9 (Ak (Ay 1 Bn) (Aj (fz (Aa 3)) Al)))
  (A2 (ifS (orT (EB (DB (isG "list" (Aa 9)))) (asB (Ae (Bf true) (Aa 9) (Aa 7)))) (retS (gc (.bl false))) nxS)
  (A2 (Bp (AL DA (Aa 9) (Ad (gc (.str ("z":Str))) Al)))
  (A2 (AX 10 (fz (Ak (Ay 2 (AQ 60)) (Aj (fz (Aa 3)) (Aj (fz (Aa 8)) Al)))))
  (A2 (ifS (orT (EB (DB (fz (Ak (Ay 1 (Be 60)) (Aj (fz (Aa 10)) Al))))) (orT (asB (Ae (Bf true) (Aa 10) (fz (Ak (Ay 2 (AN 60)) (Aj (fz (Aa 3)) (Aj (fzD (Aa 4)) Al)))))) (asB (Ae (Bf true) (Aa 8) (Aa 4))))) (retS (gc (.bl false))) nxS)
  (A2 (AX 11 Fe)
  (A2 (Ds (itU (fz (Aa 1))) (tgN 12) (CK (AJ BI (Ad (gc (.str ("name":Str))) (Ad (fz (Aa 12)) Al))) (Aa 11) (fz (Aa 12))))
  (A2 (ifS (orT (asB (Ae (Bf true) (fz (Ak (Ay 2 (AQ 60)) (Aj (fz (Aa 3)) (Aj (fz Fe) Al)))) (Aa 3))) (asB (Ae (Bf true) (fz (Ak (Ay 2 (AQ 60)) (Aj (fz (Aa 3)) (Aj (fz (Aa 11)) Al)))) (Aa 3)))) (retS (gc (.bl false))) nxS)
  (retS (Ae (Bf false) (fz (Ak (Ay 1 Bn) (Aj (fz (Aa 3)) Al))) (Aa 7))))))))))))))))))
def f_law:FS->Out Rv:=D7 12 (b_law)
section
variable {P:Program} {w:World} {K:PySem.W.Frag} {mg:Str->Option Value} {base:Heap}
abbrev BS:Stmt:=top 5
theorem Ey:Bh ["_law_script","_law_k"] ["_law_script","_law_k"] (Aq BS):=⟨rfl,rfl,rfl,by decide +kernel,rfl,by decide +kernel,by decide +kernel⟩
theorem HN {f:Addr} {fd:FuncData} (Fu:Fun K "_law_cell_at" "_law_cell_at" BS f fd) (T:Tx K mg) :Dh P w K mg base CX0 1 f fd ["_law_script","_law_k"] (spF K 2 (AY)) :=
 Eb (k:=0) (g:=Cr) Fu Ey 2 0 rfl rfl (fun cdv A outer s H E hr=>by
  have nd:=Ey.nd
  have hu:=Ea hr
  exact (Af (C3 (ft_lt (Ar 1) (D3 T.b_len (Ah (Ar 0) Au))) (As (Bb (Ba hu (Ar 0) (Ax (Ar 1)) (fun _ _=>rfl)))) Bl)
   (As (Bb Ag))))
end
section
variable {P:Program} {w:World} {K:PySem.W.Frag} {mg:Str->Option Value} {base:Heap}
abbrev Co:Stmt:=top 7
theorem Fl:Bh ["_law_script","_law_at","_law_parts","_law_drawn","_law_got","_law_first","_law_rest","_law_k"] ["_law_script","_law_at","_law_parts"] (Aq Co):=⟨rfl,rfl,rfl,by decide +kernel,rfl,by decide +kernel,by decide +kernel⟩
theorem ok_Ldigits {f:Addr} {fd:FuncData} (Fu:Fun K "_law_digits" "_law_digits" Co f fd) (T:Tx K mg) :Dh P w K mg base CX0 1 f fd ["_law_script","_law_at","_law_parts"] (spF K 3 (Bs)) :=
 Eb (k:=0) (g:=CS) Fu Fl 3 5 rfl rfl (fun cdv A outer s H E hr=>by
  have nd:=Fl.nd
  have hu:=Ea hr
  exact (Af (AI 3 nd (Or.inl rfl) (fe_sum T.b_sum (Ah (DM false ["_law_k","_law_script"] [none,some 0] rfl (fi_range3 (Ah (Ar 1) (Ah (fe_min2 T.b_min (Ah (D3 T.b_len (Ah (Ar 0) Au)) (Ah Ag Au))) (Ah (Ar 2) Au))) (fun ha=>pi_range3 rfl T.b_range ha)) (fun _ _ _ _ _=>(A0 0 (by show List.Nodup (["_law_k","_law_script"]:List Str);decide +kernel) (Or.inl rfl) (hf:=.inr rfl))) (fun _ _ _ _ _=>EM) (fun _ _ _ _ _=>(Ba hu (Ar 1) (Ax (Ar 0)) (fun _ _=>rfl)))) Au)))
   (Af (AI 4 nd (Or.inl rfl) (EO Au))
   (Af (AI 5 nd (Or.inl rfl) (Bm (Ar 3) Ag))
   (Af (AI 6 nd (Or.inl rfl) (CG (Ar 3) Ag))
   (Af (Dm PassesOwn.never rfl (Cq T.b_range (Ah Ag Au)) (A0 7 nd (Or.inl rfl)) (Af (AI 5 nd (Or.inl rfl) (Bm (BJ (BJ (EN (Ar 5) (Ar 5)) (Ar 3)) (Ar 7)) Ag))
   (Af (Dc (fe_bm Fq PySem.F.slot_list_append PySem.F.type_list_append BY (Ar 4) (Ah (Bm (Ba hu (ER (Ah (Ax (Ar 6)) (Ah (Bm (EN (Ar 5) (Ar 5)) Ag) Au))) (Bm (Ar 3) Ag) (fun _ _=>rfl)) Ag) Au)))
   (As (AI 6 nd (Or.inl rfl) (CG (Ar 6) Ag))))))
   (As (Bb (fe_listRev rfl T.b_list T.b_reversed (Ar 4))))))))))
end
section
variable {P:Program} {w:World} {K:PySem.W.Frag} {mg:Str->Option Value} {base:Heap}
abbrev Cn:Stmt:=top 12
theorem Fj:Bh ["_law_expression","_law_puts","_law_name"] ["_law_expression","_law_puts"] (Aq Cn):=⟨rfl,rfl,rfl,by decide +kernel,rfl,by decide +kernel,by decide +kernel⟩
theorem Fp {f:Addr} {fd:FuncData} (Fu:Fun K "_law_filled" "_law_filled" Cn f fd) (T:Tx K mg)  (hat:∀ k sp,Dh P w K mg base CX0 k f fd ["_law_expression","_law_puts"] sp->FnAt P w K mg base CX0 "_law_filled" k ["_law_expression","_law_puts"] sp):∀ n,Dh P w K mg base CX0 (1+n) f fd ["_law_expression","_law_puts"] (spF K 2 (AN n))
 | 0=>⟨fun vs H Q E h=>by rw [h.1];rfl,fun A outer s H args us vs Q E hr he hb hv h=>by obtain ⟨_,F,fs0,ok,h⟩:=h;exact h.elim⟩
 | n+1=>by
  have Grec:=hat _ _ (Fp Fu T  hat n)
  have hb:=Eb (P:=P) (w:=w) (mg:=mg) (base:=base) (k:=1+n) (g:=CQ (AN n)) Fu Fj 2 1 rfl rfl (fun cdv A outer s H E hr=>by
  have nd:=Fj.nd
  have hu:=Ea hr
  exact (Af (C3 (C5 (E7 hr) (Ba hu (Ar 0) Ag (fun _ _=>rfl)) BZ) (Af (Dm PassesOwn.never rfl (fi_dict (Ar 1)) (A0 2 nd (Or.inl rfl)) (As (C3 (C5 (E7 hr) (Ar 2) (Ba hu (Ar 0) Ag (fun _ _=>rfl))) (As (Bb (Ba hu (Ar 1) (Ax (Ar 2)) (fun _ _=>rfl)))) Bl)))
   (As (Bb (Ar 0)))) Bl)
   (As (Bb (D1 (Ah (Ba hu (Ar 0) Ag (fun _ _=>rfl)) (Ah (Ba hu (Ar 0) Ag (fun _ _=>rfl)) (Ah (Gn T.b_tuple (Ah (DM false ["_law_one","_law_puts"] [none,some 1] rfl (DZ (Ba hu (Ar 0) Ag (fun _ _=>rfl))) (fun _ _ _ _ _=>(A0 0 (by show List.Nodup (["_law_one","_law_puts"]:List Str);decide +kernel) (Or.inl rfl) (hf:=.inr rfl))) (fun _ _ _ _ _=>EM) (fun _ _ _ _ _=>(Ax (Cc Grec (hr.mono (by first | decide | omega)) (Am (Ax (Ar 0)) (Am (Ax (Ar 1)) AV)))))) Au)) Au))))))))
  exact hb
end
section
variable {P:Program} {w:World} {K:PySem.W.Frag} {mg:Str->Option Value} {base:Heap}
abbrev CY:Stmt:=top 8
theorem GL:Bh ["_law_cell","_law_count","_law_letters","_law_mixed","_law_wide","_law_at","_law_base","_law_step","_law_got","_law_k","_law_turned_on"] ["_law_cell","_law_count"] (Aq CY):=⟨rfl,rfl,rfl,by decide +kernel,rfl,by decide +kernel,by decide +kernel⟩
theorem ok_Lnames {f:Addr} {fd:FuncData} (Fu:Fun K "_law_names" "_law_names" CY f fd) (T:Tx K mg) :Dh P w K mg base CX0 1 f fd ["_law_cell","_law_count"] (spF K 2 (Cy)) :=
 Eb (k:=0) (g:=Dz) Fu GL 2 9 rfl rfl (fun cdv A outer s H E hr=>by
  have nd:=GL.nd
  have hu:=Ea hr
  exact (Af (AI 2 nd (Or.inr rfl) BZ)
   (Af (AI 3 nd (Or.inr rfl) (EN (BJ (BJ (EN (Ar 0) (Ar 0)) (Ar 0)) Ag) Ag))
   (Af (AI 4 nd (Or.inl rfl) (BJ Ag (Bm (Ar 3) Ag)))
   (Af (AI 5 nd (Or.inl rfl) (Bm (CG (Ar 3) Ag) (Ar 4)))
   (Af (gs_setComp false 6 ["_law_k","_law_letters","_law_mixed"] [none,some 2,some 3] rfl nd (Or.inl rfl) (Cq T.b_range (Ah (Ar 4) Au)) (fun _ _ _ _ _=>(A0 0 (by show List.Nodup (["_law_k","_law_letters","_law_mixed"]:List Str);decide +kernel) (Or.inl rfl) (hf:=.inr rfl))) (fun _ _ _ _ _=>EM) (fun _ _ _ _ _=>(Ba hu (Ar 1) (Bm (BJ (CG (Ar 2) (BJ (Ar 0) Ag)) (EN (Ar 0) (Ar 0))) Ag) (fun _ _=>rfl))))
   (Af (AI 7 nd (Or.inl rfl) (Ba hu (ER (Ah Ag (Ah Ag (Ah Ag (Ah Ag (Ah Ag (Ah Ag Au))))))) (Bm (CG (Ar 3) Ag) Ag) (fun _ _=>rfl)))
   (Af (AI 8 nd (Or.inl rfl) (EO Au))
   (Af (Dm PassesOwn.never rfl (Cq T.b_range (Ah (Ar 1) Au)) (A0 9 nd (Or.inl rfl)) (Af (AI 10 nd (Or.inl rfl) (Ba hu (Ar 2) (Bm (BJ (CG (Ar 3) Ag) (EN (Ar 9) (Ar 7))) Ag) (fun _ _=>rfl)))
   (As (C3 (C5 (E7 hr) (Bm (CG (Ar 3) Ag) Ag) Ag) (As (Dc (fe_bm Fq PySem.F.slot_list_append PySem.F.type_list_append BY (Ar 8) (Ah (EN (Ba hu (Ar 6) Ag (fun _ _=>rfl)) (BJ (Bm (BJ (Ar 9) (CG (Ar 3) Ag)) Ag) Ag)) Au)))) (As (Dc (fe_bm Fq PySem.F.slot_list_append PySem.F.type_list_append BY (Ar 8) (Ah (BJ (BJ (Ax (fe_bmS mf_join PySem.F.slot_str_join PySem.F.type_str_join mt_join BZ (Ah (fe_sl (Ar 6) Gm (Gk (Ar 5))) Au))) (Ar 10)) (Ax (fe_bmS mf_join PySem.F.slot_str_join PySem.F.type_str_join mt_join BZ (Ah (fe_sl (Ar 6) (Gk (BJ (Ar 5) Ag)) Gm) Au)))) Au))))))))
   (As (Bb (Ar 8))))))))))))
end
section
variable {P:Program} {w:World} {K:PySem.W.Frag} {mg:Str->Option Value} {base:Heap}
abbrev CW:Stmt:=top 11
theorem GK:Bh ["_law_got"] ["_law_got"] (Aq CW):=⟨rfl,rfl,rfl,by decide +kernel,rfl,by decide +kernel,by decide +kernel⟩
theorem GX {f:Addr} {fd:FuncData} (Fu:Fun K "_law_shape" "_law_shape" CW f fd) (T:Tx K mg)  (hat:∀ k sp,Dh P w K mg base CX0 k f fd ["_law_got"] sp->FnAt P w K mg base CX0 "_law_shape" k ["_law_got"] sp):∀ n,Dh P w K mg base CX0 (1+n) f fd ["_law_got"] (spF K 1 (Be n))
 | 0=>⟨fun vs H Q E h=>by rw [h.1];rfl,fun A outer s H args us vs Q E hr he hb hv h=>by obtain ⟨_,F,fs0,ok,h⟩:=h;exact h.elim⟩
 | n+1=>by
  have Grec:=hat _ _ (GX Fu T  hat n)
  have hb:=Eb (P:=P) (w:=w) (mg:=mg) (base:=base) (k:=1+n) (g:=Ep (Be n)) Fu GK 1 0 rfl rfl (fun cdv A outer s H E hr=>by
  have nd:=GK.nd
  have hu:=Ea hr
  exact (Af (C3 (FW.ft (Hj (Fx (Cw (ES kit_tuple PyProof.Rows.boot_tuple T.b_isinstance T.b_tuple (Ar 0)) (fun _=>rfl))) (Hj (ft_lt (D3 T.b_len (Ah (Ar 0) Au)) Ag) (Fw (DY (E7 hr) (DM false ["_law_one"] [none] rfl (DZ (fe_sl (Ar 0) Gm (Gk Ag))) (fun _ _ _ _ _=>(A0 0 (by show List.Nodup (["_law_one"]:List Str);decide +kernel) (Or.inl rfl) (hf:=.inr rfl))) (fun _ _ _ _ _=>(fif_one (Fx (Cw (ES kit_str PyProof.Rows.boot_str T.b_isinstance T.b_str (Ar 0)) (fun _=>rfl))))) (fun _ _ _ _ _=>(Ax (Ar 0)))) (ER Au)))))) (As (Bb fe_bl)) Bl)
   (Af (C3 (C5 (E7 hr) (Ba hu (Ar 0) Ag (fun _ _=>rfl)) BZ) (As (Bb (fe_eqV (E7 hr) (D3 T.b_len (Ah (Ar 0) Au)) Ag))) Bl)
   (Af (C3 (FW.ft (Hj (DY (E7 hr) (D3 T.b_len (Ah (Ar 0) Au)) Ag) (Fw (Fx (Cw (ES kit_tuple PyProof.Rows.boot_tuple T.b_isinstance T.b_tuple (Ba hu (Ar 0) Ag (fun _ _=>rfl))) (fun _=>rfl)))))) (As (Bb fe_bl)) Bl)
   (As (Bb (fe_eqV (E7 hr) (DM false ["_law_one"] [none] rfl (DZ (Ba hu (Ar 0) Ag (fun _ _=>rfl))) (fun _ _ _ _ _=>(A0 0 (by show List.Nodup (["_law_one"]:List Str);decide +kernel) (Or.inl rfl) (hf:=.inr rfl))) (fun _ _ _ _ _=>(fif_one (Fx (Cw (Ax (Cc Grec (hr.mono (by first | decide | omega)) (Am (Ax (Ar 0)) AV))) (fun _=>rfl))))) (fun _ _ _ _ _=>(Ax (Ar 0)))) (ER Au))))))))
  exact hb
end
section
variable {P:Program} {w:World} {K:PySem.W.Frag} {mg:Str->Option Value} {base:Heap}
abbrev CV:Stmt:=top 10
theorem GJ:Bh ["_law_expression","_law_got","_law_k"] ["_law_expression"] (Aq CV):=⟨rfl,rfl,rfl,by decide +kernel,rfl,by decide +kernel,by decide +kernel⟩
theorem GW {f:Addr} {fd:FuncData} (Fu:Fun K "_law_spots" "_law_spots" CV f fd) (T:Tx K mg)  (hat:∀ k sp,Dh P w K mg base CX0 k f fd ["_law_expression"] sp->FnAt P w K mg base CX0 "_law_spots" k ["_law_expression"] sp):∀ n,Dh P w K mg base CX0 (1+n) f fd ["_law_expression"] (spF K 1 (A9 n))
 | 0=>⟨fun vs H Q E h=>by rw [h.1];rfl,fun A outer s H args us vs Q E hr he hb hv h=>by obtain ⟨_,F,fs0,ok,h⟩:=h;exact h.elim⟩
 | n+1=>by
  have Grec:=hat _ _ (GW Fu T  hat n)
  have hb:=Eb (P:=P) (w:=w) (mg:=mg) (base:=base) (k:=1+n) (g:=Eo (A9 n)) Fu GJ 1 2 rfl rfl (fun cdv A outer s H E hr=>by
  have nd:=GJ.nd
  have hu:=Ea hr
  exact (Af (AI 1 nd (Or.inl rfl) (ER (Ah (D1 Au) Au)))
   (Af (C3 (DY (E7 hr) (Ba hu (Ar 0) Ag (fun _ _=>rfl)) BZ) (As (Dm PassesOwn.never rfl (Cq T.b_range (Ah (D3 T.b_len (Ah (Ba hu (Ar 0) Ag (fun _ _=>rfl)) Au)) Au)) (A0 2 nd (Or.inr rfl)) (As (AI 1 nd (Or.inl rfl) (Ax (BJ (Ar 1) (DM false ["_law_one","_law_k"] [none,some 2] rfl (DZ (Ax (Cc Grec (hr.mono (by first | decide | omega)) (Am (Ba hu (Ba hu (Ar 0) Ag (fun _ _=>rfl)) (Ax (Ar 2)) (fun _ _=>rfl)) AV)))) (fun _ _ _ _ _=>(A0 0 (by show List.Nodup (["_law_one","_law_k"]:List Str);decide +kernel) (Or.inl rfl) (hf:=.inr rfl))) (fun _ _ _ _ _=>EM) (fun _ _ _ _ _=>(BJ (D1 (Ah (Ax (Ar 1)) Au)) (Ar 0)))))))))) Bl)
   (As (Bb (Ar 1))))))
  exact hb
end
section
variable {P:Program} {w:World} {K:PySem.W.Frag} {mg:Str->Option Value} {base:Heap}
abbrev By:Stmt:=top 13
theorem DX:Bh ["_law_expression","_law_got","_law_place","_law_one","_law_at"] ["_law_expression"] (Aq By):=⟨rfl,rfl,rfl,by decide +kernel,rfl,by decide +kernel,by decide +kernel⟩
theorem GV {f:Addr} {fd:FuncData} (Fu:Fun K "_law_standing" "_law_standing" By f fd) (T:Tx K mg) (G_Lspots:FnAt P w K mg base CX0 "_law_spots" 61 ["_law_expression"] (spF K 1 (A9 60))):Dh P w K mg base CX0 62 f fd ["_law_expression"] (spF K 1 (BA)) :=
 Eb (k:=61) (g:=Dg) Fu DX 1 4 rfl rfl (fun cdv A outer s H E hr=>by
  have nd:=DX.nd
  have hu:=Ea hr
  exact (Af (AI 1 nd (Or.inl rfl) (EO Au))
   (Af (Dm PassesOwn.never rfl (DZ (Ax (fe_sortT (E7 hr) T.b_sorted (Ah (Ax (Cc G_Lspots (hr.mono (by first | decide | omega)) (Am (Ax (Ar 0)) AV))) Au)))) (A0 2 nd (Or.inl rfl)) (Af (AI 3 nd (Or.inl rfl) (Ax (Ar 0)))
   (Af (Dm PassesOwn.never rfl (DZ (Ax (Ar 2))) (A0 4 nd (Or.inl rfl)) (As (AI 3 nd (Or.inl rfl) (Ba hu (Ba hu (Ar 3) Ag (fun _ _=>rfl)) (Ax (Ar 4)) (fun _ _=>rfl)))))
   (As (C3 (FW.ft (fw_and (C5 (E7 hr) (Ba hu (Ar 3) Ag (fun _ _=>rfl)) BZ) (fw_and1 (ft_notin hu (Ba hu (Ar 3) Ag (fun _ _=>rfl)) (Ar 1))))) (As (Dc (fe_bm Fq PySem.F.slot_list_append PySem.F.type_list_append BY (Ar 1) (Ah (Ba hu (Ar 3) Ag (fun _ _=>rfl)) Au)))) Bl)))))
   (As (Bb (Ar 1))))))
end
section
variable {P:Program} {w:World} {K:PySem.W.Frag} {mg:Str->Option Value} {base:Heap}
abbrev DE:Stmt:=top 9
theorem sc_Lwild:Bh ["_law_names_here","_law_purse","_law_down","_law_digit","_law_parts","_law_k"] ["_law_names_here","_law_purse","_law_down"] (Aq DE):=⟨rfl,rfl,rfl,by decide +kernel,rfl,by decide +kernel,by decide +kernel⟩
theorem ok_Lwild {f:Addr} {fd:FuncData} (Fu:Fun K "_law_wild" "_law_wild" DE f fd) (T:Tx K mg)  (hat:∀ k sp,Dh P w K mg base CX0 k f fd ["_law_names_here","_law_purse","_law_down"] sp->FnAt P w K mg base CX0 "_law_wild" k ["_law_names_here","_law_purse","_law_down"] sp):∀ n,Dh P w K mg base CX0 (1+n) f fd ["_law_names_here","_law_purse","_law_down"] (spF K 3 (Bc n))
 | 0=>⟨fun vs H Q E h=>by rw [h.1];rfl,fun A outer s H args us vs Q E hr he hb hv h=>by obtain ⟨_,F,fs0,ok,h⟩:=h;exact h.elim⟩
 | n+1=>by
  have Grec:=hat _ _ (ok_Lwild Fu T  hat n)
  have hb:=Eb (P:=P) (w:=w) (mg:=mg) (base:=base) (k:=1+n) (g:=Df (Bc n)) Fu sc_Lwild 3 3 rfl rfl (fun cdv A outer s H E hr=>by
  have nd:=sc_Lwild.nd
  have hu:=Ea hr
  exact (Af (AI 3 nd (Or.inl rfl) (Ax (fe_bm0 mf_pop PySem.F.slot_list_pop PySem.F.type_list_pop mt_popS (Ar 1))))
   (Af (C3 (FW.ft (Hj (C5 (E7 hr) (Ar 2) Ag) (Fw (C5 (E7 hr) (Bm (Ar 3) Ag) Ag)))) (As (Bb (D1 (Ah BZ (Ah (Ba hu (Ar 0) (Bm (CG (Ar 3) Ag) (D3 T.b_len (Ah (Ar 0) Au))) (fun _ _=>rfl)) Au))))) Bl)
   (Af (AI 4 nd (Or.inl rfl) (EO Au))
   (Af (Dm PassesOwn.never rfl (Cq T.b_range (Ah (Ba hu (ER (Ah Ag (Ah Ag (Ah Ag (Ah Ag (Ah Ag (Ah Ag Au))))))) (Bm (CG (Ar 3) Ag) Ag) (fun _ _=>rfl)) Au)) (A0 5 nd (Or.inl rfl)) (As (Dc (fe_bm Fq PySem.F.slot_list_append PySem.F.type_list_append BY (Ar 4) (Ah (Ax (Cc Grec (hr.mono (by first | decide | omega)) (Am (Ax (Ar 0)) (Am (Ar 1) (Am (fe_sub (Ar 2) Ag) AV))))) Au)))))
   (As (Bb (D1 (Ah (Ba hu (ER (Ah BZ (Ah BZ Au))) (Bm (CG (Ar 3) Ag) Ag) (fun _ _=>rfl)) (Ah (Ba hu (Ar 0) (Bm (CG (Ar 3) Ag) (D3 T.b_len (Ah (Ar 0) Au))) (fun _ _=>rfl)) (Ah (Gn T.b_tuple (Ah (Ar 4) Au)) Au)))))))))))
  exact hb
end
section
variable {P:Program} {w:World} {K:PySem.W.Frag} {mg:Str->Option Value} {base:Heap}
abbrev A5:Stmt:=top 1
theorem CL:Bh ["expression"] ["expression"] (Aq A5):=⟨rfl,rfl,rfl,by decide +kernel,rfl,by decide +kernel,by decide +kernel⟩
theorem EA {f:Addr} {fd:FuncData} (Fu:Fun K "arguments_of" "arguments_of" A5 f fd) (T:Tx K mg) :Dh P w K mg base CX0 1 f fd ["expression"] (spF K 1 (AK)) :=
 Eb (k:=0) (g:=BE) Fu CL 1 0 rfl rfl (fun cdv A outer s H E hr=>by
  have nd:=CL.nd
  have hu:=Ea hr
  exact (As (Bb (fe_if (C5 (E7 hr) (Ba hu (Ar 0) Ag (fun _ _=>rfl)) BZ) (D1 Au) (Ba hu (Ar 0) Ag (fun _ _=>rfl))))))
end
section
variable {P:Program} {w:World} {K:PySem.W.Frag} {mg:Str->Option Value} {base:Heap}
abbrev CU:Stmt:=top 2
theorem GI:Bh ["expression","put_ins","form","head","arguments"] ["expression","put_ins"] (Aq CU):=⟨rfl,rfl,rfl,by decide +kernel,rfl,by decide +kernel,by decide +kernel⟩
theorem GU {f:Addr} {fd:FuncData} (Fu:Fun K "filled" "filled" CU f fd) (T:Tx K mg)  (hat:∀ k sp,Dh P w K mg base CX0 k f fd ["expression","put_ins"] sp->FnAt P w K mg base CX0 "filled" k ["expression","put_ins"] sp):∀ n,Dh P w K mg base CX0 (1+n) f fd ["expression","put_ins"] (spF K 2 (AQ n))
 | 0=>⟨fun vs H Q E h=>by rw [h.1];rfl,fun A outer s H args us vs Q E hr he hb hv h=>by obtain ⟨_,F,fs0,ok,h⟩:=h;exact h.elim⟩
 | n+1=>by
  have Grec:=hat _ _ (GU Fu T  hat n)
  have hb:=Eb (P:=P) (w:=w) (mg:=mg) (base:=base) (k:=1+n) (g:=En (AQ n)) Fu GI 2 3 rfl rfl (fun cdv A outer s H E hr=>by
  have nd:=GI.nd
  have hu:=Ea hr
  exact (Af (C3 (C5 (E7 hr) (Ba hu (Ar 0) Ag (fun _ _=>rfl)) BZ) (As (Bb (fe_get hu (Ar 1) (Ba hu (Ar 0) Ag (fun _ _=>rfl)) (Ax (Ar 0)) ⟨rfl,rfl,rfl,rfl⟩))) Bl)
   (Af (gs_asg (Ax (Ar 0)) (gt_tup rfl (Gf (A0 2 nd (Or.inl rfl)) (Gf (A0 3 nd (Or.inl rfl)) (Gf (A0 4 nd (Or.inl rfl)) gts_nil (fun h1 h2=>FX h1 h2)) (fun h1 h2=>FX h1 h2)) (fun h1 h2=>FX h1 h2))))
   (As (Bb (D1 (Ah (Ax (Ar 2)) (Ah (Ax (Ar 3)) (Ah (Gn T.b_tuple (Ah (DM false ["argument","put_ins"] [none,some 1] rfl (DZ (Ax (Ar 4))) (fun _ _ _ _ _=>(A0 0 (by show List.Nodup (["argument","put_ins"]:List Str);decide +kernel) (Or.inl rfl) (hf:=.inr rfl))) (fun _ _ _ _ _=>EM) (fun _ _ _ _ _=>(Ax (Cc Grec (hr.mono (by first | decide | omega)) (Am (Ax (Ar 0)) (Am (Ax (Ar 1)) AV)))))) Au)) Au)))))))))
  exact hb
end
section
variable {P:Program} {w:World} {K:PySem.W.Frag} {mg:Str->Option Value} {base:Heap}
abbrev FR:Stmt:=top 14
theorem sc_law:Bh ["_law_script","_law_names_here","_law_flat","_law_expression","_law_puts","_law_k","_law_purse","_law_due","_law_handed","_law_told","_law_made","_law_own","_law_name"] ["_law_script"] (Aq FR):=⟨rfl,rfl,rfl,by decide +kernel,rfl,by decide +kernel,by decide +kernel⟩
theorem ok_law {f:Addr} {fd:FuncData} (Fu:Fun K "law" "law" FR f fd) (T:Tx K mg) (G_names_in:FnAt P w K mg base CX0 "names_in" 2 ["expression"] (spF K 1 Bn)) (G_filled:FnAt P w K mg base CX0 "filled" 61 ["expression","put_ins"] (spF K 2 (AQ 60))) (G_Lfilled:FnAt P w K mg base CX0 "_law_filled" 61 ["_law_expression","_law_puts"] (spF K 2 (AN 60))) (G_Lshape:FnAt P w K mg base CX0 "_law_shape" 61 ["_law_got"] (spF K 1 (Be 60))) (G_Lstanding:FnAt P w K mg base CX0 "_law_standing" 62 ["_law_expression"] (spF K 1 BA)) (G_Lwild:FnAt P w K mg base CX0 "_law_wild" 61 ["_law_names_here","_law_purse","_law_down"] (spF K 3 (Bc 60))) (G_Ldigits:FnAt P w K mg base CX0 "_law_digits" 1 ["_law_script","_law_at","_law_parts"] (spF K 3 Bs)) (G_Lcell_at:FnAt P w K mg base CX0 "_law_cell_at" 1 ["_law_script","_law_k"] (spF K 2 AY)) (G_Lnames:FnAt P w K mg base CX0 "_law_names" 1 ["_law_cell","_law_count"] (spF K 2 Cy)):Dh P w K mg base CX0 63 f fd ["_law_script"] (spF K 1 (f_law)) :=
 Eb (k:=62) (g:=b_law) Fu sc_law 1 12 rfl rfl (fun cdv A outer s H E hr=>by
  have nd:=sc_law.nd
  have hu:=Ea hr
  exact (Af (AI 1 nd (Or.inl rfl) (Ax (Cc G_Lnames (hr.mono (by first | decide | omega)) (Am (Ax (Cc G_Lcell_at (hr.mono (by first | decide | omega)) (Am (Ax (Ar 0)) (Am Ag AV)))) (Am Ag AV)))))
   (Af (AI 2 nd (Or.inl rfl) (Bm (Ax (Cc G_Lcell_at (hr.mono (by first | decide | omega)) (Am (Ax (Ar 0)) (Am Ag AV)))) Ag))
   (Af (AI 3 nd (Or.inl rfl) (Ax (Cc G_Lwild (hr.mono (by first | decide | omega)) (Am (fe_sl (Ar 1) Gm (Gk Ag)) (Am (Cc G_Ldigits (hr.mono (by first | decide | omega)) (Am (Ax (Ar 0)) (Am Ag (Am Ag AV)))) (Am (fe_sub Ag (Ar 2)) AV))))))
   (Af (AI 4 nd (Or.inl rfl) Ei)
   (Af (Dm PassesOwn.never rfl (Cq T.b_range (Ah Ag Au)) (A0 5 nd (Or.inl rfl)) (Af (AI 6 nd (Or.inl rfl) (Cc G_Ldigits (hr.mono (by first | decide | omega)) (Am (Ax (Ar 0)) (Am (Ax (Ar 5)) (Am Ag AV)))))
   (As (C3 (ft_gt (Bm (Ax (fe_bm0 mf_pop PySem.F.slot_list_pop PySem.F.type_list_pop mt_popS (Ar 6))) Ag) Ag) (As (Gg hu (Ax (Cc G_Lwild (hr.mono (by first | decide | omega)) (Am (Ax (Ar 1)) (Am (Ar 6) (Am (BJ Ag (Ar 2)) AV))))) (Ar 4) (Ba hu (Ar 1) (Bm (BJ (Ar 5) Ag) Ag) (fun _ _=>rfl)) (fun he ho hi hs=>ps_asg he (pg_sub ho hi hs)))) Bl))))
   (Af (AI 7 nd (Or.inl rfl) (Ax (Cc G_Lstanding (hr.mono (by first | decide | omega)) (Am (Ax (Ar 3)) AV))))
   (Af (AI 8 nd (Or.inl rfl) (Ax (fe_dictC T.b_dict (Ah (Ar 4) Au))))
   (Af (AI 9 nd (Or.inl rfl) (Cc G_names_in (hr.mono (by first | decide | omega)) (Am (Ax (Ar 3)) AV)))
   (Af (C3 (FW.ft (Hj (Fx (Cw (fe_isinstG kit_list PyProof.Rows.boot_list T.b_isinstance T.b_list (Ar 9)) (fun _=>rfl))) (Fw (DY (E7 hr) (Ar 9) (Ar 7))))) (As (Bb fe_bl)) Bl)
   (Af (Dc (fe_bm Fq PySem.F.slot_list_append PySem.F.type_list_append BY (Ar 9) (Ah BZ Au)))
   (Af (AI 10 nd (Or.inl rfl) (Ax (Cc G_filled (hr.mono (by first | decide | omega)) (Am (Ax (Ar 3)) (Am (Ax (Ar 8)) AV)))))
   (Af (C3 (FW.ft (Hj (Fx (Cw (Ax (Cc G_Lshape (hr.mono (by first | decide | omega)) (Am (Ax (Ar 10)) AV))) (fun _=>rfl))) (Hj (DY (E7 hr) (Ar 10) (Ax (Cc G_Lfilled (hr.mono (by first | decide | omega)) (Am (Ax (Ar 3)) (Am (fe_fzD (Ar 4)) AV))))) (Fw (DY (E7 hr) (Ar 8) (Ar 4)))))) (As (Bb fe_bl)) Bl)
   (Af (AI 11 nd (Or.inl rfl) Ei)
   (Af (Dm PassesOwn.never rfl (DZ (Ax (Ar 1))) (A0 12 nd (Or.inl rfl)) (As (Gg hu (D1 (Ah BZ (Ah (Ax (Ar 12)) Au))) (Ar 11) (Ax (Ar 12)) (fun he ho hi hs=>ps_asg he (pg_sub ho hi hs)))))
   (Af (C3 (FW.ft (Hj (DY (E7 hr) (Ax (Cc G_filled (hr.mono (by first | decide | omega)) (Am (Ax (Ar 3)) (Am (Ax Ei) AV)))) (Ar 3)) (Fw (DY (E7 hr) (Ax (Cc G_filled (hr.mono (by first | decide | omega)) (Am (Ax (Ar 3)) (Am (Ax (Ar 11)) AV)))) (Ar 3))))) (As (Bb fe_bl)) Bl)
   (As (Bb (fe_eqV (E7 hr) (Ax (Cc G_names_in (hr.mono (by first | decide | omega)) (Am (Ax (Ar 3)) AV))) (Ar 7))))))))))))))))))))
end
section
variable {P:Program} {w:World} {K:PySem.W.Frag} {mg:Str->Option Value} {base:Heap}
abbrev BR:Stmt:=top 3
theorem Ew:Bh ["expression","found","waiting","part"] ["expression"] (Aq BR):=⟨rfl,rfl,rfl,by decide +kernel,rfl,by decide +kernel,by decide +kernel⟩
theorem HM {f:Addr} {fd:FuncData} (Fu:Fun K "names_in" "names_in" BR f fd) (T:Tx K mg) (G_arguments_of:FnAt P w K mg base CX0 "arguments_of" 1 ["expression"] (spF K 1 AK)):Dh P w K mg base CX0 2 f fd ["expression"] (spF K 1 (Bn)) :=
 Eb (k:=1) (g:=DS) Fu Ew 1 3 rfl rfl (fun cdv A outer s H E hr=>by
  have nd:=Ew.nd
  have hu:=Ea hr
  exact (Af (AI 1 nd (Or.inl rfl) Ei)
   (Af (AI 2 nd (Or.inl rfl) (EO (Ah (Ax (Ar 0)) Au)))
   (Af (gs_while 1000 PassesOwn.never (Cw (Ar 2) (fun _=>rfl)) (Af (AI 3 nd (Or.inl rfl) (Ax (fe_bm0 mf_pop PySem.F.slot_list_pop PySem.F.type_list_pop mt_popS (Ar 2))))
   (Af (C3 (C5 (E7 hr) (Ba hu (Ar 3) Ag (fun _ _=>rfl)) BZ) (As (Gg hu fe_bl (Ar 1) (Ba hu (Ar 3) Ag (fun _ _=>rfl)) (fun he ho hi hs=>ps_asg he (pg_sub ho hi hs)))) Bl)
   (As (Dc (fe_bm mf_extU PySem.F.slot_list_extend PySem.F.type_list_extend mt_extU (Ar 2) (Ah (Ax (fe_listRevT rfl T.b_list T.b_reversed (Ax (Cc G_arguments_of (hr.mono (by first | decide | omega)) (Am (Ax (Ar 3)) AV))))) Au)))))))
   (As (Bb (fe_listE rfl T.b_list (Ah (Ar 1) Au))))))))
end
end Sy
namespace Nm
def M (c:Int):Int:=(c * c+c+1) * 982451653
def W (c:Int):Int:=1+M c % 12
def At (c:Int):Int:=M c / 12 % W c
def CD (i:Int):Nat:=97+(i % 26).toNat
def base (c:Int) (j:Nat):Nat:=CD (M c / ((j:Int)+5)+(j:Int) * j)
def stepI (c:Int):Nat:=(M c / 144 % 6).toNat
def step (c:Int):Int:=([1,3,5,7,9,11]:List Int).getD (stepI c) 1
def one (c:Int) (k:Nat):Nat:=CD (M c / 864+(k:Int) * step c)
def codesA (c:Int) (k:Nat):List Nat:=List.replicate (((k:Int)+M c / 7) % 12+1).toNat (base c 0)
def codesB (c:Int) (k:Nat):List Nat:=(List.range (At c).toNat).map (base c)++[one c k]++(List.range ((W c).toNat - ((At c).toNat+1))).map fun j=>base c ((At c).toNat+1+j)
def codes (c:Int) (k:Nat):List Nat:=if M c / 900 % 3=1 then codesA c k else codesB c k
theorem W_lo (c:Int):1<=W c:=by unfold W;omega
theorem W_hi (c:Int):W c<=12:=by unfold W;omega
theorem At_lo (c:Int):0<=At c:=Int.emod_nonneg _ (by have:=W_lo c;omega)
theorem At_hi (c:Int):At c < W c:=Int.emod_lt_of_pos _ (by have:=W_lo c;omega)
theorem step_mem (c:Int):step c=1∨step c=3∨step c=5∨step c=7∨step c=9∨step c=11:=by
 have h:stepI c < 6:=by unfold stepI;omega
 unfold step
 generalize stepI c=i at h
 match i,h with
 | 0,_=>simp
 | 1,_=>simp
 | 2,_=>simp
 | 3,_=>simp
 | 4,_=>simp
 | 5,_=>simp
theorem one_inj {c:Int} {k k':Nat} (hk:k < 12) (hk':k' < 12) (h:one c k=one c k'):k=k':=by
 unfold one CD at h
 have h':((M c / 864+(k:Int) * step c) % 26)=((M c / 864+(k':Int) * step c) % 26):=by omega
 generalize M c / 864=m at h'
 rcases step_mem c with e | e | e | e | e | e <;> rw [e] at h' <;> omega
theorem Fz (c:Int) (k:Nat):(codesA c k).length=(((k:Int)+M c / 7) % 12+1).toNat:=by unfold codesA;simp
theorem codes_inj {c:Int} {k k':Nat} (hk:k < 12) (hk':k' < 12) (h:codes c k=codes c k'):k=k':=by
 unfold codes at h
 split at h
 ·have e:=congrArg List.length h
  rw [Fz,Fz] at e
  omega
 ·unfold codesB at h
  rw [List.append_assoc,List.append_assoc] at h
  have h1:=List.append_cancel_left h
  rw [List.singleton_append,List.singleton_append] at h1
  exact one_inj hk hk' (List.cons.inj h1).1
end Nm
namespace Sy
open PySem PySem.Spec L2 FL
theorem A7 {g h:FS->SO} {fs fs':FS} (e:g fs=.nx fs'):A2 g h fs=h fs':=by unfold A2;rw [e]
abbrev vl (t:T):Option Sl:=some (.val t)
abbrev iv (i:Int):Option Sl:=some (.val (.int i))
def Fre:Option Sl->Prop
 | some (.bor _)=>False
 | _=>True
theorem AG:Fre none:=True.intro
theorem Bw {t:T}:Fre (vl t):=True.intro
theorem BW {fs:FS} {i:Nat} {t:T} {x:Option Sl} (e:fs[i]?=some x) (h:Fre x):GC i (.t t) fs=some (fs.set i (vl t)):=by
 unfold GC
 rw [e]
 cases x with
 | none=>rfl
 | some s=>cases s with
  | val t=>rfl
  | own o=>rfl
  | bor o=>exact h.elim
theorem EZ {fe:FS->Out Rv} {f:T->T} {rest:FS}:∀ (ts:List T) (x:Option Sl) (acc:List T),Fre x->(∀ t∈ts,fe (vl t :: rest)=.ok (.t (f t)) (vl t :: rest))->acc.length+ts.length<=big ->
  ∃ y,Fre y/\CO (tgN 0) Gw fe ts (x :: rest) acc=some (acc++ts.map f,y :: rest)
 | [],x,acc,hx,_,_=>⟨x,hx,by simp [CO]⟩
 | t :: ts,x,acc,hx,h,hl=>by
  obtain ⟨y,hy,e⟩:=EZ ts (vl t) (acc++[f t]) Bw (fun t' m=>h t' (List.mem_cons_of_mem _ m)) (by simp at hl ⊢;omega)
  refine ⟨y,hy,?_⟩
  have h1:tgN 0 t (x :: rest)=some (vl t :: rest):=by
   unfold tgN
   rw [BW (x:=x) rfl hx]
   rfl
  have h2:=h t List.mem_cons_self
  have h3:acc.length < big:=by simp at hl;omega
  simp only [CO,h1,Gw,h2,if_pos h3,e]
  simp
theorem for_inv {gt:T->FS->Option FS} {body:FS->SO} (P:List T->FS->Prop) (step:∀ t ts fs,P (t :: ts) fs->∃ fs1 fs2,gt t fs=some fs1/\body fs1=.nx fs2/\P ts fs2):∀ (ts:List T) (fs:FS),P ts fs->∃ fs',Dt gt body ts fs=.nx fs'/\P [] fs'
 | [],fs,h=>⟨fs,rfl,h⟩
 | t :: ts,fs,h=>by
  obtain ⟨fs1,fs2,e1,e2,h2⟩:=step t ts fs h
  obtain ⟨fs',e,hp⟩:=for_inv P step ts fs2 h2
  exact ⟨fs',by simp only [Dt,e1,e2,e],hp⟩
theorem DT:∀ ns:List Int,BL (ns.map T.int)=some ns
 | []=>rfl
 | n :: ns=>by simp [BL,DT ns]
def IsI (t:T) (ns:List Int):Prop:=t=.scr (ns.map T.int)∨t=.lst (ns.map T.int)
theorem IsI.seq {t:T} {ns:List Int} (h:IsI t ns) (fs:FS):Cd fs (.t t)=some (ns.map T.int):=by rcases h with rfl | rfl <;> rfl
theorem range_in {a j c:Int} {i:Nat} (hc:0 < c) (h:i < (Builtin.Range.rangeSize a j c).toNat):a+i * c < j:=by
 unfold Builtin.Range.rangeSize at h
 rw [if_pos hc] at h
 by_cases haj:a < j
 ·rw [if_pos haj] at h
  have h2:(i:Int)<=(j - a - 1) / c:=by omega
  have h3:=(Int.le_ediv_iff_mul_le hc).mp h2
  omega
 ·rw [if_neg haj] at h
  simp at h
theorem range_nn {a j c:Int} (hc:0 < c):0<=Builtin.Range.rangeSize a j c:=by
 unfold Builtin.Range.rangeSize
 rw [if_pos hc]
 by_cases haj:a < j
 ·rw [if_pos haj]
  have:0<=(j - a - 1) / c:=Int.ediv_nonneg (by omega) (by omega)
  omega
 ·rw [if_neg haj]
  exact Int.le_refl 0
theorem Ez {a j c:Int} (hc:0 < c) (h0:0<=a) (h:j<=63):(Builtin.Range.rangeSize a j c).toNat<=63:=by
 unfold Builtin.Range.rangeSize
 rw [if_pos hc]
 by_cases haj:a < j
 ·rw [if_pos haj]
  have:(j - a - 1) / c<=j - a - 1:=Int.ediv_le_self _ (by omega)
  omega
 ·rw [if_neg haj]
  simp
theorem small_few {a b c:Int} (a0:0<=a) (a1:a<=1000) (b0:0<=b) (b1:b<=63) (c0:1<=c) (c1:c<=1000):Builtin.Range.small a b c=true:=by
 have h1:=range_nn (a:=a) (j:=b) (c:=c) (by omega)
 have h2:=Ez (a:=a) (j:=b) (c:=c) (by omega) a0 b1
 unfold Builtin.Range.small
 simp only [Builtin.Range.rangeFitsLong,Bool.and_eq_true,Bool.or_eq_true,decide_eq_true_eq,beq_iff_eq,show c > 0 by omega,if_true]
 omega
section
variable {i j:Int} {fs:FS}
theorem BN:AA (.t (.int i)) (.t (.int j)) fs=.ok (.t (.int (i+j))) fs:=rfl
theorem gSub_i:Gh (.t (.int i)) (.t (.int j)) fs=.ok (.t (.int (i - j))) fs:=rfl
theorem Bv (h:0 < j):Bo (.t (.int i)) (.t (.int j)) fs=.ok (.t (.int (i % j))) fs:=if_pos h
theorem Dq (h:0 < j/\j < 1073741824):CH (.t (.int i)) (.t (.int j)) fs=.ok (.t (.int (i / j))) fs:=if_pos h
theorem Gi (h:-(2 ^ 64) < i/\i < 2 ^ 64):Bi (.t (.int i)) (.t (.int j)) fs=.ok (.t (.int (i * j))) fs:=by
 have e:gMul (.t (.int i)) (.t (.int j)) fs=.ok (.t (.int (i * j))) fs:=if_pos (by rw [decide_eq_true h];rfl)
 unfold Bi orG
 rw [e]
theorem gMulU_b (h:Builtin.Int.intBits i<=2 ^ 26/\Builtin.Int.intBits j<=2 ^ 26):Bi (.t (.int i)) (.t (.int j)) fs=.ok (.t (.int (i * j))) fs:=by
 have e:gMul (.t (.int i)) (.t (.int j)) fs=.ok (.t (.int (i * j))) fs:=if_pos (by rw [decide_eq_true h.1,decide_eq_true h.2];simp)
 unfold Bi orG
 rw [e]
end
theorem Ci {x:Rv} {ts:List T} {i:Int} {t:T} {fs:FS} (h:Cd fs x=some ts) (e:atI ts i=some t):AF x (.t (.int i)) fs=.ok (.t t) fs:=by
 have e':gIx x (.t (.int i)) fs=.ok (.t t) fs:=by
  simp only [gIx,h,e,okT]
 unfold AF orG
 rw [e']
theorem gIxU_I {t:T} {ns:List Int} {i:Int} {fs:FS} (h:IsI t ns) (h0:0<=i) (h1:i < ns.length):AF (.t t) (.t (.int i)) fs=.ok (.t (.int (ns.getD i.toNat 0))) fs:=by
 refine Ci (h.seq fs) ?_
 have e:(ns.map T.int)[i.toNat]?=some (T.int (ns.getD i.toNat 0)):=by
  have:i.toNat < ns.length:=by omega
  simp [this]
 have:=BC e
 rwa [Int.toNat_of_nonneg h0] at this
theorem Fo {fs:FS} {j:Nat}:∀ {is:List Ini} {k:Nat},(∀ i∈is,Cg fs i=none)->FL.placeOf fs j is k=none
 | [],_,_=>rfl
 | i :: is,k,h=>by
  simp only [FL.placeOf]
  rw [h i List.mem_cons_self,if_neg (by simp)]
  exact Fo fun i' m=>h i' (List.mem_cons_of_mem _ m)
theorem FC {fs:FS} {is:List Ini} {τ:FS} (h:∀ i∈is,Cg fs i=none):∀ (gs:FS) (j:Nat),backL fs is τ j gs=some gs
 | [],_=>rfl
 | g :: gs,j=>by
  simp only [backL,back1,Fo h,FC h gs (j+1)]
theorem BK {fs:FS} {is:List Ini} {τ:FS} (h:Ct fs is=[]):HA is τ fs=some fs:=FC (List.filterMap_eq_nil_iff.mp h) fs 0
theorem Dd {src:List (Option Nat)} {fi:FS->Out (List T)} {gt:T->FS->Option FS} {ft:FS->Out Bool} {fe:FS->Out Rv} {fs fs':FS} {ts vs:List T} {τ:FS} (h1:fi fs=.ok ts fs) (h2:(Ct fs (src.map fun o=>o.elim Ini.no Ini.slot)).Nodup/\(src.all fun o=>o.elim true fun j=>decide (j < fs.length))=true)
  (h3:CO gt ft fe ts (D9 fs (src.map fun o=>o.elim Ini.no Ini.slot)) []=some (vs,τ)) (h4:HA (src.map fun o=>o.elim Ini.no Ini.slot) τ fs=some fs'):Ca false src fi gt ft fe fs=.ok (.t (.lst vs)) fs':=by
 unfold Ca
 rw [h1]
 simp only [Out.bind]
 rw [if_pos h2,h3]
 dsimp only
 rw [h4]
 rfl
theorem range3_ok {a j c:Int} {fs:FS} {fa:FS->Out (List Rv)} (e:fa fs=.ok [.t (.int a),.t (.int j),.t (.int c)] fs) (a0:0<=a) (a1:a<=1000) (b0:0<=j) (b1:j<=63) (c0:1<=c) (c1:c<=1000):itR3 fa fs=.ok (upBy a c (Builtin.Range.rangeSize a j c).toNat) fs:=by
 unfold itR3
 rw [e]
 simp only [Out.bind]
 exact if_pos ⟨by omega,by omega,small_few a0 a1 b0 b1 c0 c1,range_nn (by omega)⟩
theorem drawn {t:T} {ns:List Int} (ht:IsI t ns) {a b:Int} (a0:0<=a) (a1:a<=1000) (b0:1<=b) (b1:b<=1000) (more:FS) :
  ∃ zs:List Int,(zs.length<=63/\∀ z∈zs,∃ i,z=ns.getD i 0)/\Ak gSum (Ad (Ca false [none,some 0] (itR3 (Ad (Aa 1) (Ad (Ak Hf (Ad (Ak Cp (Ad (Aa 0) Al)) (Ad (gc (.int 63)) Al))) (Ad (Aa 2) Al)))) (tgN 0) Gw (Ae AF (Aa 1) (fz (Aa 0)))) Al) (vl t :: iv a :: iv b :: more)=.ok (.t (.int zs.sum)) (vl t :: iv a :: iv b :: more):=by
 have hj:∃ j:Int,0<=j/\j<=63/\j<=ns.length/\(Ad (Aa 1) (Ad (Ak Hf (Ad (Ak Cp (Ad (Aa 0) Al)) (Ad (gc (.int 63)) Al))) (Ad (Aa 2) Al))) (vl t :: iv a :: iv b :: more)=.ok [.t (.int a),.t (.int j),.t (.int b)] (vl t :: iv a :: iv b :: more):=by
  refine ⟨if (63:Int) < ((ns.map T.int).length:Int) then 63 else ((ns.map T.int).length:Int),?_,?_,?_,?_⟩
  ·split <;> omega
  ·split <;> omega
  ·rw [List.length_map];split <;> omega
  ·rcases ht with rfl | rfl <;> rfl
 obtain ⟨j,j0,j1,j2,ej⟩:=hj
 have e1:=range3_ok ej a0 a1 j0 j1 b0 b1
 obtain ⟨y,hy,e2⟩:=EZ (fe:=Ae AF (Aa 1) (fz (Aa 0))) (f:=fun t'=>match t' with | .int i=>.int (ns.getD i.toNat 0) | _=>.non) (rest:=[vl t]) (upBy a b (Builtin.Range.rangeSize a j b).toNat) none [] AG (fun t' m=>by
   unfold upBy at m
   rw [List.mem_map] at m
   obtain ⟨k,mk,rfl⟩:=m
   have hk:=range_in (a:=a) (j:=j) (c:=b) (i:=k) (by omega) (List.mem_range.mp mk)
   have hp:0<=(k:Int) * b:=Int.mul_nonneg (by omega) (by omega)
   simp only [A2,AX,Bp,retS,nxS,ifS,SO.of,Ae,Aa,gc,fz,Ad,Aj,Al,Ak,AJ,allT,BI,Cb,Dp,AL,D8,Out.bnd,Out.bind,GC,putSl,okT,asB,EB,andT,orT,DB,Option.map_some,Option.bind_some,Option.isSome_some,List.getElem?_cons_zero,List.getElem?_cons_succ,List.set_cons_zero,List.set_cons_succ,List.length_cons,List.length_nil,List.length_map,if_true,if_false,Bool.false_eq_true,FL.AE,FL.putAt,FL.Sl.put,gIxU_I ht (i:=a+(k:Int) * b) (by omega) (by omega)]) (by
   have:=Ez (a:=a) (j:=j) (c:=b) (by omega) a0 j1
   unfold upBy
   rw [List.length_map,List.length_range]
   show 0+_<=1000000
   omega)
 have e3:Ca false [none,some 0] (itR3 (Ad (Aa 1) (Ad (Ak Hf (Ad (Ak Cp (Ad (Aa 0) Al)) (Ad (gc (.int 63)) Al))) (Ad (Aa 2) Al)))) (tgN 0) Gw (Ae AF (Aa 1) (fz (Aa 0))) (vl t :: iv a :: iv b :: more)=.ok (.t (.lst _)) (vl t :: iv a :: iv b :: more) :=
  Dd e1 ⟨by rw [show Ct (vl t :: iv a :: iv b :: more) _=[] from rfl];exact List.nodup_nil,by simp⟩ e2 (BK rfl)
 refine ⟨(List.range (Builtin.Range.rangeSize a j b).toNat).map fun (k:Nat)=>ns.getD (a+(k:Int) * b).toNat 0,⟨by
  rw [List.length_map,List.length_range]
  exact Ez (a:=a) (j:=j) (c:=b) (by omega) a0 j1,fun z m=>by
  rw [List.mem_map] at m
  obtain ⟨k,_,rfl⟩:=m
  exact ⟨_,rfl⟩⟩,?_⟩
 have e4:(upBy a b (Builtin.Range.rangeSize a j b).toNat).map (fun t'=>match t' with | .int i=>T.int (ns.getD i.toNat 0) | _=>.non)=((List.range (Builtin.Range.rangeSize a j b).toNat).map fun (k:Nat)=>ns.getD (a+(k:Int) * b).toNat 0).map T.int:=by
  unfold upBy
  rw [List.map_map,List.map_map]
  rfl
 rw [List.nil_append,e4] at e3
 simp only [Ak,Ad,e3,Out.bnd,Out.bind,Al,gSum,Cd,Option.bind_some,DT,okT]
theorem upTo_cons {n:Nat}:∀ t∈FL.upTo 0 n,∃ i:Int,t=.int i:=fun t m=>by
 unfold FL.upTo at m
 rw [List.mem_map] at m
 obtain ⟨k,_,rfl⟩:=m
 exact ⟨_,rfl⟩
theorem digits {t:T} {ns:List Int} (ht:IsI t ns) {a b:Int} (a0:0<=a) (a1:a<=1000) (b0:1<=b) (b1:b<=1000) :
  ∃ ds:List Int,ds.length=150/\Bs [vl t,iv a,iv b]=.ok (.nw (.lst (ds.map T.int))) [vl t,iv a,iv b]:=by
 obtain ⟨zs,_,e1⟩:=drawn ht a0 a1 b0 b1 [none,none,none,none,none]
 generalize zs.sum=D at e1
 have hloop:=for_inv (gt:=tgN 7) (body:=(A2 (AX 5 (Ae Bo (Ae AA (Ae AA (Ae Bi (Aa 5) (Aa 5)) (Aa 3)) (Aa 7)) (gc (.int 2147483629))))
  (A2 (Bp (AL DA (Aa 4) (Ad (Ae Bo (Ae AF (AJ Cb (Ad (fz (Aa 6)) (Ad (Ae Bo (Ae Bi (Aa 5) (Aa 5)) (gc (.int 2147483587))) Al))) (Ae Bo (Aa 3) (gc (.int 2)))) (gc (.int 1000003))) Al)))
  (AX 6 (Ae CH (Aa 6) (gc (.int 1000003)))))))
  (fun ts fs=>∃ (ds:List Int) (f r:Int) (x:Option Sl),fs=[vl t,iv a,iv b,iv D,some (.own (.lst (ds.map T.int))),iv f,iv r,x]/\0<=f/\f < 2147483629/\ds.length+ts.length=150/\Fre x/\∀ t∈ts,∃ i:Int,t=.int i) (fun t' ts fs h=>?_) (FL.upTo 0 150) [vl t,iv a,iv b,iv D,some (.own (.lst [])),iv (D % 2147483629),iv (D / 2),none]
  ⟨[],_,_,_,rfl,Int.emod_nonneg _ (by decide),Int.emod_lt_of_pos _ (by decide),by simp [FL.upTo],AG,upTo_cons⟩
 ·obtain ⟨fs',ef,ds,f,r,x,rfl,_,_,hl,_,_⟩:=hloop
  refine ⟨ds.reverse,by rw [List.length_reverse];simpa using hl,?_⟩
  have s1:AX 3 (Ak gSum (Ad (Ca false [none,some 0] (itR3 (Ad (Aa 1) (Ad (Ak Hf (Ad (Ak Cp (Ad (Aa 0) Al)) (Ad (gc (.int 63)) Al))) (Ad (Aa 2) Al)))) (tgN 0) Gw (Ae AF (Aa 1) (fz (Aa 0)))) Al)) [vl t,iv a,iv b,none,none,none,none,none]=.nx [vl t,iv a,iv b,iv D,none,none,none,none]:=by
   unfold AX
   rw [e1]
   rfl
  have s5:Ds (itR1 (Ad (gc (.int 150)) Al)) (tgN 7) (A2 (AX 5 (Ae Bo (Ae AA (Ae AA (Ae Bi (Aa 5) (Aa 5)) (Aa 3)) (Aa 7)) (gc (.int 2147483629))))
  (A2 (Bp (AL DA (Aa 4) (Ad (Ae Bo (Ae AF (AJ Cb (Ad (fz (Aa 6)) (Ad (Ae Bo (Ae Bi (Aa 5) (Aa 5)) (gc (.int 2147483587))) Al))) (Ae Bo (Aa 3) (gc (.int 2)))) (gc (.int 1000003))) Al)))
  (AX 6 (Ae CH (Aa 6) (gc (.int 1000003)))))) [vl t,iv a,iv b,iv D,some (.own (.lst [])),iv (D % 2147483629),iv (D / 2),none]=.nx [vl t,iv a,iv b,iv D,some (.own (.lst (ds.map T.int))),iv f,iv r,x]:=ef
  have all:CS [vl t,iv a,iv b,none,none,none,none,none]=.ret (.nw (.lst (ds.reverse.map T.int))) [vl t,iv a,iv b,iv D,some (.own (.lst (ds.map T.int))),iv f,iv r,x]:=by
   unfold CS
   rw [A7 s1,A7 (show AX 4 (AJ Dp Al) [vl t,iv a,iv b,iv D,none,none,none,none]=.nx [vl t,iv a,iv b,iv D,some (.own (.lst [])),none,none,none] from rfl),
    A7 (show AX 5 (Ae Bo (Aa 3) (gc (.int 2147483629))) [vl t,iv a,iv b,iv D,some (.own (.lst [])),none,none,none]=.nx [vl t,iv a,iv b,iv D,some (.own (.lst [])),iv (D % 2147483629),none,none] from rfl),
    A7 (show AX 6 (Ae CH (Aa 3) (gc (.int 2))) [vl t,iv a,iv b,iv D,some (.own (.lst [])),iv (D % 2147483629),none,none]=.nx [vl t,iv a,iv b,iv D,some (.own (.lst [])),iv (D % 2147483629),iv (D / 2),none] from rfl),A7 s5]
   rw [List.map_reverse]
   rfl
  unfold Bs D7
  show (match CS [vl t,iv a,iv b,none,none,none,none,none] with | .nx τ=>_ | .ret (.t t) τ=>_ | .ret (.nw o) τ=>_ | .ret (.rf i) τ=>_ | .exc c τ=>_ | _=>_)=_
  rw [all]
  rfl
 ·obtain ⟨ds,f,r,x,rfl,f0,f1,hl,hx,hi⟩:=h
  obtain ⟨k,rfl⟩:=hi t' List.mem_cons_self
  have hg:tgN 7 (.int k) [vl t,iv a,iv b,iv D,some (.own (.lst (ds.map T.int))),iv f,iv r,x]=some [vl t,iv a,iv b,iv D,some (.own (.lst (ds.map T.int))),iv f,iv r,iv k]:=by
   unfold tgN
   rw [BW (x:=x) rfl hx]
   rfl
  have eA:AX 5 (Ae Bo (Ae AA (Ae AA (Ae Bi (Aa 5) (Aa 5)) (Aa 3)) (Aa 7)) (gc (.int 2147483629))) [vl t,iv a,iv b,iv D,some (.own (.lst (ds.map T.int))),iv f,iv r,iv k]=.nx [vl t,iv a,iv b,iv D,some (.own (.lst (ds.map T.int))),iv ((f * f+D+k) % 2147483629),iv r,iv k]:=by
   simp only [A2,AX,Bp,retS,nxS,ifS,SO.of,Ae,Aa,gc,fz,Ad,Aj,Al,Ak,AJ,allT,BI,Cb,Dp,AL,D8,Out.bnd,Out.bind,GC,putSl,okT,asB,EB,andT,orT,DB,Option.map_some,Option.bind_some,Option.isSome_some,List.getElem?_cons_zero,List.getElem?_cons_succ,List.set_cons_zero,List.set_cons_succ,List.length_cons,List.length_nil,List.length_map,if_true,if_false,Bool.false_eq_true,FL.AE,FL.putAt,FL.Sl.put,Gi (i:=f) (j:=f) ⟨by omega,by omega⟩,BN,Bv (show (0:Int) < 2147483629 by decide)]
  have f0':0<=(f * f+D+k) % 2147483629:=Int.emod_nonneg _ (by decide)
  have f1':(f * f+D+k) % 2147483629 < 2147483629:=Int.emod_lt_of_pos _ (by decide)
  generalize (f * f+D+k) % 2147483629=f' at eA f0' f1'
  have hz:∃ z,atI [T.int r,T.int (f' * f' % 2147483587)] (D % 2)=some (T.int z):=by
   have h:D % 2=((0:Nat):Int)∨D % 2=((1:Nat):Int):=by omega
   rcases h with h | h
   ·rw [h];exact ⟨r,BC rfl⟩
   ·rw [h];exact ⟨_,BC rfl⟩
  obtain ⟨z,ez⟩:=hz
  have hlen:ds.length < big:=by
   simp at hl
   show ds.length < 1000000
   omega
  have eB:Bp (AL DA (Aa 4) (Ad (Ae Bo (Ae AF (AJ Cb (Ad (fz (Aa 6)) (Ad (Ae Bo (Ae Bi (Aa 5) (Aa 5)) (gc (.int 2147483587))) Al))) (Ae Bo (Aa 3) (gc (.int 2)))) (gc (.int 1000003))) Al)) [vl t,iv a,iv b,iv D,some (.own (.lst (ds.map T.int))),iv f',iv r,iv k]=.nx [vl t,iv a,iv b,iv D,some (.own (.lst ((ds++[z % 1000003]).map T.int))),iv f',iv r,iv k]:=by
   simp only [A2,AX,Bp,retS,nxS,ifS,SO.of,Ae,Aa,gc,fz,Ad,Aj,Al,Ak,AJ,allT,BI,Cb,Dp,AL,D8,Out.bnd,Out.bind,GC,putSl,okT,asB,EB,andT,orT,DB,Option.map_some,Option.bind_some,Option.isSome_some,List.getElem?_cons_zero,List.getElem?_cons_succ,List.set_cons_zero,List.set_cons_succ,List.length_cons,List.length_nil,List.length_map,if_true,if_false,Bool.false_eq_true,FL.AE,FL.putAt,FL.Sl.put,Gi (i:=f') (j:=f') ⟨by omega,by omega⟩,Bv (show (0:Int) < 2147483587 by decide),Bv (show (0:Int) < 2 by decide),Ci (x:=.t (.lst [T.int r,T.int (f' * f' % 2147483587)])) rfl ez,Bv (show (0:Int) < 1000003 by decide),Cd,DA,hlen,show (0+1+1<=big) from by decide]
   simp
  have eC:AX 6 (Ae CH (Aa 6) (gc (.int 1000003))) [vl t,iv a,iv b,iv D,some (.own (.lst ((ds++[z % 1000003]).map T.int))),iv f',iv r,iv k]=.nx [vl t,iv a,iv b,iv D,some (.own (.lst ((ds++[z % 1000003]).map T.int))),iv f',iv (r / 1000003),iv k]:=rfl
  refine ⟨_,_,hg,?_,ds++[z % 1000003],f',r / 1000003,iv k,rfl,f0',f1',by simp at hl ⊢;omega,Bw,fun t' m=>hi t' (List.mem_cons_of_mem _ m)⟩
  rw [A7 eA,A7 eB]
  exact eC
def nmS (c:Int) (k:Nat):Str:=⟨(Nm.codes c k).toArray⟩
def nms (c:Int) (n:Nat):List Str:=(List.range n).map (nmS c)
def ABC:Str:="abcdefghijklmnopqrstuvwxyz"
theorem abc_at:∀ j,j < 26->ABC.cps.toList[j]?=some (97+j):=by decide +kernel
theorem at_letter (x:Int):atI ABC.cps.toList (x % 26)=some (Nm.CD x):=by
 have h:(x % 26).toNat < 26:=by omega
 have e:=BC (abc_at _ h)
 rw [Int.toNat_of_nonneg (by omega)] at e
 exact e
theorem Fs:∀ ys:List Str,(Str.join (⟨#[]⟩:Str) ys).cps.toList=(ys.map fun y=>y.cps.toList).flatten
 | []=>rfl
 | [x]=>by simp [Str.join]
 | x :: y :: r=>by
  have ih:=Fs (y :: r)
  show (x++(⟨#[]⟩:Str)++Str.join ⟨#[]⟩ (y :: r)).cps.toList=_
  show (x.cps++#[]++(Str.join ⟨#[]⟩ (y :: r)).cps).toList=_
  rw [List.map_cons,List.flatten_cons,<- ih]
  simp
theorem join_ones (f:Nat->Nat) (js:List Nat):(Txt.join (⟨#[]⟩:Str) (js.map fun j=>(⟨#[f j]⟩:Str))).cps.toList=js.map f:=by
 show (Builtin.Str.glued _ _).cps.toList=_
 rw [StrLaws.glued_eq_join,Fs]
 induction js with
 | nil=>rfl
 | cons j r ih =>
  rw [List.map_cons,List.map_cons,List.flatten_cons,ih,List.map_cons]
  rfl
theorem str_ext {x y:Str} (h:x.cps.toList=y.cps.toList):x=y:=by
 obtain ⟨a⟩:=x
 obtain ⟨b⟩:=y
 have:a=b:=by simpa using h
 rw [this]
theorem mul_codes (c:Nat) (n:Int) (h0:1<=n):(Txt.mul (⟨#[c]⟩:Str) n).cps.toList=List.replicate n.toNat c:=by
 unfold Txt.mul
 rw [if_neg (by omega)]
 by_cases h1:n=1
 ·subst h1
  rfl
 ·rw [if_neg (by simp [h1,Str.length])]
  have key:∀ (m:Nat) (acc:Array Nat),((List.replicate m #[c]).foldl (·++·) acc).toList=acc.toList++List.replicate m c:=by
   intro m
   induction m with
   | zero=>intro acc;simp
   | succ m ih =>
    intro acc
    rw [List.replicate_succ,List.foldl_cons,ih,List.replicate_succ]
    simp
  have:=key n.toNat #[]
  simpa using this
theorem empty_str:Str.ofString ""=(⟨#[]⟩:Str):=by decide +kernel
theorem ones_len (f:Nat->Nat) (js:List Nat):((js.map fun j=>(⟨#[f j]⟩:Str)).map (·.length)).sum=js.length:=by
 induction js with
 | nil=>rfl
 | cons j r ih =>
  rw [List.map_cons,List.map_cons,List.sum_cons,ih,List.length_cons]
  show 1+r.length=_
  omega
theorem join_len (f:Nat->Nat) (js:List Nat):(Txt.join (⟨#[]⟩:Str) (js.map fun j=>(⟨#[f j]⟩:Str))).length=js.length:=by
 have e:=congrArg List.length (join_ones f js)
 rw [List.length_map] at e
 rw [<- e]
 simp [Str.length]
def Bt (c:Int) (n:Nat):List Str:=(List.range n).map fun j=>(⟨#[Nm.base c j]⟩:Str)
theorem baseL_take (c:Int) (n k:Nat) (h:k<=n):(Bt c n).take k=Bt c k:=by
 unfold Bt
 rw [<- List.map_take,List.take_range,Nat.min_eq_left h]
theorem baseL_drop (c:Int) (n k:Nat):(Bt c n).drop k=(List.range (n - k)).map fun j=>(⟨#[Nm.base c (k+j)]⟩:Str):=by
 unfold Bt
 rw [<- List.map_drop]
 apply List.ext_getElem?
 intro i
 rw [List.getElem?_map,List.getElem?_map,List.getElem?_drop]
 by_cases hi:k+i < n
 ·rw [List.getElem?_range hi,List.getElem?_range (by omega)]
  rfl
 ·rw [List.getElem?_eq_none (by simp;omega),List.getElem?_eq_none (by simp;omega)]
  rfl
theorem gMulU_r {i j:Int} {fs:FS} (h:-(2 ^ 64) < j/\j < 2 ^ 64):Bi (.t (.int i)) (.t (.int j)) fs=.ok (.t (.int (i * j))) fs:=by
 have e:gMul (.t (.int i)) (.t (.int j)) fs=.ok (.t (.int (i * j))) fs:=if_pos (by rw [decide_eq_true h];simp)
 unfold Bi orG
 rw [e]
theorem gMulU_s {z:Str} {n:Int} {fs:FS} (h:z.length=1/\1<=n/\n<=1000):Bi (.t (.str z)) (.t (.int n)) fs=.ok (.t (.str (Txt.mul z n))) fs:=by
 have e:gMulS (.t (.str z)) (.t (.int n)) fs=.ok (.t (.str (Txt.mul z n))) fs:=if_pos h
 have e2:gMul (.t (.str z)) (.t (.int n)) fs=.bad:=rfl
 unfold Bi orG
 rw [e2]
 exact e
theorem gAddU_s {x y:Str} {fs:FS} (h:x.length+y.length<=big):AA (.t (.str x)) (.t (.str y)) fs=.ok (.t (.str (x++y))) fs:=by
 have e:gAddS (.t (.str x)) (.t (.str y)) fs=.ok (.t (.str (x++y))) fs:=if_pos h
 have e2:gAdd (.t (.str x)) (.t (.str y)) fs=.bad:=rfl
 unfold AA orG
 rw [e2]
 dsimp only
 rw [e]
theorem gIxU_str {z:Str} {i:Int} {c:Nat} {fs:FS} (hz:z.length<=big) (e:atI z.cps.toList i=some c):AF (.t (.str z)) (.t (.int i)) fs=.ok (.t (.str ⟨#[c]⟩)) fs:=by
 have e':gIx (.t (.str z)) (.t (.int i)) fs=.ok (.t (.str ⟨#[c]⟩)) fs:=by
  simp only [gIx,Cd,hz,if_true,e,okT]
 unfold AF orG
 rw [e']
theorem FD:∀ xs:List Str,BP (xs.map T.str)=some xs
 | []=>rfl
 | n :: ns=>by simp [BP,FD ns]
theorem Hm {xs:List T} {v:Int} (h0:0<=v) (h1:v.toNat<=xs.length):cutT xs none (some v)=xs.take v.toNat:=by
 show (xs.drop 0).take ((if v < 0 then (v+(xs.length:Int)).toNat else min v.toNat xs.length) - 0)=_
 rw [if_neg (by omega),Nat.min_eq_left h1]
 simp
theorem cutT_drop {xs:List T} {v:Int} (h0:0<=v) (h1:v.toNat<=xs.length):cutT xs (some v) none=xs.drop v.toNat:=by
 show (xs.drop (if v < 0 then (v+(xs.length:Int)).toNat else min v.toNat xs.length)).take (xs.length - (if v < 0 then (v+(xs.length:Int)).toNat else min v.toNat xs.length))=_
 rw [if_neg (by omega),Nat.min_eq_left h1]
 exact List.take_of_length_le (by rw [List.length_drop];omega)
theorem at_stepT (c:Int):atI [T.int 1,T.int 3,T.int 5,T.int 7,T.int 9,T.int 11] (Nm.M c / 144 % 6)=some (T.int (Nm.step c)):=by
 have h:Nm.stepI c < 6:=by unfold Nm.stepI;omega
 have e:([T.int 1,T.int 3,T.int 5,T.int 7,T.int 9,T.int 11]:List T)[Nm.stepI c]?=some (T.int (Nm.step c)):=by
  unfold Nm.step
  generalize Nm.stepI c=i at h
  match i,h with
  | 0,_=>rfl
  | 1,_=>rfl
  | 2,_=>rfl
  | 3,_=>rfl
  | 4,_=>rfl
  | 5,_=>rfl
 have e2:=BC e
 unfold Nm.stepI at e2
 rwa [Int.toNat_of_nonneg (by omega)] at e2
theorem abc_big:ABC.length<=big:=by decide +kernel
theorem join_ok {f:Nat->Nat} {js:List Nat} {fs:FS} (h:js.length<=1000):EL (.t (.str ("":Str))) [.t (.lst ((js.map fun j=>(⟨#[f j]⟩:Str)).map T.str))] fs=.ok (.t (.str (Txt.join (⟨#[]⟩:Str) (js.map fun j=>(⟨#[f j]⟩:Str))))) fs:=by
 have e0:("":Str).length=0:=by decide +kernel
 simp only [EL,Cd,Option.bind_some,FD,ones_len,e0,Nat.mul_zero,Nat.add_zero]
 rw [if_pos (show js.length<=big from Nat.le_trans h (by decide)),show ("":Str)=(⟨#[]⟩:Str) from empty_str]
 simp only [okT]
theorem Dj {j:Int} {fs:FS} {fa:FS->Out (List Rv)} (e:fa fs=.ok [.t (.int j)] fs) (h:-(2 ^ 62)<=j/\j < 2 ^ 62):itR1 fa fs=.ok (FL.upTo 0 j.toNat) fs:=by
 unfold itR1
 rw [e]
 simp only [Out.bind]
 exact if_pos h
theorem Ai {g:Rv->Rv->FS->Out Rv} {fa fb:FS->Out Rv} {fs:FS} {x y:T} {r:Out Rv} (h1:fa fs=.ok (.t x) fs) (h2:fb fs=.ok (.t y) fs) (h3:g (.t x) (.t y) fs=r):Ae g fa fb fs=r:=by
 unfold Ae
 rw [h1]
 show (fb fs).bnd _=r
 rw [h2]
 exact h3
theorem Ab {i:Nat} {fs:FS} {t:T} (h:fs[i]?=some (vl t)):Aa i fs=.ok (.t t) fs:=by unfold Aa;rw [h]
theorem Aw {t:T} {fs:FS}:gc t fs=.ok (.t t) fs:=rfl
theorem nm_el {L:Str} (hL2:L.length<=big) (hL:∀ x:Int,atI L.cps.toList (x % 26)=some (Nm.CD x)) (m:Int) (k:Nat) (hk:k < 12) :
  Ae AF (Aa 1) (Ae Bo (Ae AA (Ae CH (Aa 2) (Ae AA (Aa 0) (gc (.int 5)))) (Ae Bi (Aa 0) (Aa 0))) (gc (.int 26))) [iv (k:Int),vl (.str L),iv m]=.ok (.t (.str ⟨#[Nm.CD (m / ((k:Int)+5)+(k:Int) * (k:Int))]⟩)) [iv (k:Int),vl (.str L),iv m] :=
 Ai (Ab rfl) (Ai (Ai (Ai (Ab rfl) (Ai (Ab rfl) Aw BN) (Dq ⟨by omega,by omega⟩)) (Ai (Ab rfl) (Ab rfl) (Gi ⟨by omega,by omega⟩)) BN) Aw (Bv (by decide))) (gIxU_str hL2 (hL _))
theorem Bj {i:Nat} {f:FS->Out Rv} {fs fs':FS} {t:T} (h:f fs=.ok (.t t) fs) (hs:GC i (.t t) fs=some fs'):AX i f fs=.nx fs':=by
 unfold AX
 rw [h]
 show (match GC i (.t t) fs with | some fs=>SO.nx fs | none=>.bad)=_
 rw [hs]
theorem AR {f:FS->Out Rv} {g:FS->Out (List Rv)} {fs:FS} {t:T} {rs:List Rv} (h1:f fs=.ok (.t t) fs) (h2:g fs=.ok rs fs):Ad f g fs=.ok (.t t :: rs) fs:=by
 unfold Ad
 rw [h1]
 show (g fs).bind _=_
 rw [h2]
 rfl
theorem A4 {f:FS->Out Rv} {fs:FS} {t:T} (h:f fs=.ok (.t t) fs):fz f fs=.ok (.t t) fs:=by
 unfold fz
 rw [h]
 rfl
theorem app_ok {i:Nat} {f:FS->Out Rv} {fs fs':FS} {t:T} {ts:List T} (h0:fs[i]?=some (some (.own (.lst ts)))) (h:f fs=.ok (.t t) fs) (hl:ts.length < big) (e:fs.set i (some (.own (.lst (ts++[t]))))=fs'):Bp (AL DA (Aa i) (Ad f Al)) fs=.nx fs':=by
 have h1:Aa i fs=.ok (.rf i) fs:=by unfold Aa;rw [h0]
 have h2:FL.AE fs i=some (.lst ts):=by unfold FL.AE;rw [h0]
 have h3:Cd fs (.rf i)=some ts:=by simp only [Cd,h2]
 have h4:Ad f Al fs=.ok [.t t] fs:=AR h rfl
 have h5:DA (.rf i) [.t t] fs=.ok (.t .non) fs':=by
  simp only [DA,h2]
  rw [if_pos hl]
  have:FL.putAt fs i (.lst (ts++[t]))=fs':=by
   unfold FL.putAt
   rw [h0]
   exact e
  rw [this]
 have h6:AL DA (Aa i) (Ad f Al) fs=.ok (.t .non) fs':=by
  unfold AL
  rw [h1]
  show (if (Cd fs (.rf i)).isSome=true then _ else _)=_
  rw [h3,if_pos (show (some ts).isSome=true from rfl),h4]
  exact h5
 unfold Bp
 rw [h6]
 rfl
theorem EK {c:FS->Out Bool} {g h:FS->SO} {fs:FS} {r:SO} (hc:c fs=.ok true fs) (e:g fs=r):ifS c g h fs=r:=by
 unfold ifS
 rw [hc]
 exact e
theorem C9 {c:FS->Out Bool} {g h:FS->SO} {fs:FS} {r:SO} (hc:c fs=.ok false fs) (e:h fs=r):ifS c g h fs=r:=by
 unfold ifS
 rw [hc]
 exact e
theorem eqI_ok {fa fb:FS->Out Rv} {fs:FS} {i j:Int} (h1:fa fs=.ok (.t (.int i)) fs) (h2:fb fs=.ok (.t (.int j)) fs):asB (Ae (Bf false) fa fb) fs=.ok (decide (i=j)) fs:=by
 have e:gEq false (.t (.int i)) (.t (.int j)) fs=.ok (.t (.bl (decide (i=j)))) fs:=by
  have q:decide (V.int i=V.int j)=decide (i=j):=by
   by_cases h:i=j
   ·subst h;simp
   ·rw [decide_eq_false h,decide_eq_false (by intro z;cases z;exact h rfl)]
  show (if scal (V.int i) (V.int j)=true then okT (.bl (if false=true then _ else decide (V.int i=V.int j))) fs else .bad)=_
  rw [if_pos (show scal (V.int i) (V.int j)=true from rfl),q]
  rfl
 have e':Bf false (.t (.int i)) (.t (.int j)) fs=.ok (.t (.bl (decide (i=j)))) fs:=by
  unfold Bf orG
  rw [e]
 unfold asB
 rw [Ai h1 h2 e']
 rfl
theorem Cz {fa:FS->Out (List Rv)} {fs:FS} {rs:List Rv} {ts:List T} (h:fa fs=.ok rs fs) (h2:allT rs=some ts) (h3:ts.length<=big):AJ Cb fa fs=.ok (.t (.lst ts)) fs:=by
 unfold AJ
 rw [h]
 show (match allT rs with | some ts=>_ | none=>_)=_
 rw [h2]
 exact if_pos h3
theorem slf_take {f g:FS->Out Rv} {fs:FS} {ts:List T} {v:Int} (h1:f fs=.ok (.t (.lst ts)) fs) (h2:g fs=.ok (.t (.int v)) fs) (h0:0<=v) (hl:v.toNat<=ts.length):slF f noP (Cu g) fs=.ok (.t (.lst (ts.take v.toNat))) fs:=by
 unfold slF
 rw [h1]
 show ((Cu g) fs).bind _=_
 unfold Cu
 rw [h2]
 simp only [Out.bnd,Out.bind]
 simp only [gSlU,Cd,okT]
 rw [Hm h0 hl]
theorem slf_drop {f g:FS->Out Rv} {fs:FS} {ts:List T} {v:Int} (h1:f fs=.ok (.t (.lst ts)) fs) (h2:g fs=.ok (.t (.int v)) fs) (h0:0<=v) (hl:v.toNat<=ts.length):slF f (Cu g) noP fs=.ok (.t (.lst (ts.drop v.toNat))) fs:=by
 unfold slF
 rw [h1]
 show ((Cu g) fs).bind _=_
 unfold Cu
 rw [h2]
 simp only [Out.bnd,Out.bind,noP]
 simp only [gSlU,Cd,okT]
 rw [cutT_drop h0 hl]
theorem joinM_ok {f:FS->Out Rv} {fs:FS} {g:Nat->Nat} {js:List Nat} (h:f fs=.ok (.t (.lst ((js.map fun j=>(⟨#[g j]⟩:Str)).map T.str))) fs) (hl:js.length<=1000):fz (D8 EL (gc (.str ("":Str))) (Ad f Al)) fs=.ok (.t (.str (Txt.join (⟨#[]⟩:Str) (js.map fun j=>(⟨#[g j]⟩:Str))))) fs:=by
 refine A4 ?_
 have h2:=AR h (show Al fs=.ok [] fs from rfl)
 unfold D8 gc
 show ((Ad f Al fs).bind _)=_
 rw [h2]
 exact join_ok hl
theorem nm_base {L:Str} (hL2:L.length<=big) (hL:∀ x:Int,atI L.cps.toList (x % 26)=some (Nm.CD x)) {c w:Int} (hw0:0<=w) (hw:w<=12) (m a:Int) (hm:m=Nm.M c) (x0 x1 x6 x7 x8 x9 x10:Option Sl) :
  Ca false [none,some 2,some 3] (itR1 (Ad (Aa 4) Al)) (tgN 0) Gw (Ae AF (Aa 1) (Ae Bo (Ae AA (Ae CH (Aa 2) (Ae AA (Aa 0) (gc (.int 5)))) (Ae Bi (Aa 0) (Aa 0))) (gc (.int 26)))) [x0,x1,vl (.str L),iv m,iv w,iv a,x6,x7,x8,x9,x10]=.ok (.t (.lst ((Bt c w.toNat).map T.str))) [x0,x1,vl (.str L),iv m,iv w,iv a,x6,x7,x8,x9,x10]:=by
 have e1:=Dj (fa:=Ad (Aa 4) Al) (fs:=[x0,x1,vl (.str L),iv m,iv w,iv a,x6,x7,x8,x9,x10]) (j:=w) (AR (Ab rfl) rfl) ⟨by omega,by omega⟩
 obtain ⟨y,hy,e2⟩:=EZ (fe:=Ae AF (Aa 1) (Ae Bo (Ae AA (Ae CH (Aa 2) (Ae AA (Aa 0) (gc (.int 5)))) (Ae Bi (Aa 0) (Aa 0))) (gc (.int 26)))) (f:=fun t'=>match t' with | .int i=>.str ⟨#[Nm.CD (m / (i+5)+i * i)]⟩ | _=>.non) (rest:=[vl (.str L),iv m]) (FL.upTo 0 w.toNat) none [] AG (fun t' mt=>by
   unfold FL.upTo at mt
   rw [List.mem_map] at mt
   obtain ⟨k,mk,rfl⟩:=mt
   have hk:=List.mem_range.mp mk
   rw [Int.zero_add]
   exact nm_el hL2 hL m k (by omega)) (by
   unfold FL.upTo
   rw [List.length_map,List.length_range]
   show 0+_<=1000000
   omega)
 have e3:=Dd (src:=[none,some 2,some 3]) e1 ⟨by rw [show Ct [x0,x1,vl (.str L),iv m,iv w,iv a,x6,x7,x8,x9,x10] _=[] from rfl];exact List.nodup_nil,by rfl⟩ e2 (BK rfl)
 rw [e3,List.nil_append]
 have e4:(FL.upTo 0 w.toNat).map (fun t'=>match t' with | .int i=>T.str ⟨#[Nm.CD (m / (i+5)+i * i)]⟩ | _=>.non)=(Bt c w.toNat).map T.str:=by
  subst hm
  unfold FL.upTo Bt
  rw [List.map_map,List.map_map]
  refine List.map_congr_left fun k _=>?_
  simp only [Function.comp_apply,Int.zero_add,Nm.base]
 rw [e4]
theorem nm_turn {L:Str} (hL2:L.length<=big) (hL:∀ x:Int,atI L.cps.toList (x % 26)=some (Nm.CD x)) {c m w a st n:Int} {i:Nat} (hm:m=Nm.M c) (hw:w=Nm.W c) (ha:a=Nm.At c) (hst:st=Nm.step c) (hi:i < 12) (x10:Option Sl) (hx:Fre x10) :
  ∃ y10,Fre y10/\(A2 (AX 10 (Ae AF (Aa 2) (Ae Bo (Ae AA (Ae CH (Aa 3) (gc (.int 864))) (Ae Bi (Aa 9) (Aa 7))) (gc (.int 26)))))
  (ifS (asB (Ae (Bf false) (Ae Bo (Ae CH (Aa 3) (gc (.int 900))) (gc (.int 3))) (gc (.int 1)))) (Bp (AL DA (Aa 8) (Ad (Ae Bi (Ae AF (Aa 6) (gc (.int 0))) (Ae AA (Ae Bo (Ae AA (Aa 9) (Ae CH (Aa 3) (gc (.int 7)))) (gc (.int 12))) (gc (.int 1)))) Al))) (Bp (AL DA (Aa 8) (Ad (Ae AA (Ae AA (fz (D8 EL (gc (.str ("":Str))) (Ad (slF (Aa 6) noP (Cu (Aa 5))) Al))) (Aa 10)) (fz (D8 EL (gc (.str ("":Str))) (Ad (slF (Aa 6) (Cu (Ae AA (Aa 5) (gc (.int 1)))) noP) Al)))) Al)))))
   [iv c,iv n,vl (.str L),iv m,iv w,iv a,vl (.lst ((Bt c w.toNat).map T.str)),iv st,some (.own (.lst ((nms c i).map T.str))),iv (i:Int),x10] =
   .nx [iv c,iv n,vl (.str L),iv m,iv w,iv a,vl (.lst ((Bt c w.toNat).map T.str)),iv st,some (.own (.lst ((nms c (i+1)).map T.str))),iv (i:Int),y10]:=by
 have w0:=Nm.W_lo c
 have w1:=Nm.W_hi c
 have a0:=Nm.At_lo c
 have a1:=Nm.At_hi c
 rw [<- hw] at w0 w1 a1
 rw [<- ha] at a0 a1
 have hs:-20 < st/\st < 20:=by rw [hst];rcases Nm.step_mem c with e | e | e | e | e | e <;> omega
 have e10:Nm.one c i=Nm.CD (m / 864+(i:Int) * st):=by rw [hm,hst];rfl
 have elen:((nms c i).map T.str).length < big:=by
  unfold nms
  rw [List.length_map,List.length_map,List.length_range]
  show i < 1000000
  omega
 have enm:∀ z:Str,z.cps.toList=Nm.codes c i->(nms c i).map T.str++[T.str z]=(nms c (i+1)).map T.str:=fun z ez=>by
  unfold nms
  rw [List.range_succ,List.map_append,List.map_append]
  have:z=nmS c i:=str_ext (by rw [ez];simp [nmS])
  rw [this]
  rfl
 refine ⟨vl (.str ⟨#[Nm.one c i]⟩),Bw,?_⟩
 have s1:AX 10 (Ae AF (Aa 2) (Ae Bo (Ae AA (Ae CH (Aa 3) (gc (.int 864))) (Ae Bi (Aa 9) (Aa 7))) (gc (.int 26)))) [iv c,iv n,vl (.str L),iv m,iv w,iv a,vl (.lst ((Bt c w.toNat).map T.str)),iv st,some (.own (.lst ((nms c i).map T.str))),iv (i:Int),x10] =
   .nx [iv c,iv n,vl (.str L),iv m,iv w,iv a,vl (.lst ((Bt c w.toNat).map T.str)),iv st,some (.own (.lst ((nms c i).map T.str))),iv (i:Int),vl (.str ⟨#[Nm.one c i]⟩)]:=by
  rw [e10]
  exact Bj (Ai (Ab rfl) (Ai (Ai (Ai (Ab rfl) Aw (Dq ⟨by decide,by decide⟩)) (Ai (Ab rfl) (Ab rfl) (Gi ⟨by omega,by omega⟩)) BN) Aw (Bv (by decide))) (gIxU_str hL2 (hL _))) (BW rfl hx)
 rw [A7 s1]
 have hc:=eqI_ok (fa:=Ae Bo (Ae CH (Aa 3) (gc (.int 900))) (gc (.int 3))) (fb:=gc (.int 1)) (fs:=[iv c,iv n,vl (.str L),iv m,iv w,iv a,vl (.lst ((Bt c w.toNat).map T.str)),iv st,some (.own (.lst ((nms c i).map T.str))),iv (i:Int),vl (.str ⟨#[Nm.one c i]⟩)])
  (Ai (Ai (Ab (t:=.int m) rfl) Aw (Dq ⟨by decide,by decide⟩)) Aw (Bv (by decide))) Aw
 by_cases h1:m / 900 % 3=1
 ·rw [decide_eq_true h1] at hc
  have hwn:0 < w.toNat:=by omega
  have eb:((Bt c w.toNat).map T.str)[0]?=some (T.str ⟨#[Nm.base c 0]⟩):=by
   unfold Bt
   rw [List.map_map,List.getElem?_map,List.getElem?_range hwn]
   rfl
  refine EK hc (app_ok (t:=.str (Txt.mul ⟨#[Nm.base c 0]⟩ (((i:Int)+m / 7) % 12+1))) rfl (Ai (Ai (Ab rfl) Aw (Ci (i:=0) rfl (BC eb))) (Ai (Ai (Ai (Ab rfl) (Ai (Ab rfl) Aw (Dq ⟨by decide,by decide⟩)) BN) Aw (Bv (by decide))) Aw BN) (gMulU_s ⟨rfl,by omega,by omega⟩)) elen ?_)
  rw [enm _ (by rw [mul_codes _ _ (by omega),Nm.codes,<- hm,if_pos h1,Nm.codesA,<- hm])]
  rfl
 ·rw [decide_eq_false h1] at hc
  have el:((Bt c w.toNat).map T.str).length=w.toNat:=by unfold Bt;rw [List.length_map,List.length_map,List.length_range]
  have et:((Bt c w.toNat).map T.str).take a.toNat=((List.range a.toNat).map fun j=>(⟨#[Nm.base c j]⟩:Str)).map T.str:=by
   rw [<- List.map_take,baseL_take c _ _ (by omega)]
   rfl
  have ed:((Bt c w.toNat).map T.str).drop (a+1).toNat=((List.range (w.toNat - (a+1).toNat)).map fun j=>(⟨#[Nm.base c ((a+1).toNat+j)]⟩:Str)).map T.str:=by
   rw [<- List.map_drop,baseL_drop]
  have j1:=slf_take (f:=Aa 6) (g:=Aa 5) (fs:=[iv c,iv n,vl (.str L),iv m,iv w,iv a,vl (.lst ((Bt c w.toNat).map T.str)),iv st,some (.own (.lst ((nms c i).map T.str))),iv (i:Int),vl (.str ⟨#[Nm.one c i]⟩)]) (Ab rfl) (Ab (t:=.int a) rfl) a0 (by rw [el];omega)
  have j2:=slf_drop (f:=Aa 6) (g:=Ae AA (Aa 5) (gc (.int 1))) (fs:=[iv c,iv n,vl (.str L),iv m,iv w,iv a,vl (.lst ((Bt c w.toNat).map T.str)),iv st,some (.own (.lst ((nms c i).map T.str))),iv (i:Int),vl (.str ⟨#[Nm.one c i]⟩)]) (v:=a+1) (Ab rfl) (Ai (Ab (t:=.int a) rfl) Aw BN) (by omega) (by rw [el];omega)
  rw [et] at j1
  rw [ed] at j2
  have l1:(Txt.join (⟨#[]⟩:Str) ((List.range a.toNat).map fun j=>(⟨#[Nm.base c j]⟩:Str))).length=a.toNat:=by rw [join_len,List.length_range]
  have l2:(Txt.join (⟨#[]⟩:Str) ((List.range (w.toNat - (a+1).toNat)).map fun j=>(⟨#[Nm.base c ((a+1).toNat+j)]⟩:Str))).length=w.toNat - (a+1).toNat:=by
   rw [join_len (fun j=>Nm.base c ((a+1).toNat+j)),List.length_range]
  refine C9 hc (app_ok (t:=.str ((Txt.join (⟨#[]⟩:Str) ((List.range a.toNat).map fun j=>(⟨#[Nm.base c j]⟩:Str))++(⟨#[Nm.one c i]⟩:Str))++Txt.join (⟨#[]⟩:Str) ((List.range (w.toNat - (a+1).toNat)).map fun j=>(⟨#[Nm.base c ((a+1).toNat+j)]⟩:Str)))) rfl (Ai (Ai (joinM_ok j1 (by rw [List.length_range];omega)) (Ab rfl) (gAddU_s ?_)) (joinM_ok (g:=fun j=>Nm.base c ((a+1).toNat+j)) j2 (by rw [List.length_range];omega)) (gAddU_s ?_)) elen ?_)
  ·rw [l1]
   show a.toNat+1<=1000000
   omega
  ·rw [strLen_append,l1,l2]
   show a.toNat+1+_<=1000000
   omega
  ·rw [enm _ ?_]
   ·rfl
   ·have q1:=join_ones (Nm.base c) (List.range a.toNat)
    have q2:=join_ones (fun j=>Nm.base c ((a+1).toNat+j)) (List.range (w.toNat - (a+1).toNat))
    have ea:(a+1).toNat=a.toNat+1:=by omega
    show (((Txt.join (⟨#[]⟩:Str) _).cps++#[Nm.one c i])++(Txt.join (⟨#[]⟩:Str) _).cps).toList=_
    rw [Array.toList_append,Array.toList_append,q1,q2,Nm.codes,<- hm,if_neg h1,Nm.codesB,<- ha,<- hw,ea]
theorem for1_ok {n:Nat} {fa:FS->Out (List Rv)} {gt:T->FS->Option FS} {body:FS->SO} {fs:FS} {r:SO} (e:fa fs=.ok [.t (.int (n:Int))] fs) (h:n < 2 ^ 62) (ef:Dt gt body (FL.upTo 0 n) fs=r):Ds (itR1 fa) gt body fs=r:=by
 unfold Ds
 rw [Dj e ⟨by omega,by omega⟩,Int.toNat_natCast]
 exact ef
theorem names_body {c:Int} {n:Nat} (hn:n<=12) (hb:Builtin.Int.intBits c<=2 ^ 20):∃ x2 x3 x4 x5 x6 x7 x9 x10,Dz [iv c,iv n,none,none,none,none,none,none,none,none,none]=.ret (.rf 8) [iv c,iv n,x2,x3,x4,x5,x6,x7,some (.own (.lst ((nms c n).map T.str))),x9,x10]:=by
 have hb':Builtin.Int.intBits c<=2 ^ 26:=Nat.le_trans hb (by decide)
 have w0:=Nm.W_lo c
 have w1:=Nm.W_hi c
 have hL:∀ x:Int,atI ("abcdefghijklmnopqrstuvwxyz":Str).cps.toList (x % 26)=some (Nm.CD x):=at_letter
 have hL2:("abcdefghijklmnopqrstuvwxyz":Str).length<=big:=abc_big
 unfold Dz
 generalize ("abcdefghijklmnopqrstuvwxyz":Str)=L at hL hL2
 have s2:AX 2 (gc (.str L)) [iv c,iv n,none,none,none,none,none,none,none,none,none]=.nx [iv c,iv n,vl (.str L),none,none,none,none,none,none,none,none]:=Bj Aw rfl
 have s3:AX 3 (Ae Bi (Ae AA (Ae AA (Ae Bi (Aa 0) (Aa 0)) (Aa 0)) (gc (.int 1))) (gc (.int 982451653))) [iv c,iv n,vl (.str L),none,none,none,none,none,none,none,none]=.nx [iv c,iv n,vl (.str L),iv (Nm.M c),none,none,none,none,none,none,none]:=by
  unfold Nm.M
  exact Bj (Ai (Ai (Ai (Ai (Ab rfl) (Ab rfl) (gMulU_b ⟨hb',hb'⟩)) (Ab rfl) BN) Aw BN) Aw (gMulU_r ⟨by decide,by decide⟩)) rfl
 generalize hm:Nm.M c=m at s3
 have s4:AX 4 (Ae AA (gc (.int 1)) (Ae Bo (Aa 3) (gc (.int 12)))) [iv c,iv n,vl (.str L),iv m,none,none,none,none,none,none,none]=.nx [iv c,iv n,vl (.str L),iv m,iv (Nm.W c),none,none,none,none,none,none]:=by
  unfold Nm.W
  rw [hm]
  exact Bj (Ai Aw (Ai (Ab rfl) Aw (Bv (by decide))) BN) rfl
 generalize hw:Nm.W c=w at s4 w0 w1
 have s5:AX 5 (Ae Bo (Ae CH (Aa 3) (gc (.int 12))) (Aa 4)) [iv c,iv n,vl (.str L),iv m,iv w,none,none,none,none,none,none]=.nx [iv c,iv n,vl (.str L),iv m,iv w,iv (Nm.At c),none,none,none,none,none]:=by
  unfold Nm.At
  rw [hm,hw]
  exact Bj (Ai (Ai (Ab rfl) Aw (Dq ⟨by decide,by decide⟩)) (Ab rfl) (Bv (by omega))) rfl
 generalize ha:Nm.At c=a at s5
 have s6:=Bj (i:=6) (fs':=[iv c,iv n,vl (.str L),iv m,iv w,iv a,vl (.lst ((Bt c w.toNat).map T.str)),none,none,none,none]) (nm_base hL2 hL (c:=c) (w:=w) (by omega) w1 m a hm.symm (iv c) (iv n) none none none none none) rfl
 have s7:AX 7 (Ae AF (AJ Cb (Ad (gc (.int 1)) (Ad (gc (.int 3)) (Ad (gc (.int 5)) (Ad (gc (.int 7)) (Ad (gc (.int 9)) (Ad (gc (.int 11)) Al))))))) (Ae Bo (Ae CH (Aa 3) (gc (.int 144))) (gc (.int 6)))) [iv c,iv n,vl (.str L),iv m,iv w,iv a,vl (.lst ((Bt c w.toNat).map T.str)),none,none,none,none]=.nx [iv c,iv n,vl (.str L),iv m,iv w,iv a,vl (.lst ((Bt c w.toNat).map T.str)),iv (Nm.step c),none,none,none]:=by
  have e:=at_stepT c
  rw [hm] at e
  exact Bj (Ai (Cz rfl rfl (by decide)) (Ai (Ai (Ab rfl) Aw (Dq ⟨by decide,by decide⟩)) Aw (Bv (by decide))) (Ci rfl e)) rfl
 generalize hst:Nm.step c=st at s7
 have s8:AX 8 (AJ Dp Al) [iv c,iv n,vl (.str L),iv m,iv w,iv a,vl (.lst ((Bt c w.toNat).map T.str)),iv st,none,none,none]=.nx [iv c,iv n,vl (.str L),iv m,iv w,iv a,vl (.lst ((Bt c w.toNat).map T.str)),iv st,some (.own (.lst [])),none,none]:=rfl
 have hloop:=for_inv (gt:=tgN 9) (body:=(A2 (AX 10 (Ae AF (Aa 2) (Ae Bo (Ae AA (Ae CH (Aa 3) (gc (.int 864))) (Ae Bi (Aa 9) (Aa 7))) (gc (.int 26)))))
  (ifS (asB (Ae (Bf false) (Ae Bo (Ae CH (Aa 3) (gc (.int 900))) (gc (.int 3))) (gc (.int 1)))) (Bp (AL DA (Aa 8) (Ad (Ae Bi (Ae AF (Aa 6) (gc (.int 0))) (Ae AA (Ae Bo (Ae AA (Aa 9) (Ae CH (Aa 3) (gc (.int 7)))) (gc (.int 12))) (gc (.int 1)))) Al))) (Bp (AL DA (Aa 8) (Ad (Ae AA (Ae AA (fz (D8 EL (gc (.str ("":Str))) (Ad (slF (Aa 6) noP (Cu (Aa 5))) Al))) (Aa 10)) (fz (D8 EL (gc (.str ("":Str))) (Ad (slF (Aa 6) (Cu (Ae AA (Aa 5) (gc (.int 1)))) noP) Al)))) Al))))))
  (fun ts fs=>∃ (i:Nat) (x9 x10:Option Sl),fs=[iv c,iv n,vl (.str L),iv m,iv w,iv a,vl (.lst ((Bt c w.toNat).map T.str)),iv st,some (.own (.lst ((nms c i).map T.str))),x9,x10]/\Fre x9/\Fre x10/\i<=n/\ts=(FL.upTo 0 n).drop i) (fun t' ts fs h=>?_) (FL.upTo 0 n) [iv c,iv n,vl (.str L),iv m,iv w,iv a,vl (.lst ((Bt c w.toNat).map T.str)),iv st,some (.own (.lst [])),none,none]
  ⟨0,none,none,rfl,AG,AG,Nat.zero_le _,rfl⟩
 ·obtain ⟨fs',ef,i,x9,x10,rfl,_,_,hi,hd⟩:=hloop
  have hi2:i=n:=by
   have:=congrArg List.length hd
   simp [FL.upTo] at this
   omega
  subst hi2
  refine ⟨vl (.str L),iv m,iv w,iv a,vl (.lst ((Bt c w.toNat).map T.str)),iv st,x9,x10,?_⟩
  rw [A7 s2,A7 s3,A7 s4,A7 s5,A7 s6,A7 s7,A7 s8]
  rw [A7 (for1_ok (n:=i) (fa:=Ad (Aa 1) Al) (AR (Ab rfl) rfl) (by omega) ef)]
  rfl
 ·obtain ⟨i,x9,x10,rfl,f9,f10,hi,hd⟩:=h
  have hlt:i < n:=by
   have:=congrArg List.length hd
   simp [FL.upTo] at this
   omega
  have hc:=List.drop_eq_getElem_cons (l:=FL.upTo 0 n) (i:=i) (by simp [FL.upTo];exact hlt)
  rw [hc] at hd
  obtain ⟨e1,e2⟩:=List.cons.inj hd
  have e3:t'=T.int (i:Int):=by
   rw [e1]
   simp [FL.upTo]
  subst e3
  obtain ⟨y10,fy,e⟩:=nm_turn hL2 hL (c:=c) (m:=m) (w:=w) (a:=a) (st:=st) (n:=n) (i:=i) hm.symm hw.symm ha.symm hst.symm (by omega) x10 f10
  exact ⟨_,_,(by unfold tgN;exact BW rfl f9),e,i+1,_,_,rfl,Bw,fy,hlt,e2⟩
theorem names {c:Int} {n:Nat} (hn:n<=12) (hb:Builtin.Int.intBits c<=2 ^ 20):Cy [iv c,iv n]=.ok (.nw (.lst ((nms c n).map T.str))) [iv c,iv n]:=by
 obtain ⟨x2,x3,x4,x5,x6,x7,x9,x10,e⟩:=names_body hn hb
 unfold Cy D7
 show (match Dz [iv c,iv n,none,none,none,none,none,none,none,none,none] with | .nx τ=>_ | .ret (.t t) τ=>_ | .ret (.nw o) τ=>_ | .ret (.rf i) τ=>_ | .exc c τ=>_ | _=>_)=_
 rw [e]
 rfl
theorem cell_at (ns:List Int) (k:Nat):AY [vl (.scr (ns.map T.int)),iv k]=.ok (.t (.int (ns.getD k 0))) [vl (.scr (ns.map T.int)),iv k]:=by
 have hl:asB (Ae gLt (Aa 1) (Ak Cp (Ad (Aa 0) Al))) [vl (.scr (ns.map T.int)),iv k]=.ok (decide ((k:Int) < ((ns.map T.int).length:Int))) [vl (.scr (ns.map T.int)),iv k]:=rfl
 unfold AY D7
 show (match Cr [vl (.scr (ns.map T.int)),iv k] with | .nx τ=>_ | .ret (.t t) τ=>_ | .ret (.nw o) τ=>_ | .ret (.rf i) τ=>_ | .exc c τ=>_ | _=>_)=_
 have e:Cr [vl (.scr (ns.map T.int)),iv k]=.ret (.t (.int (ns.getD k 0))) [vl (.scr (ns.map T.int)),iv k]:=by
  unfold Cr
  by_cases h:(k:Int) < ((ns.map T.int).length:Int)
  ·rw [decide_eq_true h] at hl
   have h':k < ns.length:=by rw [List.length_map] at h;omega
   have e2:retS (Ae AF (Aa 0) (fz (Aa 1))) [vl (.scr (ns.map T.int)),iv k]=.ret (.t (.int (ns.getD k 0))) [vl (.scr (ns.map T.int)),iv k]:=by
    have:=Ai (g:=AF) (fa:=Aa 0) (fb:=fz (Aa 1)) (fs:=[vl (.scr (ns.map T.int)),iv k]) (Ab rfl) (A4 (Ab rfl)) (gIxU_I (ns:=ns) (i:=(k:Int)) (.inl rfl) (by omega) (by omega))
    unfold retS
    rw [this,Int.toNat_natCast]
    rfl
   unfold A2
   rw [EK hl e2]
  ·rw [decide_eq_false h] at hl
   have h':ns.length<=k:=by rw [List.length_map] at h;omega
   rw [A7 (C9 (h:=nxS) (fs:=[vl (.scr (ns.map T.int)),iv k]) (r:=.nx [vl (.scr (ns.map T.int)),iv k]) hl rfl)]
   have:ns.getD k 0=0:=by simp [List.getD,h']
   rw [this]
   rfl
 rw [e]
 rfl
open PySem PySem.Spec L2 FL
theorem DR {g:Rv->Rv->FS->Out Rv} {fa fb:FS->Out Rv} {fs fs1 fs2:FS} {x y:T} {r:Out Rv} (h1:fa fs=.ok (.t x) fs1) (h2:fb fs1=.ok (.t y) fs2) (h3:g (.t x) (.t y) fs2=r):Ae g fa fb fs=r:=by
 unfold Ae
 rw [h1]
 show (fb fs1).bnd _=r
 rw [h2]
 exact h3
theorem FN {i:Nat} {f:FS->Out Rv} {fs fs1 fs':FS} {t:T} (h:f fs=.ok (.t t) fs1) (hs:GC i (.t t) fs1=some fs'):AX i f fs=.nx fs':=by
 unfold AX
 rw [h]
 show (match GC i (.t t) fs1 with | some fs=>SO.nx fs | none=>.bad)=_
 rw [hs]
theorem AH {f:FS->Out Rv} {g:FS->Out (List Rv)} {fs fs1 fs2:FS} {t:T} {rs:List Rv} (h1:f fs=.ok (.t t) fs1) (h2:g fs1=.ok rs fs2):Ad f g fs=.ok (.t t :: rs) fs2:=by
 unfold Ad
 rw [h1]
 show (g fs1).bind _=_
 rw [h2]
 rfl
theorem Ck {g:List T->FS->Out Rv} {fa:FS->Out (List Rv)} {fs fs1:FS} {rs:List Rv} {ts:List T} {r:Out Rv} (h:fa fs=.ok rs fs1) (h2:allT rs=some ts) (h3:ts.length<=big) (e:g ts fs1=r):AJ g fa fs=r:=by
 unfold AJ
 rw [h]
 show (match allT rs with | some ts=>_ | none=>_)=_
 rw [h2]
 exact (if_pos h3).trans e
theorem CN {f:FS->Out Rv} {fs fs1:FS} {t:T} (h:f fs=.ok (.t t) fs1):fz f fs=.ok (.t t) fs1:=by
 unfold fz
 rw [h]
 rfl
theorem popB_ok {i:Nat} {fs fs':FS} {t:T} {ts:List T} (h0:fs[i]?=some (some (.bor (.lst (ts++[t]))))) (e:fs.set i (some (.bor (.lst ts)))=fs'):fz (AL He (Aa i) Al) fs=.ok (.t t) fs':=by
 have h1:Aa i fs=.ok (.rf i) fs:=by unfold Aa;rw [h0]
 have h2:FL.AE fs i=some (.lst (ts++[t])):=by unfold FL.AE;rw [h0]
 have h3:Cd fs (.rf i)=some (ts++[t]):=by simp only [Cd,h2]
 have h5:He (.rf i) [] fs=.ok (.t t) fs':=by
  have:FL.putAt fs i (.lst ts)=fs':=by
   unfold FL.putAt
   rw [h0]
   exact e
  simp only [He,h2,List.getLast?_concat,List.dropLast_concat,this,okT]
 refine CN ?_
 unfold AL
 rw [h1]
 show (if (Cd fs (.rf i)).isSome=true then _ else _)=_
 rw [h3,if_pos (show (some (ts++[t])).isSome=true from rfl)]
 exact h5
open PySem PySem.Spec L2 FL
theorem Bg {f:FS->Out Rv} {fs fs1:FS} {r:Rv} (h:f fs=.ok r fs1):retS f fs=.ret r fs1:=by
 unfold retS
 rw [h]
 rfl
theorem Di {g h:FS->SO} {fs fs':FS} {r:Rv} (e:g fs=.ret r fs'):A2 g h fs=.ret r fs':=by unfold A2;rw [e]
open PySem PySem.Spec L2 FL
theorem nmS_inj {c:Int} {k k':Nat} (hk:k < 12) (hk':k' < 12) (h:nmS c k=nmS c k'):k=k':=by
 refine Nm.codes_inj (c:=c) hk hk' ?_
 have:=congrArg (fun s:Str=>s.cps.toList) h
 simpa [nmS] using this
open PySem PySem.Spec L2 FL
theorem An {f:FS->Out Rv} {g:FS->Out (List Rv)} {fs fs1 fs2:FS} {r:Rv} {rs:List Rv} (h1:f fs=.ok r fs1) (h2:g fs1=.ok rs fs2):Aj f g fs=.ok (r :: rs) fs2:=by
 unfold Aj
 rw [h1]
 show (g fs1).bind _=_
 rw [h2]
 rfl
theorem C2 {p:Nat} {Fn:FS->Out Rv} {fa:FS->Out (List Rv)} {fs fs1 fs' τ:FS} {rs:List Rv} {t:T} (ha:fa fs=.ok rs fs1) (hp:rs.length=p) (hn:(Ct fs1 (rs.map C8)).Nodup) (hf:Fn (D9 fs1 (rs.map C8))=.ok (.t t) τ) (hb:HA (rs.map C8) τ fs1=some fs') :
  Ak (Ay p Fn) fa fs=.ok (.t t) fs':=by
 unfold Ak
 rw [ha]
 show Ay p Fn rs fs1=_
 unfold Ay
 rw [if_pos hp]
 unfold callR
 rw [if_pos hn,hf]
 dsimp only
 rw [hb]
theorem Dy {p:Nat} {Fn:FS->Out Rv} {fa:FS->Out (List Rv)} {fs fs1 fs' τ:FS} {rs:List Rv} {o:FO} (ha:fa fs=.ok rs fs1) (hp:rs.length=p) (hn:(Ct fs1 (rs.map C8)).Nodup) (hf:Fn (D9 fs1 (rs.map C8))=.ok (.nw o) τ) (hb:HA (rs.map C8) τ fs1=some fs') :
  Ak (Ay p Fn) fa fs=.ok (.nw o) fs':=by
 unfold Ak
 rw [ha]
 show Ay p Fn rs fs1=_
 unfold Ay
 rw [if_pos hp]
 unfold callR
 rw [if_pos hn,hf]
 dsimp only
 rw [hb]
theorem app_st {i:Nat} {f:FS->Out Rv} {fs fs1 fs':FS} {t:T} {us ts:List T} (h0:fs[i]?=some (some (.own (.lst us)))) (h:f fs=.ok (.t t) fs1) (h0':fs1[i]?=some (some (.own (.lst ts)))) (hl:ts.length < big) (e:fs1.set i (some (.own (.lst (ts++[t]))))=fs'):Bp (AL DA (Aa i) (Ad f Al)) fs=.nx fs':=by
 have h1:Aa i fs=.ok (.rf i) fs:=by unfold Aa;rw [h0]
 have h2:FL.AE fs i=some (.lst us):=by unfold FL.AE;rw [h0]
 have h2':FL.AE fs1 i=some (.lst ts):=by unfold FL.AE;rw [h0']
 have h3:Cd fs (.rf i)=some us:=by simp only [Cd,h2]
 have h4:Ad f Al fs=.ok [.t t] fs1:=AH h rfl
 have h5:DA (.rf i) [.t t] fs1=.ok (.t .non) fs':=by
  simp only [DA,h2']
  rw [if_pos hl]
  have:FL.putAt fs1 i (.lst (ts++[t]))=fs':=by
   unfold FL.putAt
   rw [h0']
   exact e
  rw [this]
 have h6:AL DA (Aa i) (Ad f Al) fs=.ok (.t .non) fs':=by
  unfold AL
  rw [h1]
  show (if (Cd fs (.rf i)).isSome=true then _ else _)=_
  rw [h3,if_pos (show (some us).isSome=true from rfl),h4]
  exact h5
 unfold Bp
 rw [h6]
 rfl
open PySem PySem.Spec L2 FL
theorem last1 {α:Type} {xs:List α} (h:1<=xs.length):∃ e z,xs=e++[z]/\e.length+1=xs.length:=by
 have hne:xs≠[]:=by intro q;rw [q] at h;simp at h
 exact ⟨xs.dropLast,xs.getLast hne,(List.dropLast_concat_getLast hne).symm,by rw [List.length_dropLast];omega⟩
open PySem PySem.Spec L2 FL
theorem popO_ok {i:Nat} {fs fs':FS} {t:T} {ts:List T} (h0:fs[i]?=some (some (.own (.lst (ts++[t]))))) (e:fs.set i (some (.own (.lst ts)))=fs'):fz (AL He (Aa i) Al) fs=.ok (.t t) fs':=by
 have h1:Aa i fs=.ok (.rf i) fs:=by unfold Aa;rw [h0]
 have h2:FL.AE fs i=some (.lst (ts++[t])):=by unfold FL.AE;rw [h0]
 have h3:Cd fs (.rf i)=some (ts++[t]):=by simp only [Cd,h2]
 have h5:He (.rf i) [] fs=.ok (.t t) fs':=by
  have:FL.putAt fs i (.lst ts)=fs':=by
   unfold FL.putAt
   rw [h0]
   exact e
  simp only [He,h2,List.getLast?_concat,List.dropLast_concat,this,okT]
 refine CN ?_
 unfold AL
 rw [h1]
 show (if (Cd fs (.rf i)).isSome=true then _ else _)=_
 rw [h3,if_pos (show (some (ts++[t])).isSome=true from rfl)]
 exact h5
open PySem PySem.Spec L2 FL
theorem FQ {i:Nat} {f:FS->Out Rv} {fs fs1 fs':FS} {o:FO} (h:f fs=.ok (.nw o) fs1) (hs:GC i (.nw o) fs1=some fs'):AX i f fs=.nx fs':=by
 unfold AX
 rw [h]
 show (match GC i (.nw o) fs1 with | some fs=>SO.nx fs | none=>.bad)=_
 rw [hs]
theorem fz_nw {f:FS->Out Rv} {fs fs1:FS} {o:FO} (h:f fs=.ok (.nw o) fs1):fz f fs=.ok (.t (toT o)) fs1:=by
 unfold fz
 rw [h]
 rfl
open PySem PySem.Spec L2 FL
theorem EC (c:Int) (n:Nat):(nms c n).length=n:=by unfold nms;simp
open PySem PySem.Spec L2 FL
theorem any_false {ks:List Key} {k:Key} (h:k∉ks):(ks.any fun k'=>decide (k'=k))=false:=by
 rw [List.any_eq_false]
 intro x hx
 rw [decide_eq_true_eq]
 intro e
 exact h (e▸hx)
open PySem PySem.Spec L2 FL
theorem sq {g h:FS->SO} {fs fs':FS} {r:SO} (e:g fs=.nx fs') (e2:h fs'=r):A2 g h fs=r:=(A7 e).trans e2
theorem C6 {f:FS->Out Rv} {fs fs1:FS} {b:Bool} (h:f fs=.ok (.t (.bl b)) fs1):asB f fs=.ok b fs1:=by
 unfold asB;rw [h];rfl
theorem Ga {f:FS->Out Bool} {fs fs1:FS} {b:Bool} (h:f fs=.ok b fs1):EB f fs=.ok (!b) fs1:=by
 unfold EB;rw [h];rfl
theorem FG {f:FS->Out Rv} {fs fs1:FS} {b:Bool} (h:f fs=.ok (.t (.bl b)) fs1):DB f fs=.ok b fs1:=by
 unfold DB;rw [h];rfl
theorem ifS_st {c:FS->Out Bool} {g h:FS->SO} {fs fs1:FS} {r:SO} (hc:c fs=.ok false fs1) (e:h fs1=r):ifS c g h fs=r:=by
 unfold ifS
 rw [hc]
 exact e
theorem ifS_tt {c:FS->Out Bool} {g h:FS->SO} {fs fs1:FS} {r:SO} (hc:c fs=.ok true fs1) (e:g fs1=r):ifS c g h fs=r:=by
 unfold ifS
 rw [hc]
 exact e
theorem C0 {i:Nat} {fs:FS} {o:FO} (h:fs[i]?=some (some (.own o))):Aa i fs=.ok (.rf i) fs:=by unfold Aa;rw [h]
theorem gvar_rfB {i:Nat} {fs:FS} {o:FO} (h:fs[i]?=some (some (.bor o))):Aa i fs=.ok (.rf i) fs:=by unfold Aa;rw [h]
theorem objO {i:Nat} {fs:FS} {o:FO} (h:fs[i]?=some (some (.own o))):FL.AE fs i=some o:=by unfold FL.AE;rw [h]
theorem bin2_rf {g:Rv->Rv->FS->Out Rv} {fa fb:FS->Out Rv} {fs:FS} {x:T} {i:Nat} {r:Out Rv} (h1:fa fs=.ok (.t x) fs) (h2:fb fs=.ok (.rf i) fs) (h3:g (.t x) (.rf i) fs=r):Ae g fa fb fs=r:=by
 unfold Ae
 rw [h1]
 show (fb fs).bnd _=r
 rw [h2]
 exact h3
theorem plVs_map:∀ xs:List Str,plVs (xs.map T.str)=some (xs.map V.str)
 | []=>rfl
 | x :: xs=>by
  simp only [List.map_cons,plVs,plV,Option.bind_some,plVs_map xs,Option.map_some]
theorem inV_str (k:Str):∀ xs:List Str,inV (.str k) (xs.map V.str)=decide (k∈xs)
 | []=>by simp [inV]
 | x :: xs=>by
  have:=inV_str k xs
  unfold inV at this ⊢
  rw [List.map_cons,List.any_cons,this]
  have e:eqV (.str x) (.str k)=decide (k=x):=by
   by_cases h:k=x
   ·subst h;simp [eqV]
   ·have h':x≠k:=fun e=>h e.symm
    simp [eqV,h,h']
  rw [e,Bool.eq_iff_iff]
  simp
theorem in_rfL {neg:Bool} {k:Str} {xs:List Str} {i:Nat} {fs:FS} (h:FL.AE fs i=some (.lst (xs.map T.str))):gInU neg (.t (.str k)) (.rf i) fs=.ok (.t (.bl (if neg then !decide (k∈xs) else decide (k∈xs)))) fs:=by
 have e:gIn neg (.t (.str k)) (.rf i) fs=.ok (.t (.bl (if neg then !decide (k∈xs) else decide (k∈xs)))) fs:=by
  simp only [gIn,plV,Cd,h,plVs_map,okT,inV_str]
 have e1:gDIn neg (.t (.str k)) (.rf i) fs=.bad:=by
  simp only [gDIn,dget,h]
 unfold gInU orG
 rw [e1]
 exact e
theorem EG {x:T} {ts:List T} {f:FS->Out Rv} {fs fs1:FS} (h:f fs=.ok (.t x) fs1) (hs:x=.lst ts∨x=.tup ts):Ak Cp (Ad f Al) fs=.ok (.t (.int ts.length)) fs1:=by
 unfold Ak
 rw [AH h (show Al fs1=.ok [] fs1 from rfl)]
 rcases hs with rfl | rfl <;> rfl
theorem Ff {p:Nat} {Fn:FS->Out Rv} {fa:FS->Out (List Rv)} {fs fs1 τ:FS} {rs:List Rv} {t:T} (ha:fa fs=.ok rs fs1) (hp:rs.length=p) (hn:Ct fs1 (rs.map C8)=[]) (hf:Fn (D9 fs1 (rs.map C8))=.ok (.t t) τ):Ak (Ay p Fn) fa fs=.ok (.t t) fs1 :=
 C2 ha hp (by rw [hn];exact List.nodup_nil) hf (BK hn)
theorem Az {fs:FS}:Al fs=.ok [] fs:=rfl
open PySem PySem.Spec L2 FL
open PySem PySem.Spec L2 FL
open PySem PySem.Spec L2 FL
open PySem PySem.Spec L2 FL
theorem gEq_n {x y:Nat} {fs:FS}:gEq false (.t (.int (x:Int))) (.t (.int (y:Int))) fs=.ok (.t (.bl (decide (x=y)))) fs:=by
 have q:decide (V.int (x:Int)=V.int (y:Int))=decide (x=y):=by
  by_cases h:x=y
  ·subst h;simp
  ·rw [decide_eq_false h,decide_eq_false (by intro z;cases z;exact h (by omega))]
 show (if scal (V.int (x:Int)) (V.int (y:Int))=true then okT (.bl (if false=true then _ else decide (V.int (x:Int)=V.int (y:Int)))) fs else .bad)=_
 rw [if_pos (show scal (V.int (x:Int)) (V.int (y:Int))=true from rfl),q]
 rfl
open PySem PySem.Spec L2 FL
open PySem PySem.Spec L2 FL
theorem ext_ok {i:Nat} {f:FS->Out Rv} {fs fs':FS} {us ts:List T} (h0:fs[i]?=some (some (.own (.lst ts)))) (h:f fs=.ok (.t (.lst us)) fs) (hl:ts.length+us.length<=big) (e:fs.set i (some (.own (.lst (ts++us))))=fs'):Bp (AL Hh (Aa i) (Ad f Al)) fs=.nx fs':=by
 have h1:Aa i fs=.ok (.rf i) fs:=C0 h0
 have h2:FL.AE fs i=some (.lst ts):=objO h0
 have h3:Cd fs (.rf i)=some ts:=by simp only [Cd,h2]
 have h4:Ad f Al fs=.ok [.t (.lst us)] fs:=AR h rfl
 have h5:gExt (.rf i) [.t (.lst us)] fs=.ok (.t .non) fs':=by
  simp only [gExt,h2]
  rw [if_pos hl]
  have:FL.putAt fs i (.lst (ts++us))=fs':=by
   unfold FL.putAt
   rw [h0]
   exact e
  rw [this]
 have h5':Hh (.rf i) [.t (.lst us)] fs=.ok (.t .non) fs':=by
  unfold Hh FL.orM
  rw [h5]
 have h6:AL Hh (Aa i) (Ad f Al) fs=.ok (.t .non) fs':=by
  unfold AL
  rw [h1]
  show (if (Cd fs (.rf i)).isSome=true then _ else _)=_
  rw [h3,if_pos (show (some ts).isSome=true from rfl),h4]
  exact h5'
 unfold Bp
 rw [h6]
 rfl
theorem Dr {gt:T->FS->Option FS} {body:FS->SO} {t:T} {ts:List T} {fs fs1 fs2:FS} (h1:gt t fs=some fs1) (h2:body fs1=.nx fs2):Dt gt body (t :: ts) fs=Dt gt body ts fs2:=by
 simp only [Dt,h1,h2]
theorem for_ret {gt:T->FS->Option FS} {body:FS->SO} {t:T} {ts:List T} {fs fs1 fs2:FS} {r:Rv} (h1:gt t fs=some fs1) (h2:body fs1=.ret r fs2):Dt gt body (t :: ts) fs=.ret r fs2:=by
 simp only [Dt,h1,h2]
open PySem PySem.Spec L2 FL
theorem El {g:List Rv->FS->Out Rv} {fa:FS->Out (List Rv)} {fs fs1:FS} {rs:List Rv} {r:Out Rv} (h:fa fs=.ok rs fs1) (h2:g rs fs1=r):Ak g fa fs=r:=by
 unfold Ak
 rw [h]
 exact h2
open PySem PySem.Spec L2 FL
theorem bin2_rf1 {g:Rv->Rv->FS->Out Rv} {fa fb:FS->Out Rv} {fs:FS} {y:T} {i:Nat} {r:Out Rv} (h1:fa fs=.ok (.rf i) fs) (h2:fb fs=.ok (.t y) fs) (h3:g (.rf i) (.t y) fs=r):Ae g fa fb fs=r:=by
 unfold Ae
 rw [h1]
 show (fb fs).bnd _=r
 rw [h2]
 exact h3
theorem seq_rf {fs:FS} {i:Nat} {ts:List T} (h:fs[i]?=some (some (.own (.lst ts)))):Cd fs (.rf i)=some ts:=by simp only [Cd,objO h]
theorem andT_ok {f g:FS->Out Bool} {fs:FS} {a b:Bool} (h1:f fs=.ok a fs) (h2:g fs=.ok b fs):andT f g fs=.ok (a && b) fs:=by
 unfold andT
 rw [h1]
 cases a
 ·rfl
 ·show g fs=_
  rw [h2]
  rfl
theorem cat_ok {ps us:List T} {fs:FS} (h:ps.length+us.length<=big):AA (.t (.tup ps)) (.t (.tup us)) fs=.ok (.t (.tup (ps++us))) fs:=by
 cases ps with
 | nil=>rfl
 | cons p ps =>
  have:gCatT (.t (.tup (p :: ps))) (.t (.tup us)) fs=.ok (.t (.tup (p :: ps++us))) fs:=if_pos ⟨by simp,h⟩
  show (match gCatT (.t (.tup (p :: ps))) (.t (.tup us)) fs with | .bad=>_ | o=>o)=_
  rw [this]
def exN (s:Str):T:=.tup [.str "name",.str s]
def exP (h s:Str) (ts:List T):T:=.tup [.str h,.str s,.tup ts]
def Ex:Nat->T->Prop
 | 0,t=>∃ s,t=exN s
 | d+1,t=>(∃ s,t=exN s)∨∃ h s ts,(h=("make":Str)∨h=("call":Str))/\t=exP h s ts/\ts.length<=3/\∀ x∈ts,Ex d x
theorem Ex.up1:∀ {d:Nat} {t:T},Ex d t->Ex (d+1) t
 | 0,_,h=>.inl h
 | d+1,_,h=>by
  rcases h with h | ⟨a,s,ts,ha,e,hl,hx⟩
  ·exact .inl h
  ·exact .inr ⟨a,s,ts,ha,e,hl,fun x m=>(hx x m).up1⟩
theorem Ex.up {d e:Nat} {t:T} (h:Ex d t) (l:d<=e):Ex e t:=by
 induction e with
 | zero =>
  have:d=0:=by omega
  subst this
  exact h
 | succ e ih =>
  by_cases q:d=e+1
  ·subst q;exact h
  ·exact (ih (by omega)).up1
theorem eqV_i {fa fb:FS->Out Rv} {fs:FS} {i j:Int} (h1:fa fs=.ok (.t (.int i)) fs) (h2:fb fs=.ok (.t (.int j)) fs):asB (Ae (Bf false) fa fb) fs=.ok (decide (i=j)) fs:=eqI_ok h1 h2
theorem orT_t {f g:FS->Out Bool} {fs:FS} (h:f fs=.ok true fs):orT f g fs=.ok true fs:=by
 unfold orT
 rw [h]
 rfl
theorem GP {f g:FS->Out Bool} {fs:FS} {r:Out Bool} (h:f fs=.ok false fs) (h2:g fs=r):orT f g fs=r:=by
 unfold orT
 rw [h]
 exact h2
def nd:Nat->Nat
 | 0=>1
 | d+1=>1+3 * nd d
theorem ix_mod {L:List Str} (hL:L≠[]) (x:Int):∃ s,s∈L/\atI (L.map T.str) (x % (L.length:Int))=some (.str s):=by
 have h0:0 < L.length:=List.length_pos_iff.mpr hL
 have h1:=Int.emod_lt_of_pos x (show (0:Int) < L.length by omega)
 have h2:=Int.emod_nonneg x (show (L.length:Int)≠0 by omega)
 obtain ⟨i,hi⟩:∃ i:Nat,x % (L.length:Int)=i:=⟨(x % (L.length:Int)).toNat,by omega⟩
 have hlt:i < L.length:=by omega
 refine ⟨L[i],List.getElem_mem hlt,?_⟩
 rw [hi]
 exact BC (by rw [List.getElem?_map,List.getElem?_eq_getElem hlt];rfl)
theorem at_cnt (x:Int):∃ k:Nat,k<=3/\atI [T.int 0,T.int 1,T.int 2,T.int 3,T.int 1,T.int 2] (x % 6)=some (.int k):=by
 have h1:=Int.emod_lt_of_pos x (show (0:Int) < 6 by omega)
 have h2:=Int.emod_nonneg x (show (6:Int)≠0 by omega)
 obtain ⟨i,hi⟩:∃ i:Nat,x % 6=i:=⟨(x % 6).toNat,by omega⟩
 have hlt:i < 6:=by omega
 rw [hi]
 have:∃ k:Nat,k<=3/\([T.int 0,T.int 1,T.int 2,T.int 3,T.int 1,T.int 2]:List T)[i]?=some (.int k):=by
  rcases i with _ | _ | _ | _ | _ | _ | i
  ·exact ⟨0,by omega,rfl⟩
  ·exact ⟨1,by omega,rfl⟩
  ·exact ⟨2,by omega,rfl⟩
  ·exact ⟨3,by omega,rfl⟩
  ·exact ⟨1,by omega,rfl⟩
  ·exact ⟨2,by omega,rfl⟩
  ·omega
 obtain ⟨k,hk,e⟩:=this
 exact ⟨k,hk,BC e⟩
theorem at_head (x:Int):∃ h:Str,(h="make"∨h="call")/\atI [T.str "make",T.str "call"] (x % 2)=some (.str h):=by
 rcases (show x % 2=0∨x % 2=1 by omega) with h | h
 ·rw [h];exact ⟨"make",.inl rfl,BC (j:=0) rfl⟩
 ·rw [h];exact ⟨"call",.inr rfl,BC (j:=1) rfl⟩
section
variable {L:List Str} {rec:FS->Out Rv} {d c:Nat} {down z:Int}
abbrev wS (L:List Str) (ds:List Int) (down z:Int) (ts:List T) (x:Option Sl):FS:=[vl (.lst (L.map T.str)),some (.bor (.lst (ds.map T.int))),iv down,iv z,some (.own (.lst ts)),x]
theorem Fg (hr:∀ ds:List Int,c<=ds.length->∃ (t:T) (es:List Int),Ex d t/\ds.length<=es.length+c/\rec [vl (.lst (L.map T.str)),some (.bor (.lst (ds.map T.int))),iv (down - 1)]=.ok (.t t) [vl (.lst (L.map T.str)),some (.bor (.lst (es.map T.int))),iv (down - 1)]) :
  ∀ (us:List T) (ds:List Int) (x:Option Sl) (acc:List T),Fre x->c * us.length<=ds.length->acc.length+us.length<=1000 ->
  ∃ (ts:List T) (es:List Int) (y:Option Sl),(∀ t∈ts,Ex d t)/\ts.length=us.length/\ds.length<=es.length+c * us.length /\
   Dt (tgN 5) (Bp (AL DA (Aa 4) (Ad (fz (Ak (Ay 3 rec) (Aj (fz (Aa 0)) (Aj (Aa 1) (Aj (Ae Gh (Aa 2) (gc (.int 1))) Al))))) Al))) us (wS L ds down z acc x)=.nx (wS L es down z (acc++ts) y)
 | [],ds,x,acc,_,_,_=>⟨[],ds,x,(fun _ m=>nomatch m),rfl,by omega,by simp [Dt]⟩
 | u :: us,ds,x,acc,fx,hd,ha=>by
  have hd':c+c * us.length<=ds.length:=by rw [List.length_cons,Nat.mul_add,Nat.mul_one] at hd;omega
  obtain ⟨t,es,h1,h2,h3⟩:=hr ds (by omega)
  obtain ⟨ts,es',y,g1,gl,g2,g3⟩:=Fg hr us es (vl u) (acc++[t]) Bw (by omega) (by simp at ha ⊢;omega)
  refine ⟨t :: ts,es',y,fun a m=>?_,by simp [gl],by rw [List.length_cons,Nat.mul_add,Nat.mul_one];omega,?_⟩
  ·rcases List.mem_cons.mp m with q | q
   ·rw [q];exact h1
   ·exact g1 a q
  ·have e1:tgN 5 u (wS L ds down z acc x)=some (wS L ds down z acc (vl u)):=by unfold tgN;exact BW rfl fx
   have e2:fz (Ak (Ay 3 rec) (Aj (fz (Aa 0)) (Aj (Aa 1) (Aj (Ae Gh (Aa 2) (gc (.int 1))) Al)))) (wS L ds down z acc (vl u))=.ok (.t t) (wS L es down z acc (vl u)) :=
    CN (C2 (An (A4 (Ab (t:=.lst (L.map T.str)) rfl)) (An (gvar_rfB (i:=1) rfl) (An (Ai (Ab rfl) Aw gSub_i) Az))) rfl (by rw [show Ct _ _=[1] from rfl];simp) h3 rfl)
   have e3:=app_st (i:=4) (us:=acc) (ts:=acc) (t:=t) (fs':=wS L es down z (acc++[t]) (vl u)) (f:=fz (Ak (Ay 3 rec) (Aj (fz (Aa 0)) (Aj (Aa 1) (Aj (Ae Gh (Aa 2) (gc (.int 1))) Al))))) rfl e2 rfl (by show _ < 1000000;simp at ha;omega) rfl
   rw [Dr e1 e3,g3]
   simp
end
theorem nd_pos:∀ d,1<=nd d
 | 0=>by simp [nd]
 | d+1=>by simp [nd]
theorem wild {L:List Str} (hL:L≠[]) (hl:L.length<=1000):∀ (n d:Nat) (down:Int) (ds:List Int),0<=down->down.toNat=d->d < n->nd d<=ds.length ->
  ∃ (t:T) (es:List Int),Ex d t/\ds.length<=es.length+nd d/\Bc n [vl (.lst (L.map T.str)),some (.bor (.lst (ds.map T.int))),iv down]=.ok (.t t) [vl (.lst (L.map T.str)),some (.bor (.lst (es.map T.int))),iv down]
 | 0,d,down,ds,_,_,hn,_=>by omega
 | n+1,d,down,ds,h0,hdn,hn,hd=>by
  have hp:=nd_pos d
  obtain ⟨d1,z,rfl,hd1⟩:=last1 (xs:=ds) (by omega)
  have s3:AX 3 (fz (AL He (Aa 1) Al)) [vl (.lst (L.map T.str)),some (.bor (.lst ((d1++[z]).map T.int))),iv down,none,none,none]=.nx [vl (.lst (L.map T.str)),some (.bor (.lst (d1.map T.int))),iv down,iv z,none,none]:=by
   rw [List.map_append]
   exact FN (popB_ok (ts:=d1.map T.int) (t:=.int z) rfl rfl) rfl
  have len:∀ (ds:List Int) (x4 x5:Option Sl),Ak Cp (Ad (Aa 0) Al) [vl (.lst (L.map T.str)),some (.bor (.lst (ds.map T.int))),iv down,iv z,x4,x5]=.ok (.t (.int (L.length:Int))) [vl (.lst (L.map T.str)),some (.bor (.lst (ds.map T.int))),iv down,iv z,x4,x5]:=fun ds x4 x5=>by
   have:=EG (f:=Aa 0) (fs:=[vl (.lst (L.map T.str)),some (.bor (.lst (ds.map T.int))),iv down,iv z,x4,x5]) (ts:=L.map T.str) (Ab rfl) (.inl rfl)
   rwa [List.length_map] at this
  have h0L:(0:Int) < L.length:=by have:=List.length_pos_iff.mpr hL;omega
  have ixn:∀ (ds:List Int) (x4 x5:Option Sl) (q:Int),0 < q->q < 1073741824->∃ s,Ae AF (Aa 0) (Ae Bo (Ae CH (Aa 3) (gc (.int q))) (Ak Cp (Ad (Aa 0) Al))) [vl (.lst (L.map T.str)),some (.bor (.lst (ds.map T.int))),iv down,iv z,x4,x5]=.ok (.t (.str s)) [vl (.lst (L.map T.str)),some (.bor (.lst (ds.map T.int))),iv down,iv z,x4,x5]:=fun ds x4 x5 q hq hq2=>by
   obtain ⟨s,_,e⟩:=ix_mod hL (z / q)
   exact ⟨s,Ai (Ab rfl) (Ai (Ai (Ab rfl) Aw (Dq ⟨hq,hq2⟩)) (len ds x4 x5) (Bv h0L)) (Ci rfl e)⟩
  have c1:=eqV_i (fa:=Aa 2) (fb:=gc (.int 0)) (fs:=[vl (.lst (L.map T.str)),some (.bor (.lst (d1.map T.int))),iv down,iv z,none,none]) (Ab rfl) Aw
  have c2:=eqV_i (fa:=Ae Bo (Aa 3) (gc (.int 5))) (fb:=gc (.int 0)) (fs:=[vl (.lst (L.map T.str)),some (.bor (.lst (d1.map T.int))),iv down,iv z,none,none]) (Ai (Ab rfl) Aw (Bv (by omega))) Aw
  have run:∀ {t:T} {es:List Int} {y3 y4 y5:Option Sl},Df (Bc n) [vl (.lst (L.map T.str)),some (.bor (.lst ((d1++[z]).map T.int))),iv down,none,none,none]=.ret (.t t) [vl (.lst (L.map T.str)),some (.bor (.lst (es.map T.int))),iv down,y3,y4,y5] ->
    Bc (n+1) [vl (.lst (L.map T.str)),some (.bor (.lst ((d1++[z]).map T.int))),iv down]=.ok (.t t) [vl (.lst (L.map T.str)),some (.bor (.lst (es.map T.int))),iv down]:=fun {t es y3 y4 y5} k=>by
   show D7 3 (Df (Bc n)) _=_
   unfold D7
   show (match Df (Bc n) [vl (.lst (L.map T.str)),some (.bor (.lst ((d1++[z]).map T.int))),iv down,none,none,none] with | .nx τ=>_ | .ret (.t t) τ=>_ | .ret (.nw o) τ=>_ | .ret (.rf i) τ=>_ | .exc c τ=>_ | _=>_)=_
   rw [k]
   rfl
  by_cases hc:down=0∨z % 5=0
  ·obtain ⟨s,es⟩:=ixn d1 none none 5 (by omega) (by omega)
   have ct:orT (asB (Ae (Bf false) (Aa 2) (gc (.int 0)))) (asB (Ae (Bf false) (Ae Bo (Aa 3) (gc (.int 5))) (gc (.int 0)))) [vl (.lst (L.map T.str)),some (.bor (.lst (d1.map T.int))),iv down,iv z,none,none]=.ok true [vl (.lst (L.map T.str)),some (.bor (.lst (d1.map T.int))),iv down,iv z,none,none]:=by
    by_cases h:down=0
    ·rw [decide_eq_true h] at c1
     exact orT_t c1
    ·rw [decide_eq_false h] at c1
     rw [decide_eq_true (hc.resolve_left h)] at c2
     exact GP c1 c2
   refine ⟨exN s,d1,?_,by simp;omega,run (y3:=iv z) (y4:=none) (y5:=none) ?_⟩
   ·exact (show Ex 0 (exN s) from ⟨s,rfl⟩).up (Nat.zero_le _)
   ·unfold Df
    refine sq s3 ?_
    unfold A2
    rw [EK ct (Bg (Ck (g:=BI) (ts:=[.str "name",.str s]) (AH Aw (AH es Az)) rfl (show 2<=big by decide) rfl))]
    rfl
  ·have h1:¬ down=0:=fun h=>hc (.inl h)
   have h2:¬ z % 5=0:=fun h=>hc (.inr h)
   rw [decide_eq_false h1] at c1
   rw [decide_eq_false h2] at c2
   obtain ⟨e,rfl⟩:∃ e,d=e+1:=⟨d - 1,by omega⟩
   have hd2:1+3 * nd e<=d1.length+1:=by simpa [nd] using hd
   obtain ⟨k,hk,ek⟩:=at_cnt (z / 5)
   have hlen:(FL.upTo 0 k).length=k:=by simp [FL.upTo]
   have hck:nd e * k<=nd e * 3:=Nat.mul_le_mul_left _ hk
   obtain ⟨ts,es,y,g1,gl,g2,g3⟩:=Fg (L:=L) (rec:=Bc n) (d:=e) (c:=nd e) (down:=down) (z:=z) (fun ds hds=>wild hL hl n e (down - 1) ds (by omega) (by omega) (by omega) hds) (FL.upTo 0 k) d1 none [] AG (by rw [hlen];omega) (by rw [hlen];simp;omega)
   rw [hlen] at gl g2
   rw [List.nil_append] at g3
   obtain ⟨s,e60⟩:=ixn es (some (.own (.lst ts))) y 60 (by omega) (by omega)
   obtain ⟨h,hh,eh⟩:=at_head (z / 30)
   have e30:Ae AF (AJ Cb (Ad (gc (.str ("make":Str))) (Ad (gc (.str ("call":Str))) Al))) (Ae Bo (Ae CH (Aa 3) (gc (.int 30))) (gc (.int 2))) (wS L es down z ts y)=.ok (.t (.str h)) (wS L es down z ts y) :=
    Ai (Cz (ts:=[.str "make",.str "call"]) (AR Aw (AR Aw Az)) rfl (show 2<=big by decide)) (Ai (Ai (Ab rfl) Aw (Dq (by omega))) Aw (Bv (by omega))) (Ci rfl eh)
   have e5:Ae AF (AJ Cb (Ad (gc (.int 0)) (Ad (gc (.int 1)) (Ad (gc (.int 2)) (Ad (gc (.int 3)) (Ad (gc (.int 1)) (Ad (gc (.int 2)) Al))))))) (Ae Bo (Ae CH (Aa 3) (gc (.int 5))) (gc (.int 6))) (wS L d1 down z [] none)=.ok (.t (.int k)) (wS L d1 down z [] none) :=
    Ai (Cz (ts:=[.int 0,.int 1,.int 2,.int 3,.int 1,.int 2]) (AR Aw (AR Aw (AR Aw (AR Aw (AR Aw (AR Aw Az)))))) rfl (show 6<=big by decide)) (Ai (Ai (Ab rfl) Aw (Dq (by omega))) Aw (Bv (by omega))) (Ci rfl ek)
   have s5:Ds (itR1 (Ad (Ae AF (AJ Cb (Ad (gc (.int 0)) (Ad (gc (.int 1)) (Ad (gc (.int 2)) (Ad (gc (.int 3)) (Ad (gc (.int 1)) (Ad (gc (.int 2)) Al))))))) (Ae Bo (Ae CH (Aa 3) (gc (.int 5))) (gc (.int 6)))) Al)) (tgN 5) (Bp (AL DA (Aa 4) (Ad (fz (Ak (Ay 3 (Bc n)) (Aj (fz (Aa 0)) (Aj (Aa 1) (Aj (Ae Gh (Aa 2) (gc (.int 1))) Al))))) Al))) (wS L d1 down z [] none)=.nx (wS L es down z ts y):=by
    have:=Dj (fs:=wS L d1 down z [] none) (AR e5 Az) ⟨by omega,by omega⟩
    unfold Ds
    rw [this]
    rw [Int.toNat_natCast]
    exact g3
   refine ⟨exP h s ts,es,.inr ⟨h,s,ts,hh,rfl,by omega,g1⟩,?_,run (y3:=iv z) (y4:=some (.own (.lst ts))) (y5:=y) ?_⟩
   ·simp [nd]
    omega
   ·unfold Df
    refine sq s3 (sq (C9 (GP c1 c2) rfl) (sq (fs':=wS L d1 down z [] none) (FQ (o:=.lst []) rfl rfl) (sq s5 ?_)))
    exact Bg (Ck (g:=BI) (ts:=[.str h,.str s,.tup ts]) (AH e30 (AH e60 (AH (El (g:=Dn) (rs:=[.rf 4]) rfl (r:=.ok (.t (.tup ts)) _) rfl) Az))) rfl (show 3<=big by decide) rfl)
inductive E where
 | nm (s:Str)
 | pt (h:Bool) (s:Str) (es:List E)
def hd (b:Bool):Str:=if b then "make" else "call"
mutual
def E.t:E->T
 | .nm s=>exN s
 | .pt h s es=>exP (hd h) s (E.ts es)
def E.ts:List E->List T
 | []=>[]
 | e :: es=>e.t :: E.ts es
end
mutual
def E.ok:Nat->E->Prop
 | _,.nm _=>True
 | 0,.pt _ _ _=>False
 | d+1,.pt _ _ es=>es.length<=3/\E.oks d es
def E.oks:Nat->List E->Prop
 | _,[]=>True
 | d,e :: es=>E.ok d e/\E.oks d es
end
theorem E.Cm:∀ es:List E,E.ts es=es.map E.t
 | []=>by simp [E.ts]
 | e :: es=>by simp [E.ts,E.Cm es]
theorem E.BX:∀ {d:Nat} {es:List E},E.oks d es->∀ e∈es,E.ok d e
 | _,[],_,e,m=>nomatch m
 | d,x :: es,h,e,m=>by
  simp only [E.oks] at h
  rcases List.mem_cons.mp m with rfl | m
  ·exact h.1
  ·exact E.BX h.2 e m
theorem E.oks_of:∀ {d:Nat} {es:List E},(∀ e∈es,E.ok d e)->E.oks d es
 | _,[],_=>by simp [E.oks]
 | d,x :: es,h=>by
  simp only [E.oks]
  exact ⟨h x (by simp),E.oks_of fun e m=>h e (List.mem_cons_of_mem _ m)⟩
theorem Ex.e:∀ {d:Nat} {t:T},Ex d t->∃ e:E,t=e.t/\E.ok d e
 | 0,t,⟨s,h⟩=>⟨.nm s,by simp [E.t,h],by simp [E.ok]⟩
 | d+1,t,h=>by
  rcases h with ⟨s,h⟩ | ⟨h,s,ts,hh,e,hl,hx⟩
  ·exact ⟨.nm s,by simp [E.t,h],by simp [E.ok]⟩
  ·have key:∀ ts:List T,(∀ x∈ts,Ex d x)->∃ es:List E,ts=es.map E.t/\∀ e∈es,E.ok d e:=by
    intro ts
    induction ts with
    | nil=>exact fun _=>⟨[],rfl,fun _ m=>nomatch m⟩
    | cons t ts ih =>
     intro hx
     obtain ⟨e,h1,h2⟩:=(hx t (by simp)).e
     obtain ⟨es,h3,h4⟩:=ih fun x m=>hx x (List.mem_cons_of_mem _ m)
     refine ⟨e :: es,by rw [h1,h3];rfl,fun x m=>?_⟩
     rcases List.mem_cons.mp m with rfl | m
     ·exact h2
     ·exact h4 x m
   obtain ⟨es,h3,h4⟩:=key ts hx
   have hb:∃ b,hd b=h:=by
    rcases hh with rfl | rfl
    ·exact ⟨true,rfl⟩
    ·exact ⟨false,rfl⟩
   obtain ⟨b,hb⟩:=hb
   refine ⟨.pt b s es,?_,?_⟩
   ·simp only [E.t,E.Cm,hb]
    rw [e,h3]
   ·simp only [E.ok]
    refine ⟨by rw [h3,List.length_map] at hl;exact hl,E.oks_of h4⟩
def look (D:List (Str×E)) (s:Str):Option E:=(D.find? fun p=>decide (p.1=s)).map (·.2)
def dT (D:List (Str×E)):T:=.dK (D.map fun p=>Sum.inr p.1) (D.map fun p=>p.2.t)
theorem Ec:∀ (D:List (Str×E)) (s:Str),E9 (D.map fun p=>(Sum.inr p.1:Key)) (D.map fun p=>p.2.t) (.inr s)=(look D s).map E.t
 | [],s=>rfl
 | p :: D,s=>by
  simp only [List.map_cons,E9,look,List.find?_cons]
  by_cases h:p.1=s
  ·rw [if_pos (by rw [h]),decide_eq_true h]
   rfl
  ·rw [if_neg (by intro z;exact h (Sum.inr.inj z)),decide_eq_false h]
   exact Ec D s
mutual
def E.fill (D:Str->Option E):E->E
 | .nm s=>(D s).getD (.nm s)
 | .pt h s es=>.pt h s (E.fills D es)
def E.fills (D:Str->Option E):List E->List E
 | []=>[]
 | e :: es=>e.fill D :: E.fills D es
end
theorem E.Du (D:Str->Option E):∀ es:List E,E.fills D es=es.map (E.fill D)
 | []=>by simp [E.fills]
 | e :: es=>by simp [E.fills,E.Du D es]
theorem hd_ne (b:Bool):hd b≠("name":Str):=by cases b <;> decide
theorem DN {fa fb:FS->Out Rv} {fs:FS} {i j:Str} (h1:fa fs=.ok (.t (.str i)) fs) (h2:fb fs=.ok (.t (.str j)) fs):asB (Ae (Bf false) fa fb) fs=.ok (decide (i=j)) fs:=by
 have e:gEq false (.t (.str i)) (.t (.str j)) fs=.ok (.t (.bl (decide (i=j)))) fs:=by
  have q:decide (V.str i=V.str j)=decide (i=j):=by
   by_cases h:i=j
   ·subst h;simp
   ·rw [decide_eq_false h,decide_eq_false (by intro z;cases z;exact h rfl)]
  show (if scal (V.str i) (V.str j)=true then okT (.bl (if false=true then _ else decide (V.str i=V.str j))) fs else .bad)=_
  rw [if_pos (show scal (V.str i) (V.str j)=true from rfl),q]
  rfl
 have e':Bf false (.t (.str i)) (.t (.str j)) fs=.ok (.t (.bl (decide (i=j)))) fs:=by
  unfold Bf orG
  rw [e]
 unfold asB
 rw [Ai h1 h2 e']
 rfl
theorem Dw {α:Type} {fe:FS->Out Rv} {p q:α->T} {rest:FS}:∀ (xs:List α) (x:Option Sl) (acc:List T),Fre x->(∀ a∈xs,fe (vl (p a) :: rest)=.ok (.t (q a)) (vl (p a) :: rest))->acc.length+xs.length<=big ->
  ∃ y,Fre y/\CO (tgN 0) Gw fe (xs.map p) (x :: rest) acc=some (acc++xs.map q,y :: rest)
 | [],x,acc,hx,_,_=>⟨x,hx,by simp [CO]⟩
 | a :: xs,x,acc,hx,h,hl=>by
  obtain ⟨y,hy,e⟩:=Dw xs (vl (p a)) (acc++[q a]) Bw (fun b m=>h b (List.mem_cons_of_mem _ m)) (by simp at hl ⊢;omega)
  refine ⟨y,hy,?_⟩
  have h1:tgN 0 (p a) (x :: rest)=some (vl (p a) :: rest):=by
   unfold tgN
   rw [BW (x:=x) rfl hx]
   rfl
  have h2:=h a List.mem_cons_self
  have h3:acc.length < big:=by simp at hl;omega
  simp only [List.map_cons,CO,h1,Gw,h2,if_pos h3,e]
  simp
theorem BH {f:FS->Out Rv} {fs:FS} {ts:List T} {i:Nat} {t:T} (h:f fs=.ok (.t (.tup ts)) fs) (e:ts[i]?=some t):Ae AF f (gc (.int i)) fs=.ok (.t t) fs:=by
 refine Ai h Aw ?_
 have q:=BC (j:=i) e
 unfold AF orG gIx
 show (match (match atI ts (i:Int) with | some t=>okT t fs | none=>.bad) with | .bad=>_ | r=>r)=_
 rw [q]
 rfl
theorem CC {n:Nat} {g:FS->SO} {args τ:FS} {t:T} (h:g (args++List.replicate n none)=.ret (.t t) τ):D7 n g args=.ok (.t t) (τ.take args.length):=by
 unfold D7
 rw [h]
theorem getF_ok {fo fk fd:FS->Out Rv} {fs:FS} {ks:List Key} {ts:List T} {s:Str} {z:T} (h1:fo fs=.ok (.t (.dK ks ts)) fs) (h2:fk fs=.ok (.t (.str s)) fs) (h3:fd fs=.ok (.t z) fs):getF fo fk fd fs=.ok (.t ((E9 ks ts (.inr s)).getD z)) fs:=by
 unfold getF
 rw [h1]
 simp only [Out.bnd,Out.bind,isDR,if_true,h2,h3]
 rfl
theorem EH {f:FS->Out Rv} {fs:FS} {ts:List T} (h:f fs=.ok (.t (.tup ts)) fs):itU f fs=.ok ts fs:=by
 unfold itU
 rw [h]
 rfl
mutual
def E.sp:E->List (List Nat)
 | .nm _=>[[]]
 | .pt _ _ es=>[] :: E.sps 0 es
def E.sps (k:Nat):List E->List (List Nat)
 | []=>[]
 | e :: es=>e.sp.map (k :: ·)++E.sps (k+1) es
end
def plT (p:List Nat):T:=.tup (p.map fun (k:Nat)=>T.int (k:Int))
theorem sp_len:∀ {d:Nat} {e:E},E.ok d e->e.sp.length<=4 ^ (d+1)/\∀ p∈e.sp,p.length<=d
 | d,.nm s,_=>by
  simp only [E.sp]
  exact ⟨by have:=Nat.one_le_two_pow (n:=d+1);have:1<=4 ^ (d+1):=Nat.one_le_pow _ _ (by omega);simpa using this,by simp⟩
 | 0,.pt h s es,hok=>by simp [E.ok] at hok
 | d+1,.pt h s es,hok=>by
  simp only [E.ok] at hok
  have key:∀ (es:List E) (k:Nat),(∀ e∈es,e.sp.length<=4 ^ (d+1)/\∀ p∈e.sp,p.length<=d)->(E.sps k es).length<=es.length * 4 ^ (d+1)/\∀ p∈E.sps k es,p.length<=d+1:=by
   intro es
   induction es with
   | nil=>intro k _;simp [E.sps]
   | cons e es ih =>
    intro k h
    obtain ⟨h1,h2⟩:=ih (k+1) fun x m=>h x (List.mem_cons_of_mem _ m)
    obtain ⟨h3,h4⟩:=h e (by simp)
    simp only [E.sps]
    refine ⟨?_,fun p m=>?_⟩
    ·rw [List.length_append,List.length_map,List.length_cons,Nat.add_mul,Nat.one_mul]
     omega
    ·rcases List.mem_append.mp m with m | m
     ·obtain ⟨q,hq,rfl⟩:=List.mem_map.mp m
      have:=h4 q hq
      simp only [List.length_cons]
      omega
     ·exact h2 p m
  obtain ⟨h1,h2⟩:=key es 0 fun e m=>sp_len (E.BX hok.2 e m)
  simp only [E.sp]
  refine ⟨?_,fun p m=>?_⟩
  ·have h3:es.length * 4 ^ (d+1)<=3 * 4 ^ (d+1):=Nat.mul_le_mul_right _ hok.1
   have h4:1<=4 ^ (d+1):=Nat.one_le_pow _ _ (by omega)
   rw [List.length_cons,Nat.pow_succ 4 (d+1)]
   omega
  ·rcases List.mem_cons.mp m with rfl | m
   ·simp
   ·exact h2 p m
theorem neV_s {fa fb:FS->Out Rv} {fs:FS} {i j:Str} (h1:fa fs=.ok (.t (.str i)) fs) (h2:fb fs=.ok (.t (.str j)) fs):asB (Ae (Bf true) fa fb) fs=.ok (!decide (i=j)) fs:=by
 have e:gEq true (.t (.str i)) (.t (.str j)) fs=.ok (.t (.bl (!decide (i=j)))) fs:=by
  have q:decide (V.str i=V.str j)=decide (i=j):=by
   by_cases h:i=j
   ·subst h;simp
   ·rw [decide_eq_false h,decide_eq_false (by intro z;cases z;exact h rfl)]
  show (if scal (V.str i) (V.str j)=true then okT (.bl (if true=true then !decide (V.str i=V.str j) else _)) fs else .bad)=_
  rw [if_pos (show scal (V.str i) (V.str j)=true from rfl),q]
  rfl
 have e':Bf true (.t (.str i)) (.t (.str j)) fs=.ok (.t (.bl (!decide (i=j)))) fs:=by
  unfold Bf orG
  rw [e]
 unfold asB
 rw [Ai h1 h2 e']
 rfl
theorem itU_lst {f:FS->Out Rv} {fs:FS} {ts:List T} (h:f fs=.ok (.t (.lst ts)) fs):itU f fs=.ok ts fs:=by
 unfold itU
 rw [h]
 rfl
theorem catL_ok {fa fb:FS->Out Rv} {fs:FS} {ts us:List T} (h1:fa fs=.ok (.t (.lst ts)) fs) (h2:fb fs=.ok (.t (.lst us)) fs) (h:ts.length+us.length<=big):fz (Ae AA fa fb) fs=.ok (.t (.lst (ts++us))) fs:=by
 have e:AA (.t (.lst ts)) (.t (.lst us)) fs=.ok (.nw (.lst (ts++us))) fs:=by
  have:gCatL (.t (.lst ts)) (.t (.lst us)) fs=.ok (.nw (.lst (ts++us))) fs:=if_pos h
  unfold AA orG
  show (match gCatL (.t (.lst ts)) (.t (.lst us)) fs with | .bad=>_ | o=>o)=_
  rw [this]
 unfold fz
 rw [Ai h1 h2 e]
 rfl
abbrev spBody (rec:FS->Out Rv):FS->SO:=AX 1 (fz (Ae AA (Aa 1) (Ca false [none,some 2] (itU (fz (Ak (Ay 1 rec) (Aj (Ae AF (Ae AF (Aa 0) (gc (.int 2))) (fz (Aa 2))) Al)))) (tgN 0) Gw (Ae AA (AJ BI (Ad (fz (Aa 1)) Al)) (Aa 0)))))
theorem ix_var {f g:FS->Out Rv} {fs:FS} {ts:List T} {i:Nat} {t:T} (h:f fs=.ok (.t (.tup ts)) fs) (h2:g fs=.ok (.t (.int i)) fs) (e:ts[i]?=some t):Ae AF f g fs=.ok (.t t) fs:=by
 refine Ai h h2 ?_
 have q:=BC (j:=i) e
 unfold AF orG gIx
 show (match (match atI ts (i:Int) with | some t=>okT t fs | none=>.bad) with | .bad=>_ | r=>r)=_
 rw [q]
 rfl
theorem Fh {rec:FS->Out Rv} {h s:Str} {es:List E} {d:Nat} (hd:d<=7) (hr:∀ e∈es,E.ok d e/\rec [vl e.t]=.ok (.t (.lst (e.sp.map plT))) [vl e.t]):∀ (r:List E) (k:Nat) (acc:List T) (x:Option Sl),es.drop k=r->Fre x->acc.length+r.length * 4 ^ (d+1)<=1000000 ->
  ∃ y,Dt (tgN 2) (spBody rec) ((List.range' k r.length).map fun (i:Nat)=>T.int (0+(i:Int))) [vl (exP h s (es.map E.t)),vl (.lst acc),x]=.nx [vl (exP h s (es.map E.t)),vl (.lst (acc++(E.sps k r).map plT)),y]
 | [],k,acc,x,_,_,_=>⟨x,by simp [Dt,E.sps]⟩
 | e :: r,k,acc,x,hk,fx,hl=>by
  have hkl:k < es.length:=by
   rcases Nat.lt_or_ge k es.length with q | q
   ·exact q
   ·rw [List.drop_of_length_le q] at hk;cases hk
  rw [List.drop_eq_getElem_cons hkl] at hk
  injection hk with hk1 hk2
  have hm:e∈es:=hk1▸List.getElem_mem hkl
  obtain ⟨hok,er⟩:=hr e hm
  obtain ⟨hsl,hsd⟩:=sp_len hok
  have h4:(e :: r).length * 4 ^ (d+1)=r.length * 4 ^ (d+1)+4 ^ (d+1):=by rw [List.length_cons,Nat.add_mul,Nat.one_mul]
  have e1:tgN 2 (.int (0+(k:Int))) [vl (exP h s (es.map E.t)),vl (.lst acc),x]=some [vl (exP h s (es.map E.t)),vl (.lst acc),iv (k:Int)]:=by
   rw [Int.zero_add]
   unfold tgN
   exact BW rfl fx
  have ec:fz (Ak (Ay 1 rec) (Aj (Ae AF (Ae AF (Aa 0) (gc (.int 2))) (fz (Aa 2))) Al)) [vl (exP h s (es.map E.t)),vl (.lst acc),iv (k:Int)]=.ok (.t (.lst (e.sp.map plT))) [vl (exP h s (es.map E.t)),vl (.lst acc),iv (k:Int)]:=by
   have hi:Ae AF (Ae AF (Aa 0) (gc (.int 2))) (fz (Aa 2)) [vl (exP h s (es.map E.t)),vl (.lst acc),iv (k:Int)]=.ok (.t e.t) [vl (exP h s (es.map E.t)),vl (.lst acc),iv (k:Int)] :=
    ix_var (ts:=es.map E.t) (i:=k) (BH (i:=2) (Ab rfl) rfl) (A4 (Ab rfl)) (by rw [List.getElem?_map,List.getElem?_eq_getElem hkl,hk1];rfl)
   exact CN (C2 (An hi Az) rfl (by rw [show Ct _ _=[] from rfl];simp) er rfl)
  obtain ⟨y,_,hc⟩:=Dw (fe:=Ae AA (AJ BI (Ad (fz (Aa 1)) Al)) (Aa 0)) (p:=plT) (q:=fun p=>plT (k :: p)) (rest:=[iv (k:Int)]) e.sp none [] AG (fun p m=>by
   have:=hsd p m
   exact Ai (Ck (g:=BI) (ts:=[.int (k:Int)]) (AH (A4 (Ab (t:=.int (k:Int)) rfl)) Az) rfl (show 1<=big by decide) rfl) (Ab (t:=plT p) rfl) (cat_ok (by show 1+(p.map _).length<=1000000;rw [List.length_map];omega))) (by show 0+e.sp.length<=1000000;omega)
  rw [List.nil_append] at hc
  have ecomp:Ca false [none,some 2] (itU (fz (Ak (Ay 1 rec) (Aj (Ae AF (Ae AF (Aa 0) (gc (.int 2))) (fz (Aa 2))) Al)))) (tgN 0) Gw (Ae AA (AJ BI (Ad (fz (Aa 1)) Al)) (Aa 0)) [vl (exP h s (es.map E.t)),vl (.lst acc),iv (k:Int)]=.ok (.t (.lst (e.sp.map fun p=>plT (k :: p)))) [vl (exP h s (es.map E.t)),vl (.lst acc),iv (k:Int)] :=
   Dd (src:=[none,some 2]) (itU_lst ec) ⟨by rw [show Ct _ _=[] from rfl];simp,by rfl⟩ hc rfl
  have e2:spBody rec [vl (exP h s (es.map E.t)),vl (.lst acc),iv (k:Int)]=.nx [vl (exP h s (es.map E.t)),vl (.lst (acc++e.sp.map fun p=>plT (k :: p))),iv (k:Int)] :=
   Bj (catL_ok (Ab rfl) ecomp (by show _+(e.sp.map _).length<=1000000;rw [List.length_map];omega)) rfl
  obtain ⟨y',g⟩:=Fh (h:=h) (s:=s) hd hr r (k+1) (acc++e.sp.map fun p=>plT (k :: p)) (iv (k:Int)) hk2 Bw (by rw [List.length_append,List.length_map];omega)
  refine ⟨y',?_⟩
  rw [List.length_cons,List.range'_succ,List.map_cons,Dr e1 e2,g]
  simp [E.sps,List.map_map,Function.comp_def]
theorem spots:∀ (n d:Nat) (e:E),E.ok d e->d < n->d<=8->A9 n [vl e.t]=.ok (.t (.lst (e.sp.map plT))) [vl e.t]
 | 0,d,e,_,hn,_=>by omega
 | n+1,d,.nm s,_,_,_=>by
  have e:(E.nm s).t=.tup [.str "name",.str s]:=by simp [E.t,exN]
  rw [e]
  have c:=neV_s (fa:=Ae AF (Aa 0) (gc (.int 0))) (fb:=gc (.str "name")) (fs:=[vl (.tup [.str "name",.str s]),vl (.lst [.tup []]),none]) (BH (i:=0) (Ab rfl) rfl) Aw
  rw [decide_eq_true rfl] at c
  refine (CC (n:=2) (g:=Eo (A9 n)) (t:=.lst [.tup []]) (τ:=[vl (.tup [.str "name",.str s]),vl (.lst [.tup []]),none]) ?_).trans (by simp [E.sp,plT])
  exact sq (Bj (Cz (ts:=[.tup []]) (AR (Ck (g:=BI) (ts:=[]) Az rfl (show 0<=big by decide) rfl) Az) rfl (show 1<=big by decide)) rfl) (sq (C9 c rfl) (Bg (Ab rfl)))
 | n+1,0,.pt h s es,hok,_,_=>by simp [E.ok] at hok
 | n+1,d+1,.pt h s es,hok,hn,h8=>by
  simp only [E.ok] at hok
  have e:(E.pt h s es).t=exP (hd h) s (es.map E.t):=by simp [E.t,E.Cm]
  rw [e]
  have c:=neV_s (fa:=Ae AF (Aa 0) (gc (.int 0))) (fb:=gc (.str "name")) (fs:=[vl (exP (hd h) s (es.map E.t)),vl (.lst [.tup []]),none]) (BH (i:=0) (Ab (t:=.tup [.str (hd h),.str s,.tup (es.map E.t)]) rfl) rfl) Aw
  rw [decide_eq_false (hd_ne h)] at c
  have hp:4 ^ (d+1)<=4 ^ 8:=Nat.pow_le_pow_right (by omega) (by omega)
  have hmul:es.length * 4 ^ (d+1)<=3 * 4 ^ 8:=Nat.mul_le_mul hok.1 hp
  obtain ⟨y,g⟩:=Fh (rec:=A9 n) (h:=hd h) (s:=s) (es:=es) (d:=d) (by omega) (fun x m=>⟨E.BX hok.2 x m,spots n d x (E.BX hok.2 x m) (by omega) (by omega)⟩) es 0 [.tup []] none rfl AG (by simp;omega)
  have el:Ak Cp (Ad (Ae AF (Aa 0) (gc (.int 2))) Al) [vl (exP (hd h) s (es.map E.t)),vl (.lst [.tup []]),none]=.ok (.t (.int (es.length:Int))) [vl (exP (hd h) s (es.map E.t)),vl (.lst [.tup []]),none]:=by
   have:=EG (f:=Ae AF (Aa 0) (gc (.int 2))) (fs:=[vl (exP (hd h) s (es.map E.t)),vl (.lst [.tup []]),none]) (ts:=es.map E.t) (BH (i:=2) (Ab (t:=.tup [.str (hd h),.str s,.tup (es.map E.t)]) rfl) rfl) (.inr rfl)
   rwa [List.length_map] at this
  have sf:Ds (itR1 (Ad (Ak Cp (Ad (Ae AF (Aa 0) (gc (.int 2))) Al)) Al)) (tgN 2) (spBody (A9 n)) [vl (exP (hd h) s (es.map E.t)),vl (.lst [.tup []]),none]=.nx [vl (exP (hd h) s (es.map E.t)),vl (.lst ([.tup []]++(E.sps 0 es).map plT)),y]:=by
   have:=Dj (fs:=[vl (exP (hd h) s (es.map E.t)),vl (.lst [.tup []]),none]) (AR el Az) ⟨by omega,by omega⟩
   unfold Ds
   rw [this,Int.toNat_natCast]
   have eu:FL.upTo 0 es.length=(List.range' 0 es.length).map fun (i:Nat)=>T.int (0+(i:Int)):=by rw [FL.upTo,List.range_eq_range']
   rw [eu]
   exact g
  refine (CC (n:=2) (g:=Eo (A9 n)) (t:=.lst ([.tup []]++(E.sps 0 es).map plT)) (τ:=[vl (exP (hd h) s (es.map E.t)),vl (.lst ([.tup []]++(E.sps 0 es).map plT)),y]) ?_).trans (by simp [E.sp,plT])
  exact sq (Bj (Cz (ts:=[.tup []]) (AR (Ck (g:=BI) (ts:=[]) Az rfl (show 0<=big by decide) rfl) Az) rfl (show 1<=big by decide)) rfl) (sq (EK c sf) (Bg (Ab rfl)))
def E.at:E->List Nat->Option E
 | e,[]=>some e
 | .nm _,_ :: _=>none
 | .pt _ _ es,k :: p=>match es[k]? with
  | some e=>e.at p
  | none=>none
theorem EW (m:Nat) (a b:Str):eqT m (.str a) (.str b)=some (a == b):=by cases m <;> rfl
theorem DO (m:Nat) (xs ys:List T):eqT (m+1) (.tup xs) (.tup ys)=(EV (eqT m) xs ys).map (· && xs.length == ys.length):=rfl
theorem hd_inj {a b:Bool} (h:hd a=hd b):a=b:=by
 cases a <;> cases b <;> first | rfl | exact absurd h (by decide)
mutual
theorem eqT_E:∀ (d n:Nat) (e e':E),E.ok d e->2 * d+2<=n->∃ b,eqT n e.t e'.t=some b/\(b=true↔e=e')
 | d,0,e,e',_,hn=>by omega
 | d,n+1,.nm s,.nm s',_,_=>by
  refine ⟨(("name":Str) == "name" && (s == s' && true)) && (2 == 2),?_,?_⟩
  ·simp only [E.t,exN,DO,EV,EW]
   rfl
  ·simp
 | d,n+1,.nm s,.pt h s' es,_,_=>by
  refine ⟨false,?_,by simp⟩
  simp only [E.t,exN,exP,DO,EV,EW]
  simp
 | d,n+1,.pt h s es,.nm s',_,_=>by
  refine ⟨false,?_,by simp⟩
  simp only [E.t,exN,exP,DO,EV,EW]
  simp
 | 0,n+1,.pt h s es,.pt h' s' es',hok,_=>by simp [E.ok] at hok
 | d+1,n+1,.pt h s es,.pt h' s' es',hok,hn=>by
  simp only [E.ok] at hok
  obtain ⟨m,rfl⟩:∃ m,n=m+1:=⟨n - 1,by omega⟩
  obtain ⟨b,h1,h2⟩:=eqTs_E d m es es' hok.2 (by omega)
  refine ⟨((hd h == hd h') && ((s == s') && ((b && es.length == es'.length) && true))) && (3 == 3),?_,?_⟩
  ·simp only [E.t,exP,DO (m+1),EV,EW,DO m,E.Cm]
   rw [h1]
   simp
  ·rw [show ((hd h == hd h') && ((s == s') && ((b && es.length == es'.length) && true)) && (3 == 3))=((hd h == hd h') && ((s == s') && (b && es.length == es'.length))) by simp]
   rw [Bool.and_eq_true,Bool.and_eq_true,h2]
   constructor
   ·rintro ⟨a1,a2,a3⟩
    rw [hd_inj (eq_of_beq a1),eq_of_beq a2,a3]
   ·intro q
    injection q with q1 q2 q3
    subst q1 q2 q3
    exact ⟨by simp,by simp,rfl⟩
theorem eqTs_E:∀ (d n:Nat) (es es':List E),E.oks d es->2 * d+2<=n->∃ b,EV (eqT n) (es.map E.t) (es'.map E.t)=some b/\((b && es.length == es'.length)=true↔es=es')
 | d,n,[],[],_,_=>⟨true,rfl,by simp⟩
 | d,n,[],e' :: es',_,_=>⟨true,rfl,by simp⟩
 | d,n,e :: es,[],_,_=>⟨true,rfl,by simp⟩
 | d,n,e :: es,e' :: es',hok,hn=>by
  simp only [E.oks] at hok
  obtain ⟨b,h1,h2⟩:=eqT_E d n e e' hok.1 hn
  obtain ⟨c,h3,h4⟩:=eqTs_E d n es es' hok.2 hn
  refine ⟨b && c,?_,?_⟩
  ·simp only [List.map_cons,EV,h1,h3]
   rfl
  ·rw [List.length_cons,List.length_cons,show ((b && c) && (es.length+1 == es'.length+1))=(b && (c && (es.length == es'.length))) by simp [Bool.and_assoc],Bool.and_eq_true,h2,h4]
   constructor
   ·rintro ⟨rfl,rfl⟩;rfl
   ·intro q
    injection q with q1 q2
    exact ⟨q1,q2⟩
end
mutual
def E.ns:E->List Str
 | .nm s=>[s]
 | .pt _ _ es=>E.nss es
def E.nss:List E->List Str
 | []=>[]
 | e :: es=>e.ns++E.nss es
end
mutual
def E.sz:E->Nat
 | .nm _=>1
 | .pt _ _ es=>1+E.szs es
def E.szs:List E->Nat
 | []=>0
 | e :: es=>e.sz+E.szs es
end
theorem look_nil (s:Str):look [] s=none:=rfl
theorem ED {D:List (Str×E)} {s:Str}:look D s=none↔s∉D.map (·.1):=by
 unfold look
 rw [Option.map_eq_none_iff,List.find?_eq_none]
 constructor
 ·intro h m
  obtain ⟨p,h1,h2⟩:=List.mem_map.mp m
  exact h p h1 (by simp [h2])
 ·intro h p m q
  exact h (List.mem_map.mpr ⟨p,m,by simpa using q⟩)
theorem Eh {D:List (Str×E)} {s:Str} {x:E} (h:look D s=some x):(s,x)∈D:=by
 unfold look at h
 obtain ⟨p,h1,h2⟩:=Option.map_eq_some_iff.mp h
 have h3:p.1=s:=by simpa using List.find?_some h1
 have h4:=List.mem_of_find?_eq_some h1
 cases p
 cases h3
 cases h2
 exact h4
theorem mem_look {D:List (Str×E)} (hn:(D.map (·.1)).Nodup) {s:Str} {x:E} (h:(s,x)∈D):look D s=some x:=by
 cases q:look D s with
 | none=>exact absurd (List.mem_map.mpr ⟨(s,x),h,rfl⟩) (ED.mp q)
 | some y =>
  have m:=Eh q
  induction D with
  | nil=>cases h
  | cons p D ih =>
   rw [List.map_cons,List.nodup_cons] at hn
   by_cases e:p.1=s
   ·have key:∀ z,(s,z)∈p :: D->p=(s,z):=fun z hz=>by
     rcases List.mem_cons.mp hz with hz | hz
     ·exact hz.symm
     ·exact absurd (List.mem_map.mpr ⟨(s,z),hz,e.symm⟩) hn.1
    have a:=key x h
    have b:=key y m
    rw [a] at b
    cases b
    rfl
   ·have q':look D s=some y:=by
     unfold look at q ⊢
     rw [List.find?_cons_of_neg (by simpa using e)] at q
     exact q
    refine ih hn.2 ?_ q' (Eh q')
    rcases List.mem_cons.mp h with h | h
    ·exact absurd (by rw [<- h]) e
    ·exact h
mutual
theorem sp_at:∀ (e:E) (p:List Nat),p∈e.sp->∃ x,e.at p=some x
 | .nm s,p,m=>by
  simp only [E.sp,List.mem_singleton] at m
  subst m
  exact ⟨.nm s,by simp [E.at]⟩
 | .pt h s es,p,m=>by
  simp only [E.sp] at m
  rcases List.mem_cons.mp m with rfl | m
  ·exact ⟨.pt h s es,by simp [E.at]⟩
  ·obtain ⟨k,q,e,rfl,h2,x,h3⟩:=sps_at es 0 p m
   refine ⟨x,?_⟩
   rw [Nat.zero_add]
   simp only [E.at,h2,h3]
theorem sps_at:∀ (es:List E) (j:Nat) (p:List Nat),p∈E.sps j es->∃ k q e,p=(j+k) :: q/\es[k]?=some e/\∃ x,e.at q=some x
 | [],j,p,m=>by simp [E.sps] at m
 | e :: es,j,p,m=>by
  simp only [E.sps] at m
  rcases List.mem_append.mp m with m | m
  ·obtain ⟨q,h1,rfl⟩:=List.mem_map.mp m
   exact ⟨0,q,e,rfl,rfl,sp_at e q h1⟩
  ·obtain ⟨k,q,x,h1,h2,h3⟩:=sps_at es (j+1) p m
   exact ⟨k+1,q,x,by rw [h1];congr 1;omega,h2,h3⟩
end
theorem at_pt {h:Bool} {s:Str} {es:List E} {k:Nat} {p:List Nat} {x:E} (e:(E.pt h s es).at (k :: p)=some x):∃ y,es[k]?=some y/\y.at p=some x:=by
 simp only [E.at] at e
 cases q:es[k]? with
 | none=>rw [q] at e;cases e
 | some y=>rw [q] at e;exact ⟨y,rfl,e⟩
theorem ok_up:∀ {d c:Nat} {e:E},E.ok d e->d<=c->E.ok c e
 | d,c,.nm s,_,_=>by simp [E.ok]
 | 0,c,.pt h s es,k,_=>by simp [E.ok] at k
 | d+1,0,.pt h s es,k,l=>by omega
 | d+1,c+1,.pt h s es,k,l=>by
  simp only [E.ok] at k ⊢
  exact ⟨k.1,E.oks_of fun e m=>ok_up (E.BX k.2 e m) (by omega)⟩
theorem fill_ok {f:Str->Option E} {c:Nat} (hf:∀ s x,f s=some x->E.ok c x):∀ {d:Nat} {e:E},E.ok d e->E.ok (d+c) (e.fill f)
 | d,.nm s,_=>by
  simp only [E.fill]
  cases q:f s with
  | none=>simp [E.ok]
  | some x=>exact ok_up (hf s x q) (by omega)
 | 0,.pt h s es,k=>by simp [E.ok] at k
 | d+1,.pt h s es,k=>by
  simp only [E.ok] at k
  simp only [E.fill,E.Du]
  rw [show d+1+c=(d+c)+1 by omega]
  simp only [E.ok]
  refine ⟨by rw [List.length_map];exact k.1,E.oks_of fun e m=>?_⟩
  obtain ⟨x,mx,rfl⟩:=List.mem_map.mp m
  exact fill_ok hf (E.BX k.2 x mx)
theorem sz_ok:∀ {d:Nat} {e:E},E.ok d e->e.sz<=4 ^ (d+1)
 | d,.nm s,_=>by
  have:1<=4 ^ (d+1):=Nat.one_le_pow _ _ (by omega)
  simpa [E.sz] using this
 | 0,.pt h s es,q=>by simp [E.ok] at q
 | d+1,.pt h s es,q=>by
  simp only [E.ok] at q
  have key:∀ es:List E,(∀ e∈es,e.sz<=4 ^ (d+1))->E.szs es<=es.length * 4 ^ (d+1):=by
   intro es
   induction es with
   | nil=>intro _;simp [E.szs]
   | cons e es ih =>
    intro h
    have h1:=ih fun x m=>h x (List.mem_cons_of_mem _ m)
    have h2:=h e (by simp)
    simp only [E.szs]
    rw [List.length_cons,Nat.add_mul,Nat.one_mul]
    omega
  have h1:=key es fun e m=>sz_ok (E.BX q.2 e m)
  have h3:es.length * 4 ^ (d+1)<=3 * 4 ^ (d+1):=Nat.mul_le_mul_right _ q.1
  have h4:1<=4 ^ (d+1):=Nat.one_le_pow _ _ (by omega)
  simp only [E.sz]
  rw [Nat.pow_succ 4 (d+1)]
  omega
theorem gEqV_tup {neg c:Bool} {xs ys:List T} {fs:FS} (h:EV (eqT 60) xs ys=some c):Bf neg (.t (.tup xs)) (.t (.tup ys)) fs=.ok (.t (.bl (if neg then !(c && xs.length == ys.length) else (c && xs.length == ys.length)))) fs:=by
 have e1:gEqT neg (.t (.tup xs)) (.t (.tup ys)) fs=.ok (.t (.bl (if neg then !(c && xs.length == ys.length) else (c && xs.length == ys.length)))) fs:=by
  show eqB neg xs ys fs=_
  unfold eqB
  rw [h]
  rfl
 unfold Bf orG
 show (match gEqT neg (.t (.tup xs)) (.t (.tup ys)) fs with | .bad=>_ | r=>r)=_
 rw [e1]
theorem Gj {neg c:Bool} {xs ys:List T} {fs:FS} (h:EV (eqT 60) xs ys=some c):Bf neg (.t (.lst xs)) (.t (.lst ys)) fs=.ok (.t (.bl (if neg then !(c && xs.length == ys.length) else (c && xs.length == ys.length)))) fs:=by
 have e1:gEqT neg (.t (.lst xs)) (.t (.lst ys)) fs=.ok (.t (.bl (if neg then !(c && xs.length == ys.length) else (c && xs.length == ys.length)))) fs:=by
  show eqB neg xs ys fs=_
  unfold eqB
  rw [h]
  rfl
 unfold Bf orG
 show (match gEqT neg (.t (.lst xs)) (.t (.lst ys)) fs with | .bad=>_ | r=>r)=_
 rw [e1]
theorem E.t_tup (e:E):∃ xs,e.t=.tup xs:=by
 cases e with
 | nm s=>exact ⟨_,by simp only [E.t,exN];rfl⟩
 | pt h s es=>exact ⟨_,by simp only [E.t,exP];rfl⟩
theorem gEqV_E {neg:Bool} {d:Nat} {e e':E} (h:E.ok d e) (hd:d<=28):∃ b:Bool,(b=true↔e=e')/\∀ fs:FS,Bf neg (.t e.t) (.t e'.t) fs=.ok (.t (.bl (if neg then !b else b))) fs:=by
 obtain ⟨xs,hx⟩:=e.t_tup
 obtain ⟨ys,hy⟩:=e'.t_tup
 obtain ⟨b,h1,h2⟩:=eqT_E d 61 e e' h (by omega)
 rw [hx,hy,DO 60] at h1
 obtain ⟨c,h3,h4⟩:=Option.map_eq_some_iff.mp h1
 refine ⟨b,h2,fun fs=>?_⟩
 rw [hx,hy,gEqV_tup h3,h4]
theorem slf_two {f:FS->Out Rv} {fs:FS} {a b:T} {ts:List T} (h1:f fs=.ok (.t (.tup (a :: b :: ts))) fs):slF f noP (Cu (gc (.int 2))) fs=.ok (.t (.tup [a,b])) fs:=by
 have:cutT (a :: b :: ts) none (some 2)=[a,b]:=by
  rw [Hm (by omega) (by simp)]
  rfl
 unfold slF
 rw [h1]
 show okT (.tup (cutT (a :: b :: ts) none (some 2))) fs=_
 rw [this]
 rfl
theorem gEqV_n {x y:Nat} {fs:FS}:Bf false (.t (.int (x:Int))) (.t (.int (y:Int))) fs=.ok (.t (.bl (decide (x=y)))) fs:=by
 unfold Bf orG
 rw [gEq_n]
def kD (D:List (Str×E)):List Key:=D.map fun p=>Sum.inr p.1
def vD (D:List (Str×E)):List T:=D.map fun p=>p.2.t
theorem while_nx {c:FS->Out Bool} {b:FS->SO} {n:Nat} {fs fs':FS} (h:c fs=.ok true fs) (e:b fs=.nx fs'):CA c b (n+1) fs=CA c b n fs':=by
 rw [CA,h]
 show (match b fs with | .nx fs=>CA c b n fs | .cnt fs=>_ | .brk fs=>_ | o=>o)=_
 rw [e]
theorem andT_f {f g:FS->Out Bool} {fs:FS} (h1:f fs=.ok false fs):andT f g fs=.ok false fs:=by
 unfold andT
 rw [h1]
 rfl
theorem dT_eq (D:List (Str×E)):dT D=.dK (kD D) (vD D):=rfl
theorem eqD_ok {D:List (Str×E)} {d:Nat} (hd28:d<=28):∀ C:List (Str×E),(∀ p∈C,E.ok d p.2/\look D p.1=some p.2)->eqD (kD D) (vD D) (kD C) (vD C)=some true
 | [],_=>rfl
 | p :: C,h=>by
  obtain ⟨h1,h2⟩:=h p (by simp)
  have ih:=eqD_ok hd28 C fun q m=>h q (List.mem_cons_of_mem _ m)
  have hv:E9 (kD D) (vD D) (.inr p.1:Key)=some p.2.t:=by
   have:=Ec D p.1
   rw [h2] at this
   exact this
  obtain ⟨b,e1,e2⟩:=eqT_E d 60 p.2 p.2 h1 (by omega)
  have:b=true:=e2.mpr rfl
  subst this
  simp only [kD,vD,List.map_cons,eqD] at ih hv ⊢
  rw [hv]
  simp only [e1,ih]
  rfl
theorem Gs {α:Type} {ft:FS->Out Bool} {fe:FS->Out Rv} {p:α->T} {rest:FS}:∀ (xs:List α) (x:Option Sl) (acc:List T),Fre x->(∀ a∈xs,ft (vl (p a) :: rest)=.ok false (vl (p a) :: rest)) ->
  ∃ y,Fre y/\CO (tgN 0) ft fe (xs.map p) (x :: rest) acc=some (acc,y :: rest)
 | [],x,acc,hx,_=>⟨x,hx,by simp [CO]⟩
 | a :: xs,x,acc,hx,h=>by
  obtain ⟨y,hy,e⟩:=Gs (fe:=fe) xs (vl (p a)) acc Bw (fun b m=>h b (List.mem_cons_of_mem _ m))
  refine ⟨y,hy,?_⟩
  have h1:tgN 0 (p a) (x :: rest)=some (vl (p a) :: rest):=by
   unfold tgN
   rw [BW (x:=x) rfl hx]
   rfl
  have h2:=h a List.mem_cons_self
  simp only [List.map_cons,CO,h1,h2,e]
theorem is_ok {T':String} {n:String} {f:FS->Out Rv} {fs:FS} {t:T} (h:f fs=.ok (.t t) fs) (e:tyT t=some n) (hs:HK n T'=true):EB (DB (isF T' f)) fs=.ok false fs:=by
 have:isF T' f fs=.ok (.t (.bl true)) fs:=by
  unfold isF
  rw [h]
  simp only [Out.bnd,Out.bind,e,hs]
 exact Ga (FG this)
theorem nil_eq {f:FS->Out Rv} {fs fs1:FS} (h:f fs=.ok (.t (.lst [])) fs1):Ae (Bf false) f (AJ Cb Al) fs=.ok (.t (.bl true)) fs1 :=
 DR h (Cz (ts:=[]) Az rfl (show 0<=big by decide)) (Gj (c:=true) rfl)
theorem nil_ne {f:FS->Out Rv} {fs fs1:FS} (h:f fs=.ok (.t (.lst [])) fs1):asB (Ae (Bf true) f (AJ Cb Al)) fs=.ok false fs1 :=
 C6 (DR h (Cz (ts:=[]) Az rfl (show 0<=big by decide)) (Gj (c:=true) rfl))
theorem lt_ok {fa fb:FS->Out Rv} {fs:FS} {a b:Int} (h1:fa fs=.ok (.t (.int a)) fs) (h2:fb fs=.ok (.t (.int b)) fs):asB (Ae gLt fa fb) fs=.ok (decide (a < b)) fs:=C6 (Ai h1 h2 rfl)
theorem shape_1 {a b:Str} {ts:List T}:orT (EB (DB (isF "tuple" (Aa 0)))) (orT (asB (Ae gLt (Ak Cp (Ad (Aa 0) Al)) (gc (.int 2)))) (asB (Ae (Bf true) (Ca false [none] (itU (slF (Aa 0) noP (Cu (gc (.int 2))))) (tgN 0) (EB (DB (isF "str" (Aa 0)))) (fz (Aa 0))) (AJ Cb Al)))) [vl (.tup (.str a :: .str b :: ts))]=.ok false [vl (.tup (.str a :: .str b :: ts))]:=by
 have g0:Aa 0 [vl (.tup (.str a :: .str b :: ts))]=.ok (.t (.tup (.str a :: .str b :: ts))) [vl (.tup (.str a :: .str b :: ts))]:=Ab rfl
 have l0:=lt_ok (EG (f:=Aa 0) g0 (.inr rfl)) (Aw (t:=.int 2))
 rw [decide_eq_false (by simp;omega)] at l0
 obtain ⟨y,_,hc⟩:=Gs (ft:=EB (DB (isF "str" (Aa 0)))) (fe:=fz (Aa 0)) (p:=T.str) (rest:=[]) [a,b] none [] AG (fun x _=>is_ok (n:="str") (Ab rfl) rfl (by decide))
 have ec:Ca false [none] (itU (slF (Aa 0) noP (Cu (gc (.int 2))))) (tgN 0) (EB (DB (isF "str" (Aa 0)))) (fz (Aa 0)) [vl (.tup (.str a :: .str b :: ts))]=.ok (.t (.lst [])) [vl (.tup (.str a :: .str b :: ts))] :=
  Dd (src:=[none]) (EH (slf_two g0)) ⟨by rw [show Ct _ _=[] from rfl];simp,by rfl⟩ hc rfl
 exact GP (is_ok (n:="tuple") g0 rfl (by decide)) (GP l0 (nil_ne ec))
theorem shape:∀ (n d:Nat) (e:E),E.ok d e->d < n->Be n [vl e.t]=.ok (.t (.bl true)) [vl e.t]
 | 0,d,e,_,hn=>by omega
 | n+1,d,.nm s,_,_=>by
  have e:(E.nm s).t=.tup [.str "name",.str s]:=by simp [E.t,exN]
  rw [e]
  have g0:Aa 0 [vl (.tup [.str "name",.str s])]=.ok (.t (.tup [.str "name",.str s])) [vl (.tup [.str "name",.str s])]:=Ab rfl
  have c:=DN (fa:=Ae AF (Aa 0) (gc (.int 0))) (fb:=gc (.str "name")) (BH (i:=0) g0 rfl) Aw
  rw [decide_eq_true rfl] at c
  have l0:=Ai (g:=Bf false) (EG (f:=Aa 0) g0 (.inr rfl)) (Aw (t:=.int ((2:Nat):Int))) gEqV_n
  exact CC (n:=0) (g:=Ep (Be n)) (args:=[vl (.tup [.str "name",.str s])]) (sq (C9 shape_1 rfl) (Di (EK c (Bg l0))))
 | n+1,0,.pt h s es,hok,_=>by simp [E.ok] at hok
 | n+1,d+1,.pt h s es,hok,hn=>by
  simp only [E.ok] at hok
  have e:(E.pt h s es).t=.tup [.str (hd h),.str s,.tup (es.map E.t)]:=by simp [E.t,exP,E.Cm]
  rw [e]
  have g0:Aa 0 [vl (.tup [.str (hd h),.str s,.tup (es.map E.t)])]=.ok (.t (.tup [.str (hd h),.str s,.tup (es.map E.t)])) [vl (.tup [.str (hd h),.str s,.tup (es.map E.t)])]:=Ab rfl
  have c:=DN (fa:=Ae AF (Aa 0) (gc (.int 0))) (fb:=gc (.str "name")) (BH (i:=0) g0 rfl) Aw
  rw [decide_eq_false (hd_ne h)] at c
  have hne:Bf true (.t (.int ((3:Nat):Int))) (.t (.int 3)) [vl (.tup [.str (hd h),.str s,.tup (es.map E.t)])]=.ok (.t (.bl false)) [vl (.tup [.str (hd h),.str s,.tup (es.map E.t)])]:=rfl
  have l0:=C6 (Ai (g:=Bf true) (EG (f:=Aa 0) g0 (.inr rfl)) (Aw (t:=.int 3)) hne)
  have i2:Ae AF (Aa 0) (gc (.int 2)) [vl (.tup [.str (hd h),.str s,.tup (es.map E.t)])]=.ok (.t (.tup (es.map E.t))) [vl (.tup [.str (hd h),.str s,.tup (es.map E.t)])]:=BH (i:=2) g0 rfl
  obtain ⟨y,_,hc⟩:=Gs (ft:=EB (DB (fz (Ak (Ay 1 (Be n)) (Aj (fz (Aa 0)) Al))))) (fe:=fz (Aa 0)) (p:=E.t) (rest:=[]) es none [] AG (fun x m =>
   Ga (FG (CN (Ff (An (A4 (Ab (t:=x.t) rfl)) Az) rfl rfl (shape n d x (E.BX hok.2 x m) (by omega))))))
  have ec:Ca false [none] (itU (Ae AF (Aa 0) (gc (.int 2)))) (tgN 0) (EB (DB (fz (Ak (Ay 1 (Be n)) (Aj (fz (Aa 0)) Al))))) (fz (Aa 0)) [vl (.tup [.str (hd h),.str s,.tup (es.map E.t)])]=.ok (.t (.lst [])) [vl (.tup [.str (hd h),.str s,.tup (es.map E.t)])] :=
   Dd (src:=[none]) (EH i2) ⟨by rw [show Ct _ _=[] from rfl];simp,by rfl⟩ hc rfl
  exact CC (n:=0) (g:=Ep (Be n)) (args:=[vl (.tup [.str (hd h),.str s,.tup (es.map E.t)])]) (sq (C9 shape_1 rfl) (sq (C9 c rfl) (sq (C9 (GP l0 (is_ok (n:="tuple") i2 rfl (by decide))) rfl) (Bg (nil_eq ec)))))
theorem dig_ok {fa fb:FS->Out Rv} {fs:FS} {ns:List Int} {a b:Int} (g0:Aa 0 fs=.ok (.t (.scr (ns.map T.int))) fs) (ha:fa fs=.ok (.t (.int a)) fs) (hb:fb fs=.ok (.t (.int b)) fs) (a0:0<=a) (a1:a<=1000) (b0:1<=b) (b1:b<=1000) :
  ∃ ds:List Int,ds.length=150/\Ak (Ay 3 Bs) (Aj (fz (Aa 0)) (Aj fa (Aj fb Al))) fs=.ok (.nw (.lst (ds.map T.int))) fs:=by
 obtain ⟨ds,hd,ed⟩:=digits (t:=.scr (ns.map T.int)) (ns:=ns) (.inl rfl) a0 a1 b0 b1
 exact ⟨ds,hd,Dy (An (A4 g0) (An ha (An hb Az))) rfl (by rw [show Ct _ _=[] from rfl];exact List.nodup_nil) ed (BK rfl)⟩
theorem wild_new {L:List Str} (hL:L≠[]) (hl:L.length<=1000) {f1 f2 f3:FS->Out Rv} {fs:FS} {ds:List Int} {down:Int} {d:Nat} (h1:f1 fs=.ok (.t (.lst (L.map T.str))) fs) (h2:f2 fs=.ok (.nw (.lst (ds.map T.int))) fs) (h3:f3 fs=.ok (.t (.int down)) fs) (h0:0<=down) (hd:down.toNat<=d) (h60:d < 60) (hn:nd down.toNat<=ds.length) :
  ∃ e:E,E.ok d e/\fz (Ak (Ay 3 (Bc 60)) (Aj f1 (Aj f2 (Aj f3 Al)))) fs=.ok (.t e.t) fs:=by
 obtain ⟨t,es,g1,_,g3⟩:=wild hL hl 60 down.toNat down ds h0 rfl (by omega) hn
 obtain ⟨e,rfl,he⟩:=g1.e
 exact ⟨e,ok_up he hd,CN (Ff (rs:=[.t (.lst (L.map T.str)),.nw (.lst (ds.map T.int)),.t (.int down)]) (An h1 (An h2 (An h3 Az))) rfl rfl g3)⟩
theorem asg3 {f:FS->Out Rv} {i j k:Nat} {fs fs1 fs2 fs3 fs':FS} {x y z:T} (h:f fs=.ok (.t (.tup [x,y,z])) fs1) (h1:tgN i x fs1=some fs2) (h2:tgN j y fs2=some fs3) (h3:tgN k z fs3=some fs'):asgS f (GA 3 (A8 (tgN i) (A8 (tgN j) (A8 (tgN k) FH)))) fs=.nx fs':=by
 have e:GA 3 (A8 (tgN i) (A8 (tgN j) (A8 (tgN k) FH))) (.tup [x,y,z]) fs1=some fs':=by
  have e:GA 3 (A8 (tgN i) (A8 (tgN j) (A8 (tgN k) FH))) (.tup [x,y,z]) fs1=A8 (tgN i) (A8 (tgN j) (A8 (tgN k) FH)) [x,y,z] fs1:=rfl
  rw [e]
  simp only [A8,h1,h2,h3,Option.bind_some,FH]
 unfold asgS
 rw [h]
 show (match GA 3 (A8 (tgN i) (A8 (tgN j) (A8 (tgN k) FH))) (.tup [x,y,z]) fs1 with | some fs=>SO.nx fs | none=>.bad)=_
 rw [e]
theorem filled (D:List (Str×E)):∀ (n d:Nat) (e:E),E.ok d e->d < n->AQ n [vl e.t,vl (dT D)]=.ok (.t (e.fill (look D)).t) [vl e.t,vl (dT D)]
 | 0,d,e,_,hn=>by omega
 | n+1,d,.nm s,_,_=>by
  have e:(E.nm s).t=.tup [.str "name",.str s]:=by simp [E.t,exN]
  rw [e]
  have c:=DN (fa:=Ae AF (Aa 0) (gc (.int 0))) (fb:=gc (.str "name")) (fs:=[vl (.tup [.str "name",.str s]),vl (dT D),none,none,none]) (BH (i:=0) (Ab rfl) rfl) Aw
  rw [decide_eq_true rfl] at c
  have r:=getF_ok (fo:=Aa 1) (fk:=Ae AF (Aa 0) (gc (.int 1))) (fd:=fz (Aa 0)) (fs:=[vl (.tup [.str "name",.str s]),vl (dT D),none,none,none]) (Ab rfl) (BH (i:=1) (Ab rfl) rfl) (A4 (Ab rfl))
  rw [Ec] at r
  have hv:((look D s).map E.t).getD (.tup [.str "name",.str s])=((E.nm s).fill (look D)).t:=by
   simp only [E.fill]
   cases look D s with
   | none=>exact e.symm
   | some x=>rfl
  rw [hv] at r
  exact CC (n:=3) (g:=En (AQ n)) (args:=[vl (.tup [.str "name",.str s]),vl (dT D)]) (Di (EK c (Bg r)))
 | n+1,0,.pt h s es,hok,_=>by simp [E.ok] at hok
 | n+1,d+1,.pt h s es,hok,hn=>by
  simp only [E.ok] at hok
  have e:(E.pt h s es).t=.tup [.str (hd h),.str s,.tup (es.map E.t)]:=by simp [E.t,exP,E.Cm]
  rw [e]
  have c:=DN (fa:=Ae AF (Aa 0) (gc (.int 0))) (fb:=gc (.str "name")) (fs:=[vl (.tup [.str (hd h),.str s,.tup (es.map E.t)]),vl (dT D),none,none,none]) (BH (i:=0) (Ab rfl) rfl) Aw
  rw [decide_eq_false (hd_ne h)] at c
  have s2:asgS (fz (Aa 0)) (GA 3 (A8 (tgN 2) (A8 (tgN 3) (A8 (tgN 4) FH)))) [vl (.tup [.str (hd h),.str s,.tup (es.map E.t)]),vl (dT D),none,none,none]=.nx [vl (.tup [.str (hd h),.str s,.tup (es.map E.t)]),vl (dT D),vl (.str (hd h)),vl (.str s),vl (.tup (es.map E.t))] :=
   asg3 (A4 (Ab rfl)) rfl rfl rfl
  obtain ⟨y,_,hc⟩:=Dw (fe:=fz (Ak (Ay 2 (AQ n)) (Aj (fz (Aa 0)) (Aj (fz (Aa 1)) Al)))) (p:=E.t) (q:=fun x=>(x.fill (look D)).t) (rest:=[vl (dT D)]) es none [] AG (fun x m =>
   CN (C2 (An (A4 (Ab (t:=x.t) rfl)) (An (A4 (Ab (t:=dT D) rfl)) Az)) rfl (by rw [show Ct _ _=[] from rfl];simp) (filled D n d x (E.BX hok.2 x m) (by omega)) rfl)) (by show 0+es.length<=1000000;omega)
  rw [List.nil_append] at hc
  have ec:Ca false [none,some 1] (itU (fz (Aa 4))) (tgN 0) Gw (fz (Ak (Ay 2 (AQ n)) (Aj (fz (Aa 0)) (Aj (fz (Aa 1)) Al)))) [vl (.tup [.str (hd h),.str s,.tup (es.map E.t)]),vl (dT D),vl (.str (hd h)),vl (.str s),vl (.tup (es.map E.t))]=.ok (.t (.lst (es.map fun x=>(x.fill (look D)).t))) [vl (.tup [.str (hd h),.str s,.tup (es.map E.t)]),vl (dT D),vl (.str (hd h)),vl (.str s),vl (.tup (es.map E.t))] :=
   Dd (src:=[none,some 1]) (EH (A4 (Ab rfl))) ⟨by rw [show Ct _ _=[] from rfl];simp,by rfl⟩ hc rfl
  have hv:((E.pt h s es).fill (look D)).t=.tup [.str (hd h),.str s,.tup (es.map fun x=>(x.fill (look D)).t)]:=by
   simp [E.fill,E.t,exP,E.Cm,E.Du,Function.comp_def]
  rw [hv]
  exact CC (n:=3) (g:=En (AQ n)) (args:=[vl (.tup [.str (hd h),.str s,.tup (es.map E.t)]),vl (dT D)]) (sq (C9 c rfl) (sq s2 (Bg (Ck (g:=BI) (ts:=[.str (hd h),.str s,.tup (es.map fun x=>(x.fill (look D)).t)]) (AH (A4 (Ab rfl)) (AH (A4 (Ab rfl)) (AH (El (g:=Dn) (AH ec Az) (r:=.ok (.t (.tup (es.map fun x=>(x.fill (look D)).t))) _) rfl) Az))) rfl (show 3<=big by decide) rfl))))
def dfT (D:List (Str×E)):T:=.dF (kD D) (vD D)
theorem get_f {k:Str} {ks:List Key} {ts:List T} {t:T} {fs:FS} (h:E9 ks ts (.inr k:Key)=some t):AF (.t (.dF ks ts)) (.t (.str k)) fs=.ok (.t t) fs:=by
 have e:gDGet (.t (.dF ks ts)) (.t (.str k)) fs=.ok (.t t) fs:=by
  simp only [gDGet,dget,tKey,Option.map_some,h,okT]
 exact e
abbrev lfB:FS->SO:=(ifS (asB (Ae (Bf false) (Aa 2) (Ae AF (Aa 0) (gc (.int 1))))) (retS (Ae AF (Aa 1) (fz (Aa 2)))) nxS)
theorem lf_loop (D:List (Str×E)) (s:Str):∀ (R:List (Str×E)) (x:Option Sl),Fre x->(∀ p∈R,∃ y,look D p.1=some y) ->
  (s∈R.map (·.1)/\∃ y e,look D s=some e/\Dt (tgN 2) lfB (R.map fun p=>T.str p.1) [vl (E.nm s).t,vl (dfT D),x]=.ret (.t e.t) [vl (E.nm s).t,vl (dfT D),y]) ∨
  (s∉R.map (·.1)/\∃ y,Dt (tgN 2) lfB (R.map fun p=>T.str p.1) [vl (E.nm s).t,vl (dfT D),x]=.nx [vl (E.nm s).t,vl (dfT D),y])
 | [],x,_,_=>.inr ⟨by simp,x,by simp [Dt]⟩
 | p :: R,x,fx,h=>by
  have et:(E.nm s).t=.tup [.str "name",.str s]:=by simp [E.t,exN]
  have e1:tgN 2 (.str p.1) [vl (E.nm s).t,vl (dfT D),x]=some [vl (E.nm s).t,vl (dfT D),vl (.str p.1)]:=by unfold tgN;exact BW rfl fx
  have g0:Aa 0 [vl (E.nm s).t,vl (dfT D),vl (.str p.1)]=.ok (.t (.tup [.str "name",.str s])) [vl (E.nm s).t,vl (dfT D),vl (.str p.1)]:=by rw [<- et];exact Ab rfl
  have c:=DN (fa:=Aa 2) (fs:=[vl (E.nm s).t,vl (dfT D),vl (.str p.1)]) (Ab rfl) (BH (i:=1) g0 rfl)
  by_cases q:p.1=s
  ·rw [decide_eq_true q] at c
   obtain ⟨e,he⟩:=h p (by simp)
   have hv:E9 (kD D) (vD D) (.inr p.1:Key)=some e.t:=by
    have:=Ec D p.1
    rw [he] at this
    exact this
   refine .inl ⟨by simp [q],vl (.str p.1),e,by rw [<- q];exact he,?_⟩
   rw [List.map_cons]
   exact for_ret e1 (EK c (Bg (Ai (Ab (t:=dfT D) rfl) (A4 (Ab rfl)) (get_f hv))))
  ·rw [decide_eq_false q] at c
   have b:lfB [vl (E.nm s).t,vl (dfT D),vl (.str p.1)]=.nx [vl (E.nm s).t,vl (dfT D),vl (.str p.1)]:=C9 c rfl
   rcases lf_loop D s R (vl (.str p.1)) Bw (fun r m=>h r (List.mem_cons_of_mem _ m)) with ⟨m,y,e,h1,h2⟩ | ⟨m,y,h2⟩
   ·refine .inl ⟨List.mem_cons_of_mem _ m,y,e,h1,?_⟩
    rw [List.map_cons,Dr e1 b]
    exact h2
   ·refine .inr ⟨by rw [List.map_cons];intro z;rcases List.mem_cons.mp z with z | z;exact q z.symm;exact m z,y,?_⟩
    rw [List.map_cons,Dr e1 b]
    exact h2
theorem lfilled (D:List (Str×E)):∀ (n d:Nat) (e:E),E.ok d e->d < n->AN n [vl e.t,vl (dfT D)]=.ok (.t (e.fill (look D)).t) [vl e.t,vl (dfT D)]
 | 0,d,e,_,hn=>by omega
 | n+1,d,.nm s,_,_=>by
  have e:(E.nm s).t=.tup [.str "name",.str s]:=by simp [E.t,exN]
  have g0:Aa 0 [vl (E.nm s).t,vl (dfT D),none]=.ok (.t (.tup [.str "name",.str s])) [vl (E.nm s).t,vl (dfT D),none]:=by rw [<- e];exact Ab rfl
  have c:=DN (fa:=Ae AF (Aa 0) (gc (.int 0))) (fb:=gc (.str "name")) (fs:=[vl (E.nm s).t,vl (dfT D),none]) (BH (i:=0) g0 rfl) Aw
  rw [decide_eq_true rfl] at c
  have it:itD (Aa 1) [vl (E.nm s).t,vl (dfT D),none]=.ok (D.map fun p=>T.str p.1) [vl (E.nm s).t,vl (dfT D),none]:=by
   have:(kD D).map keyT=D.map fun p=>T.str p.1:=by simp [kD,keyT,Function.comp_def]
   rw [<- this]
   rfl
  rcases lf_loop D s D none AG (fun p m=>by
   cases q:look D p.1 with
   | none=>exact absurd (List.mem_map.mpr ⟨p,m,rfl⟩) (ED.mp q)
   | some y=>exact ⟨y,rfl⟩) with ⟨m,y,x,h1,h2⟩ | ⟨m,y,h2⟩
  ·have hv:((E.nm s).fill (look D))=x:=by simp [E.fill,h1]
   rw [hv]
   have sf:Ds (itD (Aa 1)) (tgN 2) lfB [vl (E.nm s).t,vl (dfT D),none]=.ret (.t x.t) [vl (E.nm s).t,vl (dfT D),y]:=by
    unfold Ds
    rw [it]
    exact h2
   exact CC (n:=1) (g:=CQ (AN n)) (args:=[vl (E.nm s).t,vl (dfT D)]) (τ:=[vl (E.nm s).t,vl (dfT D),y]) (Di (EK c (Di sf)))
  ·have hv:((E.nm s).fill (look D))=.nm s:=by simp [E.fill,ED.mpr m]
   rw [hv]
   have sf:Ds (itD (Aa 1)) (tgN 2) lfB [vl (E.nm s).t,vl (dfT D),none]=.nx [vl (E.nm s).t,vl (dfT D),y]:=by
    unfold Ds
    rw [it]
    exact h2
   exact CC (n:=1) (g:=CQ (AN n)) (args:=[vl (E.nm s).t,vl (dfT D)]) (τ:=[vl (E.nm s).t,vl (dfT D),y]) (Di (EK c (sq sf (Bg (Ab rfl)))))
 | n+1,0,.pt h s es,hok,_=>by simp [E.ok] at hok
 | n+1,d+1,.pt h s es,hok,hn=>by
  simp only [E.ok] at hok
  have e:(E.pt h s es).t=.tup [.str (hd h),.str s,.tup (es.map E.t)]:=by simp [E.t,exP,E.Cm]
  rw [e]
  have c:=DN (fa:=Ae AF (Aa 0) (gc (.int 0))) (fb:=gc (.str "name")) (fs:=[vl (.tup [.str (hd h),.str s,.tup (es.map E.t)]),vl (dfT D),none]) (BH (i:=0) (Ab rfl) rfl) Aw
  rw [decide_eq_false (hd_ne h)] at c
  obtain ⟨y,_,hc⟩:=Dw (fe:=fz (Ak (Ay 2 (AN n)) (Aj (fz (Aa 0)) (Aj (fz (Aa 1)) Al)))) (p:=E.t) (q:=fun x=>(x.fill (look D)).t) (rest:=[vl (dfT D)]) es none [] AG (fun x m =>
   CN (C2 (An (A4 (Ab (t:=x.t) rfl)) (An (A4 (Ab (t:=dfT D) rfl)) Az)) rfl (by rw [show Ct _ _=[] from rfl];simp) (lfilled D n d x (E.BX hok.2 x m) (by omega)) rfl)) (by show 0+es.length<=1000000;omega)
  rw [List.nil_append] at hc
  have ec:Ca false [none,some 1] (itU (Ae AF (Aa 0) (gc (.int 2)))) (tgN 0) Gw (fz (Ak (Ay 2 (AN n)) (Aj (fz (Aa 0)) (Aj (fz (Aa 1)) Al)))) [vl (.tup [.str (hd h),.str s,.tup (es.map E.t)]),vl (dfT D),none]=.ok (.t (.lst (es.map fun x=>(x.fill (look D)).t))) [vl (.tup [.str (hd h),.str s,.tup (es.map E.t)]),vl (dfT D),none] :=
   Dd (src:=[none,some 1]) (EH (BH (i:=2) (Ab rfl) rfl)) ⟨by rw [show Ct _ _=[] from rfl];simp,by rfl⟩ hc rfl
  have hv:((E.pt h s es).fill (look D)).t=.tup [.str (hd h),.str s,.tup (es.map fun x=>(x.fill (look D)).t)]:=by
   simp [E.fill,E.t,exP,E.Cm,E.Du,Function.comp_def]
  rw [hv]
  exact CC (n:=1) (g:=CQ (AN n)) (args:=[vl (.tup [.str (hd h),.str s,.tup (es.map E.t)]),vl (dfT D)]) (sq (C9 c rfl) (Bg (Ck (g:=BI) (ts:=[.str (hd h),.str s,.tup (es.map fun x=>(x.fill (look D)).t)]) (AH (BH (i:=0) (Ab rfl) rfl) (AH (BH (i:=1) (Ab rfl) rfl) (AH (El (g:=Dn) (AH ec Az) (r:=.ok (.t (.tup (es.map fun x=>(x.fill (look D)).t))) _) rfl) Az))) rfl (show 3<=big by decide) rfl)))
def dd (acc:List Str):List Str->List Str
 | []=>acc
 | s :: r=>dd (if s∈acc then acc else acc++[s]) r
theorem nss_app:∀ (a b:List E),E.nss (a++b)=E.nss a++E.nss b
 | [],b=>by simp [E.nss]
 | e :: a,b=>by simp [E.nss,nss_app a b]
theorem HJ:∀ (a b:List E),E.szs (a++b)=E.szs a+E.szs b
 | [],b=>by simp [E.szs]
 | e :: a,b=>by simp [E.szs,HJ a b];omega
theorem HI:∀ (a:List E),a.length<=E.szs a
 | []=>by simp
 | e :: a=>by
  have h1:=HI a
  have h2:1<=e.sz:=by cases e <;> simp [E.sz]
  simp only [E.szs,List.length_cons]
  omega
def E.args:E->List E
 | .nm _=>[]
 | .pt _ _ es=>es
theorem ifV_t {c:FS->Out Bool} {f g:FS->Out Rv} {fs:FS} {r:Out Rv} (h:c fs=.ok true fs) (e:f fs=r):ifV c f g fs=r:=by
 unfold ifV
 rw [h]
 exact e
theorem ifV_f {c:FS->Out Bool} {f g:FS->Out Rv} {fs:FS} {r:Out Rv} (h:c fs=.ok false fs) (e:g fs=r):ifV c f g fs=r:=by
 unfold ifV
 rw [h]
 exact e
theorem args_of (e:E):AK [vl e.t]=.ok (.t (.tup (e.args.map E.t))) [vl e.t]:=by
 cases e with
 | nm s =>
  have et:(E.nm s).t=.tup [.str "name",.str s]:=by simp [E.t,exN]
  rw [et]
  have c:=DN (fa:=Ae AF (Aa 0) (gc (.int 0))) (fb:=gc (.str "name")) (fs:=[vl (.tup [.str "name",.str s])]) (BH (i:=0) (Ab rfl) rfl) Aw
  rw [decide_eq_true rfl] at c
  exact CC (n:=0) (g:=BE) (args:=[vl (.tup [.str "name",.str s])]) (Bg (ifV_t c (Ck (g:=BI) (ts:=[]) Az rfl (show 0<=big by decide) rfl)))
 | pt h s es =>
  have et:(E.pt h s es).t=.tup [.str (hd h),.str s,.tup (es.map E.t)]:=by simp [E.t,exP,E.Cm]
  rw [et]
  have c:=DN (fa:=Ae AF (Aa 0) (gc (.int 0))) (fb:=gc (.str "name")) (fs:=[vl (.tup [.str (hd h),.str s,.tup (es.map E.t)])]) (BH (i:=0) (Ab rfl) rfl) Aw
  rw [decide_eq_false (hd_ne h)] at c
  exact CC (n:=0) (g:=BE) (args:=[vl (.tup [.str (hd h),.str s,.tup (es.map E.t)])]) (Bg (ifV_f c (BH (i:=2) (Ab rfl) rfl)))
theorem put_any {fv fi:FS->Out Rv} {o:Nat} {fs fs':FS} {v:T} {k:Str} {ks ks':List Key} {ts ts':List T} (h0:fs[o]?=some (some (.own (.dK ks ts)))) (hv:fv fs=.ok (.t v) fs) (hi:fi fs=.ok (.t (.str k)) fs) (hl:ks.length < big) (h3:HE ks ts (.inr k:Key) v=(ks',ts'))
  (e:fs.set o (some (.own (.dK ks' ts')))=fs'):CK fv (Aa o) fi fs=.nx fs':=by
 have h1:Aa o fs=.ok (.rf o) fs:=by unfold Aa;rw [h0]
 have h2:FL.AE fs o=some (.dK ks ts):=by unfold FL.AE;rw [h0]
 have h4:FL.putAt fs o (.dK ks' ts')=fs':=by
  unfold FL.putAt
  rw [h0]
  exact e
 have h5:gSetL (.rf o) (.t (.str k)) (.t v) fs=.bad:=rfl
 have h6:gSetD (.rf o) (.t (.str k)) (.t v) fs=.nx fs':=by
  simp only [gSetD,h2,tKey,hl,if_true,h3,h4]
 unfold CK
 rw [hv]
 simp only [Out.bnd,Out.bind]
 rw [h1]
 simp only
 rw [hi]
 simp only [SO.of]
 unfold gSetU
 rw [h5]
 exact h6
def kF (F:List Str):List Key:=F.map Sum.inr
def tF (F:List Str):List T:=F.map fun _=>T.bl true
theorem put_true (F:List Str) (s:Str):HE (kF F) (tF F) (.inr s:Key) (.bl true)=(kF (if s∈F then F else F++[s]),tF (if s∈F then F else F++[s])):=by
 unfold HE
 by_cases h:s∈F
 ·rw [if_pos (by rw [List.any_eq_true];exact ⟨.inr s,List.mem_map.mpr ⟨s,h,rfl⟩,by simp⟩),if_pos h]
  have:∀ F:List Str,List.zipWith (fun (k:Key) (t:T)=>if k=(.inr s:Key) then T.bl true else t) (kF F) (tF F)=tF F:=by
   intro F
   induction F with
   | nil=>rfl
   | cons a F ih =>
    simp only [kF,tF,List.map_cons,List.zipWith_cons_cons] at ih ⊢
    rw [ih]
    split <;> rfl
  rw [this]
 ·rw [any_false (fun m=>h (by
   obtain ⟨x,mx,ex⟩:=List.mem_map.mp m
   cases ex
   exact mx)),if_neg h]
  simp [kF,tF]
abbrev nBody:FS->SO:=(A2 (AX 3 (fz (AL He (Aa 2) Al)))
  (A2 (ifS (asB (Ae (Bf false) (Ae AF (Aa 3) (gc (.int 0))) (gc (.str ("name":Str))))) (CK (gc (.bl true)) (Aa 1) (Ae AF (Aa 3) (gc (.int 1)))) nxS)
  (Bp (AL Hh (Aa 2) (Ad (fz (revL (fz (Ak (Ay 1 AK) (Aj (fz (Aa 3)) Al))))) Al)))))
abbrev nS (P:T) (F:List Str) (st:List E) (x3:Option Sl):FS:=[vl P,some (.own (.dK (kF F) (tF F))),some (.own (.lst (st.reverse.map E.t))),x3]
theorem revL_ok {f:FS->Out Rv} {fs:FS} {ts:List T} (h:f fs=.ok (.t (.tup ts)) fs):fz (revL f) fs=.ok (.t (.lst ts.reverse)) fs:=by
 unfold fz revL
 rw [h]
 rfl
theorem DH {P:T}:∀ (k:Nat) (F:List Str) (st:List E) (x3:Option Sl),Fre x3->E.szs st < k->F.length+E.szs st<=900->∃ y3,CA (DB (Aa 2)) nBody k (nS P F st x3)=.nx (nS P (dd F (E.nss st)) [] y3)
 | 0,F,st,x3,_,h,_=>by omega
 | k+1,F,[],x3,_,_,_=>by
  refine ⟨x3,?_⟩
  rw [CA]
  rfl
 | k+1,F,e :: r,x3,f3,hk,hl=>by
  simp only [E.szs] at hk hl
  have hr:(e :: r).reverse.map E.t=r.reverse.map E.t++[e.t]:=by simp
  have h0:(nS P F (e :: r) x3)[2]?=some (some (.own (.lst (r.reverse.map E.t++[e.t])))):=by rw [<- hr];rfl
  have ct:DB (Aa 2) (nS P F (e :: r) x3)=.ok true (nS P F (e :: r) x3):=by
   unfold DB
   rw [C0 h0]
   simp only [Out.bnd,Out.bind,truR,objO h0]
   cases r.reverse.map E.t <;> rfl
  have s3:AX 3 (fz (AL He (Aa 2) Al)) (nS P F (e :: r) x3)=.nx (nS P F r (vl e.t)) :=
   FN (popO_ok (ts:=r.reverse.map E.t) (t:=e.t) h0 rfl) (BW rfl f3)
  have ar:∀ F':List Str,fz (Ak (Ay 1 AK) (Aj (fz (Aa 3)) Al)) (nS P F' r (vl e.t))=.ok (.t (.tup (e.args.map E.t))) (nS P F' r (vl e.t)):=fun F' =>
   CN (Ff (An (A4 (Ab (t:=e.t) rfl)) Az) rfl rfl (args_of e))
  have ex:∀ F':List Str,e.args.length+r.length<=1000->Bp (AL Hh (Aa 2) (Ad (fz (revL (fz (Ak (Ay 1 AK) (Aj (fz (Aa 3)) Al))))) Al)) (nS P F' r (vl e.t))=.nx (nS P F' (e.args++r) (vl e.t)):=fun F' hz =>
   ext_ok (i:=2) (ts:=r.reverse.map E.t) (us:=(e.args.map E.t).reverse) rfl (revL_ok (ar F')) (by show _<=1000000;simp;omega) (by
    have:(e.args++r).reverse.map E.t=r.reverse.map E.t++(e.args.map E.t).reverse:=by simp
    show [_,_,_,_]=[_,_,_,_]
    rw [this])
  have hlr:=HI r
  cases e with
  | nm s =>
   have et:(E.nm s).t=.tup [.str "name",.str s]:=by simp [E.t,exN]
   have g3:Aa 3 (nS P F r (vl (E.nm s).t))=.ok (.t (.tup [.str "name",.str s])) (nS P F r (vl (E.nm s).t)):=by rw [<- et];exact Ab rfl
   have c:=DN (fs:=nS P F r (vl (E.nm s).t)) (BH (i:=0) g3 rfl) (Aw (t:=.str "name"))
   rw [decide_eq_true rfl] at c
   simp only [E.sz] at hk hl
   have st:=put_any (o:=1) (fs':=nS P (if s∈F then F else F++[s]) r (vl (E.nm s).t)) (fs:=nS P F r (vl (E.nm s).t)) rfl (Aw (t:=.bl true)) (BH (i:=1) g3 rfl) (by show _ < 1000000;unfold kF;rw [List.length_map];omega) (put_true F s) rfl
   have b:nBody (nS P F (.nm s :: r) x3)=.nx (nS P (if s∈F then F else F++[s]) r (vl (E.nm s).t)):=sq s3 (sq (EK c st) (ex _ (by simp [E.args];omega)))
   have hF:(if s∈F then F else F++[s]).length<=F.length+1:=by split <;> simp
   obtain ⟨y3,g⟩:=DH (P:=P) k (if s∈F then F else F++[s]) r (vl (E.nm s).t) Bw (by omega) (by omega)
   refine ⟨y3,?_⟩
   rw [while_nx ct b,g]
   simp only [E.nss,E.ns,dd,List.cons_append,List.nil_append]
  | pt h s es =>
   have et:(E.pt h s es).t=.tup [.str (hd h),.str s,.tup (es.map E.t)]:=by simp [E.t,exP,E.Cm]
   have g3:Aa 3 (nS P F r (vl (E.pt h s es).t))=.ok (.t (.tup [.str (hd h),.str s,.tup (es.map E.t)])) (nS P F r (vl (E.pt h s es).t)):=by rw [<- et];exact Ab rfl
   have c:=DN (fs:=nS P F r (vl (E.pt h s es).t)) (BH (i:=0) g3 rfl) (Aw (t:=.str "name"))
   rw [decide_eq_false (hd_ne h)] at c
   simp only [E.sz] at hk hl
   have hle:=HI es
   have b:nBody (nS P F (.pt h s es :: r) x3)=.nx (nS P F (es++r) (vl (E.pt h s es).t)):=sq s3 (sq (C9 c rfl) (ex F (by simp [E.args];omega)))
   obtain ⟨y3,g⟩:=DH (P:=P) k F (es++r) (vl (E.pt h s es).t) Bw (by rw [HJ];omega) (by rw [HJ];omega)
   refine ⟨y3,?_⟩
   rw [while_nx ct b,g,nss_app]
   simp only [E.nss,E.ns]
theorem runF_nw {n:Nat} {g:FS->SO} {args τ:FS} {o:FO} (h:g (args++List.replicate n none)=.ret (.nw o) τ):D7 n g args=.ok (.nw o) (τ.take args.length):=by
 unfold D7
 rw [h]
theorem BQ (e:E) (he:e.sz<=800):Bn [vl e.t]=.ok (.nw (.lst ((dd [] e.ns).map T.str))) [vl e.t]:=by
 have s1:AX 1 Fe [vl e.t,none,none,none]=.nx [vl e.t,some (.own (.dK [] [])),none,none]:=rfl
 have s2:AX 2 (AJ Dp (Ad (fz (Aa 0)) Al)) [vl e.t,some (.own (.dK [] [])),none,none]=.nx (nS e.t [] [e] none) :=
  FQ (o:=.lst [e.t]) (fs1:=[vl e.t,some (.own (.dK [] [])),none,none]) (Ck (g:=Dp) (ts:=[e.t]) (AH (A4 (Ab (i:=0) (t:=e.t) rfl)) Az) rfl (show 1<=big by decide) rfl) rfl
 have hz:E.szs [e]=e.sz:=by simp [E.szs]
 obtain ⟨y3,lp⟩:=DH (P:=e.t) 1000 [] [e] none AG (by omega) (by rw [hz];simp;omega)
 have hn:E.nss [e]=e.ns:=by simp [E.nss]
 rw [hn] at lp
 have ret:Ak Hg (Ad (Aa 1) Al) (nS e.t (dd [] e.ns) [] y3)=.ok (.nw (.lst ((dd [] e.ns).map T.str))) (nS e.t (dd [] e.ns) [] y3):=by
  have:(kF (dd [] e.ns)).map keyT=(dd [] e.ns).map T.str:=by simp [kF,keyT,Function.comp_def]
  rw [<- this]
  rfl
 exact runF_nw (n:=3) (g:=DS) (args:=[vl e.t]) (sq s1 (sq s2 (sq lp (Bg ret))))
def HR (e:E) (p:List Nat):Option Str:=match e.at p with
 | some (.nm s)=>some s
 | _=>none
mutual
theorem sp_names:∀ e:E,e.sp.filterMap (HR e)=e.ns
 | .nm s=>by simp [E.sp,HR,E.at,E.ns]
 | .pt h s es=>by
  have:=GD es [] h s
  rw [List.nil_append] at this
  simp only [E.sp,E.ns]
  rw [List.filterMap_cons]
  have h0:HR (.pt h s es) []=none:=by simp [HR,E.at]
  rw [h0]
  exact this
theorem GD:∀ (r pre:List E) (h:Bool) (s:Str),(E.sps pre.length r).filterMap (HR (.pt h s (pre++r)))=E.nss r
 | [],pre,h,s=>by simp [E.sps,E.nss]
 | e :: r,pre,h,s=>by
  have ih:=GD r (pre++[e]) h s
  rw [List.length_append,List.append_assoc] at ih
  simp only [E.sps,E.nss]
  rw [List.filterMap_append,List.filterMap_map]
  have h1:(fun q=>HR (.pt h s (pre++e :: r)) (pre.length :: q))=HR e:=by
   funext q
   simp [HR,E.at]
  have h2:(HR (.pt h s (pre++e :: r))∘fun x=>pre.length :: x)=HR e:=h1
  rw [h2,sp_names e]
  exact congrArg (e.ns++·) ih
end
def inz (p:List Nat):List Int:=p.map fun (k:Nat)=>(k:Int)
def Le2 (p q:List Nat):Prop:=HT.lexLt (inz q) (inz p)=false
mutual
theorem GF:∀ e:E,e.sp.Pairwise Le2
 | .nm s=>by simp [E.sp]
 | .pt h s es=>by
  simp only [E.sp]
  rw [List.pairwise_cons]
  refine ⟨fun q m=>?_,(DD es 0).1⟩
  obtain ⟨j,r,rfl,_⟩:=(DD es 0).2 q m
  rfl
theorem DD:∀ (es:List E) (k:Nat),(E.sps k es).Pairwise Le2/\∀ p∈E.sps k es,∃ j q,p=j :: q/\k<=j
 | [],k=>by simp [E.sps]
 | e :: es,k=>by
  obtain ⟨h1,h2⟩:=DD es (k+1)
  simp only [E.sps]
  refine ⟨?_,fun p m=>?_⟩
  ·rw [List.pairwise_append]
   refine ⟨?_,h1,fun p m q m2=>?_⟩
   ·rw [List.pairwise_map]
    refine (GF e).imp fun {a b} h=>?_
    show HT.lexLt (inz (k :: b)) (inz (k :: a))=false
    simp only [inz,List.map_cons,HT.DI,if_true]
    exact h
   ·obtain ⟨a,_,rfl⟩:=List.mem_map.mp m
    obtain ⟨j,r,rfl,hj⟩:=h2 q m2
    show HT.lexLt (inz (j :: r)) (inz (k :: a))=false
    simp only [inz,List.map_cons,HT.DI]
    rw [if_neg (by omega),decide_eq_false (by omega)]
  ·rcases List.mem_append.mp m with m | m
   ·obtain ⟨a,_,rfl⟩:=List.mem_map.mp m
    exact ⟨k,a,rfl,Nat.le_refl _⟩
   ·obtain ⟨j,r,rfl,hj⟩:=h2 p m
    exact ⟨j,r,rfl,by omega⟩
end
theorem ord_of:∀ l:List (List Nat),l.Pairwise Le2->So.ord (l.map inz)=true
 | [],_=>rfl
 | [p],_=>rfl
 | p :: q :: l,h=>by
  have h1:=(List.pairwise_cons.mp h).1 q (by simp)
  have h2:=ord_of (q :: l) (List.pairwise_cons.mp h).2
  simp only [List.map_cons,So.ord] at h2 ⊢
  rw [show HT.lexLt (inz q) (inz p)=false from h1,h2]
  rfl
theorem tupIs_sp:∀ l:List (List Nat),HG (l.map plT)=some (l.map inz)
 | []=>rfl
 | p :: l=>by
  have e:tupI (plT p)=some (inz p):=by
   have:=DT (inz p)
   unfold inz at this
   rw [List.map_map] at this
   exact this
  simp only [List.map_cons,HG,e,tupIs_sp l]
  rfl
theorem sp_few:∀ {d:Nat} {e:E},E.ok d e->e.sp.length<=nd d
 | d,.nm s,_=>by
  have:=nd_pos d
  simpa [E.sp] using this
 | 0,.pt h s es,hok=>by simp [E.ok] at hok
 | d+1,.pt h s es,hok=>by
  simp only [E.ok] at hok
  have key:∀ (es:List E) (k:Nat),(∀ e∈es,e.sp.length<=nd d)->(E.sps k es).length<=es.length * nd d:=by
   intro es
   induction es with
   | nil=>intro k _;simp [E.sps]
   | cons e es ih =>
    intro k h
    have h1:=ih (k+1) fun x m=>h x (List.mem_cons_of_mem _ m)
    have h3:=h e (by simp)
    simp only [E.sps]
    rw [List.length_append,List.length_map,List.length_cons,Nat.add_mul,Nat.one_mul]
    omega
  have h1:=key es 0 fun e m=>sp_few (E.BX hok.2 e m)
  have h3:es.length * nd d<=3 * nd d:=Nat.mul_le_mul_right _ hok.1
  simp only [E.sp,nd,List.length_cons]
  omega
abbrev wBody:FS->SO:=AX 3 (Ae AF (Ae AF (Aa 3) (gc (.int 2))) (fz (Aa 4)))
theorem Gx {x0 x1 x2:Option Sl}:∀ (p:List Nat) (e x:E) (x4:Option Sl),Fre x4->e.at p=some x->∃ y4,Fre y4/\Dt (tgN 4) wBody (p.map fun (k:Nat)=>T.int (k:Int)) [x0,x1,x2,vl e.t,x4]=.nx [x0,x1,x2,vl x.t,y4]
 | [],e,x,x4,f4,h=>by
  have:e=x:=by simpa [E.at] using h
  subst this
  exact ⟨x4,f4,by simp [Dt]⟩
 | k :: p,.nm s,x,x4,_,h=>by simp [E.at] at h
 | k :: p,.pt a s es,x,x4,f4,h=>by
  obtain ⟨y,h1,h2⟩:=at_pt h
  have et:(E.pt a s es).t=.tup [.str (hd a),.str s,.tup (es.map E.t)]:=by simp [E.t,exP,E.Cm]
  have e1:tgN 4 (.int (k:Int)) [x0,x1,x2,vl (E.pt a s es).t,x4]=some [x0,x1,x2,vl (E.pt a s es).t,iv (k:Int)]:=by unfold tgN;exact BW rfl f4
  have g3:Aa 3 [x0,x1,x2,vl (E.pt a s es).t,iv (k:Int)]=.ok (.t (.tup [.str (hd a),.str s,.tup (es.map E.t)])) [x0,x1,x2,vl (E.pt a s es).t,iv (k:Int)]:=by rw [<- et];exact Ab rfl
  have b:wBody [x0,x1,x2,vl (E.pt a s es).t,iv (k:Int)]=.nx [x0,x1,x2,vl y.t,iv (k:Int)] :=
   Bj (ix_var (ts:=es.map E.t) (i:=k) (BH (i:=2) g3 rfl) (A4 (Ab rfl)) (by rw [List.getElem?_map,h1];rfl)) rfl
  obtain ⟨y4,fy,g⟩:=Gx (x0:=x0) (x1:=x1) (x2:=x2) p y x (iv (k:Int)) Bw h2
  refine ⟨y4,fy,?_⟩
  rw [List.map_cons,Dr e1 b,g]
abbrev sBody:FS->SO:=(A2 (AX 3 (fz (Aa 0)))
  (A2 (Ds (itU (fz (Aa 2))) (tgN 4) wBody)
  (ifS (andT (asB (Ae (Bf false) (Ae AF (Aa 3) (gc (.int 0))) (gc (.str ("name":Str))))) (asB (Ae (gInU true) (Ae AF (Aa 3) (gc (.int 1))) (Aa 1)))) (Bp (AL DA (Aa 1) (Ad (Ae AF (Aa 3) (gc (.int 1))) Al))) nxS)))
abbrev sS (e:E) (F:List Str) (x2 x3 x4:Option Sl):FS:=[vl e.t,some (.own (.lst (F.map T.str))),x2,x3,x4]
theorem DC {e:E}:∀ (ps:List (List Nat)) (F:List Str) (x2 x3 x4:Option Sl),Fre x2->Fre x3->Fre x4->(∀ p∈ps,∃ x,e.at p=some x)->F.length+ps.length<=1000 ->
  ∃ y2 y3 y4,Dt (tgN 2) sBody (ps.map plT) (sS e F x2 x3 x4)=.nx (sS e (dd F (ps.filterMap (HR e))) y2 y3 y4)
 | [],F,x2,x3,x4,_,_,_,_,_=>⟨x2,x3,x4,by simp [Dt,dd]⟩
 | p :: ps,F,x2,x3,x4,f2,f3,f4,hp,hl=>by
  obtain ⟨x,hx⟩:=hp p (by simp)
  have hps:∀ q∈ps,∃ x,e.at q=some x:=fun q m=>hp q (List.mem_cons_of_mem _ m)
  rw [List.length_cons] at hl
  have e1:tgN 2 (plT p) (sS e F x2 x3 x4)=some (sS e F (vl (plT p)) x3 x4):=by unfold tgN;exact BW rfl f2
  have s3:AX 3 (fz (Aa 0)) (sS e F (vl (plT p)) x3 x4)=.nx (sS e F (vl (plT p)) (vl e.t) x4):=Bj (A4 (Ab rfl)) (BW rfl f3)
  obtain ⟨y4,fy,lp⟩:=Gx (x0:=vl e.t) (x1:=some (.own (.lst (F.map T.str)))) (x2:=vl (plT p)) p e x x4 f4 hx
  have sf:Ds (itU (fz (Aa 2))) (tgN 4) wBody (sS e F (vl (plT p)) (vl e.t) x4)=.nx (sS e F (vl (plT p)) (vl x.t) y4):=by
   have:itU (fz (Aa 2)) (sS e F (vl (plT p)) (vl e.t) x4)=.ok (p.map fun (k:Nat)=>T.int (k:Int)) (sS e F (vl (plT p)) (vl e.t) x4):=EH (A4 (Ab rfl))
   unfold Ds
   rw [this]
   exact lp
  cases x with
  | pt h s es =>
   have et:(E.pt h s es).t=.tup [.str (hd h),.str s,.tup (es.map E.t)]:=by simp [E.t,exP,E.Cm]
   have g3:Aa 3 (sS e F (vl (plT p)) (vl (E.pt h s es).t) y4)=.ok (.t (.tup [.str (hd h),.str s,.tup (es.map E.t)])) (sS e F (vl (plT p)) (vl (E.pt h s es).t) y4):=by rw [<- et];exact Ab rfl
   have c:=DN (fs:=sS e F (vl (plT p)) (vl (E.pt h s es).t) y4) (BH (i:=0) g3 rfl) (Aw (t:=.str "name"))
   rw [decide_eq_false (hd_ne h)] at c
   have b:sBody (sS e F (vl (plT p)) x3 x4)=.nx (sS e F (vl (plT p)) (vl (E.pt h s es).t) y4):=sq s3 (sq sf (C9 (andT_f c) rfl))
   obtain ⟨y2,y3,y4',g⟩:=DC ps F (vl (plT p)) (vl (E.pt h s es).t) y4 Bw Bw fy hps (by omega)
   refine ⟨y2,y3,y4',?_⟩
   have hn:HR e p=none:=by unfold HR;rw [hx]
   rw [List.map_cons,Dr e1 b,g,List.filterMap_cons,hn]
  | nm s =>
   have et:(E.nm s).t=.tup [.str "name",.str s]:=by simp [E.t,exN]
   have g3:Aa 3 (sS e F (vl (plT p)) (vl (E.nm s).t) y4)=.ok (.t (.tup [.str "name",.str s])) (sS e F (vl (plT p)) (vl (E.nm s).t) y4):=by rw [<- et];exact Ab rfl
   have c:=DN (fs:=sS e F (vl (plT p)) (vl (E.nm s).t) y4) (BH (i:=0) g3 rfl) (Aw (t:=.str "name"))
   rw [decide_eq_true rfl] at c
   have k1:=BH (i:=1) g3 rfl
   have c2:=C6 (bin2_rf (g:=gInU true) k1 (C0 (i:=1) (o:=.lst (F.map T.str)) rfl) (in_rfL (objO rfl)))
   rw [if_pos rfl] at c2
   have cc:=andT_ok c c2
   have hn:HR e p=some s:=by unfold HR;rw [hx]
   have b:sBody (sS e F (vl (plT p)) x3 x4)=.nx (sS e (if s∈F then F else F++[s]) (vl (plT p)) (vl (E.nm s).t) y4):=by
    refine sq s3 (sq sf ?_)
    by_cases hs:s∈F
    ·rw [if_pos hs]
     rw [decide_eq_true hs] at cc
     exact C9 cc rfl
    ·rw [if_neg hs]
     rw [decide_eq_false hs] at cc
     refine EK cc (app_ok (i:=1) (ts:=F.map T.str) (t:=.str s) rfl k1 (by show _ < 1000000;rw [List.length_map];omega) ?_)
     show [_,_,_,_,_]=[_,_,_,_,_]
     rw [List.map_append]
     rfl
   have hF:(if s∈F then F else F++[s]).length<=F.length+1:=by split <;> simp
   obtain ⟨y2,y3,y4',g⟩:=DC ps (if s∈F then F else F++[s]) (vl (plT p)) (vl (E.nm s).t) y4 Bw Bw fy hps (by omega)
   refine ⟨y2,y3,y4',?_⟩
   rw [List.map_cons,Dr e1 b,g,List.filterMap_cons,hn]
   rfl
theorem runF_own {n:Nat} {g:FS->SO} {args τ:FS} {i:Nat} {o:FO} (h:g (args++List.replicate n none)=.ret (.rf i) τ) (hi:τ[i]?=some (some (.own o))):D7 n g args=.ok (.nw o) ((τ.set i none).take args.length):=by
 unfold D7
 rw [h]
 simp only [hi]
theorem standing {e:E} (he:E.ok 3 e):BA [vl e.t]=.ok (.nw (.lst ((dd [] e.ns).map T.str))) [vl e.t]:=by
 have hf:=sp_few he
 have h40:nd 3=40:=rfl
 have s1:AX 1 (AJ Dp Al) [vl e.t,none,none,none,none]=.nx (sS e [] none none none):=rfl
 have sp:fz (Ak (Ay 1 (A9 60)) (Aj (fz (Aa 0)) Al)) (sS e [] none none none)=.ok (.t (.lst (e.sp.map plT))) (sS e [] none none none) :=
  CN (Ff (An (A4 (Ab (t:=e.t) rfl)) Az) rfl rfl (spots 60 3 e he (by omega) (by omega)))
 obtain ⟨l,hl⟩:∃ l,e.sp=[] :: l:=by cases e <;> exact ⟨_,by simp only [E.sp];rfl⟩
 have so:fz (Ak Fv (Ad (fz (Ak (Ay 1 (A9 60)) (Aj (fz (Aa 0)) Al))) Al)) (sS e [] none none none)=.ok (.t (.lst (e.sp.map plT))) (sS e [] none none none):=by
  refine fz_nw (o:=.lst (e.sp.map plT)) (El (AH sp Az) ?_)
  have h1:=tupIs_sp e.sp
  have h2:=ord_of e.sp (GF e)
  rw [hl] at h1 h2
  show (match HG (e.sp.map plT) with | some ([] :: ns)=>if So.ord ([] :: ns)=true/\(e.sp.map plT).length < 64 then Out.ok (Rv.nw (.lst (e.sp.map plT))) (sS e [] none none none) else .bad | _=>.bad)=_
  rw [hl,h1]
  show (if So.ord ((([]:List Nat) :: l).map inz)=true/\((([]:List Nat) :: l).map plT).length < 64 then _ else _)=_
  rw [if_pos ⟨h2,by rw [List.length_map,<- hl];omega⟩]
 obtain ⟨y2,y3,y4,lp⟩:=DC (e:=e) e.sp [] none none none AG AG AG (fun p m=>sp_at e p m) (by simp;omega)
 rw [sp_names] at lp
 have sf:Ds (itU (fz (Ak Fv (Ad (fz (Ak (Ay 1 (A9 60)) (Aj (fz (Aa 0)) Al))) Al)))) (tgN 2) sBody (sS e [] none none none)=.nx (sS e (dd [] e.ns) y2 y3 y4):=by
  unfold Ds
  rw [itU_lst so]
  exact lp
 exact runF_own (n:=4) (g:=Dg) (args:=[vl e.t]) (i:=1) (o:=.lst ((dd [] e.ns).map T.str)) (sq s1 (sq sf (Bg (C0 rfl)))) rfl
theorem stSl_n {fs:FS} {i:Nat} {o:FO} {x:Option Sl} (e:fs[i]?=some x) (h:Fre x):GC i (.nw o) fs=some (fs.set i (some (.own o))):=by
 unfold GC
 rw [e]
 cases x with
 | none=>rfl
 | some s=>cases s with
  | val t=>rfl
  | own o=>rfl
  | bor o=>exact h.elim
theorem orT_fs {f g:FS->Out Bool} {fs fs1:FS} {r:Out Bool} (h:f fs=.ok false fs1) (h2:g fs1=r):orT f g fs=r:=by
 unfold orT
 rw [h]
 exact h2
theorem put_st {fv fi:FS->Out Rv} {o:Nat} {fs fs1 fs':FS} {v:T} {k:Str} {ks:List Key} {ts:List T} (hv:fv fs=.ok (.t v) fs1) (h0:fs1[o]?=some (some (.own (.dK ks ts)))) (hi:fi fs1=.ok (.t (.str k)) fs1) (hn:(.inr k:Key)∉ks) (hl:ks.length < big)
  (e:fs1.set o (some (.own (.dK (ks++[.inr k]) (ts++[v]))))=fs'):CK fv (Aa o) fi fs=.nx fs':=by
 have h1:Aa o fs1=.ok (.rf o) fs1:=by unfold Aa;rw [h0]
 have h2:FL.AE fs1 o=some (.dK ks ts):=by unfold FL.AE;rw [h0]
 have h3:HE ks ts (.inr k:Key) v=(ks++[.inr k],ts++[v]):=by
  unfold HE
  rw [any_false hn]
  rfl
 have h4:FL.putAt fs1 o (.dK (ks++[.inr k]) (ts++[v]))=fs':=by
  unfold FL.putAt
  rw [h0]
  exact e
 have h5:gSetL (.rf o) (.t (.str k)) (.t v) fs1=.bad:=rfl
 have h6:gSetD (.rf o) (.t (.str k)) (.t v) fs1=.nx fs':=by
  simp only [gSetD,h2,tKey,hl,if_true,h3,h4]
 unfold CK
 rw [hv]
 simp only [Out.bnd,Out.bind]
 rw [h1]
 simp only
 rw [hi]
 simp only [SO.of]
 unfold gSetU
 rw [h5]
 exact h6
abbrev pBody:FS->SO:=(A2 (AX 6 (Ak (Ay 3 Bs) (Aj (fz (Aa 0)) (Aj (fz (Aa 5)) (Aj (gc (.int 7)) Al)))))
  (ifS (asB (Ae gGt (Ae Bo (fz (AL He (Aa 6) Al)) (gc (.int 3))) (gc (.int 0)))) (CK (fz (Ak (Ay 3 (Bc 60)) (Aj (fz (Aa 1)) (Aj (Aa 6) (Aj (Ae AA (gc (.int 1)) (Aa 2)) Al))))) (Aa 4) (Ae AF (Aa 1) (Ae Bo (Ae AA (Aa 5) (gc (.int 2))) (gc (.int 6))))) nxS))
abbrev lS (ns:List Int) (c fl:Int) (P:E) (x4 x5 x6 x7 x8 x9 x10 x11 x12:Option Sl):FS:=[vl (.scr (ns.map T.int)),vl (.lst ((nms c 6).map T.str)),iv fl,vl P.t,x4,x5,x6,x7,x8,x9,x10,x11,x12]
def Dok (c:Int) (D:List (Str×E)) (k:Nat):Prop:=(D.map (·.1)).Nodup/\∀ p∈D,E.ok 2 p.2/\∃ j,j < k/\p.1=nmS c ((j+2) % 6)
theorem hL6 {c:Int}:nms c 6≠[]:=fun z=>by have:=EC c 6;rw [z] at this;cases this
theorem nms_at {c:Int} {k:Nat} (hk:k < 6):((nms c 6).map T.str)[k]?=some (.str (nmS c k)):=by
 rw [List.getElem?_map]
 unfold nms
 rw [List.getElem?_map,List.getElem?_range hk]
 rfl
section
variable {ns:List Int} {c fl:Int} {P:E} {x7 x8 x9 x10 x11 x12:Option Sl}
theorem p_turn (hf:fl=0∨fl=1) {D:List (Str×E)} {k:Nat} (hk:k < 6) (hD:Dok c D k) (hl:D.length<=k) {x5 x6:Option Sl} (f5:Fre x5) (f6:Fre x6) :
  ∃ D' o6,Dok c D' (k+1)/\D'.length<=k+1/\∃ fs1,tgN 5 (.int (k:Int)) (lS ns c fl P (some (.own (.dK (kD D) (vD D)))) x5 x6 x7 x8 x9 x10 x11 x12)=some fs1/\pBody fs1=.nx (lS ns c fl P (some (.own (.dK (kD D') (vD D')))) (iv (k:Int)) (some (.own o6)) x7 x8 x9 x10 x11 x12):=by
 have e1:tgN 5 (.int (k:Int)) (lS ns c fl P (some (.own (.dK (kD D) (vD D)))) x5 x6 x7 x8 x9 x10 x11 x12)=some (lS ns c fl P (some (.own (.dK (kD D) (vD D)))) (iv (k:Int)) x6 x7 x8 x9 x10 x11 x12):=by unfold tgN;exact BW rfl f5
 obtain ⟨ds,hd,ed⟩:=dig_ok (ns:=ns) (fs:=lS ns c fl P (some (.own (.dK (kD D) (vD D)))) (iv (k:Int)) x6 x7 x8 x9 x10 x11 x12) (a:=(k:Int)) (b:=7) (Ab rfl) (A4 (Ab (i:=5) rfl)) (Aw (t:=.int 7)) (by omega) (by omega) (by omega) (by omega)
 obtain ⟨d1,z,rfl,hd1⟩:=last1 (xs:=ds) (by omega)
 have s6:=FQ (i:=6) (fs':=lS ns c fl P (some (.own (.dK (kD D) (vD D)))) (iv (k:Int)) (some (.own (.lst ((d1++[z]).map T.int)))) x7 x8 x9 x10 x11 x12) ed (stSl_n rfl f6)
 have pop:fz (AL He (Aa 6) Al) (lS ns c fl P (some (.own (.dK (kD D) (vD D)))) (iv (k:Int)) (some (.own (.lst ((d1++[z]).map T.int)))) x7 x8 x9 x10 x11 x12)=.ok (.t (.int z)) (lS ns c fl P (some (.own (.dK (kD D) (vD D)))) (iv (k:Int)) (some (.own (.lst (d1.map T.int)))) x7 x8 x9 x10 x11 x12):=by
  rw [List.map_append]
  exact popO_ok (ts:=d1.map T.int) (t:=.int z) rfl rfl
 have cg:asB (Ae gGt (Ae Bo (fz (AL He (Aa 6) Al)) (gc (.int 3))) (gc (.int 0))) (lS ns c fl P (some (.own (.dK (kD D) (vD D)))) (iv (k:Int)) (some (.own (.lst ((d1++[z]).map T.int)))) x7 x8 x9 x10 x11 x12)=.ok (decide (0 < z % 3)) (lS ns c fl P (some (.own (.dK (kD D) (vD D)))) (iv (k:Int)) (some (.own (.lst (d1.map T.int)))) x7 x8 x9 x10 x11 x12) :=
  C6 (DR (DR pop Aw (Bv (by omega))) Aw rfl)
 by_cases hz:0 < z % 3
 ·rw [decide_eq_true hz] at cg
  have hnd:nd (1+fl).toNat<=d1.length:=by
   have:d1.length=149:=by omega
   rw [this]
   rcases hf with rfl | rfl <;> decide
  obtain ⟨t,es,g1,_,g3⟩:=wild (L:=nms c 6) hL6 (by rw [EC];omega) 60 (1+fl).toNat (1+fl) d1 (by omega) rfl (by omega) hnd
  obtain ⟨e,rfl,he⟩:=g1.e
  have ew:fz (Ak (Ay 3 (Bc 60)) (Aj (fz (Aa 1)) (Aj (Aa 6) (Aj (Ae AA (gc (.int 1)) (Aa 2)) Al)))) (lS ns c fl P (some (.own (.dK (kD D) (vD D)))) (iv (k:Int)) (some (.own (.lst (d1.map T.int)))) x7 x8 x9 x10 x11 x12)=.ok (.t e.t) (lS ns c fl P (some (.own (.dK (kD D) (vD D)))) (iv (k:Int)) (some (.own (.lst (es.map T.int)))) x7 x8 x9 x10 x11 x12) :=
   CN (C2 (rs:=[.t (.lst ((nms c 6).map T.str)),.rf 6,.t (.int (1+fl))]) (An (A4 (Ab rfl)) (An (C0 rfl) (An (Ai Aw (Ab rfl) BN) Az))) rfl (by rw [show Ct _ _=[6] from rfl];simp) g3 rfl)
  have hm:((k:Int)+2) % 6=(((k+2) % 6:Nat):Int):=by omega
  have ki:Ae AF (Aa 1) (Ae Bo (Ae AA (Aa 5) (gc (.int 2))) (gc (.int 6))) (lS ns c fl P (some (.own (.dK (kD D) (vD D)))) (iv (k:Int)) (some (.own (.lst (es.map T.int)))) x7 x8 x9 x10 x11 x12)=.ok (.t (.str (nmS c ((k+2) % 6)))) (lS ns c fl P (some (.own (.dK (kD D) (vD D)))) (iv (k:Int)) (some (.own (.lst (es.map T.int)))) x7 x8 x9 x10 x11 x12):=by
   refine Ai (Ab (t:=.lst ((nms c 6).map T.str)) rfl) (Ai (Ai (Ab rfl) Aw BN) Aw (Bv (by omega))) ?_
   rw [hm]
   exact Ci rfl (BC (j:=(k+2) % 6) (nms_at (by omega)))
  have nk:nmS c ((k+2) % 6)∉D.map (·.1):=fun m=>by
   obtain ⟨p,mp,ep⟩:=List.mem_map.mp m
   obtain ⟨_,j,hj,ej⟩:=hD.2 p mp
   have:=nmS_inj (c:=c) (k:=(j+2) % 6) (k':=(k+2) % 6) (by omega) (by omega) (ej.symm.trans ep)
   omega
  have st:=put_st (o:=4) (fs':=lS ns c fl P (some (.own (.dK (kD (D++[(nmS c ((k+2) % 6),e)])) (vD (D++[(nmS c ((k+2) % 6),e)]))))) (iv (k:Int)) (some (.own (.lst (es.map T.int)))) x7 x8 x9 x10 x11 x12) ew rfl ki (fun m=>nk (by
   unfold kD at m
   obtain ⟨q,m1,m2⟩:=List.mem_map.mp m
   exact List.mem_map.mpr ⟨q,m1,Sum.inr.inj m2⟩)) (by show _ < 1000000;unfold kD;rw [List.length_map];omega) (by simp [kD,vD])
  refine ⟨D++[(nmS c ((k+2) % 6),e)],.lst (es.map T.int),⟨?_,fun p m=>?_⟩,by simp;omega,_,e1,sq s6 (ifS_tt cg st)⟩
  ·rw [List.map_append,List.nodup_append]
   refine ⟨hD.1,by simp,fun a ha b hb=>?_⟩
   simp at hb
   subst hb
   intro q
   subst q
   exact nk ha
  ·rcases List.mem_append.mp m with m | m
   ·obtain ⟨q1,j,hj,ej⟩:=hD.2 p m
    exact ⟨q1,j,by omega,ej⟩
   ·simp at m
    subst m
    exact ⟨ok_up he (by omega),k,by omega,rfl⟩
 ·rw [decide_eq_false hz] at cg
  exact ⟨D,.lst (d1.map T.int),⟨hD.1,fun p m=>by obtain ⟨q1,j,hj,ej⟩:=hD.2 p m;exact ⟨q1,j,by omega,ej⟩⟩,by omega,_,e1,sq s6 (ifS_st cg rfl)⟩
theorem p_loop (hf:fl=0∨fl=1):∀ (m k:Nat) (D:List (Str×E)) (x5 x6:Option Sl),k+m=6->Fre x5->Fre x6->Dok c D k->D.length<=k ->
  ∃ D' y5 y6,Dok c D' 6/\D'.length<=6/\Dt (tgN 5) pBody ((List.range' k m).map fun (i:Nat)=>T.int (0+(i:Int))) (lS ns c fl P (some (.own (.dK (kD D) (vD D)))) x5 x6 x7 x8 x9 x10 x11 x12)=.nx (lS ns c fl P (some (.own (.dK (kD D') (vD D')))) y5 y6 x7 x8 x9 x10 x11 x12)
 | 0,k,D,x5,x6,e,_,_,hD,hl=>by
  have:k=6:=by omega
  subst this
  exact ⟨D,x5,x6,hD,hl,by simp [Dt]⟩
 | m+1,k,D,x5,x6,e,f5,f6,hD,hl=>by
  obtain ⟨D',o6,h1,h2,fs1,h3,h4⟩:=p_turn (ns:=ns) (P:=P) (x7:=x7) (x8:=x8) (x9:=x9) (x10:=x10) (x11:=x11) (x12:=x12) hf (show k < 6 by omega) hD hl f5 f6
  obtain ⟨D2,y5,y6,g1,g2,g3⟩:=p_loop hf m (k+1) D' (iv (k:Int)) (some (.own o6)) (by omega) Bw True.intro h1 h2
  refine ⟨D2,y5,y6,g1,g2,?_⟩
  rw [List.range'_succ,List.map_cons,Int.zero_add,Dr h3 h4]
  exact g3
abbrev oBody:FS->SO:=CK (AJ BI (Ad (gc (.str ("name":Str))) (Ad (fz (Aa 12)) Al))) (Aa 11) (fz (Aa 12))
def oD (F:List Str):List (Str×E):=F.map fun s=>(s,.nm s)
theorem o_loop {x4 x5 x6:Option Sl}:∀ (R F:List Str) (x12:Option Sl),Fre x12->(F++R).Nodup->F.length+R.length<=1000->∃ y12,Dt (tgN 12) oBody (R.map T.str) (lS ns c fl P x4 x5 x6 x7 x8 x9 x10 (some (.own (.dK (kD (oD F)) (vD (oD F))))) x12)=.nx (lS ns c fl P x4 x5 x6 x7 x8 x9 x10 (some (.own (.dK (kD (oD (F++R))) (vD (oD (F++R)))))) y12)
 | [],F,x12,_,_,_=>⟨x12,by simp [Dt]⟩
 | s :: R,F,x12,f12,hn,hl=>by
  have hs:s∉F:=fun m=>by
   rw [List.nodup_append] at hn
   exact hn.2.2 s m s (by simp) rfl
  have hn2:((F++[s])++R).Nodup:=by rw [List.append_assoc];exact hn
  have e1:tgN 12 (.str s) (lS ns c fl P x4 x5 x6 x7 x8 x9 x10 (some (.own (.dK (kD (oD F)) (vD (oD F))))) x12)=some (lS ns c fl P x4 x5 x6 x7 x8 x9 x10 (some (.own (.dK (kD (oD F)) (vD (oD F))))) (vl (.str s))):=by unfold tgN;exact BW rfl f12
  have et:(E.nm s).t=.tup [.str "name",.str s]:=by simp [E.t,exN]
  have dv:AJ BI (Ad (gc (.str ("name":Str))) (Ad (fz (Aa 12)) Al)) (lS ns c fl P x4 x5 x6 x7 x8 x9 x10 (some (.own (.dK (kD (oD F)) (vD (oD F))))) (vl (.str s)))=.ok (.t (E.nm s).t) (lS ns c fl P x4 x5 x6 x7 x8 x9 x10 (some (.own (.dK (kD (oD F)) (vD (oD F))))) (vl (.str s))):=by
   rw [et]
   exact Ck (g:=BI) (ts:=[.str "name",.str s]) (AH Aw (AH (A4 (Ab (t:=.str s) rfl)) Az)) rfl (show 2<=big by decide) rfl
  have b:oBody (lS ns c fl P x4 x5 x6 x7 x8 x9 x10 (some (.own (.dK (kD (oD F)) (vD (oD F))))) (vl (.str s)))=.nx (lS ns c fl P x4 x5 x6 x7 x8 x9 x10 (some (.own (.dK (kD (oD (F++[s]))) (vD (oD (F++[s])))))) (vl (.str s))) :=
   put_st (o:=11) dv rfl (A4 (Ab (t:=.str s) rfl)) (fun m=>hs (by
    unfold kD oD at m
    rw [List.map_map] at m
    obtain ⟨q,m1,m2⟩:=List.mem_map.mp m
    cases m2
    exact m1)) (by show _ < 1000000;unfold kD oD;rw [List.length_map,List.length_map];omega) (by simp [kD,vD,oD])
  obtain ⟨y,g⟩:=o_loop (x4:=x4) (x5:=x5) (x6:=x6) R (F++[s]) (vl (.str s)) Bw hn2 (by simp at hl ⊢;omega)
  refine ⟨y,?_⟩
  rw [List.map_cons,Dr e1 b,g,List.append_assoc]
  rfl
end
theorem nms_nodup (c:Int):(nms c 6).Nodup:=by
 unfold nms List.Nodup
 rw [List.pairwise_map]
 refine List.Pairwise.imp_of_mem (R:=fun a b=>a < b) (fun {a b} ha hb h z=>?_) List.pairwise_lt_range
 rw [List.mem_range] at ha hb
 have:=nmS_inj (c:=c) (by omega) (by omega) z
 omega
theorem look_oD (F:List Str) (s:Str):look (oD F) s=none∨look (oD F) s=some (.nm s):=by
 cases h:look (oD F) s with
 | none=>exact .inl rfl
 | some x =>
  have m:=Eh h
  unfold oD at m
  obtain ⟨q,_,e⟩:=List.mem_map.mp m
  cases e
  exact .inr rfl
mutual
theorem fill_id {f:Str->Option E} (h:∀ s,f s=none∨f s=some (.nm s)):∀ e:E,e.fill f=e
 | .nm s=>by
  simp only [E.fill]
  rcases h s with q | q <;> rw [q] <;> rfl
 | .pt a s es=>by
  simp only [E.fill]
  rw [fills_id h es]
theorem fills_id {f:Str->Option E} (h:∀ s,f s=none∨f s=some (.nm s)):∀ es:List E,E.fills f es=es
 | []=>by simp [E.fills]
 | e :: es=>by
  simp only [E.fills]
  rw [fill_id h e,fills_id h es]
end
theorem EU:∀ xs:List Str,EV (eqT 60) (xs.map T.str) (xs.map T.str)=some true
 | []=>rfl
 | x :: xs=>by
  simp only [List.map_cons,EV,EW,EU xs]
  simp
theorem bits_all:∀ {ns:List Int} {z:Int},z∈ns->Builtin.Int.intBits z<=BO ns
 | n :: ns,z,h=>by
  simp only [BO]
  rcases List.mem_cons.mp h with rfl | h
  ·omega
  ·have:=bits_all h
   omega
theorem bits_get {ns:List Int} {N:Nat} (hb:BO ns<=N) (i:Nat):Builtin.Int.intBits (ns.getD i 0)<=N:=by
 by_cases h:i < ns.length
 ·have:ns.getD i 0∈ns:=by
   simp [List.getD,h]
  have:=bits_all this
  omega
 ·have:ns.getD i 0=0:=by simp [List.getD,List.getElem?_eq_none (by omega:ns.length<=i)]
  rw [this]
  exact Nat.le_trans (Nat.le_of_eq (by decide)) (Nat.zero_le N)
theorem dd_len:∀ (a acc:List Str),(dd acc a).length<=acc.length+a.length
 | [],acc=>by simp [dd]
 | s :: a,acc=>by
  have h1:=dd_len a (if s∈acc then acc else acc++[s])
  have h2:(if s∈acc then acc else acc++[s]).length<=acc.length+1:=by split <;> simp
  simp only [dd,List.length_cons]
  omega
mutual
theorem ns_len:∀ e:E,e.ns.length<=e.sz
 | .nm s=>by simp [E.ns,E.sz]
 | .pt h s es=>by
  have:=nss_len es
  simp only [E.ns,E.sz]
  omega
theorem nss_len:∀ es:List E,(E.nss es).length<=E.szs es
 | []=>by simp [E.nss]
 | e :: es=>by
  have h1:=ns_len e
  have h2:=nss_len es
  simp only [E.nss,E.szs,List.length_append]
  omega
end
theorem rfL_ne {fs:FS} {i:Nat} {xs:List Str} (h:fs[i]?=some (some (.own (.lst (xs.map T.str))))):Bf true (.rf i) (.t (.lst (xs.map T.str))) fs=.ok (.t (.bl false)) fs:=by
 have e1:gEqT true (.rf i) (.t (.lst (xs.map T.str))) fs=.ok (.t (.bl false)) fs:=by
  have hs:Cd fs (.rf i)=some (xs.map T.str):=seq_rf h
  have hb:eqB true (xs.map T.str) (xs.map T.str) fs=.ok (.t (.bl false)) fs:=by
   unfold eqB
   rw [EU]
   simp
   rfl
  unfold gEqT
  simp only [seqT,hs]
  exact hb
 unfold Bf orG
 show (match gEqT true (.rf i) (.t (.lst (xs.map T.str))) fs with | .bad=>_ | o=>o)=_
 rw [e1]
theorem dict_ne {D:List (Str×E)} (hn:(D.map (·.1)).Nodup) (ho:∀ p∈D,E.ok 2 p.2) {fs:FS}:Bf true (.t (dT D)) (.t (dfT D)) fs=.ok (.t (.bl false)) fs:=by
 have e1:gEqD true (.t (dT D)) (.t (dfT D)) fs=.ok (.t (.bl false)) fs:=by
  have h:=eqD_ok (D:=D) (d:=2) (by omega) D fun p m=>⟨ho p m,mem_look hn m⟩
  unfold gEqD dfT
  simp only [Gr,dT_eq,h]
  simp
  rfl
 unfold Bf orG
 show gEqD true (.t (dT D)) (.t (dfT D)) fs=_
 exact e1
theorem good:∀ ns:List Int,ns.length<=63->L2.BO ns<=2 ^ 20->∃ fs,f_law [some (.val (.scr (ns.map T.int)))]=.ok (.t (.bl true)) fs:=by
 intro ns hlen hb
 have en:=names (c:=ns.getD 0 0) (n:=6) (by omega) (bits_get hb 0)
 have ec0:=cell_at ns 0
 have ec2:=cell_at ns 2
 generalize ns.getD 0 0=c at en ec0
 generalize ns.getD 2 0=c2 at ec2
 have hf:c2 % 2=0∨c2 % 2=1:=by omega
 have cell:∀ {k:Nat} {v:Int} {fs:FS},AY [vl (.scr (ns.map T.int)),iv k]=.ok (.t (.int v)) [vl (.scr (ns.map T.int)),iv k]->Aa 0 fs=.ok (.t (.scr (ns.map T.int))) fs->fz (Ak (Ay 2 AY) (Aj (fz (Aa 0)) (Aj (gc (.int (k:Int))) Al))) fs=.ok (.t (.int v)) fs:=fun h g =>
  CN (Ff (An (A4 g) (An Aw Az)) rfl rfl h)
 have s1:AX 1 (fz (Ak (Ay 2 Cy) (Aj (fz (Ak (Ay 2 AY) (Aj (fz (Aa 0)) (Aj (gc (.int 0)) Al)))) (Aj (gc (.int 6)) Al)))) [vl (.scr (ns.map T.int)),none,none,none,none,none,none,none,none,none,none,none,none]=.nx [vl (.scr (ns.map T.int)),vl (.lst ((nms c 6).map T.str)),none,none,none,none,none,none,none,none,none,none,none] :=
  FN (fz_nw (Dy (An (cell ec0 (Ab rfl)) (An (Aw (t:=.int 6)) Az)) rfl (by rw [show Ct _ _=[] from rfl];exact List.nodup_nil) en (BK rfl))) rfl
 have s2:AX 2 (Ae Bo (fz (Ak (Ay 2 AY) (Aj (fz (Aa 0)) (Aj (gc (.int 2)) Al)))) (gc (.int 2))) [vl (.scr (ns.map T.int)),vl (.lst ((nms c 6).map T.str)),none,none,none,none,none,none,none,none,none,none,none]=.nx [vl (.scr (ns.map T.int)),vl (.lst ((nms c 6).map T.str)),iv (c2 % 2),none,none,none,none,none,none,none,none,none,none] :=
  Bj (Ai (cell ec2 (Ab rfl)) Aw (Bv (by omega))) rfl
 generalize c2 % 2=fl at hf s2
 have hl5:((nms c 6).take 5).length=5:=by rw [List.length_take,EC];rfl
 have t5:slF (Aa 1) noP (Cu (gc (.int 5))) [vl (.scr (ns.map T.int)),vl (.lst ((nms c 6).map T.str)),iv fl,none,none,none,none,none,none,none,none,none,none]=.ok (.t (.lst (((nms c 6).take 5).map T.str))) [vl (.scr (ns.map T.int)),vl (.lst ((nms c 6).map T.str)),iv fl,none,none,none,none,none,none,none,none,none,none]:=by
  rw [List.map_take]
  exact slf_take (Ab rfl) Aw (by omega) (by rw [List.length_map,EC];decide)
 obtain ⟨ds,hd,ed⟩:=dig_ok (ns:=ns) (fs:=[vl (.scr (ns.map T.int)),vl (.lst ((nms c 6).map T.str)),iv fl,none,none,none,none,none,none,none,none,none,none]) (Ab rfl) (Aw (t:=.int 1)) (Aw (t:=.int 3)) (by omega) (by omega) (by omega) (by omega)
 obtain ⟨P,hP,ew⟩:=wild_new (L:=(nms c 6).take 5) (fun z=>by rw [z] at hl5;cases hl5) (by omega) t5 ed (Ai (Aw (t:=.int 3)) (Ab (i:=2) (t:=.int fl) rfl) gSub_i) (d:=3) (by omega) (by omega) (by omega) (by rw [hd];rcases hf with rfl | rfl <;> decide)
 have s3:=Bj (i:=3) (fs':=lS ns c fl P none none none none none none none none none) ew rfl
 have s4:AX 4 Fe (lS ns c fl P none none none none none none none none none)=.nx (lS ns c fl P (some (.own (.dK [] []))) none none none none none none none none):=rfl
 obtain ⟨D,y5,y6,hD,hDl,lp⟩:=p_loop (ns:=ns) (c:=c) (fl:=fl) (P:=P) (x7:=none) (x8:=none) (x9:=none) (x10:=none) (x11:=none) (x12:=none) hf 6 0 [] none none rfl AG AG ⟨by simp,(fun _ m=>nomatch m)⟩ (by simp)
 have s5:Ds (itR1 (Ad (gc (.int 6)) Al)) (tgN 5) pBody (lS ns c fl P (some (.own (.dK [] []))) none none none none none none none none)=.nx (lS ns c fl P (some (.own (.dK (kD D) (vD D)))) y5 y6 none none none none none none):=by
  refine for1_ok (n:=6) (AR Aw Az) (by omega) ?_
  rw [FL.upTo,List.range_eq_range']
  exact lp
 have hDo:∀ p∈D,E.ok 2 p.2:=fun p m=>(hD.2 p m).1
 have hsz:P.sz<=800:=by
  have:=sz_ok hP
  have:(4:Nat) ^ (3+1)=256:=rfl
  omega
 have est:=standing hP
 have eni:=BQ P hsz
 have hlN:(dd [] P.ns).length < 1000000:=by
  have h1:=dd_len P.ns []
  have h2:=ns_len P
  simp at h1
  omega
 generalize dd [] P.ns=NS at est eni hlN
 have s7:AX 7 (fz (Ak (Ay 1 BA) (Aj (fz (Aa 3)) Al))) (lS ns c fl P (some (.own (.dK (kD D) (vD D)))) y5 y6 none none none none none none)=.nx (lS ns c fl P (some (.own (.dK (kD D) (vD D)))) y5 y6 (vl (.lst (NS.map T.str))) none none none none none) :=
  FN (fz_nw (Dy (An (A4 (Ab (t:=P.t) rfl)) Az) rfl (by rw [show Ct _ _=[] from rfl];exact List.nodup_nil) est (BK rfl))) rfl
 have s8:AX 8 (fz (Ak Hi (Ad (Aa 4) Al))) (lS ns c fl P (some (.own (.dK (kD D) (vD D)))) y5 y6 (vl (.lst (NS.map T.str))) none none none none none)=.nx (lS ns c fl P (some (.own (.dK (kD D) (vD D)))) y5 y6 (vl (.lst (NS.map T.str))) (vl (dT D)) none none none none):=rfl
 have s9:AX 9 (Ak (Ay 1 Bn) (Aj (fz (Aa 3)) Al)) (lS ns c fl P (some (.own (.dK (kD D) (vD D)))) y5 y6 (vl (.lst (NS.map T.str))) (vl (dT D)) none none none none)=.nx (lS ns c fl P (some (.own (.dK (kD D) (vD D)))) y5 y6 (vl (.lst (NS.map T.str))) (vl (dT D)) (some (.own (.lst (NS.map T.str)))) none none none) :=
  FQ (Dy (An (A4 (Ab (t:=P.t) rfl)) Az) rfl (by rw [show Ct _ _=[] from rfl];exact List.nodup_nil) eni (BK rfl)) rfl
 have s10:ifS (orT (EB (DB (isG "list" (Aa 9)))) (asB (Ae (Bf true) (Aa 9) (Aa 7)))) (retS (gc (.bl false))) nxS (lS ns c fl P (some (.own (.dK (kD D) (vD D)))) y5 y6 (vl (.lst (NS.map T.str))) (vl (dT D)) (some (.own (.lst (NS.map T.str)))) none none none)=.nx (lS ns c fl P (some (.own (.dK (kD D) (vD D)))) y5 y6 (vl (.lst (NS.map T.str))) (vl (dT D)) (some (.own (.lst (NS.map T.str)))) none none none):=by
  have c1:EB (DB (isG "list" (Aa 9))) (lS ns c fl P (some (.own (.dK (kD D) (vD D)))) y5 y6 (vl (.lst (NS.map T.str))) (vl (dT D)) (some (.own (.lst (NS.map T.str)))) none none none)=.ok false (lS ns c fl P (some (.own (.dK (kD D) (vD D)))) y5 y6 (vl (.lst (NS.map T.str))) (vl (dT D)) (some (.own (.lst (NS.map T.str)))) none none none):=by
   have:HK "list" "list"=true:=by decide
   have hg:isG "list" (Aa 9) (lS ns c fl P (some (.own (.dK (kD D) (vD D)))) y5 y6 (vl (.lst (NS.map T.str))) (vl (dT D)) (some (.own (.lst (NS.map T.str)))) none none none)=.ok (.t (.bl (HK "list" "list"))) (lS ns c fl P (some (.own (.dK (kD D) (vD D)))) y5 y6 (vl (.lst (NS.map T.str))) (vl (dT D)) (some (.own (.lst (NS.map T.str)))) none none none):=rfl
   rw [this] at hg
   exact Ga (FG hg)
  exact C9 (GP c1 (C6 (bin2_rf1 (C0 (i:=9) rfl) (Ab rfl) (rfL_ne rfl)))) rfl
 have s11:Bp (AL DA (Aa 9) (Ad (gc (.str ("z":Str))) Al)) (lS ns c fl P (some (.own (.dK (kD D) (vD D)))) y5 y6 (vl (.lst (NS.map T.str))) (vl (dT D)) (some (.own (.lst (NS.map T.str)))) none none none)=.nx (lS ns c fl P (some (.own (.dK (kD D) (vD D)))) y5 y6 (vl (.lst (NS.map T.str))) (vl (dT D)) (some (.own (.lst (NS.map T.str++[.str "z"])))) none none none) :=
  app_ok (i:=9) (ts:=NS.map T.str) rfl Aw (by show _ < 1000000;rw [List.length_map];exact hlN) rfl
 generalize hx9:(some (Sl.own (.lst (NS.map T.str++[.str ("z":Str)]))))=x9 at s11
 have hfo:E.ok 5 (P.fill (look D)):=fill_ok (c:=2) (fun s x e=>hDo (s,x) (Eh e)) hP
 have s12:AX 10 (fz (Ak (Ay 2 (AQ 60)) (Aj (fz (Aa 3)) (Aj (fz (Aa 8)) Al)))) (lS ns c fl P (some (.own (.dK (kD D) (vD D)))) y5 y6 (vl (.lst (NS.map T.str))) (vl (dT D)) x9 none none none)=.nx (lS ns c fl P (some (.own (.dK (kD D) (vD D)))) y5 y6 (vl (.lst (NS.map T.str))) (vl (dT D)) x9 (vl (P.fill (look D)).t) none none) :=
  Bj (CN (Ff (rs:=[.t P.t,.t (dT D)]) (An (A4 (Ab rfl)) (An (A4 (Ab rfl)) Az)) rfl rfl (filled D 60 3 P hP (by omega)))) rfl
 have elf:=lfilled D 60 3 P hP (by omega)
 generalize P.fill (look D)=M at hfo s12 elf
 have s13:ifS (orT (EB (DB (fz (Ak (Ay 1 (Be 60)) (Aj (fz (Aa 10)) Al))))) (orT (asB (Ae (Bf true) (Aa 10) (fz (Ak (Ay 2 (AN 60)) (Aj (fz (Aa 3)) (Aj (fzD (Aa 4)) Al)))))) (asB (Ae (Bf true) (Aa 8) (Aa 4))))) (retS (gc (.bl false))) nxS (lS ns c fl P (some (.own (.dK (kD D) (vD D)))) y5 y6 (vl (.lst (NS.map T.str))) (vl (dT D)) x9 (vl M.t) none none)=.nx (lS ns c fl P (vl (dfT D)) y5 y6 (vl (.lst (NS.map T.str))) (vl (dT D)) x9 (vl M.t) none none):=by
  have c1:EB (DB (fz (Ak (Ay 1 (Be 60)) (Aj (fz (Aa 10)) Al)))) (lS ns c fl P (some (.own (.dK (kD D) (vD D)))) y5 y6 (vl (.lst (NS.map T.str))) (vl (dT D)) x9 (vl M.t) none none)=.ok false (lS ns c fl P (some (.own (.dK (kD D) (vD D)))) y5 y6 (vl (.lst (NS.map T.str))) (vl (dT D)) x9 (vl M.t) none none) :=
   Ga (FG (CN (Ff (An (A4 (Ab (t:=M.t) rfl)) Az) rfl rfl (shape 60 5 M hfo (by omega)))))
  have ef:fz (Ak (Ay 2 (AN 60)) (Aj (fz (Aa 3)) (Aj (fzD (Aa 4)) Al))) (lS ns c fl P (some (.own (.dK (kD D) (vD D)))) y5 y6 (vl (.lst (NS.map T.str))) (vl (dT D)) x9 (vl M.t) none none)=.ok (.t M.t) (lS ns c fl P (vl (dfT D)) y5 y6 (vl (.lst (NS.map T.str))) (vl (dT D)) x9 (vl M.t) none none) :=
   CN (Ff (rs:=[.t P.t,.t (dfT D)]) (An (A4 (Ab rfl)) (An (fs1:=lS ns c fl P (vl (dfT D)) y5 y6 (vl (.lst (NS.map T.str))) (vl (dT D)) x9 (vl M.t) none none) rfl Az)) rfl rfl elf)
  obtain ⟨b,hbb,eb⟩:=gEqV_E (neg:=true) (e:=M) (e':=M) hfo (by omega)
  have bt:b=true:=hbb.mpr rfl
  subst bt
  have c2:asB (Ae (Bf true) (Aa 10) (fz (Ak (Ay 2 (AN 60)) (Aj (fz (Aa 3)) (Aj (fzD (Aa 4)) Al))))) (lS ns c fl P (some (.own (.dK (kD D) (vD D)))) y5 y6 (vl (.lst (NS.map T.str))) (vl (dT D)) x9 (vl M.t) none none)=.ok false (lS ns c fl P (vl (dfT D)) y5 y6 (vl (.lst (NS.map T.str))) (vl (dT D)) x9 (vl M.t) none none) :=
   C6 (DR (Ab rfl) ef (eb _))
  have c3:asB (Ae (Bf true) (Aa 8) (Aa 4)) (lS ns c fl P (vl (dfT D)) y5 y6 (vl (.lst (NS.map T.str))) (vl (dT D)) x9 (vl M.t) none none)=.ok false (lS ns c fl P (vl (dfT D)) y5 y6 (vl (.lst (NS.map T.str))) (vl (dT D)) x9 (vl M.t) none none) :=
   C6 (Ai (Ab rfl) (Ab rfl) (dict_ne hD.1 hDo))
  exact ifS_st (GP c1 (orT_fs c2 c3)) rfl
 have s14:AX 11 Fe (lS ns c fl P (vl (dfT D)) y5 y6 (vl (.lst (NS.map T.str))) (vl (dT D)) x9 (vl M.t) none none)=.nx (lS ns c fl P (vl (dfT D)) y5 y6 (vl (.lst (NS.map T.str))) (vl (dT D)) x9 (vl M.t) (some (.own (.dK [] []))) none):=rfl
 obtain ⟨y12,lo⟩:=o_loop (ns:=ns) (c:=c) (fl:=fl) (P:=P) (x4:=vl (dfT D)) (x5:=y5) (x6:=y6) (x7:=vl (.lst (NS.map T.str))) (x8:=vl (dT D)) (x9:=x9) (x10:=vl M.t) (nms c 6) [] none AG (by rw [List.nil_append];exact nms_nodup c) (by rw [EC];simp)
 rw [List.nil_append] at lo
 have s15:Ds (itU (fz (Aa 1))) (tgN 12) oBody (lS ns c fl P (vl (dfT D)) y5 y6 (vl (.lst (NS.map T.str))) (vl (dT D)) x9 (vl M.t) (some (.own (.dK [] []))) none)=.nx (lS ns c fl P (vl (dfT D)) y5 y6 (vl (.lst (NS.map T.str))) (vl (dT D)) x9 (vl M.t) (some (.own (.dK (kD (oD (nms c 6))) (vD (oD (nms c 6)))))) y12):=by
  have:itU (fz (Aa 1)) (lS ns c fl P (vl (dfT D)) y5 y6 (vl (.lst (NS.map T.str))) (vl (dT D)) x9 (vl M.t) (some (.own (.dK [] []))) none)=.ok ((nms c 6).map T.str) (lS ns c fl P (vl (dfT D)) y5 y6 (vl (.lst (NS.map T.str))) (vl (dT D)) x9 (vl M.t) (some (.own (.dK [] []))) none):=itU_lst (A4 (Ab rfl))
  unfold Ds
  rw [this]
  exact lo
 have f1:=filled [] 60 3 P hP (by omega)
 have f2:=filled (oD (nms c 6)) 60 3 P hP (by omega)
 rw [fill_id (fun s=>.inl (look_nil s))] at f1
 rw [fill_id (look_oD _)] at f2
 obtain ⟨b,hbb,eb⟩:=gEqV_E (neg:=true) (e:=P) (e':=P) hP (by omega)
 have bt:b=true:=hbb.mpr rfl
 subst bt
 have s16:ifS (orT (asB (Ae (Bf true) (fz (Ak (Ay 2 (AQ 60)) (Aj (fz (Aa 3)) (Aj (fz Fe) Al)))) (Aa 3))) (asB (Ae (Bf true) (fz (Ak (Ay 2 (AQ 60)) (Aj (fz (Aa 3)) (Aj (fz (Aa 11)) Al)))) (Aa 3)))) (retS (gc (.bl false))) nxS (lS ns c fl P (vl (dfT D)) y5 y6 (vl (.lst (NS.map T.str))) (vl (dT D)) x9 (vl M.t) (some (.own (.dK (kD (oD (nms c 6))) (vD (oD (nms c 6)))))) y12)=.nx (lS ns c fl P (vl (dfT D)) y5 y6 (vl (.lst (NS.map T.str))) (vl (dT D)) x9 (vl M.t) (vl (dT (oD (nms c 6)))) y12):=by
  have c1:asB (Ae (Bf true) (fz (Ak (Ay 2 (AQ 60)) (Aj (fz (Aa 3)) (Aj (fz Fe) Al)))) (Aa 3)) (lS ns c fl P (vl (dfT D)) y5 y6 (vl (.lst (NS.map T.str))) (vl (dT D)) x9 (vl M.t) (some (.own (.dK (kD (oD (nms c 6))) (vD (oD (nms c 6)))))) y12)=.ok false (lS ns c fl P (vl (dfT D)) y5 y6 (vl (.lst (NS.map T.str))) (vl (dT D)) x9 (vl M.t) (some (.own (.dK (kD (oD (nms c 6))) (vD (oD (nms c 6)))))) y12) :=
   C6 (Ai (CN (Ff (rs:=[.t P.t,.t (dT [])]) (An (A4 (Ab rfl)) (An rfl Az)) rfl rfl f1)) (Ab rfl) (eb _))
  have c2:asB (Ae (Bf true) (fz (Ak (Ay 2 (AQ 60)) (Aj (fz (Aa 3)) (Aj (fz (Aa 11)) Al)))) (Aa 3)) (lS ns c fl P (vl (dfT D)) y5 y6 (vl (.lst (NS.map T.str))) (vl (dT D)) x9 (vl M.t) (some (.own (.dK (kD (oD (nms c 6))) (vD (oD (nms c 6)))))) y12)=.ok false (lS ns c fl P (vl (dfT D)) y5 y6 (vl (.lst (NS.map T.str))) (vl (dT D)) x9 (vl M.t) (vl (dT (oD (nms c 6)))) y12) :=
   C6 (DR (CN (Ff (rs:=[.t P.t,.t (dT (oD (nms c 6)))]) (An (A4 (Ab rfl)) (An (fs1:=lS ns c fl P (vl (dfT D)) y5 y6 (vl (.lst (NS.map T.str))) (vl (dT D)) x9 (vl M.t) (vl (dT (oD (nms c 6)))) y12) rfl Az)) rfl rfl f2)) (Ab rfl) (eb _))
  exact ifS_st (GP c1 c2) rfl
 have s17:retS (Ae (Bf false) (fz (Ak (Ay 1 Bn) (Aj (fz (Aa 3)) Al))) (Aa 7)) (lS ns c fl P (vl (dfT D)) y5 y6 (vl (.lst (NS.map T.str))) (vl (dT D)) x9 (vl M.t) (vl (dT (oD (nms c 6)))) y12)=.ret (.t (.bl true)) (lS ns c fl P (vl (dfT D)) y5 y6 (vl (.lst (NS.map T.str))) (vl (dT D)) x9 (vl M.t) (vl (dT (oD (nms c 6)))) y12):=by
  refine Bg (Ai (fz_nw (Dy (An (A4 (Ab (t:=P.t) rfl)) Az) rfl (by rw [show Ct _ _=[] from rfl];exact List.nodup_nil) eni (BK rfl))) (Ab rfl) ((Gj (EU NS)).trans ?_))
  simp
 have all:b_law [vl (.scr (ns.map T.int)),none,none,none,none,none,none,none,none,none,none,none,none]=.ret (.t (.bl true)) (lS ns c fl P (vl (dfT D)) y5 y6 (vl (.lst (NS.map T.str))) (vl (dT D)) x9 (vl M.t) (vl (dT (oD (nms c 6)))) y12) :=
  sq s1 (sq s2 (sq s3 (sq s4 (sq s5 (sq s7 (sq s8 (sq s9 (sq s10 (sq s11 (sq s12 (sq s13 (sq s14 (sq s15 (sq s16 s17))))))))))))))
 exact ⟨_,CC (n:=12) (g:=b_law) (args:=[vl (.scr (ns.map T.int))]) all⟩
theorem us1 {α:Type} {us:List α} (e:us.length=1):∃ a,us=[a]:=by
 match us,e with
 | [a],_=>exact ⟨a,rfl⟩
theorem us2 {α:Type} {us:List α} (e:us.length=2):∃ a b,us=[a,b]:=by
 match us,e with
 | [a,b],_=>exact ⟨a,b,rfl⟩
theorem us3 {α:Type} {us:List α} (e:us.length=3):∃ a b c,us=[a,b,c]:=by
 match us,e with
 | [a,b,c],_=>exact ⟨a,b,c,rfl⟩
theorem us4 {α:Type} {us:List α} (e:us.length=4):∃ a b c d,us=[a,b,c,d]:=by
 match us,e with
 | [a,b,c,d],_=>exact ⟨a,b,c,d,rfl⟩
theorem us5 {α:Type} {us:List α} (e:us.length=5):∃ a b c d e,us=[a,b,c,d,e]:=by
 match us,e with
 | [a,b,c,d,e],_=>exact ⟨a,b,c,d,e,rfl⟩
def spLaw (K:PySem.W.Frag):Sp:=fun vs H Q _=>∃ (a:Addr) (ns:List Int),vs=[.ref a]/\SqL K H a (ns.map V.int)/\ns.length<=63/\BO ns<=2 ^ 20/\∀ H',Q (.bl true) H'
theorem rel_ints {K:PySem.W.Frag} {F:Wd} {H:Hp}:∀ (ns:List Int),Ac K F H (ns.map T.int) (ns.map V.int)
 | []=>by simp [Ac]
 | n :: ns=>by
  simp only [List.map_cons,Ac]
  exact ⟨_,_,rfl,by simp [AB],rel_ints ns⟩
theorem law_sp {K:PySem.W.Frag} {Fn:FS->Out Rv} (good:∀ ns:List Int,ns.length<=63->BO ns<=2 ^ 20->∃ fs,Fn [some (.val (.scr (ns.map T.int)))]=.ok (.t (.bl true)) fs):∀ vs H Q E,spLaw K vs H Q E->spF K 1 Fn vs H Q E:=by
 intro vs H Q E ⟨a,ns,e,hs,hl,hb,k⟩
 subst e
 obtain ⟨fs,eg⟩:=good ns hl hb
 have key:∀ F:Wd,StL K F H a (ns.map V.int)->(∀ b,F b->H b≠none)->(∀ b,¬ F.p b)->spF K 1 Fn [.ref a] H Q E:=fun F st fd np=>by
  refine ⟨rfl,F,[some (.val (.scr (ns.map T.int)))],⟨[],?_,List.nodup_nil,(fun _ m=>nomatch m),fd,?_,fun b p=>(np b p).elim,fun b _ p=>np b p,(fun _ m=>nomatch m)⟩,?_⟩
  ·show Ao K F H [some (.val (.scr (ns.map T.int)))] [some (.ref a)] []
   simp only [Ao]
   exact ⟨_,_,rfl,by simp only [AB];exact ⟨a,_,rfl,st,rel_ints ns⟩,by first | exact ⟨rfl,rfl⟩ | trivial⟩
  ·intro i o e
   cases i with
   | zero=>cases e
   | succ i=>simp at e
  ·rw [eg]
   intro F' H' u σ' _ q
   obtain ⟨L,L',_,⟨_,qu⟩,_⟩:=q
   have:u=.bl true:=qu
   subst this
   exact k H'
 rcases hs with hs | hs
 ·exact key ⟨fun b=>b=a,fun _=>False⟩ (.inl ⟨rfl,hs⟩) (fun b e=>by
   have e':b=a:=e
   subst e'
   rcases hs with z | ⟨o,z⟩ <;> (rw [z];exact fun q=>nomatch q)) fun _ p=>p
 ·exact key ⟨fun _=>False,fun _=>False⟩ (.inr hs) (fun b e=>e.elim) fun _ p=>p
theorem all_mk {l:PySem.W.OpenLaw} {w:World} {K:PySem.W.Frag} {h:Heap} {mg:Str->Option Value} {fa:Addr} (X:K.In h) (G:h.Ns mainGlobals mg) (hfa:mg "law"=some (.ref fa))
  {f0:Addr} {od0 an0:Option Addr} {sl0:Array (Option Value)} {oc0 kV0 dc0 pm0 cd0 ct0:Value}
  {f1:Addr} {od1 an1:Option Addr} {sl1:Array (Option Value)} {oc1 kV1 dc1 pm1 cd1 ct1:Value}
  {f2:Addr} {od2 an2:Option Addr} {sl2:Array (Option Value)} {oc2 kV2 dc2 pm2 cd2 ct2:Value}
  {f3:Addr} {od3 an3:Option Addr} {sl3:Array (Option Value)} {oc3 kV3 dc3 pm3 cd3 ct3:Value}
  {f4:Addr} {od4 an4:Option Addr} {sl4:Array (Option Value)} {oc4 kV4 dc4 pm4 cd4 ct4:Value}
  {f5:Addr} {od5 an5:Option Addr} {sl5:Array (Option Value)} {oc5 kV5 dc5 pm5 cd5 ct5:Value}
  {f6:Addr} {od6 an6:Option Addr} {sl6:Array (Option Value)} {oc6 kV6 dc6 pm6 cd6 ct6:Value}
  {f7:Addr} {od7 an7:Option Addr} {sl7:Array (Option Value)} {oc7 kV7 dc7 pm7 cd7 ct7:Value}
  {f8:Addr} {od8 an8:Option Addr} {sl8:Array (Option Value)} {oc8 kV8 dc8 pm8 cd8 ct8:Value}
  {f9:Addr} {od9 an9:Option Addr} {sl9:Array (Option Value)} {oc9 kV9 dc9 pm9 cd9 ct9:Value}
  {f10:Addr} {od10 an10:Option Addr} {sl10:Array (Option Value)} {oc10 kV10 dc10 pm10 cd10 ct10:Value}
  {f11:Addr} {od11 an11:Option Addr} {sl11:Array (Option Value)} {oc11 kV11 dc11 pm11 cd11 ct11:Value}
  (a0:PySem.W.nsIn K mainGlobals "_law_names"=some (some (.ref f0)))
  (l0:K.lookup f0=some ⟨oc0,od0,.func (PySem.W.fnOf "_law_names" "_law_names" (Bd CY) (A1 CY) (Aq CY) .none kV0 dc0 pm0 an0 cd0 ct0),sl0⟩) (c0:PySem.W.codeIn K cd0 "_law_names"=true) (k0:PySem.W.keepIn K (.ref f0)=true)
  (a1:PySem.W.nsIn K mainGlobals "_law_wild"=some (some (.ref f1)))
  (l1:K.lookup f1=some ⟨oc1,od1,.func (PySem.W.fnOf "_law_wild" "_law_wild" (Bd DE) (A1 DE) (Aq DE) .none kV1 dc1 pm1 an1 cd1 ct1),sl1⟩) (c1:PySem.W.codeIn K cd1 "_law_wild"=true) (k1:PySem.W.keepIn K (.ref f1)=true)
  (a2:PySem.W.nsIn K mainGlobals "_law_spots"=some (some (.ref f2)))
  (l2:K.lookup f2=some ⟨oc2,od2,.func (PySem.W.fnOf "_law_spots" "_law_spots" (Bd CV) (A1 CV) (Aq CV) .none kV2 dc2 pm2 an2 cd2 ct2),sl2⟩) (c2:PySem.W.codeIn K cd2 "_law_spots"=true) (k2:PySem.W.keepIn K (.ref f2)=true)
  (a3:PySem.W.nsIn K mainGlobals "_law_standing"=some (some (.ref f3)))
  (l3:K.lookup f3=some ⟨oc3,od3,.func (PySem.W.fnOf "_law_standing" "_law_standing" (Bd By) (A1 By) (Aq By) .none kV3 dc3 pm3 an3 cd3 ct3),sl3⟩) (c3:PySem.W.codeIn K cd3 "_law_standing"=true) (k3:PySem.W.keepIn K (.ref f3)=true)
  (a4:PySem.W.nsIn K mainGlobals "arguments_of"=some (some (.ref f4)))
  (l4:K.lookup f4=some ⟨oc4,od4,.func (PySem.W.fnOf "arguments_of" "arguments_of" (Bd A5) (A1 A5) (Aq A5) .none kV4 dc4 pm4 an4 cd4 ct4),sl4⟩) (c4:PySem.W.codeIn K cd4 "arguments_of"=true) (k4:PySem.W.keepIn K (.ref f4)=true)
  (a5:PySem.W.nsIn K mainGlobals "names_in"=some (some (.ref f5)))
  (l5:K.lookup f5=some ⟨oc5,od5,.func (PySem.W.fnOf "names_in" "names_in" (Bd BR) (A1 BR) (Aq BR) .none kV5 dc5 pm5 an5 cd5 ct5),sl5⟩) (c5:PySem.W.codeIn K cd5 "names_in"=true) (k5:PySem.W.keepIn K (.ref f5)=true)
  (a6:PySem.W.nsIn K mainGlobals "filled"=some (some (.ref f6)))
  (l6:K.lookup f6=some ⟨oc6,od6,.func (PySem.W.fnOf "filled" "filled" (Bd CU) (A1 CU) (Aq CU) .none kV6 dc6 pm6 an6 cd6 ct6),sl6⟩) (c6:PySem.W.codeIn K cd6 "filled"=true) (k6:PySem.W.keepIn K (.ref f6)=true)
  (a7:PySem.W.nsIn K mainGlobals "_law_cell_at"=some (some (.ref f7)))
  (l7:K.lookup f7=some ⟨oc7,od7,.func (PySem.W.fnOf "_law_cell_at" "_law_cell_at" (Bd BS) (A1 BS) (Aq BS) .none kV7 dc7 pm7 an7 cd7 ct7),sl7⟩) (c7:PySem.W.codeIn K cd7 "_law_cell_at"=true) (k7:PySem.W.keepIn K (.ref f7)=true)
  (a8:PySem.W.nsIn K mainGlobals "_law_digits"=some (some (.ref f8)))
  (l8:K.lookup f8=some ⟨oc8,od8,.func (PySem.W.fnOf "_law_digits" "_law_digits" (Bd Co) (A1 Co) (Aq Co) .none kV8 dc8 pm8 an8 cd8 ct8),sl8⟩) (c8:PySem.W.codeIn K cd8 "_law_digits"=true) (k8:PySem.W.keepIn K (.ref f8)=true)
  (a9:PySem.W.nsIn K mainGlobals "_law_shape"=some (some (.ref f9)))
  (l9:K.lookup f9=some ⟨oc9,od9,.func (PySem.W.fnOf "_law_shape" "_law_shape" (Bd CW) (A1 CW) (Aq CW) .none kV9 dc9 pm9 an9 cd9 ct9),sl9⟩) (c9:PySem.W.codeIn K cd9 "_law_shape"=true) (k9:PySem.W.keepIn K (.ref f9)=true)
  (a10:PySem.W.nsIn K mainGlobals "_law_filled"=some (some (.ref f10)))
  (l10:K.lookup f10=some ⟨oc10,od10,.func (PySem.W.fnOf "_law_filled" "_law_filled" (Bd Cn) (A1 Cn) (Aq Cn) .none kV10 dc10 pm10 an10 cd10 ct10),sl10⟩) (c10:PySem.W.codeIn K cd10 "_law_filled"=true) (k10:PySem.W.keepIn K (.ref f10)=true)
  (a11:PySem.W.nsIn K mainGlobals "law"=some (some (.ref f11)))
  (l11:K.lookup f11=some ⟨oc11,od11,.func (PySem.W.fnOf "law" "law" (Bd FR) (A1 FR) (Aq FR) .none kV11 dc11 pm11 an11 cd11 ct11),sl11⟩) (c11:PySem.W.codeIn K cd11 "law"=true) (k11:PySem.W.keepIn K (.ref f11)=true)
  (z_dict:PySem.W.nsIn K mainGlobals "dict"=some none)
  (z_isinstance:PySem.W.nsIn K mainGlobals "isinstance"=some none)
  (z_len:PySem.W.nsIn K mainGlobals "len"=some none)
  (z_list:PySem.W.nsIn K mainGlobals "list"=some none)
  (z_min:PySem.W.nsIn K mainGlobals "min"=some none)
  (z_range:PySem.W.nsIn K mainGlobals "range"=some none)
  (z_reversed:PySem.W.nsIn K mainGlobals "reversed"=some none)
  (z_sorted:PySem.W.nsIn K mainGlobals "sorted"=some none)
  (z_str:PySem.W.nsIn K mainGlobals "str"=some none)
  (z_sum:PySem.W.nsIn K mainGlobals "sum"=some none)
  (z_tuple:PySem.W.nsIn K mainGlobals "tuple"=some none) :
  ∃ fd:FuncData,(∀ (s:Shared) (v:Value),BindsTo s fd ⟨[v],[]⟩ [("_law_script",v)])/\∀ base:Heap,K.In base->base.Ns mainGlobals mg->Dh l.prog w K mg base CX0 63 fa fd ["_law_script"] (spLaw K):=by
 have e:=hfa.symm.trans (PySem.W.mg_of X G a11)
 cases e
 have T:Tx K mg:=⟨PySem.W.mg_none_of X G z_dict,PySem.W.mg_none_of X G z_isinstance,PySem.W.mg_none_of X G z_len,PySem.W.mg_none_of X G z_list,PySem.W.mg_none_of X G z_min,PySem.W.mg_none_of X G z_range,PySem.W.mg_none_of X G z_reversed,PySem.W.mg_none_of X G z_sorted,PySem.W.mg_none_of X G z_str,PySem.W.mg_none_of X G z_sum,PySem.W.mg_none_of X G z_tuple⟩
 have F0:=CF (st:=CY) l0 c0 k0
 have B0:=F0.binds (ps:=["_law_cell","_law_count"]) fun _ _ _ _ _ _ us hl=>by obtain ⟨a,b,rfl⟩:=us2 hl;rfl
 have F1:=CF (st:=DE) l1 c1 k1
 have B1:=F1.binds (ps:=["_law_names_here","_law_purse","_law_down"]) fun _ _ _ _ _ _ us hl=>by obtain ⟨a,b,c,rfl⟩:=us3 hl;rfl
 have F2:=CF (st:=CV) l2 c2 k2
 have B2:=F2.binds (ps:=["_law_expression"]) fun _ _ _ _ _ _ us hl=>by obtain ⟨a,rfl⟩:=us1 hl;rfl
 have F3:=CF (st:=By) l3 c3 k3
 have B3:=F3.binds (ps:=["_law_expression"]) fun _ _ _ _ _ _ us hl=>by obtain ⟨a,rfl⟩:=us1 hl;rfl
 have F4:=CF (st:=A5) l4 c4 k4
 have B4:=F4.binds (ps:=["expression"]) fun _ _ _ _ _ _ us hl=>by obtain ⟨a,rfl⟩:=us1 hl;rfl
 have F5:=CF (st:=BR) l5 c5 k5
 have B5:=F5.binds (ps:=["expression"]) fun _ _ _ _ _ _ us hl=>by obtain ⟨a,rfl⟩:=us1 hl;rfl
 have F6:=CF (st:=CU) l6 c6 k6
 have B6:=F6.binds (ps:=["expression","put_ins"]) fun _ _ _ _ _ _ us hl=>by obtain ⟨a,b,rfl⟩:=us2 hl;rfl
 have F7:=CF (st:=BS) l7 c7 k7
 have B7:=F7.binds (ps:=["_law_script","_law_k"]) fun _ _ _ _ _ _ us hl=>by obtain ⟨a,b,rfl⟩:=us2 hl;rfl
 have F8:=CF (st:=Co) l8 c8 k8
 have B8:=F8.binds (ps:=["_law_script","_law_at","_law_parts"]) fun _ _ _ _ _ _ us hl=>by obtain ⟨a,b,c,rfl⟩:=us3 hl;rfl
 have F9:=CF (st:=CW) l9 c9 k9
 have B9:=F9.binds (ps:=["_law_got"]) fun _ _ _ _ _ _ us hl=>by obtain ⟨a,rfl⟩:=us1 hl;rfl
 have F10:=CF (st:=Cn) l10 c10 k10
 have B10:=F10.binds (ps:=["_law_expression","_law_puts"]) fun _ _ _ _ _ _ us hl=>by obtain ⟨a,b,rfl⟩:=us2 hl;rfl
 have F11:=CF (st:=FR) l11 c11 k11
 have B11:=F11.binds (ps:=["_law_script"]) fun _ _ _ _ _ _ us hl=>by obtain ⟨a,rfl⟩:=us1 hl;rfl
 refine ⟨PySem.W.fnOf "law" "law" (Bd FR) (A1 FR) (Aq FR) .none kV11 dc11 pm11 an11 cd11 ct11,fun s v=>.of_eq rfl,fun base _ _=>?_⟩
 have O0:=ok_Lnames (P:=l.prog) (w:=w) (base:=base) F0 T
 have G0:FnAt l.prog w K mg base CX0 "_law_names" 1 ["_law_cell","_law_count"] (spF K 2 Cy):=⟨_,_,O0,PySem.W.mg_of X G a0,k0,B0⟩
 have O1:=ok_Lwild (P:=l.prog) (w:=w) (base:=base) F1 T  (fun k sp o=>⟨_,_,o,PySem.W.mg_of X G a1,k1,B1⟩) 60
 have G1:FnAt l.prog w K mg base CX0 "_law_wild" 61 ["_law_names_here","_law_purse","_law_down"] (spF K 3 (Bc 60)):=⟨_,_,O1,PySem.W.mg_of X G a1,k1,B1⟩
 have O2:=GW (P:=l.prog) (w:=w) (base:=base) F2 T  (fun k sp o=>⟨_,_,o,PySem.W.mg_of X G a2,k2,B2⟩) 60
 have G2:FnAt l.prog w K mg base CX0 "_law_spots" 61 ["_law_expression"] (spF K 1 (A9 60)):=⟨_,_,O2,PySem.W.mg_of X G a2,k2,B2⟩
 have O3:=GV (P:=l.prog) (w:=w) (base:=base) F3 T G2
 have G3:FnAt l.prog w K mg base CX0 "_law_standing" 62 ["_law_expression"] (spF K 1 BA):=⟨_,_,O3,PySem.W.mg_of X G a3,k3,B3⟩
 have O4:=EA (P:=l.prog) (w:=w) (base:=base) F4 T
 have G4:FnAt l.prog w K mg base CX0 "arguments_of" 1 ["expression"] (spF K 1 AK):=⟨_,_,O4,PySem.W.mg_of X G a4,k4,B4⟩
 have O5:=HM (P:=l.prog) (w:=w) (base:=base) F5 T G4
 have G5:FnAt l.prog w K mg base CX0 "names_in" 2 ["expression"] (spF K 1 Bn):=⟨_,_,O5,PySem.W.mg_of X G a5,k5,B5⟩
 have O6:=GU (P:=l.prog) (w:=w) (base:=base) F6 T  (fun k sp o=>⟨_,_,o,PySem.W.mg_of X G a6,k6,B6⟩) 60
 have G6:FnAt l.prog w K mg base CX0 "filled" 61 ["expression","put_ins"] (spF K 2 (AQ 60)):=⟨_,_,O6,PySem.W.mg_of X G a6,k6,B6⟩
 have O7:=HN (P:=l.prog) (w:=w) (base:=base) F7 T
 have G7:FnAt l.prog w K mg base CX0 "_law_cell_at" 1 ["_law_script","_law_k"] (spF K 2 AY):=⟨_,_,O7,PySem.W.mg_of X G a7,k7,B7⟩
 have O8:=ok_Ldigits (P:=l.prog) (w:=w) (base:=base) F8 T
 have G8:FnAt l.prog w K mg base CX0 "_law_digits" 1 ["_law_script","_law_at","_law_parts"] (spF K 3 Bs):=⟨_,_,O8,PySem.W.mg_of X G a8,k8,B8⟩
 have O9:=GX (P:=l.prog) (w:=w) (base:=base) F9 T  (fun k sp o=>⟨_,_,o,PySem.W.mg_of X G a9,k9,B9⟩) 60
 have G9:FnAt l.prog w K mg base CX0 "_law_shape" 61 ["_law_got"] (spF K 1 (Be 60)):=⟨_,_,O9,PySem.W.mg_of X G a9,k9,B9⟩
 have O10:=Fp (P:=l.prog) (w:=w) (base:=base) F10 T  (fun k sp o=>⟨_,_,o,PySem.W.mg_of X G a10,k10,B10⟩) 60
 have G10:FnAt l.prog w K mg base CX0 "_law_filled" 61 ["_law_expression","_law_puts"] (spF K 2 (AN 60)):=⟨_,_,O10,PySem.W.mg_of X G a10,k10,B10⟩
 have O11:=ok_law (P:=l.prog) (w:=w) (base:=base) F11 T G5 G6 G10 G9 G3 G1 G8 G7 G0
 exact O11.imp (law_sp (good))
theorem walk {l:PySem.W.OpenLaw} {q:Program} {loose:List Str} {XP:(Str->Option Value)->Heap->Prop} {YP:World->Heap->Prop} {d:DefRec} {K:Params->PySem.W.Frag} (hn:l.most=some 63) (hdf:d.params.defaults=[]) (hY:∀ (w:World) (h:Heap),YP w h->(K w.params).In h)
  (F:∀ (w:World) (mg:Str->Option Value) (fa:Addr) (h:Heap),(K w.params).In h->h.Ns mainGlobals mg->mg d.name=some (.ref fa) ->
   ∃ fd:FuncData,(∀ (s:Shared) (u:Value),BindsTo s fd ⟨[u],[]⟩ [("_law_script",u)])/\∀ base:Heap,(K w.params).In base->base.Ns mainGlobals mg->Dh l.prog w (K w.params) mg base CX0 63 fa fd ["_law_script"] (spLaw (K w.params))) :
  PySem.W.WalkO q loose XP YP l.row.toRowW d [] (fun f vs=>PySem.call f vs) :=
 L2.walk_bits (n:=63) (k:=63) (x:="_law_script") (CX:=CX0) (sp:=spLaw) hn (by decide) hdf ⟨rfl,by decide,by decide⟩ hY F (fun _ _ a ns hl hb _ hS=>⟨a,ns,rfl,hS,hl,hb,fun _=>rfl⟩) fun _ _ _ _ z=>z
end Sy
open PySem PySem.W PyProof.Rows
set_option maxRecDepth 100000 in
set_option maxHeartbeats 0 in
theorem PySem.Challenge.cw_stairsay_k32_put_ins_holds : PySem.Challenge.rw_stairsay_k32_put_ins.Holds := by
 w_on;o_law;k_head;(case hw=>w_witness2)
 k_fill
 refine Sy.walk (l:=PySem.Challenge.rw_stairsay_k32_put_ins) rfl rfl (fun w h Y=>PySem.W.kIn_of Y) ?F
 case F =>
  intro w mg fa h KX G hmg
  refine' Sy.all_mk KX G hmg ?a0 ?l0 ?c0 ?k0 ?a1 ?l1 ?c1 ?k1 ?a2 ?l2 ?c2 ?k2 ?a3 ?l3 ?c3 ?k3 ?a4 ?l4 ?c4 ?k4 ?a5 ?l5 ?c5 ?k5 ?a6 ?l6 ?c6 ?k6 ?a7 ?l7 ?c7 ?k7 ?a8 ?l8 ?c8 ?k8 ?a9 ?l9 ?c9 ?k9 ?a10 ?l10 ?c10 ?k10 ?a11 ?l11 ?c11 ?k11 ?z_dict ?z_isinstance ?z_len ?z_list ?z_min ?z_range ?z_reversed ?z_sorted ?z_str ?z_sum ?z_tuple
  (case a0=>k_is)
  (case l0=>k_is)
  (case c0=>k_is)
  (case k0=>k_is)
  (case a1=>k_is)
  (case l1=>k_is)
  (case c1=>k_is)
  (case k1=>k_is)
  (case a2=>k_is)
  (case l2=>k_is)
  (case c2=>k_is)
  (case k2=>k_is)
  (case a3=>k_is)
  (case l3=>k_is)
  (case c3=>k_is)
  (case k3=>k_is)
  (case a4=>k_is)
  (case l4=>k_is)
  (case c4=>k_is)
  (case k4=>k_is)
  (case a5=>k_is)
  (case l5=>k_is)
  (case c5=>k_is)
  (case k5=>k_is)
  (case a6=>k_is)
  (case l6=>k_is)
  (case c6=>k_is)
  (case k6=>k_is)
  (case a7=>k_is)
  (case l7=>k_is)
  (case c7=>k_is)
  (case k7=>k_is)
  (case a8=>k_is)
  (case l8=>k_is)
  (case c8=>k_is)
  (case k8=>k_is)
  (case a9=>k_is)
  (case l9=>k_is)
  (case c9=>k_is)
  (case k9=>k_is)
  (case a10=>k_is)
  (case l10=>k_is)
  (case c10=>k_is)
  (case k10=>k_is)
  (case a11=>k_is)
  (case l11=>k_is)
  (case c11=>k_is)
  (case k11=>k_is)
  (case z_dict=>k_is)
  (case z_isinstance=>k_is)
  (case z_len=>k_is)
  (case z_list=>k_is)
  (case z_min=>k_is)
  (case z_range=>k_is)
  (case z_reversed=>k_is)
  (case z_sorted=>k_is)
  (case z_str=>k_is)
  (case z_sum=>k_is)
  (case z_tuple=>k_is)
